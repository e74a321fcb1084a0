/-
  Readings and writings that are one another's turn: bytes, numbers, texts, things of a message, lists.
  Conditions: none beyond each one's own.
-/
import Derived.Test.YtccjclalngabhaaGreatWiU
import Derived.Test.YtccjclalngabhaaGreatWf
namespace Go.Proofs.YtccjclalngabhaaGreat
set_option linter.unusedVariables false
set_option linter.unusedSimpArgs false
abbrev Rr (l : List UInt8) (e : Int) : ReaderT := ReaderT.mk (Ll.mk l) e
structure Cod {α : Type} (rd : ReaderT → α × ReaderT) (wr : α → List UInt8) (P : α → Prop) : Prop where
  f : ∀ x t, P x → rd (Rr (wr x ++ t) 0) = (x, Rr t 0)
  g : ∀ r, (rd r).2.xerrno = 0 → r.xerrno = 0 ∧ r.xrest.ls = wr (rd r).1 ++ (rd r).2.xrest.ls
theorem fail0 {r : ReaderT} {e : Int} (he : ¬ e = 0) : ¬ (reader_Reader_Fail r e).xerrno = 0 := by
  unfold reader_Reader_Fail
  by_cases h : r.xerrno = 0
  · rw [if_pos h]; exact he
  · rw [if_neg h]; exact h
theorem fO (b : UInt8) (t : List UInt8) : reader_Reader_Octet (Rr ([b] ++ t) 0) = (b, Rr t 0) := by
  unfold reader_Reader_Octet
  show (if (((b :: t).length : Nat) : Int) = 0 then _ else _) = _
  rw [if_neg (by simp only [List.length_cons]; omega)]
  rfl
theorem gO {r : ReaderT} (h : (reader_Reader_Octet r).2.xerrno = 0) : r.xerrno = 0 ∧ r.xrest.ls = [(reader_Reader_Octet r).1] ++ (reader_Reader_Octet r).2.xrest.ls := by
  unfold reader_Reader_Octet at h ⊢
  by_cases e : ((List.length r.xrest.ls : Nat) : Int) = 0
  · rw [if_pos e] at h
    exact absurd h (fail0 (by decide))
  · rw [if_neg e] at h ⊢
    refine ⟨h, ?_⟩
    show r.xrest.ls = [List.getD r.xrest.ls 0 default] ++ List.drop 1 r.xrest.ls
    cases q : r.xrest.ls with
    | nil => rw [q] at e; exact absurd rfl e
    | cons a b => rfl
theorem fN {m : Nat} (hm : m ≤ 18446744073709551615) (n : Nat) (t : List UInt8) (h : n ≤ m) : reader_Reader_Num (Rr (octet_Num n ++ t) 0) m = (n, Rr t 0) := by
  unfold reader_Reader_Num
  show bnd (octet_ReadNum (octet_Num n ++ t)) _ = _
  rw [rn_f n t (by omega), bnd_eq]
  show (if (0 : Int) = 0 then if ((n : Nat) : Int) > ((m : Nat) : Int) then _ else _ else _) = _
  rw [if_pos rfl, if_neg (by omega)]
  show (n, ReaderT.mk (Ll.mk (List.drop (Int.toNat ((List.length (octet_Num n) : Nat) : Int)) (octet_Num n ++ t))) 0) = _
  rw [Int.toNat_natCast, List.drop_left]
theorem gN {m : Nat} {r : ReaderT} (h : (reader_Reader_Num r m).2.xerrno = 0) : r.xerrno = 0 ∧ r.xrest.ls = octet_Num (reader_Reader_Num r m).1 ++ (reader_Reader_Num r m).2.xrest.ls ∧ (reader_Reader_Num r m).1 ≤ m := by
  simp only [reader_Reader_Num, bnd_eq] at h ⊢
  by_cases e : (octet_ReadNum r.xrest.ls).2.2 = 0
  · rw [if_pos e] at h ⊢
    by_cases c : (((octet_ReadNum r.xrest.ls).1 : Nat) : Int) > ((m : Nat) : Int)
    · rw [if_pos c] at h
      exact absurd h (fail0 (by decide))
    · rw [if_neg c] at h ⊢
      exact ⟨h, (rn_b e).1, by omega⟩
  · rw [if_neg e] at h
    exact absurd h (fail0 e)
theorem rn_kk {l : List UInt8} (h : (octet_ReadNum l).2.2 = 0) : 0 ≤ (octet_ReadNum l).2.1 := by
  obtain ⟨e, hb⟩ := rn_b h
  have hl := (num_len _ hb).1
  rw [← num_eq] at hl
  by_cases c : 0 ≤ (octet_ReadNum l).2.1
  · exact c
  · exfalso
    have z : Int.toNat (octet_ReadNum l).2.1 = 0 := by omega
    rw [z, List.drop_zero] at e
    have := congrArg List.length e
    rw [List.length_append] at this
    omega
theorem text_app (s t : List UInt8) : octet_Text s ++ t = octet_Num (List.length s) ++ (s ++ t) := by unfold octet_Text; rw [bnd_eq, List.append_assoc]
theorem text_len (s : List UInt8) : List.length (octet_Text s) = List.length (octet_Num (List.length s)) + List.length s := by unfold octet_Text; rw [bnd_eq, List.length_append]
theorem w255 : Int.toNat (IntKind.u64.wrap 255) = 255 := by decide
theorem rt_f (s t : List UInt8) (hs : List.length s ≤ 255) : octet_ReadText (octet_Text s ++ t) 255 = (s, ((List.length (octet_Text s) : Nat) : Int), 0) := by
  have el := text_len s
  unfold octet_ReadText
  rw [text_app, rn_f _ _ (by omega), bnd_eq]
  show (if (0 : Int) = 0 then if (255 : Int) < 0 then _ else if ((List.length s : Nat) : Int) > ((Int.toNat (IntKind.u64.wrap 255) : Nat) : Int) then _ else if ((List.length s : Nat) : Int) > ((Int.toNat (((List.length (octet_Num (List.length s) ++ (s ++ t)) : Nat) : Int) - ((List.length (octet_Num (List.length s)) : Nat) : Int)) : Nat) : Int) then _ else _ else _) = _
  have hlen : List.length (octet_Num (List.length s) ++ (s ++ t)) = List.length (octet_Num (List.length s)) + (List.length s + List.length t) := by rw [List.length_append, List.length_append]
  rw [if_pos rfl, if_neg (by decide), if_neg (by rw [w255]; omega), if_neg (by rw [hlen]; omega)]
  show (List.take (Int.toNat (((List.length (octet_Num (List.length s)) : Nat) : Int) + ((List.length s : Nat) : Int)) - Int.toNat ((List.length (octet_Num (List.length s)) : Nat) : Int)) (List.drop (Int.toNat ((List.length (octet_Num (List.length s)) : Nat) : Int)) (octet_Num (List.length s) ++ (s ++ t))), ((List.length (octet_Num (List.length s)) : Nat) : Int) + ((List.length s : Nat) : Int), (0 : Int)) = _
  rw [show Int.toNat (((List.length (octet_Num (List.length s)) : Nat) : Int) + ((List.length s : Nat) : Int)) - Int.toNat ((List.length (octet_Num (List.length s)) : Nat) : Int) = List.length s by omega, Int.toNat_natCast, List.drop_left, List.take_left, el]
  rfl
theorem rt_b {l : List UInt8} (h : (octet_ReadText l 255).2.2 = 0) : l = octet_Text (octet_ReadText l 255).1 ++ List.drop (Int.toNat (octet_ReadText l 255).2.1) l := by
  simp only [octet_ReadText, bnd_eq] at h ⊢
  by_cases e : (octet_ReadNum l).2.2 = 0
  · obtain ⟨e1, hb⟩ := rn_b e
    have hk := rn_kk e
    rw [if_pos e, if_neg (by decide)] at h ⊢
    generalize hn : (octet_ReadNum l).1 = n at *
    generalize hk' : (octet_ReadNum l).2.1 = k at *
    by_cases c1 : ((n : Nat) : Int) > ((Int.toNat (IntKind.u64.wrap 255) : Nat) : Int)
    · rw [if_pos c1] at h; exact absurd h (by decide)
    · rw [if_neg c1] at h ⊢
      by_cases c2 : ((n : Nat) : Int) > ((Int.toNat (((List.length l : Nat) : Int) - k) : Nat) : Int)
      · rw [if_pos c2] at h; exact absurd h (by decide)
      · rw [if_neg c2]
        show l = octet_Text (List.take (Int.toNat (k + ((n : Nat) : Int)) - Int.toNat k) (List.drop (Int.toNat k) l)) ++ List.drop (Int.toNat (k + ((n : Nat) : Int))) l
        have ed : List.length l = List.length (octet_Num n) + List.length (List.drop (Int.toNat k) l) := by
          have := congrArg List.length e1
          rwa [List.length_append] at this
        rw [List.length_drop] at ed
        rw [text_app, show Int.toNat (k + ((n : Nat) : Int)) - Int.toNat k = n by omega, show Int.toNat (k + ((n : Nat) : Int)) = Int.toNat k + n by omega, ← List.drop_drop, List.take_append_drop, List.length_take, List.length_drop, Nat.min_eq_left (by omega)]
        exact e1
  · rw [if_neg e] at h
    exact absurd h e
theorem fT (s t : List UInt8) (hs : List.length s ≤ 255) : reader_Reader_Text (Rr (octet_Text s ++ t) 0) 255 = (s, Rr t 0) := by
  unfold reader_Reader_Text
  show bnd (octet_ReadText (octet_Text s ++ t) 255) _ = _
  rw [rt_f s t hs, bnd_eq]
  show (if (0 : Int) = 2 then _ else if (0 : Int) = 0 then _ else _) = _
  rw [if_neg (by decide), if_pos rfl]
  show (s, ReaderT.mk (Ll.mk (List.drop (Int.toNat ((List.length (octet_Text s) : Nat) : Int)) (octet_Text s ++ t))) 0) = _
  rw [Int.toNat_natCast, List.drop_left]
theorem gT {r : ReaderT} (h : (reader_Reader_Text r 255).2.xerrno = 0) : r.xerrno = 0 ∧ r.xrest.ls = octet_Text (reader_Reader_Text r 255).1 ++ (reader_Reader_Text r 255).2.xrest.ls := by
  simp only [reader_Reader_Text, bnd_eq] at h ⊢
  by_cases e2 : (octet_ReadText r.xrest.ls 255).2.2 = 2
  · rw [if_pos e2] at h
    exact absurd h (fail0 (by decide))
  · rw [if_neg e2] at h ⊢
    by_cases e : (octet_ReadText r.xrest.ls 255).2.2 = 0
    · rw [if_pos e] at h ⊢
      exact ⟨h, rt_b e⟩
    · rw [if_neg e] at h
      exact absurd h (fail0 e)
theorem gtr {r : ReaderT} (h : (wire_readTruth r).2.xerrno = 0) : r.xerrno = 0 ∧ r.xrest.ls = [wire_truth (wire_readTruth r).1] ++ (wire_readTruth r).2.xrest.ls := by
  simp only [wire_readTruth, bnd_eq] at h ⊢
  by_cases e : (((reader_Reader_Octet r).1.toNat : Nat) : Int) > 1
  · rw [if_pos e] at h
    exact absurd h (fail0 (by decide))
  · rw [if_neg e] at h ⊢
    obtain ⟨a, b⟩ := gO h
    refine ⟨a, ?_⟩
    have ht : wire_truth (decide ((((reader_Reader_Octet r).1.toNat : Nat) : Int) = 1)) = (reader_Reader_Octet r).1 := by
      generalize (reader_Reader_Octet r).1 = y at e
      unfold wire_truth
      by_cases c : ((y.toNat : Nat) : Int) = 1
      · rw [if_pos (decide_eq_true c)]
        exact UInt8.toNat_inj.1 (by show 1 = y.toNat; omega)
      · rw [if_neg (by simp only [c, decide_false]; decide)]
        exact UInt8.toNat_inj.1 (by show 0 = y.toNat; omega)
    show r.xrest.ls = [wire_truth (decide ((((reader_Reader_Octet r).1.toNat : Nat) : Int) = 1))] ++ (reader_Reader_Octet r).2.xrest.ls
    rw [ht]
    exact b
theorem ftr (b : Bool) (t : List UInt8) : wire_readTruth (Rr ([wire_truth b] ++ t) 0) = (b, Rr t 0) := by
  unfold wire_readTruth
  rw [fO, bnd_eq]
  cases b <;> rfl
theorem u8a {x : Int} (h0 : 0 ≤ x) (h1 : x ≤ 255) : (((u8I x).toNat : Nat) : Int) = x := by rw [← u8I_wrap]; exact IntWalk.u8_in _ (by omega)
theorem u8b (b : UInt8) : u8I ((b.toNat : Nat) : Int) = b := by
  have h := UInt8.toNat_lt b
  have e := u8a (x := ((b.toNat : Nat) : Int)) (by omega) (by omega)
  exact UInt8.toNat_inj.1 (by omega)
def opB (o : OpD) : List UInt8 := [u8I o.xKind] ++ (octet_Text o.xKey ++ (octet_Text o.xValue ++ (octet_Text o.xLo ++ (octet_Text o.xHi ++ [u8I o.xMost]))))
def opP (o : OpD) : Prop := (0 ≤ o.xKind ∧ o.xKind ≤ 255) ∧ List.length o.xKey ≤ 255 ∧ List.length o.xValue ≤ 255 ∧ List.length o.xLo ≤ 255 ∧ List.length o.xHi ≤ 255 ∧ (0 ≤ o.xMost ∧ o.xMost ≤ 255)
theorem cOp : Cod wire_readOp opB opP := by
  refine ⟨fun o t h => ?_, fun r h => ?_⟩
  · obtain ⟨⟨h1, h2⟩, h3, h4, h5, h6, h7, h8⟩ := h
    unfold wire_readOp opB
    simp only [bnd_eq, List.append_assoc]
    rw [fO]; dsimp only
    rw [fT _ _ h3]; dsimp only
    rw [fT _ _ h4]; dsimp only
    rw [fT _ _ h5]; dsimp only
    rw [fT _ _ h6]; dsimp only
    rw [fO]; dsimp only
    rw [u8a h1 h2, u8a h7 h8]
  · unfold wire_readOp at h ⊢
    simp only [bnd_eq] at h ⊢
    obtain ⟨a6, b6⟩ := gO h
    obtain ⟨a5, b5⟩ := gT a6
    obtain ⟨a4, b4⟩ := gT a5
    obtain ⟨a3, b3⟩ := gT a4
    obtain ⟨a2, b2⟩ := gT a3
    obtain ⟨a1, b1⟩ := gO a2
    refine ⟨a1, ?_⟩
    rw [b1, b2, b3, b4, b5, b6]
    unfold opB
    simp only [u8b, List.append_assoc]
def paB (q : PairD) : List UInt8 := octet_Text q.xKey ++ octet_Text q.xValue
def paP (q : PairD) : Prop := List.length q.xKey ≤ 255 ∧ List.length q.xValue ≤ 255
theorem cPa : Cod wire_readPair paB paP := by
  refine ⟨fun o t h => ?_, fun r h => ?_⟩
  · obtain ⟨h1, h2⟩ := h
    unfold wire_readPair paB
    simp only [bnd_eq, List.append_assoc]
    rw [fT _ _ h1]; dsimp only
    rw [fT _ _ h2]
  · unfold wire_readPair at h ⊢
    simp only [bnd_eq] at h ⊢
    obtain ⟨a2, b2⟩ := gT h
    obtain ⟨a1, b1⟩ := gT a2
    refine ⟨a1, ?_⟩
    rw [b1, b2]
    unfold paB
    simp only [List.append_assoc]
def owB (o : OwnerD) : List UInt8 := octet_Text o.xLo ++ [u8I o.xShard]
def owP (o : OwnerD) : Prop := List.length o.xLo ≤ 255 ∧ (0 ≤ o.xShard ∧ o.xShard ≤ 255)
theorem cOw : Cod wire_readOwner owB owP := by
  refine ⟨fun o t h => ?_, fun r h => ?_⟩
  · obtain ⟨h1, h2, h3⟩ := h
    unfold wire_readOwner owB
    simp only [bnd_eq, List.append_assoc]
    rw [fT _ _ h1]; dsimp only
    rw [fO]; dsimp only
    rw [u8a h2 h3]
  · unfold wire_readOwner at h ⊢
    simp only [bnd_eq] at h ⊢
    obtain ⟨a2, b2⟩ := gO h
    obtain ⟨a1, b1⟩ := gT a2
    refine ⟨a1, ?_⟩
    rw [b1, b2]
    unfold owB
    simp only [u8b, List.append_assoc]
def tG {α : Type} (rd : ReaderT → α × ReaderT) (p1 : Int) : Nat → List α → Nat → List UInt8 → Int → List α × List UInt8 × Int
  | 0, l, k, b, e => default
  | n + 1, l, k, b, e => if ((k : Nat) : Int) < p1 then if e = 0 then bnd (rd (ReaderT.mk (Ll.mk b) e)) fun y => tG rd p1 n (l ++ [y.1]) (k + 1) y.2.xrest.ls y.2.xerrno else (l, b, e) else (l, b, e)
section
variable {α : Type} {rd : ReaderT → α × ReaderT} {wr : α → List UInt8} {P : α → Prop}
theorem tG_f (c : Cod rd wr P) {p1 : Int} : ∀ (xs : List α) (n : Nat) (acc : List α) (k : Nat) (t : List UInt8), (∀ x ∈ xs, P x) → ((k : Nat) : Int) + ((List.length xs : Nat) : Int) = p1 → List.length xs < n →
    tG rd p1 n acc k (List.flatMap wr xs ++ t) 0 = (acc ++ xs, t, 0)
  | _, 0, _, _, _, _, _, h => absurd h (by omega)
  | [], n + 1, acc, k, t, hP, hk, hn => by
    unfold tG
    simp only [List.length_nil] at hk
    rw [if_neg (by omega), List.append_nil]
    rfl
  | x :: q, n + 1, acc, k, t, hP, hk, hn => by
    simp only [List.length_cons] at hk hn
    unfold tG
    rw [if_pos (by omega), if_pos rfl, List.flatMap_cons, List.append_assoc, c.f x _ (hP x (.head _)), bnd_eq]
    dsimp only
    rw [tG_f c q n _ _ t (fun y hy => hP y (.tail _ hy)) (by omega) (by omega), List.append_assoc]
    rfl
theorem tG_g (c : Cod rd wr P) {p1 : Int} : ∀ (n : Nat) (acc : List α) (k : Nat) (b : List UInt8) (e : Int), Int.toNat (p1 - ((k : Nat) : Int)) < n → (tG rd p1 n acc k b e).2.2 = 0 →
    e = 0 ∧ ∃ xs, (tG rd p1 n acc k b e).1 = acc ++ xs ∧ b = List.flatMap wr xs ++ (tG rd p1 n acc k b e).2.1 ∧ (((k : Nat) : Int) ≤ p1 → ((k : Nat) : Int) + ((List.length xs : Nat) : Int) = p1)
  | 0, _, _, _, _, h, _ => absurd h (by omega)
  | n + 1, acc, k, b, e, hn, h => by
    unfold tG at h ⊢
    by_cases hk : ((k : Nat) : Int) < p1
    · rw [if_pos hk] at h ⊢
      by_cases he : e = 0
      · rw [if_pos he, bnd_eq] at h ⊢
        obtain ⟨h1, xs, h2, h3, h4⟩ := tG_g c n _ _ _ _ (by omega) h
        obtain ⟨g1, g2⟩ := c.g _ h1
        refine ⟨he, (rd (ReaderT.mk (Ll.mk b) e)).1 :: xs, ?_, ?_, fun _ => ?_⟩
        · rw [h2, List.append_assoc]; rfl
        · rw [List.flatMap_cons, List.append_assoc, ← h3]; exact g2
        · have := h4 (by omega)
          simp only [List.length_cons]; omega
      · rw [if_neg he] at h
        exact absurd h he
    · rw [if_neg hk] at h ⊢
      exact ⟨h, [], (List.append_nil _).symm, rfl, fun _ => by simp only [List.length_nil]; omega⟩
theorem cL (c : Cod rd wr P) {lst : ReaderT → List α × ReaderT}
    (hl : ∀ r, lst r = bnd (reader_Reader_Num r 255) fun y => bnd (tG rd ((y.1 : Nat) : Int) ((Int.toNat ((y.1 : Nat) : Int) - 0) + 1) [] 0 y.2.xrest.ls y.2.xerrno) fun s => (s.1, ReaderT.mk (Ll.mk s.2.1) s.2.2)) :
    Cod lst (fun q => octet_Num (List.length q) ++ List.flatMap wr q) (fun q => List.length q ≤ 255 ∧ ∀ x ∈ q, P x) := by
  refine ⟨fun q t h => ?_, fun r h => ?_⟩
  · obtain ⟨h1, h2⟩ := h
    rw [hl, List.append_assoc, fN (by decide) _ _ h1, bnd_eq]
    dsimp only
    rw [tG_f c q _ _ 0 t h2 (by omega) (by omega), bnd_eq]
    rfl
  · rw [hl] at h ⊢
    simp only [bnd_eq] at h ⊢
    obtain ⟨h1, xs, h2, h3, h4⟩ := tG_g c _ _ _ _ _ (by omega) h
    obtain ⟨g1, g2, g3⟩ := gN h1
    refine ⟨g1, ?_⟩
    have h5 := h4 (by omega)
    have h2' : (tG rd ((((reader_Reader_Num r 255).1 : Nat)) : Int) ((Int.toNat ((((reader_Reader_Num r 255).1 : Nat)) : Int) - 0) + 1) [] 0 (reader_Reader_Num r 255).2.xrest.ls (reader_Reader_Num r 255).2.xerrno).1 = xs := h2
    show r.xrest.ls = (octet_Num (List.length _) ++ List.flatMap wr _) ++ _
    rw [h2', show List.length xs = (reader_Reader_Num r 255).1 by omega, List.append_assoc, ← h3]
    exact g2
end
theorem tPa (p1 : Int) : ∀ (n : Nat) (l : List PairD) (k : Nat) (b : List UInt8) (e : Int), reader_Times_api_Pair_L0 p1 n l k b e = tG wire_readPair p1 n l k b e
  | 0, _, _, _, _ => rfl
  | n + 1, l, k, b, e => by unfold reader_Times_api_Pair_L0 tG; simp only [tPa p1 n]
theorem tOp (p1 : Int) : ∀ (n : Nat) (l : List OpD) (k : Nat) (b : List UInt8) (e : Int), reader_Times_api_Op_L0 p1 n l k b e = tG wire_readOp p1 n l k b e
  | 0, _, _, _, _ => rfl
  | n + 1, l, k, b, e => by unfold reader_Times_api_Op_L0 tG; simp only [tOp p1 n]
theorem tOw (p1 : Int) : ∀ (n : Nat) (l : List OwnerD) (k : Nat) (b : List UInt8) (e : Int), reader_Times_api_Owner_L0 p1 n l k b e = tG wire_readOwner p1 n l k b e
  | 0, _, _, _, _ => rfl
  | n + 1, l, k, b, e => by unfold reader_Times_api_Owner_L0 tG; simp only [tOw p1 n]
theorem tRe (p1 : Int) : ∀ (n : Nat) (l : List ResultT) (k : Nat) (b : List UInt8) (e : Int), reader_Times_api_Result_L0 p1 n l k b e = tG wire_readResult p1 n l k b e
  | 0, _, _, _, _ => rfl
  | n + 1, l, k, b, e => by unfold reader_Times_api_Result_L0 tG; simp only [tRe p1 n]
theorem cPas : Cod (fun r => reader_List_api_Pair r 255) (fun q => octet_Num (List.length q) ++ List.flatMap paB q) (fun q => List.length q ≤ 255 ∧ ∀ x ∈ q, paP x) := cL cPa fun r => by unfold reader_List_api_Pair reader_Times_api_Pair; simp only [tPa]; rfl
theorem cOps : Cod (fun r => reader_List_api_Op r 255) (fun q => octet_Num (List.length q) ++ List.flatMap opB q) (fun q => List.length q ≤ 255 ∧ ∀ x ∈ q, opP x) := cL cOp fun r => by unfold reader_List_api_Op reader_Times_api_Op; simp only [tOp]; rfl
theorem cOws : Cod (fun r => reader_List_api_Owner r 255) (fun q => octet_Num (List.length q) ++ List.flatMap owB q) (fun q => List.length q ≤ 255 ∧ ∀ x ∈ q, owP x) := cL cOw fun r => by unfold reader_List_api_Owner reader_Times_api_Owner; simp only [tOw]; rfl
def reB (x : ResultT) : List UInt8 := [wire_truth x.xFound] ++ (octet_Text x.xValue ++ (octet_Num (List.length x.xPairs.ls) ++ List.flatMap paB x.xPairs.ls))
def reP (x : ResultT) : Prop := List.length x.xValue ≤ 255 ∧ (List.length x.xPairs.ls ≤ 255 ∧ ∀ q ∈ x.xPairs.ls, paP q)
theorem cRe : Cod wire_readResult reB reP := by
  refine ⟨fun o t h => ?_, fun r h => ?_⟩
  · obtain ⟨h1, h2⟩ := h
    unfold wire_readResult reB
    simp only [bnd_eq, List.append_assoc]
    rw [ftr]; dsimp only
    rw [fT _ _ h1]; dsimp only
    have := cPas.f o.xPairs.ls t h2
    simp only [List.append_assoc] at this
    rw [this]
  · unfold wire_readResult at h ⊢
    simp only [bnd_eq] at h ⊢
    obtain ⟨a3, b3⟩ := cPas.g _ h
    obtain ⟨a2, b2⟩ := gT a3
    obtain ⟨a1, b1⟩ := gtr a2
    refine ⟨a1, ?_⟩
    rw [b1, b2, b3]
    unfold reB
    simp only [List.append_assoc]
theorem cRes : Cod (fun r => reader_List_api_Result r 255) (fun q => octet_Num (List.length q) ++ List.flatMap reB q) (fun q => List.length q ≤ 255 ∧ ∀ x ∈ q, reP x) := cL cRe fun r => by unfold reader_List_api_Result reader_Times_api_Result; simp only [tRe]; rfl
theorem w_ops_L : ∀ (q : List OpD) (l : List UInt8), wire_list_api_Op_L0 q l = l ++ List.flatMap opB q
  | [], l => (List.append_nil l).symm
  | x :: q, l => by
    simp only [wire_list_api_Op_L0, bnd_eq, wire_writeOp, wire_texts, wire_texts_L0, w_ops_L q, List.flatMap_cons, opB, List.append_assoc]
theorem w_ops (q : List OpD) (l : List UInt8) : wire_list_api_Op l q = l ++ (octet_Num (List.length q) ++ List.flatMap opB q) := by
  simp only [wire_list_api_Op, bnd_eq, w_ops_L, List.append_assoc]
theorem w_ows_L : ∀ (q : List OwnerD) (l : List UInt8), wire_list_api_Owner_L0 q l = l ++ List.flatMap owB q
  | [], l => (List.append_nil l).symm
  | x :: q, l => by
    simp only [wire_list_api_Owner_L0, bnd_eq, wire_writeOwner, wire_texts, wire_texts_L0, w_ows_L q, List.flatMap_cons, owB, List.append_assoc]
theorem w_ows (q : List OwnerD) (l : List UInt8) : wire_list_api_Owner l q = l ++ (octet_Num (List.length q) ++ List.flatMap owB q) := by
  simp only [wire_list_api_Owner, bnd_eq, w_ows_L, List.append_assoc]
theorem w_pas_L : ∀ (q : List PairD) (l : List UInt8), wire_list_api_Pair_L0 q l = l ++ List.flatMap paB q
  | [], l => (List.append_nil l).symm
  | x :: q, l => by
    simp only [wire_list_api_Pair_L0, bnd_eq, wire_writePair, wire_texts, wire_texts_L0, w_pas_L q, List.flatMap_cons, paB, List.append_assoc]
theorem w_res_L : ∀ (q : List ResultT) (l : List UInt8), wire_list_api_Result_L0 q l = l ++ List.flatMap reB q
  | [], l => (List.append_nil l).symm
  | x :: q, l => by
    simp only [wire_list_api_Result_L0, bnd_eq, wire_writeResult, wire_texts, wire_texts_L0, wire_list_api_Pair, w_pas_L, w_res_L q, List.flatMap_cons, reB, List.append_assoc]
theorem w_res (q : List ResultT) (l : List UInt8) : wire_list_api_Result l q = l ++ (octet_Num (List.length q) ++ List.flatMap reB q) := by
  simp only [wire_list_api_Result, bnd_eq, w_res_L, List.append_assoc]
end Go.Proofs.YtccjclalngabhaaGreat
