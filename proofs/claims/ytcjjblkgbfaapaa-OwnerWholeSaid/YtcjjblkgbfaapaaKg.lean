/-
  Things owned that are made of things; lists of them.
  Conditions: none beyond each law's own.
-/
import Derived.Test.YtcjjblkgbfaapaaKf
namespace Go.Proofs.Ytcjjblkgbfaapaa
set_option linter.unusedVariables false
set_option linter.unusedSimpArgs false
open Go.RowKit
section
variable {w0 w : World} {D : Nat → Prop} {L L1 L2 : List HP} {R : HP} {h : Nat → Option Obj}
theorem Sep.mono {h' : Nat → Option Obj} (H : Sep L h) (hs : ∀ k o, h k = some o → h' k = some o) : Sep L h' :=
  let ⟨f, f1, f2, f3⟩ := H
  ⟨f, f1, fun i k o hk => hs k o (f2 i k o hk), f3⟩
open Classical in
theorem Sep.uncons (H : Sep (R :: L) h) : ∃ h1 h2 : Nat → Option Obj, R h1 ∧ Sep L h2 ∧ (∀ k o, h1 k = some o → h k = some o) ∧ (∀ k o, h2 k = some o → h k = some o) ∧ ∀ k, h1 k = none ∨ h2 k = none := by
  obtain ⟨f, f1, f2, f3⟩ := H
  refine ⟨f 0, fun k => if ∃ i, f (i + 1) k ≠ none then h k else none, f1 0 R rfl, ⟨fun i => f (i + 1), fun i S hi => f1 (i + 1) S (by simpa using hi), fun i k o hk => ?_, fun i j k hne => f3 _ _ k (by omega)⟩, f2 0, fun k o hk => ?_, fun k => ?_⟩
  · show (if ∃ i, f (i + 1) k ≠ none then h k else none) = some o
    have hk' : f (i + 1) k = some o := hk
    rw [if_pos ⟨i, by rw [hk']; exact Option.some_ne_none _⟩]
    exact f2 _ k o hk'
  · by_cases e : ∃ i, f (i + 1) k ≠ none
    · simp only [e, if_true] at hk; exact hk
    · simp only [e, if_false] at hk; cases hk
  · by_cases e : ∃ i, f (i + 1) k ≠ none
    · obtain ⟨i, hi⟩ := e
      rcases f3 0 (i + 1) k (by omega) with e | e
      · exact .inl e
      · exact absurd e hi
    · exact .inr (by simp only [e, if_false])
theorem Sep.cons {h1 h2 : Nat → Option Obj} (hR : R h1) (H : Sep L h2) (s1 : ∀ k o, h1 k = some o → h k = some o) (s2 : ∀ k o, h2 k = some o → h k = some o) (hd : ∀ k, h1 k = none ∨ h2 k = none) : Sep (R :: L) h := by
  obtain ⟨f, f1, f2, f3⟩ := H
  have key : ∀ i k, h1 k = none ∨ f i k = none := fun i k => by
    rcases hd k with e | e
    · exact .inl e
    · right
      cases hi : f i k with
      | none => rfl
      | some o => rw [f2 i k o hi] at e; cases e
  refine ⟨fun i => match i with | 0 => h1 | i + 1 => f i, fun i S hi => ?_, fun i k o hk => ?_, fun i j k hne => ?_⟩
  · cases i with
    | zero => simp only [List.getElem?_cons_zero, Option.some.injEq] at hi; subst hi; exact hR
    | succ i => simp only [List.getElem?_cons_succ] at hi; exact f1 i S hi
  · cases i with
    | zero => exact s1 k o hk
    | succ i => exact s2 k o (f2 i k o hk)
  · cases i with
    | zero =>
      cases j with
      | zero => exact absurd rfl hne
      | succ j => exact key j k
    | succ i =>
      cases j with
      | zero => exact (key i k).symm
      | succ j => exact f3 i j k (by omega)
theorem Sep.perm (hp : L1.Perm L2) : ∀ {h}, Sep L1 h → Sep L2 h := by
  induction hp with
  | nil =>
    intro h H
    exact H
  | cons R _ ih =>
    intro h H
    obtain ⟨h1, h2, a, b, c, d, e⟩ := H.uncons
    exact Sep.cons a (ih b) c d e
  | swap R S L =>
      intro h H
      obtain ⟨h1, h2, a, b, c, d, e⟩ := H.uncons
      obtain ⟨h3, h4, a', b', c', d', e'⟩ := b.uncons
      obtain ⟨hr, hq⟩ : ∃ q : Nat → Option Obj, q = fun k => match h1 k with | some o => some o | none => h4 k := ⟨_, rfl⟩
      have q1 : ∀ k o, h1 k = some o → hr k = some o := fun k o hk => by rw [hq]; simp only [hk]
      have q2 : ∀ k o, h4 k = some o → hr k = some o := fun k o hk => by
        rw [hq]
        rcases e k with e1 | e1
        · simp only [e1]; exact hk
        · rw [d' k o hk] at e1; cases e1
      have q3 : ∀ k o, hr k = some o → h1 k = some o ∨ h4 k = some o := fun k o hk => by
        rw [hq] at hk
        cases hh : h1 k with
        | some o' => simp only [hh] at hk; exact .inl hk
        | none => simp only [hh] at hk; exact .inr hk
      refine Sep.cons a' (Sep.cons a b' q1 q2 fun k => ?_) (fun k o hk => d k o (c' k o hk)) (fun k o hk => ?_) fun k => ?_
      · rcases e k with e1 | e1
        · exact .inl e1
        · right
          cases hh : h4 k with
          | none => rfl
          | some o => rw [d' k o hh] at e1; cases e1
      · rcases q3 k o hk with hk | hk
        · exact c k o hk
        · exact d k o (d' k o hk)
      · cases hh : h3 k with
        | none => exact .inl rfl
        | some o =>
          right
          cases hh' : hr k with
          | none => rfl
          | some o' =>
            rcases q3 k o' hh' with hk | hk
            · rcases e k with e1 | e1
              · rw [hk] at e1; cases e1
              · rw [c' k o hh] at e1; cases e1
            · rcases e' k with e1 | e1
              · rw [hh] at e1; cases e1
              · rw [hk] at e1; cases e1
  | trans _ _ ih1 ih2 =>
    intro h H
    exact ih2 (ih1 H)
theorem Sep.nil (h : Nat → Option Obj) : Sep [] h := ⟨fun _ _ => none, fun i S hi => (by simp at hi), fun _ _ _ hk => (by cases hk), fun _ _ _ _ => .inl rfl⟩
open Classical in
theorem Sep.app : ∀ {L1 : List HP} {h}, Sep (L1 ++ L2) h ↔ ∃ h1 h2 : Nat → Option Obj, Sep L1 h1 ∧ Sep L2 h2 ∧ (∀ k o, h1 k = some o → h k = some o) ∧ (∀ k o, h2 k = some o → h k = some o) ∧ ∀ k, h1 k = none ∨ h2 k = none
  | [], h => ⟨fun H => ⟨fun _ => none, h, Sep.nil _, H, fun _ _ hk => (by cases hk), fun _ _ hk => hk, fun _ => .inl rfl⟩, fun ⟨_, _, _, H, _, s, _⟩ => H.mono s⟩
  | R :: L1, h => by
    constructor
    · intro H
      obtain ⟨h1, h2, a, b, c, d, e⟩ := Sep.uncons (show Sep (R :: (L1 ++ L2)) h from H)
      obtain ⟨h3, h4, p1, p2, p3, p4, p5⟩ := Sep.app.1 b
      obtain ⟨hr, hq⟩ : ∃ q : Nat → Option Obj, q = fun k => match h1 k with | some o => some o | none => h3 k := ⟨_, rfl⟩
      have q1 : ∀ k o, h1 k = some o → hr k = some o := fun k o hk => by rw [hq]; simp only [hk]
      have q2 : ∀ k o, h3 k = some o → hr k = some o := fun k o hk => by
        rw [hq]
        rcases e k with e1 | e1
        · simp only [e1]; exact hk
        · rw [p3 k o hk] at e1; cases e1
      have q3 : ∀ k o, hr k = some o → h1 k = some o ∨ h3 k = some o := fun k o hk => by
        rw [hq] at hk
        cases hh : h1 k with
        | some o' => simp only [hh] at hk; exact .inl hk
        | none => simp only [hh] at hk; exact .inr hk
      refine ⟨hr, h4, Sep.cons a p1 q1 q2 fun k => ?_, p2, fun k o hk => ?_, fun k o hk => d k o (p4 k o hk), fun k => ?_⟩
      · rcases e k with e1 | e1
        · exact .inl e1
        · right
          cases hh : h3 k with
          | none => rfl
          | some o => rw [p3 k o hh] at e1; cases e1
      · rcases q3 k o hk with hk | hk
        · exact c k o hk
        · exact d k o (p3 k o hk)
      · cases hh : h4 k with
        | none => exact .inr rfl
        | some o =>
          left
          cases hh' : hr k with
          | none => rfl
          | some o' =>
            rcases q3 k o' hh' with hk | hk
            · rcases e k with e1 | e1
              · rw [hk] at e1; cases e1
              · rw [p4 k o hh] at e1; cases e1
            · rcases p5 k with e1 | e1
              · rw [hk] at e1; cases e1
              · rw [hh] at e1; cases e1
    · rintro ⟨h1, h2, H1, H2, s1, s2, hd⟩
      obtain ⟨h3, h4, a, b, c, d, e⟩ := H1.uncons
      obtain ⟨hr, hq⟩ : ∃ q : Nat → Option Obj, q = fun k => match h4 k with | some o => some o | none => h2 k := ⟨_, rfl⟩
      have q1 : ∀ k o, h4 k = some o → hr k = some o := fun k o hk => by rw [hq]; simp only [hk]
      have q2 : ∀ k o, h2 k = some o → hr k = some o := fun k o hk => by
        rw [hq]
        cases hh : h4 k with
        | none => simp only [hh]; exact hk
        | some o' =>
          rcases hd k with e1 | e1
          · rw [d k o' hh] at e1; cases e1
          · rw [hk] at e1; cases e1
      have q3 : ∀ k o, hr k = some o → h4 k = some o ∨ h2 k = some o := fun k o hk => by
        rw [hq] at hk
        cases hh : h4 k with
        | some o' => simp only [hh] at hk; exact .inl hk
        | none => simp only [hh] at hk; exact .inr hk
      refine Sep.cons (L := L1 ++ L2) a (Sep.app.2 ⟨h4, h2, b, H2, q1, q2, fun k => ?_⟩) (fun k o hk => s1 k o (c k o hk)) (fun k o hk => ?_) fun k => ?_
      · rcases hd k with e1 | e1
        · left
          cases hh : h4 k with
          | none => rfl
          | some o => rw [d k o hh] at e1; cases e1
        · exact .inr e1
      · rcases q3 k o hk with hk | hk
        · exact s1 k o (d k o hk)
        · exact s2 k o hk
      · cases hh : h3 k with
        | none => exact .inl rfl
        | some o =>
          right
          cases hh' : hr k with
          | none => rfl
          | some o' =>
            rcases q3 k o' hh' with hk | hk
            · rcases e k with e1 | e1
              · rw [hh] at e1; cases e1
              · rw [hk] at e1; cases e1
            · rcases hd k with e1 | e1
              · rw [c k o hh] at e1; cases e1
              · rw [hk] at e1; cases e1
def sepL (L : List HP) : HP := fun h => Sep L h
theorem Own.to (H : Own w0 D w L1) (k : ∀ h, Sep L1 h → Sep L2 h) : Own w0 D w L2 :=
  let ⟨h, h1, h2⟩ := H.own
  ⟨H.os, H.tape, H.output, H.size, H.keep, h, h1, k h h2⟩
theorem Own.perm (H : Own w0 D w L1) (hp : L1.Perm L2) : Own w0 D w L2 := H.to fun _ h => h.perm hp
theorem Own.flat (H : Own w0 D w (sepL L1 :: L2)) : Own w0 D w (L1 ++ L2) := H.to fun h hs => by
  obtain ⟨h1, h2, a, b, c, d, e⟩ := hs.uncons
  exact Sep.app.2 ⟨h1, h2, a, b, c, d, e⟩
theorem Own.pack (H : Own w0 D w (L1 ++ L2)) : Own w0 D w (sepL L1 :: L2) := H.to fun h hs => by
  obtain ⟨h1, h2, a, b, c, d, e⟩ := Sep.app.1 hs
  exact Sep.cons a b c d e
theorem Own.open {α : Type} {S : α → List HP} (H : Own w0 D w (R :: L)) (k : ∀ h, R h → ∃ x, Sep (S x) h) : ∃ x, Own w0 D w (S x ++ L) := by
  obtain ⟨h, h1, hs⟩ := H.own
  obtain ⟨a, b, c, d, e, f, g⟩ := hs.uncons
  obtain ⟨x, hx⟩ := k a c
  exact ⟨x, H.os, H.tape, H.output, H.size, H.keep, h, h1, Sep.app.2 ⟨a, b, hx, d, e, f, g⟩⟩
theorem Own.sepNil (H : Own w0 D w L) : Own w0 D w (sepL [] :: L) := Own.pack (L1 := []) H
end
section
variable {w : World} {A : Option Addr} {n c sz : Nat} {xs : List Value} {t : TypeId} {g : Nat} {cs : List Value}
theorem row_rds (w : World) (h : Nat → Option Obj) (hr : row A n c xs t sz h) (h2 : ∀ k o, h k = some o → w.heap[k]? = some o) : Rds w sz A n xs := by
  obtain ⟨hl, hr⟩ := hr
  refine ⟨hl, fun hn => ?_⟩
  rcases hr with ⟨_, h0, _⟩ | ⟨g, cur, fz, rfl, h1, _, _, _, htk, _⟩
  · omega
  · refine ⟨rfl, fun j u hj => ?_⟩
    have hg := h2 g _ h1
    show w.cell? ⟨g, 0 + j, none⟩ = some u
    rw [cell_of_row w g (0 + j) _ t fz hg, Nat.zero_add, ← Array.getElem?_toList]
    rw [← htk, List.getElem?_take] at hj
    split at hj
    · exact hj
    · cases hj
theorem rds_at {α : Type} {enc : α → List Value} {ls : List α} {i : Nat} (hz : ∀ x, (enc x).length = sz) (hp : 0 < sz) (p : Rds w sz A n (List.flatMap enc ls)) (hi : i < n) : ∃ x, ls[i]? = some x := by
  have h := p.1
  rw [flat_len hz] at h
  exact ⟨_, List.getElem?_eq_getElem (by rw [Nat.eq_of_mul_eq_mul_right hp h]; exact hi)⟩
theorem store_fits {α : Type} {enc : α → List Value} (hz : ∀ x, (enc x).length = sz) {ls : List α} {i f m : Nat} {x : α} (hx : ls[i]? = some x) (hf : f + m ≤ sz) : i * sz + f + m ≤ (List.flatMap enc ls).length := by
  have hi := (List.getElem?_eq_some_iff.1 hx).1
  rw [flat_len hz]
  have : (i + 1) * sz ≤ ls.length * sz := Nat.mul_le_mul_right _ hi
  rw [Nat.add_mul] at this
  omega
theorem row_nil (t : TypeId) (sz : Nat) : row none 0 0 [] t sz fun _ => none := ⟨by simp, .inl ⟨rfl, rfl, rfl⟩⟩
theorem own_rd {w0 : World} {D : Nat → Prop} {L : List HP} {R : HP} {i : Nat} {φ : World → Prop} (H : Own w0 D w L) (hi : L[i]? = some R) (f : ∀ w' h, R h → (∀ k o, h k = some o → w'.heap[k]? = some o) → φ w') : φ w :=
  let ⟨h, h1, h2⟩ := H.get hi
  f w h h1 h2
theorem sepL_rd {L : List HP} {R : HP} {i : Nat} {φ : World → Prop} (hi : L[i]? = some R) (f : ∀ w' h, R h → (∀ k o, h k = some o → w'.heap[k]? = some o) → φ w') : ∀ w' h, sepL L h → (∀ k o, h k = some o → w'.heap[k]? = some o) → φ w' := fun w' h hs h2 =>
  let ⟨g, g1, g2, _⟩ := hs
  f w' (g i) (g1 i R hi) fun k o hk => h2 k o (g2 i k o hk)
end
section
variable {P : Program} {n : Nat} {F : List (Nat × Value)} {w0 w : World} {D : Nat → Prop} {L : List HP} {ty T : TypeId} {K : Value → World → Prop} {x y : Operand} {t e : TypeId} {xs ys news : List Value}
theorem firstCells_rds {sz k m c : Nat} {B : Option Addr} (hr : Rds w sz B m news) (hk : k ≤ m) : (Builtin.firstCells sz k (.slice B m c)).run P w = .ok (news.take (k * sz)).toArray w := by
  have hl : (news.take (k * sz)).length = k * sz := by
    rw [List.length_take, hr.1]
    exact Nat.min_eq_left (Nat.mul_le_mul_right _ hk)
  rcases B with _ | b
  · have h0 : m = 0 := by
      rcases Nat.eq_zero_or_pos m with e | e
      · exact e
      · have := hr.isSome e; cases this
    have hk0 : k = 0 := by omega
    subst hk0
    simp [Builtin.firstCells]
  · refine run_firstCells_some w sz k b m c _ hl fun j v hj => ?_
    rw [List.getElem?_take] at hj
    split at hj
    · have hm : 0 < m := by
        rcases Nat.eq_zero_or_pos m with e | e
        · rw [hr.1.trans (by rw [e, Nat.zero_mul]) |> List.eq_nil_of_length_eq_zero] at hj; simp at hj
        · exact e
      have hb := hr.isSome hm
      injection hb with hb
      rw [hb, add0]
      exact hr.cell hj
    · cases hj
theorem Do.copy {A Ad B : Option Addr} {q c nd cd m cm lo k size bytes : Nat} {tx : TypeId} (el : Elem P t e size bytes) (H : Own w0 D w (row A q c xs e size :: L)) (hx : ev F x = some (.slice Ad nd cd)) (hA : 0 < nd → Ad = some ⟨ab A, ao A + lo * size, none⟩) (hfit : lo + nd ≤ q)
    (hy : ev F y = some (.slice B m cm)) (hr : Rds w size B m news) (h1 : ∀ u ∈ news, u.oneCell' = true) (hk : min m nd = k) (hys : put xs (lo * size) (news.take (k * size)) = ys) (h : ∀ w', Own w0 D w' (row A q c ys e size :: L) → K (.int .i64 (k : Int)) w') :
    Do P n F w (.call ⟨.builtin .copy, [x, y].toArray, [t, tx].toArray⟩) ty K := fun a ha o h2 h3 next Q hn => by
  obtain ⟨i, z, ht, hi, hz, rfl, rfl, hzs, hsz⟩ := el
  have hfc := firstCells_rds (P := P) (k := k) (c := cm) hr (by omega)
  have hlen : (news.take (k * i.size)).length = k * i.size := by
    rw [List.length_take, hr.1]
    exact Nat.min_eq_left (Nat.mul_le_mul_right _ (by omega))
  have hxl := H.rowLe (i := 0) rfl
  have key : ∃ w', (match Ad with | some a => storeCells a (news.take (k * i.size)) 0 | none => pure ()).run P w = .ok () w' ∧ Own w0 D w' (row A q c ys e i.size :: L) := by
    rcases Nat.eq_zero_or_pos k with h0 | h0
    · subst h0
      have hn0 : news.take (0 * i.size) = [] := by simp
      rw [hn0] at hys ⊢
      have : ys = xs := by rw [← hys]; simp [put]
      subst this
      refine ⟨w, ?_, H⟩
      cases Ad <;> rfl
    · have hnd : 0 < nd := by omega
      have hAd := hA hnd
      subst hAd
      have hpos : 0 < (news.take (k * i.size)).length := by rw [hlen]; exact Nat.mul_pos h0 hsz
      exact H.storeRow (P := P) (by rw [List.all_eq_true]; exact fun u hu => h1 u (List.mem_of_mem_take hu)) hpos (by
        rw [hlen, hxl.2.2, ← Nat.add_mul]
        exact Nat.mul_le_mul_right _ (by omega)) hys
  obtain ⟨w', hst, H'⟩ := key
  unfold execOp
  rw [h2]
  have hrun : (Builtin.copy_ #[t, tx] o.type #[.slice Ad nd cd, .slice B m cm]).run P w = .ok (.int .i64 (k : Int)) w' := by
    simp only [Builtin.copy_, List.getElem?_toArray, List.getElem?_cons_zero, List.getElem?_cons_succ, Sem.run_bind, run_underlying ht, Result.andThen_ok, Builtin.lenOf, Sem.run_pure, sizeOf, typeInfo]
    have hmin : Nat.min m nd = k := hk
    simp [hi, hmin, hfc, Result.andThen]
    cases Ad with
    | none =>
      simp only [Sem.run_pure] at hst
      injection hst with _ hw
      subst hw
      rfl
    | some b =>
      simp only at hst
      simp [hst, Result.andThen, goInt]
  simp only [resolve, invoke, builtin, Sem.run_bind, Sem.run_pure, Result.andThen_ok, List.map_toArray, List.map_cons, List.map_nil, ha.eval hx, ha.eval hy, hrun]
  exact hn _ _ (h w' H')
end
theorem Own.rowTake {w0 w : World} {D : Nat → Prop} {L : List HP} {A : Option Addr} {n k c sz : Nat} {xs ys : List Value} {t : TypeId} (H : Own w0 D w (row A n c xs t sz :: L)) (hk : k ≤ n) (hys : xs.take (k * sz) = ys) : Own w0 D w (row A k c ys t sz :: L) :=
  H.imp fun h ⟨hl, hr⟩ => by
    have e : k * sz ≤ n * sz := Nat.mul_le_mul_right _ hk
    refine ⟨by rw [← hys, List.length_take, hl]; omega, ?_⟩
    rcases hr with ⟨a, b, c⟩ | ⟨g, cur, fz, a, b, c, d, e', f, g'⟩
    · exact .inl ⟨a, by omega, c⟩
    · exact .inr ⟨g, cur, fz, a, b, by omega, d, e', by rw [← hys, ← f, List.take_take, Nat.min_eq_left e], g'⟩
theorem made_flat {α : Type} {enc : α → List Value} {sz : Nat} (hz : ∀ x, (enc x).length = sz) (hp : 0 < sz) {z : Value} {x0 : α} (h0 : z.cells.toList = enc x0) (n : Nat) : (madeCells z.cells (n * sz)).toList = List.flatMap enc (List.replicate n x0) := by
  have hs : z.cells.size = sz := by rw [← Array.length_toList, h0, hz]
  apply List.ext_getElem?
  intro j
  by_cases hj : j < n * sz
  · have hd : j / sz < n := Nat.div_lt_of_lt_mul (by rw [Nat.mul_comm]; exact hj)
    have hm : j % sz < sz := Nat.mod_lt _ hp
    have e : j = j / sz * sz + j % sz := by rw [Nat.mul_comm]; exact (Nat.div_add_mod j sz).symm
    have hv : (enc x0)[j % sz]? = some (z.cells[j % sz]'(by omega)) := by
      rw [← h0, Array.getElem?_toList]
      exact Array.getElem?_eq_getElem (by omega)
    have h2 := flat_at (enc := enc) hz (ls := List.replicate n x0) (i := j / sz) (x := x0) (by rw [List.getElem?_replicate, if_pos hd]) hv
    rw [← e] at h2
    rw [h2, Array.getElem?_toList]
    have h3 : j < (madeCells z.cells (n * sz)).size := by rw [size_madeCells]; exact hj
    rw [Array.getElem?_eq_getElem h3]
    simp only [madeCells, Array.getElem_map, Array.getElem_range, hs]
    rw [getElem!_pos z.cells (j % sz) (by omega)]
  · have h1 : (madeCells z.cells (n * sz)).toList.length ≤ j := by rw [Array.length_toList, size_madeCells]; omega
    have h2 : (List.flatMap enc (List.replicate n x0)).length ≤ j := by rw [flat_len hz, List.length_replicate]; omega
    rw [List.getElem?_eq_none h1, List.getElem?_eq_none h2]
theorem Do.makeE {P : Program} {n : Nat} {F : List (Nat × Value)} {w0 w : World} {D : Nat → Prop} {L : List HP} {ty t : TypeId} {K : Value → World → Prop} {α : Type} {enc : α → List Value} {x0 : α} {k e size bytes : Nat} {lx cx : Operand} {kl kc : IntKind} {z : Value} (hz : ∀ x, (enc x).length = size) (hp : 0 < size) (h0 : z.cells.toList = enc x0)
    (ht : P.underlying t = some (.slice e)) (hi : (P.info? e).map (fun i => (i.zero, i.size, i.bytes)) = some (some z, size, bytes)) (H : Own w0 D w L) (hl : ev F lx = some (.int kl (k : Int))) (hc : ev F cx = some (.int kc (k : Int)))
    (hb : bytes * k ≤ 281474976710656) (hm : k ≤ maxLen) (h : ∀ A w', Own w0 D w' (row A k k (List.flatMap enc (List.replicate k x0)) e size :: L) → K (.slice A k k) w') : Do P n F w (.makeSlice t lx cx) ty K :=
  Do.make ht hi H hl hc hb hm fun A w' H' => h A w' (by rw [← made_flat hz hp h0]; exact H')
end Go.Proofs.Ytcjjblkgbfaapaa
