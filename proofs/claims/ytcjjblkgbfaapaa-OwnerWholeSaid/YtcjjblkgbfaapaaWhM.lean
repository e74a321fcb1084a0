/-
  PROVED HERE: operations cut along the owners, each part done on its shard's keys: what each part makes of them.
  Conditions: none beyond each law's own.
-/
import Derived.Test.YtcjjblkgbfaapaaWhG
namespace Go.Proofs.Ytcjjblkgbfaapaa
set_option linter.unusedVariables false
set_option linter.unusedSimpArgs false
open Go.ChangeShapes
def shd (l : List OwnerD) (k : Key) : Int := (List.getD l (Int.toNat (owner_Find l k).1) default).xShard
def flS (l : List OwnerD) (s : Int) (m : List PairD) : List PairD := m.filter fun p => decide (shd l p.xKey = s)
theorem shd_of {l : List OwnerD} {k : Key} {j : Nat} {x : OwnerD} (h : Ows l) (hk : kok k) (hp : Pos l k j) (hx : l[j]? = some x) : shd l k = x.xShard := by
  unfold shd
  rw [find_ok h hk hp, show Int.toNat ((j : Nat) : Int) = j from rfl, getD_of hx]
theorem shd_at {l : List OwnerD} {k : Key} (h : Ows l) (hk : kok k) : ∃ j x, Pos l k j ∧ l[j]? = some x ∧ shd l k = x.xShard := by
  obtain ⟨j, hp⟩ := h.pos k
  obtain ⟨x, hx⟩ : ∃ x, l[j]? = some x := ⟨_, List.getElem?_eq_getElem hp.lt⟩
  exact ⟨j, x, hp, hx, shd_of h hk hp hx⟩
theorem flS_sub (l : List OwnerD) (s : Int) (m : List PairD) : (flS l s m).Sublist m := List.filter_sublist
theorem cm_flS {l : List OwnerD} {s : Int} {m : List PairD} (h : op_CheckMap m = 0) : op_CheckMap (flS l s m) = 0 := cm_sub (flS_sub l s m) h
def meets (l : List OwnerD) (o : OpD) (i : Nat) : Bool := (span_Meet (RangeD.mk o.xLo o.xHi) (owner_rangeOf l ((i : Nat) : Int))).2
def ixL (l : List OwnerD) (s : Int) (o : OpD) : List OwnerD → Nat → List Nat
  | [], _ => []
  | x :: q, k => (if x.xShard = s then (if meets l o k = true then [k] else []) else []) ++ ixL l s o q (k + 1)
def pcA (l : List OwnerD) (o : OpD) (i : Nat) : OpD := OpD.mk o.xKind [] [] (M.mx o.xLo (List.getD l i default).xLo) (M.ls o.xHi (nxt l i)) o.xMost
theorem drop_one {α : Type} {l : List α} {k : Nat} {x : α} {q : List α} (h : List.drop k l = x :: q) : l[k]? = some x ∧ List.drop (k + 1) l = q := by
  refine ⟨?_, by rw [← List.drop_drop, h]; rfl⟩
  have e : (List.drop k l)[0]? = some x := by rw [h]; rfl
  rwa [List.getElem?_drop, Nat.add_zero] at e
theorem meet_pc {l : List OwnerD} {o : OpD} {i : Nat} {x : OwnerD} (hx : l[i]? = some x) (hm : meets l o i = true) : span_Meet (RangeD.mk o.xLo o.xHi) (owner_rangeOf l ((i : Nat) : Int)) = (RangeD.mk (pcA l o i).xLo (pcA l o i).xHi, true) := by
  unfold meets at hm
  rw [range_at hx] at hm ⊢
  by_cases h : M.M o.xLo o.xHi x.xLo (nxt l i)
  · rw [mt_of (r := RangeD.mk o.xLo o.xHi) (s := RangeD.mk x.xLo (nxt l i)) h]
    unfold pcA
    rw [getD_of hx]
  · rw [mt_no (r := RangeD.mk o.xLo o.xHi) (s := RangeD.mk x.xLo (nxt l i)) h] at hm; cases hm
theorem co_L0 (l : List OwnerD) (s : Int) (o : OpD) : ∀ (q : List OwnerD) (acc : List OpD) (k : Nat), List.drop k l = q → owner_cutOp_L0 l s o q acc k = acc ++ (ixL l s o q k).map (pcA l o)
  | [], acc, k, _ => by rw [owner_cutOp_L0, ixL]; simp
  | x :: q, acc, k, hd => by
    obtain ⟨hx, hd2⟩ := drop_one hd
    rw [owner_cutOp_L0, ixL]
    simp only [bnd_eq]
    by_cases h1 : x.xShard = s
    · rw [if_pos h1, if_pos h1]
      by_cases h2 : meets l o k = true
      · rw [meet_pc hx h2, if_pos rfl, if_pos h2, co_L0 l s o q _ _ hd2, List.map_append, List.append_assoc]; rfl
      · have h3 : ¬ (span_Meet (RangeD.mk o.xLo o.xHi) (owner_rangeOf l ((k : Nat) : Int))).2 = true := h2
        rw [if_neg h3, if_neg h2, co_L0 l s o q _ _ hd2]; rfl
    · rw [if_neg h1, if_neg h1, co_L0 l s o q _ _ hd2]; rfl
theorem co_L1 (l : List OwnerD) (s : Int) (o : OpD) : ∀ (q : List OwnerD) (acc : List OpD) (k : Nat), owner_cutOp_L1 l s o q acc k = owner_cutOp_L0 l s o q acc k
  | [], acc, k => rfl
  | x :: q, acc, k => by
    rw [owner_cutOp_L0, owner_cutOp_L1]
    simp only [bnd_eq, co_L1 l s o q]
theorem cut_rng {l : List OwnerD} {s : Int} {o : OpD} (hk : o.xKind = 4 ∨ o.xKind = 5) : owner_cutOp l s o = (ixL l s o l 0).map (pcA l o) := by
  unfold owner_cutOp
  simp only [bnd_eq, co_L1]
  rcases hk with h | h
  · rw [if_pos h, co_L0 l s o l [] 0 rfl]; rfl
  · rw [if_neg (by omega), if_pos h, co_L0 l s o l [] 0 rfl]; rfl
theorem cut_key {l : List OwnerD} {s : Int} {o : OpD} (h : Ows l) (hk : ¬ (o.xKind = 4 ∨ o.xKind = 5)) (hkk : kok o.xKey) : owner_cutOp l s o = if shd l o.xKey = s then [o] else [] := by
  obtain ⟨j, x, hp, hx, hs⟩ := shd_at h hkk
  unfold owner_cutOp
  simp only [bnd_eq]
  rw [if_neg (fun c => hk (.inl c)), if_neg (fun c => hk (.inr c)), place_of hp, show Int.toNat ((j : Nat) : Int) = j from rfl, getD_of hx, hs]
theorem ix_mem {l : List OwnerD} {s : Int} {o : OpD} : ∀ {q : List OwnerD} {k i : Nat}, List.drop k l = q → (i ∈ ixL l s o q k ↔ k ≤ i ∧ (∃ x, l[i]? = some x ∧ x.xShard = s) ∧ meets l o i = true)
  | [], k, i, hd => by
    have hl : l.length ≤ k := by
      have := congrArg List.length hd
      rw [List.length_drop] at this
      simp only [List.length_nil] at this
      omega
    rw [ixL]
    constructor
    · intro h; cases h
    · rintro ⟨h1, ⟨x, h2, _⟩, _⟩
      have := (List.getElem?_eq_some_iff.1 h2).1; omega
  | x :: q, k, i, hd => by
    obtain ⟨hx, hd2⟩ := drop_one hd
    rw [ixL, List.mem_append, ix_mem hd2]
    constructor
    · rintro (h | ⟨h1, h2, h3⟩)
      · by_cases c1 : x.xShard = s
        · rw [if_pos c1] at h
          by_cases c2 : meets l o k = true
          · rw [if_pos c2, List.mem_singleton] at h
            subst h
            exact ⟨Nat.le_refl _, ⟨x, hx, c1⟩, c2⟩
          · rw [if_neg c2] at h; cases h
        · rw [if_neg c1] at h; cases h
      · exact ⟨by omega, h2, h3⟩
    · rintro ⟨h1, ⟨y, h2, h3⟩, h4⟩
      by_cases e : i = k
      · subst e
        rw [hx] at h2; cases h2
        left; rw [if_pos h3, if_pos h4]; exact .head _
      · exact .inr ⟨by omega, ⟨y, h2, h3⟩, h4⟩
theorem ix_mem0 {l : List OwnerD} {s : Int} {o : OpD} {i : Nat} : i ∈ ixL l s o l 0 ↔ (∃ x, l[i]? = some x ∧ x.xShard = s) ∧ meets l o i = true := by
  rw [ix_mem (q := l) (k := 0) rfl]
  exact ⟨fun h => h.2, fun h => ⟨Nat.zero_le _, h⟩⟩
theorem ix_nodup (l : List OwnerD) (s : Int) (o : OpD) : ∀ (q : List OwnerD) (k : Nat), List.drop k l = q → (ixL l s o q k).Nodup ∧ (ixL l s o q k).length ≤ q.length
  | [], k, _ => ⟨List.Pairwise.nil, Nat.le_refl _⟩
  | x :: q, k, hd => by
    obtain ⟨hx, hd2⟩ := drop_one hd
    obtain ⟨h1, h2⟩ := ix_nodup l s o q (k + 1) hd2
    rw [ixL]
    have hr : ∀ i ∈ ixL l s o q (k + 1), k ≠ i := fun i hi => by have := ((ix_mem hd2).1 hi).1; omega
    split
    · split
      · exact ⟨List.pairwise_cons.2 ⟨hr, h1⟩, by simp; omega⟩
      · exact ⟨h1, by simp; omega⟩
    · exact ⟨h1, by simp; omega⟩
theorem inR_iff {a b k : Key} : inR a b k = true ↔ a ≤ k ∧ M.B k b := by
  unfold inR M.B
  rw [decide_eq_true_eq, k_nlt]
theorem inR_meet {a b c d k : Key} : inR (M.mx a c) (M.ls b d) k = true ↔ inR a b k = true ∧ inR c d k = true := by
  rw [inR_iff, inR_iff, inR_iff, M.le_mx, M.B_ls]
  constructor
  · rintro ⟨⟨h1, h2⟩, h3, h4⟩; exact ⟨⟨h1, h3⟩, h2, h4⟩
  · rintro ⟨⟨h1, h3⟩, h2, h4⟩; exact ⟨⟨h1, h2⟩, h3, h4⟩
theorem own_inR {l : List OwnerD} {k : Key} {i j : Nat} {x : OwnerD} (h : Ows l) (hk : kok k) (hp : Pos l k j) (hx : l[i]? = some x) : inR x.xLo (nxt l i) k = true ↔ i = j := by
  rw [inR_iff, ← h.has hk hp hx]
  unfold M.H
  exact ⟨fun q => ⟨h.R hx, hk, q.1, q.2⟩, fun q => ⟨q.2.2.1, q.2.2.2⟩⟩
theorem pc_inR {l : List OwnerD} {k : Key} {i j : Nat} {o : OpD} {x : OwnerD} (h : Ows l) (hk : kok k) (hp : Pos l k j) (hx : l[i]? = some x) : inR (pcA l o i).xLo (pcA l o i).xHi k = true ↔ inR o.xLo o.xHi k = true ∧ i = j := by
  unfold pcA
  rw [inR_meet, getD_of hx, own_inR h hk hp hx]
theorem meets_of {l : List OwnerD} {k : Key} {j : Nat} {o : OpD} {x : OwnerD} (h : Ows l) (hr : M.R o.xLo o.xHi) (hk : kok k) (hp : Pos l k j) (hx : l[j]? = some x) (hi : inR o.xLo o.xHi k = true) : meets l o j = true := by
  have h1 : M.H o.xLo o.xHi k := ⟨hr, hk, inR_iff.1 hi⟩
  have h2 : M.H x.xLo (nxt l j) k := (h.has hk hp hx).2 rfl
  have h3 := ((M.both _ _ _ _ _).1 ⟨h1, h2⟩).1
  unfold meets
  rw [range_at hx, mt_of (r := RangeD.mk o.xLo o.xHi) (s := RangeD.mk x.xLo (nxt l j)) h3]
theorem co_most {o : OpD} (h : op_CheckOp o = 0) (hk : o.xKind = 4) : 1 ≤ o.xMost ∧ o.xMost ≤ 4 := op_most h hk
theorem pc_ok {l : List OwnerD} {o : OpD} {i : Nat} {x : OwnerD} (ho : op_CheckOp o = 0) (hk : o.xKind = 4 ∨ o.xKind = 5) (hx : l[i]? = some x) (hm : meets l o i = true) : op_CheckOp (pcA l o i) = 0 ∧ M.R (pcA l o i).xLo (pcA l o i).xHi := by
  have hM : M.M o.xLo o.xHi x.xLo (nxt l i) := by
    unfold meets at hm
    rw [range_at hx] at hm
    by_cases c : M.M o.xLo o.xHi x.xLo (nxt l i)
    · exact c
    · rw [mt_no (r := RangeD.mk o.xLo o.xHi) (s := RangeD.mk x.xLo (nxt l i)) c] at hm; cases hm
  have hR : M.R (pcA l o i).xLo (pcA l o i).xHi := by
    have := M.R_meet hM
    unfold pcA; rw [getD_of hx]; exact this
  refine ⟨?_, hR⟩
  have hs : span_Check (RangeD.mk (pcA l o i).xLo (pcA l o i).xHi) = 0 := sc_R.2 hR
  rcases hk with h | h
  · have hm := co_most ho h
    rw [co4 (o := pcA l o i) h, if_pos ⟨rfl, rfl⟩, cs_eq, if_pos hs, if_neg (by show ¬ o.xMost < 1; omega), if_neg (by show ¬ o.xMost > 4; omega)]
  · have hz : o.xMost = 0 := by
      have := co5 h
      rw [ho] at this
      by_cases c : o.xKey = [] ∧ o.xValue = [] ∧ o.xMost = 0
      · exact c.2.2
      · rw [if_neg c] at this; cases this
    rw [co5 (o := pcA l o i) h, if_pos ⟨rfl, rfl, hz⟩, cr_eq, hs]
theorem cutOp_ok {l : List OwnerD} {s : Int} {o : OpD} (h : Ows l) (ho : op_CheckOp o = 0) : (∀ x ∈ owner_cutOp l s o, op_CheckOp x = 0) ∧ (owner_cutOp l s o).length ≤ 6 := by
  by_cases hk : o.xKind = 4 ∨ o.xKind = 5
  · rw [cut_rng hk]
    refine ⟨fun x hx => ?_, by rw [List.length_map]; have := (ix_nodup l s o l 0 rfl).2; have := h.len.2; omega⟩
    obtain ⟨i, hi, rfl⟩ := List.mem_map.1 hx
    obtain ⟨⟨y, hy, _⟩, hm⟩ := ix_mem0.1 hi
    exact (pc_ok ho hk hy hm).1
  · have hk3 := co_kind ho
    rw [cut_key h hk (co_key ho (by omega))]
    split
    · exact ⟨fun x hx => (by rw [List.mem_singleton.1 hx]; exact ho), by simp⟩
    · exact ⟨fun x hx => (by cases hx), by simp⟩
theorem run_app : ∀ (a b : List OpD) (m : List PairD), run m (a ++ b) = ((run (run m a).1 b).1, (run m a).2 ++ (run (run m a).1 b).2)
  | [], b, m => rfl
  | o :: a, b, m => by
    show ((run (stp m o).1 (a ++ b)).1, (stp m o).2 :: (run (stp m o).1 (a ++ b)).2) = _
    rw [run_app a b]; rfl
theorem stp4 {m : List PairD} {o : OpD} (hs : srt m) (hr : M.R o.xLo o.xHi) (hk : o.xKind = 4) (hm : 1 ≤ o.xMost) : stp m o = (m, ResultT.mk false [] (Ll.mk (List.take o.xMost.toNat (m.filter (fun p => inR o.xLo o.xHi p.xKey))))) := by
  unfold stp
  rw [if_neg (by omega), if_neg (by omega), if_neg (by omega), if_pos hk, scan_of hs hr hm]
theorem stp5 {m : List PairD} {o : OpD} (hs : srt m) (hr : M.R o.xLo o.xHi) (hk : o.xKind = 5) : stp m o = (m.filter (fun p => !inR o.xLo o.xHi p.xKey), noR) := by
  unfold stp
  rw [if_neg (by omega), if_neg (by omega), if_neg (by omega), if_neg (by omega), wipe_of hs hr]
theorem run4 {l : List OwnerD} {o : OpD} {n : List PairD} (hs : srt n) (hk : o.xKind = 4) (ho : op_CheckOp o = 0) : ∀ {ix : List Nat}, (∀ i ∈ ix, (∃ x, l[i]? = some x) ∧ meets l o i = true) → run n (ix.map (pcA l o)) = (n, ix.map fun i => ResultT.mk false [] (Ll.mk (List.take o.xMost.toNat (n.filter fun p => inR (pcA l o i).xLo (pcA l o i).xHi p.xKey))))
  | [], _ => rfl
  | i :: ix, h => by
    obtain ⟨⟨x, hx⟩, hm⟩ := h i (.head _)
    have e := stp4 hs (pc_ok ho (.inl hk) hx hm).2 hk (co_most ho hk).1
    show ((run (stp n (pcA l o i)).1 (ix.map (pcA l o))).1, (stp n (pcA l o i)).2 :: (run (stp n (pcA l o i)).1 (ix.map (pcA l o))).2) = _
    rw [e, run4 hs hk ho fun i hi => h i (.tail _ hi)]; rfl
theorem run5 {l : List OwnerD} {o : OpD} (hk : o.xKind = 5) (ho : op_CheckOp o = 0) : ∀ {ix : List Nat} {n : List PairD}, srt n → (∀ i ∈ ix, (∃ x, l[i]? = some x) ∧ meets l o i = true) → run n (ix.map (pcA l o)) = (n.filter fun p => !ix.any fun i => inR (pcA l o i).xLo (pcA l o i).xHi p.xKey, ix.map fun _ => noR)
  | [], n, _, _ => by
    show (n, []) = (n.filter (fun _ => true), [])
    rw [List.filter_eq_self.2 fun _ _ => rfl]
  | i :: ix, n, hs, h => by
    obtain ⟨⟨x, hx⟩, hm⟩ := h i (.head _)
    have e := stp5 hs (pc_ok ho (.inr hk) hx hm).2 hk
    show ((run (stp n (pcA l o i)).1 (ix.map (pcA l o))).1, (stp n (pcA l o i)).2 :: (run (stp n (pcA l o i)).1 (ix.map (pcA l o))).2) = _
    rw [e, run5 hk ho (srt_sub List.filter_sublist hs) fun i hi => h i (.tail _ hi)]
    simp only [List.filter_filter, List.any_cons, Bool.not_or, List.map_cons]
    congr 2
    funext p
    rw [Bool.and_comm]
theorem any_in {l : List OwnerD} {s : Int} {o : OpD} {k : Key} (h : Ows l) (ho : op_CheckOp o = 0) (hk : o.xKind = 4 ∨ o.xKind = 5) (hkk : kok k) (hs : shd l k = s) : ((ixL l s o l 0).any fun i => inR (pcA l o i).xLo (pcA l o i).xHi k) = inR o.xLo o.xHi k := by
  obtain ⟨j, x, hp, hx, hsh⟩ := shd_at h hkk
  rw [Bool.eq_iff_iff, List.any_eq_true]
  constructor
  · rintro ⟨i, hi, hin⟩
    obtain ⟨⟨y, hy, _⟩, _⟩ := ix_mem0.1 hi
    exact ((pc_inR h hkk hp hy).1 hin).1
  · intro hin
    exact ⟨j, ix_mem0.2 ⟨⟨x, hx, by rw [← hsh]; exact hs⟩, meets_of h (co_range ho hk) hkk hp hx hin⟩, (pc_inR h hkk hp hx).2 ⟨hin, rfl⟩⟩
theorem flt_congr {α : Type} {p q : α → Bool} : ∀ {m : List α}, (∀ x ∈ m, p x = q x) → m.filter p = m.filter q
  | [], _ => rfl
  | x :: m, h => by
    rw [List.filter_cons, List.filter_cons, h x (.head _), flt_congr fun y hy => h y (.tail _ hy)]
theorem flt_comm {α : Type} (p q : α → Bool) (m : List α) : (m.filter p).filter q = (m.filter q).filter p := by
  rw [List.filter_filter, List.filter_filter]
  exact flt_congr fun x _ => Bool.and_comm _ _
theorem C3_fl {l : List OwnerD} {s : Int} {m a e d : List PairD} {k : Key} (h : C3 m k a e d) : C3 (flS l s m) k (flS l s a) (flS l s e) (flS l s d) := by
  refine ⟨?_, fun p hp => h.lo p (List.mem_filter.1 hp).1, ?_, fun p hp => h.hi p (List.mem_filter.1 hp).1⟩
  · unfold flS; rw [h.app, List.filter_append, List.filter_append]
  · rcases h.mid with e' | ⟨v, e'⟩
    · left; rw [e']; rfl
    · rw [e']
      unfold flS
      by_cases c : shd l k = s
      · right; exact ⟨v, by simp [c]⟩
      · left; simp [c]
theorem flS_mid_no {l : List OwnerD} {s : Int} {m a e d : List PairD} {k : Key} (h : C3 m k a e d) (c : ¬ shd l k = s) : flS l s e = [] := by
  rcases h.mid with e' | ⟨v, e'⟩
  · rw [e']; rfl
  · rw [e']; unfold flS; simp [c]
theorem flS_mid_yes {l : List OwnerD} {s : Int} {m a e d : List PairD} {k : Key} (h : C3 m k a e d) (c : shd l k = s) : flS l s e = e := by
  rcases h.mid with e' | ⟨v, e'⟩
  · rw [e']; rfl
  · rw [e']; unfold flS; simp [c]
theorem flS_app (l : List OwnerD) (s : Int) (a b : List PairD) : flS l s (a ++ b) = flS l s a ++ flS l s b := List.filter_append ..
theorem stp_fl {l : List OwnerD} {s : Int} {m : List PairD} {o : OpD} (h : Ows l) (hm : op_CheckMap m = 0) (ho : op_CheckOp o = 0) :
    (run (flS l s m) (owner_cutOp l s o)).1 = flS l s (stp m o).1 ∧ (¬ (o.xKind = 4 ∨ o.xKind = 5) → (run (flS l s m) (owner_cutOp l s o)).2 = if shd l o.xKey = s then [(stp m o).2] else []) := by
  have hs := (cm_ok.1 hm).2
  have hsf : srt (flS l s m) := srt_sub (flS_sub l s m) hs
  have hkk := co_kind ho
  by_cases hk : o.xKind = 4 ∨ o.xKind = 5
  · refine ⟨?_, fun c => absurd hk c⟩
    rw [cut_rng hk]
    have hix : ∀ i ∈ ixL l s o l 0, (∃ x, l[i]? = some x) ∧ meets l o i = true := fun i hi => by
      obtain ⟨⟨y, hy, _⟩, hm⟩ := ix_mem0.1 hi
      exact ⟨⟨y, hy⟩, hm⟩
    rcases hk with hk | hk
    · rw [run4 hsf hk ho hix, stp4 hs (co_range ho (.inl hk)) hk (co_most ho hk).1]
    · rw [run5 hk ho hsf hix, stp5 hs (co_range ho (.inr hk)) hk]
      show (flS l s m).filter _ = flS l s (m.filter _)
      unfold flS
      rw [flt_comm (fun p : PairD => !inR o.xLo o.xHi p.xKey) (fun p : PairD => decide (shd l p.xKey = s))]
      refine flt_congr fun p hp => ?_
      obtain ⟨hp1, hp2⟩ := List.mem_filter.1 hp
      rw [any_in h ho (.inr hk) ((cm_ok.1 hm).1 p hp1).1 (of_decide_eq_true hp2)]
  · have hkey : kok o.xKey := co_key ho (by omega)
    rw [cut_key h hk hkey]
    obtain ⟨a, e, d, hc, _, _⟩ := find3 hs o.xKey
    have hcf := C3_fl (l := l) (s := s) hc
    have k3 : o.xKind = 1 ∨ o.xKind = 2 ∨ o.xKind = 3 := by omega
    by_cases c : shd l o.xKey = s
    · rw [if_pos c]
      have he := flS_mid_yes hc c
      rw [he] at hcf
      suffices q : (stp (flS l s m) o) = (flS l s (stp m o).1, (stp m o).2) by
        show (stp (flS l s m) o).1 = _ ∧ (_ → [(stp (flS l s m) o).2] = _)
        rw [q]; exact ⟨rfl, fun _ => by rw [if_pos c]⟩
      unfold stp
      rcases k3 with k | k | k
      · rw [if_pos k, if_pos k]
        rcases get_of hs hc with ⟨e0, g⟩ | ⟨v, e0, g⟩ <;> rcases get_of hsf hcf with ⟨e1, g1⟩ | ⟨v1, e1, g1⟩
        · rw [g, g1]
        · rw [e0] at e1; cases e1
        · rw [e0] at e1; cases e1
        · rw [e0] at e1; cases e1; rw [g, g1]
      · rw [if_neg (by omega), if_pos k, if_neg (by omega), if_pos k, put_of hs hc, put_of hsf hcf]
        have : flS l s (a ++ PairD.mk o.xKey o.xValue :: d) = flS l s a ++ PairD.mk o.xKey o.xValue :: flS l s d := by
          rw [flS_app]; congr 1; unfold flS; rw [List.filter_cons, if_pos (decide_eq_true c)]
        rw [this]
      · rw [if_neg (by omega), if_neg (by omega), if_pos k, if_neg (by omega), if_neg (by omega), if_pos k, del_of hs hc, del_of hsf hcf, flS_app]
    · rw [if_neg c]
      have he := flS_mid_no hc c
      have hfm : flS l s m = flS l s a ++ flS l s d := by rw [hcf.app, he]; rfl
      refine ⟨?_, fun _ => by rw [if_neg c]; rfl⟩
      show flS l s m = _
      unfold stp
      rcases k3 with k | k | k
      · rw [if_pos k]
        rcases get_of hs hc with ⟨_, g⟩ | ⟨v, _, g⟩ <;> rw [g]
      · rw [if_neg (by omega), if_pos k, put_of hs hc, flS_app, hfm]
        congr 1; unfold flS; rw [List.filter_cons, if_neg (by simpa using c)]
      · rw [if_neg (by omega), if_neg (by omega), if_pos k, del_of hs hc, flS_app, hfm]
def opsOf (l : List OwnerD) (s : Int) (ops : List OpD) : List OpD := ops.flatMap (owner_cutOp l s)
theorem opsOf_ok {l : List OwnerD} {s : Int} (h : Ows l) : ∀ {ops : List OpD}, (∀ o ∈ ops, op_CheckOp o = 0) → (∀ x ∈ opsOf l s ops, op_CheckOp x = 0) ∧ (opsOf l s ops).length ≤ 6 * ops.length
  | [], _ => ⟨fun x hx => (by cases hx), Nat.le_refl _⟩
  | o :: ops, ho => by
    obtain ⟨h1, h2⟩ := cutOp_ok (s := s) h (ho o (.head _))
    obtain ⟨h3, h4⟩ := opsOf_ok (s := s) h (fun x hx => ho x (.tail _ hx))
    have e : opsOf l s (o :: ops) = owner_cutOp l s o ++ opsOf l s ops := List.flatMap_cons ..
    rw [e]
    refine ⟨fun x hx => ?_, by rw [List.length_append, List.length_cons]; omega⟩
    rcases List.mem_append.1 hx with q | q
    · exact h1 x q
    · exact h3 x q
theorem run_fl {l : List OwnerD} {s : Int} (h : Ows l) : ∀ {ops : List OpD} {m : List PairD}, op_CheckMap m = 0 → (∀ o ∈ ops, op_CheckOp o = 0) → (run (flS l s m) (opsOf l s ops)).1 = flS l s (run m ops).1
  | [], m, _, _ => rfl
  | o :: ops, m, hm, ho => by
    have e : opsOf l s (o :: ops) = owner_cutOp l s o ++ opsOf l s ops := List.flatMap_cons ..
    rw [e, run_app, (stp_fl h hm (ho o (.head _))).1]
    exact run_fl h (stp_keep hm (ho o (.head _))) fun x hx => ho x (.tail _ hx)
end Go.Proofs.Ytcjjblkgbfaapaa
