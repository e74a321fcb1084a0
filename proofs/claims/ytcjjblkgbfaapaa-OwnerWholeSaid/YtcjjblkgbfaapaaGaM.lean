/-
  Results dealt out to operations: what is owned of them, what they weigh, what a check of the parts tells. Conditions: none beyond each law's own.
-/
import Derived.Test.YtcjjblkgbfaapaaGb
namespace Go.Proofs.Ytcjjblkgbfaapaa
set_option linter.unusedVariables false
set_option linter.unusedSimpArgs false
def Row49H.own (x : Row49D) : List HP := [row x.A x.ls.length x.c (List.flatMap ResultD.cells x.ls) 56 3]
def HmR (w : World) (D : Nat → Prop) (ds : List Row49D) : Prop := ∀ q ∈ ds, ∀ x ∈ q.ls, Ro w D (fun w' => Rds w' 2 x.xPairs.A (List.length x.xPairs.ls) (List.flatMap PairD.cells x.xPairs.ls)) ∧ (List.length x.xPairs.ls ≤ x.xPairs.c ∧ List.length x.xPairs.ls ≤ 9223372036854775807)
theorem hmr_rep {w : World} {D : Nat → Prop} (n : Nat) : HmR w D (List.replicate n (Sv.mk none 0 [] : Row49D)) := fun q hq x hx => by
  rw [(List.mem_replicate.1 hq).2] at hx; cases hx
theorem hmr_at {w : World} {D : Nat → Prop} {ds : List Row49D} {i : Nat} {q : Row49D} (h : HmR w D ds) (hq : ds[i]? = some q) : ∀ x ∈ q.ls, Ro w D (fun w' => Rds w' 2 x.xPairs.A (List.length x.xPairs.ls) (List.flatMap PairD.cells x.xPairs.ls)) ∧ (List.length x.xPairs.ls ≤ x.xPairs.c ∧ List.length x.xPairs.ls ≤ 9223372036854775807) := h q (List.mem_of_getElem? hq)
theorem hmr_set {w : World} {D : Nat → Prop} {ds : List Row49D} {i : Nat} {y : Row49D} (h : HmR w D ds) (hy : ∀ x ∈ y.ls, Ro w D (fun w' => Rds w' 2 x.xPairs.A (List.length x.xPairs.ls) (List.flatMap PairD.cells x.xPairs.ls)) ∧ (List.length x.xPairs.ls ≤ x.xPairs.c ∧ List.length x.xPairs.ls ≤ 9223372036854775807)) : HmR w D (List.set ds i y) := fun q hq x hx => by
  rcases List.mem_or_eq_of_mem_set hq with e | e
  · exact h q e x hx
  · rw [e] at hx; exact hy x hx
def tt : List (Ll ResultT) → Nat
  | [] => 0
  | x :: l => tot x.ls + tt l
theorem tt_rep : ∀ n : Nat, tt (List.replicate n (Ll.mk [] : Ll ResultT)) = 0
  | 0 => rfl
  | n + 1 => by rw [List.replicate_succ, tt, tt_rep n]; rfl
theorem tt_app : ∀ a c : List (Ll ResultT), tt (a ++ c) = tt a + tt c
  | [], c => (Nat.zero_add _).symm
  | x :: a, c => by rw [List.cons_append, tt, tt, tt_app a c, Nat.add_assoc]
theorem tt_take {l : List (Ll ResultT)} {k : Nat} {x : Ll ResultT} (hx : l[k]? = some x) : tt (List.take (k + 1) l) = tt (List.take k l) + tot x.ls := by
  obtain ⟨h, rfl⟩ := List.getElem?_eq_some_iff.1 hx
  rw [List.take_succ_eq_append_getElem h, tt_app]; rfl
theorem tt_le (l : List (Ll ResultT)) (k : Nat) : tt (List.take k l) ≤ tt l := by
  have := tt_app (List.take k l) (List.drop k l)
  rw [List.take_append_drop] at this
  omega
theorem tt_set : ∀ {l : List (Ll ResultT)} {i : Nat} {x y : Ll ResultT}, l[i]? = some x → tt (List.set l i y) + tot x.ls = tt l + tot y.ls
  | [], _, _, _, h => by simp at h
  | z :: l, 0, x, y, h => by
    simp only [List.getElem?_cons_zero, Option.some.injEq] at h
    subst h
    rw [List.set_cons_zero, tt, tt]; omega
  | z :: l, i + 1, x, y, h => by
    simp only [List.getElem?_cons_succ] at h
    have := tt_set (y := y) h
    rw [List.set_cons_succ, tt, tt]; omega
theorem tt_at {l : List (Ll ResultT)} {i N : Nat} {x : Ll ResultT} (h : tt l ≤ N) (hx : l[i]? = some x) : tot x.ls ≤ N := by
  have := tt_le l (i + 1)
  rw [tt_take hx] at this
  omega
theorem gd_at {l : List (Ll ResultT)} {k : Nat} {x : Ll ResultT} (h : l[k]? = some x) : List.getD l k default = x := by
  rw [List.getD_eq_getElem?_getD, h]; rfl
def seen (l2 : List (Ll ResultT)) (k j : Nat) : Nat := tt (List.take k l2) + tot (List.take j (List.getD l2 k default).ls)
theorem seen_0 (l2 : List (Ll ResultT)) (k : Nat) : seen l2 k 0 = tt (List.take k l2) := rfl
theorem seen_next {l l2 : List (Ll ResultT)} {k j i : Nat} {y : Ll ResultT} {qs : List ResultT} {r : ResultT} (h : tt l ≤ seen l2 k j) (hy : l2[k]? = some y) (hr : y.ls[j]? = some r) (hq : l[i]? = some (Ll.mk qs)) : tt (List.set l i (Ll.mk (qs ++ [r]))) ≤ seen l2 k (j + 1) := by
  have h1 := tt_set (y := Ll.mk (qs ++ [r])) hq
  have h2 : tot (Ll.mk (qs ++ [r])).ls = tot qs + tot [r] := tot_app qs [r]
  have h3 : tot [r] = List.length r.xPairs.ls + 1 := rfl
  unfold seen at h ⊢
  rw [gd_at hy] at h ⊢
  rw [tot_take hr]
  have h4 : tot (Ll.mk qs : Ll ResultT).ls = tot qs := rfl
  omega
theorem seen_end {l l2 : List (Ll ResultT)} {k j : Nat} (h : tt l ≤ seen l2 k j) (hk : k < List.length l2) : tt l ≤ tt (List.take (k + 1) l2) := by
  unfold seen at h
  have hy : l2[k]? = some l2[k] := List.getElem?_eq_getElem hk
  rw [gd_at hy] at h
  rw [tt_take hy]
  have := tot_le l2[k].ls j
  omega
theorem tt_op {l l2 : List (Ll ResultT)} {k i N : Nat} {qs : List ResultT} (h : tt l ≤ tt (List.take k l2)) (h2 : tt l2 ≤ N) (hq : l[i]? = some (Ll.mk qs)) : tot qs ≤ N := tt_at (x := Ll.mk qs) (Nat.le_trans h (Nat.le_trans (tt_le _ _) h2)) hq
theorem seen_le (l2 : List (Ll ResultT)) (k j : Nat) : seen l2 k j ≤ tt l2 := by
  unfold seen
  by_cases hk : k < List.length l2
  · have hy : l2[k]? = some l2[k] := List.getElem?_eq_getElem hk
    rw [gd_at hy]
    have h1 := tt_take hy
    have h2 := tt_le l2 (k + 1)
    have h3 := tot_le l2[k].ls j
    omega
  · have e : List.getD l2 k default = default := by rw [List.getD_eq_getElem?_getD, List.getElem?_eq_none (by omega)]; rfl
    rw [e]
    have h2 := tt_le l2 k
    have h3 : tot (List.take j (default : Ll ResultT).ls) = 0 := by
      have : (default : Ll ResultT).ls = [] := rfl
      rw [this, List.take_nil]; rfl
    omega
theorem len_op {l l2 : List (Ll ResultT)} {i N m : Nat} {q : Row49D} (h : tt l ≤ m) (hm : m ≤ tt l2) (h2 : tt l2 ≤ N) (hq : l[i]? = some (Row49D.abs q)) : List.length q.ls ≤ N ∧ List.length (List.map ResultD.abs q.ls) ≤ N := by
  have h1 := tt_at (Nat.le_trans h (Nat.le_trans hm h2)) hq
  have h3 : List.length (List.map ResultD.abs q.ls) ≤ N := Nat.le_trans (tot_len _) h1
  exact ⟨by rw [List.length_map] at h3; exact h3, h3⟩
def FromOk (n : Nat) (q : List Int) : Prop := ∀ f ∈ q, 0 ≤ f ∧ f < ((n : Nat) : Int)
theorem lpG_inl {α ρ : Type} (a : α) (f : α → ρ) : lp (Sum.inl a) f = f a := rfl
theorem lpG_inr {α ρ : Type} (a : ρ) (f : α → ρ) : lp (Sum.inr a) f = a := rfl
theorem lpSG_inl {α σ ρ : Type} (a : α) (f : α → σ ⊕ ρ) : lpS (Sum.inl a) f = f a := rfl
theorem lpSG_inr {α σ ρ : Type} (a : ρ) (f : α → σ ⊕ ρ) : lpS (Sum.inr a) f = Sum.inr a := rfl
theorem chk1 (l0 : List OpD) (k : Nat) : ∀ q : List Int, (owner_checkParts_L1 l0 k q = .inl () ∧ ∀ f ∈ q, 0 ≤ f ∧ f < ((List.length l0 : Nat) : Int)) ∨ (owner_checkParts_L1 l0 k q = .inr 1 ∧ ∃ f ∈ q, f < 0 ∨ f ≥ ((List.length l0 : Nat) : Int))
  | [] => .inl ⟨by rw [owner_checkParts_L1], fun f hf => (by cases hf)⟩
  | x :: q => by
    rw [owner_checkParts_L1]
    by_cases c1 : x < 0
    · exact .inr ⟨by rw [if_pos c1], x, .head _, .inl c1⟩
    · by_cases c2 : x ≥ ((List.length l0 : Nat) : Int)
      · exact .inr ⟨by rw [if_neg c1, if_pos c2], x, .head _, .inr c2⟩
      · rw [if_neg c1, if_neg c2]
        rcases chk1 l0 k q with ⟨h1, h2⟩ | ⟨h1, f, h2, h3⟩
        · refine .inl ⟨h1, fun f hf => ?_⟩
          rcases List.mem_cons.1 hf with e | e
          · rw [e]; omega
          · exact h2 f e
        · exact .inr ⟨h1, f, .tail _ h2, h3⟩
def PartOk (l0 : List OpD) (x : PartT) (y : Ll ResultT) : Prop := List.length x.xOps.ls = List.length x.xFrom.ls ∧ List.length x.xOps.ls = List.length y.ls ∧ ∀ f ∈ x.xFrom.ls, 0 ≤ f ∧ f < ((List.length l0 : Nat) : Int)
theorem chk0 (l0 : List OpD) (l2 : List (Ll ResultT)) : ∀ (q : List PartT) (k : Nat), (owner_checkParts_L0 l0 l2 q k = .inl () ∧ ∀ (i : Nat) (x : PartT), q[i]? = some x → PartOk l0 x (List.getD l2 (k + i) default)) ∨ (owner_checkParts_L0 l0 l2 q k = .inr 1 ∧ ∃ (i : Nat) (x : PartT), q[i]? = some x ∧ ¬ PartOk l0 x (List.getD l2 (k + i) default))
  | [], k => .inl ⟨by rw [owner_checkParts_L0], fun i x h => by simp at h⟩
  | x :: q, k => by
    rw [owner_checkParts_L0]
    by_cases c1 : ((x.xOps.ls.length : Nat) : Int) = ((x.xFrom.ls.length : Nat) : Int)
    · rw [if_pos c1]
      simp only [bnd]
      by_cases c2 : ((x.xOps.ls.length : Nat) : Int) = (((List.getD l2 k default).ls.length : Nat) : Int)
      · rw [if_pos c2]
        rcases chk1 l0 k x.xFrom.ls with ⟨h1, h2⟩ | ⟨h1, f, h2, h3⟩
        · rw [h1, lpSG_inl]
          rcases chk0 l0 l2 q (k + 1) with ⟨g1, g2⟩ | ⟨g1, i, y, g2, g3⟩
          · refine .inl ⟨g1, fun i y hy => ?_⟩
            cases i with
            | zero =>
              simp only [List.getElem?_cons_zero, Option.some.injEq] at hy
              subst hy
              exact ⟨by omega, by rw [Nat.add_zero]; omega, h2⟩
            | succ i =>
              simp only [List.getElem?_cons_succ] at hy
              have := g2 i y hy
              rw [show k + 1 + i = k + (i + 1) by omega] at this
              exact this
          · exact .inr ⟨g1, i + 1, y, by simpa using g2, by rw [show k + (i + 1) = k + 1 + i by omega]; exact g3⟩
        · rw [h1, lpSG_inr]
          exact .inr ⟨rfl, 0, x, rfl, fun w => by have := w.2.2 f h2; omega⟩
      · rw [if_neg c2]
        exact .inr ⟨rfl, 0, x, rfl, fun w => c2 (by have := w.2.1; rw [Nat.add_zero] at this; omega)⟩
    · rw [if_neg c1]
      exact .inr ⟨rfl, 0, x, rfl, fun w => c1 (by have := w.1; omega)⟩
theorem chk (l0 : List OpD) (l1 : List PartT) (l2 : List (Ll ResultT)) : (owner_checkParts l0 l1 l2 = 0 ∧ List.length l2 = List.length l1 ∧ ∀ (i : Nat) (x : PartT), l1[i]? = some x → PartOk l0 x (List.getD l2 i default)) ∨ (owner_checkParts l0 l1 l2 = 1 ∧ ¬ (List.length l2 = List.length l1 ∧ ∀ (i : Nat) (x : PartT), l1[i]? = some x → PartOk l0 x (List.getD l2 i default))) := by
  unfold owner_checkParts
  by_cases c : ((l2.length : Nat) : Int) = ((l1.length : Nat) : Int)
  · rw [if_pos c]
    rcases chk0 l0 l2 l1 0 with ⟨h1, h2⟩ | ⟨h1, i, x, h2, h3⟩
    · exact .inl ⟨by rw [h1]; rfl, by omega, fun i x hx => by have := h2 i x hx; rw [Nat.zero_add] at this; exact this⟩
    · exact .inr ⟨by rw [h1]; rfl, fun w => h3 (by rw [Nat.zero_add]; exact w.2 i x h2)⟩
  · rw [if_neg c]
    exact .inr ⟨rfl, fun w => c (by omega)⟩
theorem chk_len {l0 : List OpD} {l1 : List PartT} {l2 : List (Ll ResultT)} {r : Int} (h : owner_checkParts l0 l1 l2 = r) : List.length l2 = List.length l1 ∨ ¬ r = 0 := by
  rcases chk l0 l1 l2 with ⟨_, h2, _⟩ | ⟨h1, _⟩
  · exact .inl h2
  · exact .inr (by rw [← h, h1]; decide)
theorem chk_at {l0 : List OpD} {l1 : List PartT} {l2 : List (Ll ResultT)} {r : Int} (h : owner_checkParts l0 l1 l2 = r) (h0 : r = 0) {i : Nat} {x : PartT} (hx : l1[i]? = some x) : PartOk l0 x (List.getD l2 i default) := by
  rcases chk l0 l1 l2 with ⟨_, _, h2⟩ | ⟨h1, _⟩
  · exact h2 i x hx
  · rw [h, h0] at h1; cases h1
end Go.Proofs.Ytcjjblkgbfaapaa
