/-
  A message is the same as itself; the chapter's examples.
  Conditions: none.
-/
import Derived.Test.YtccjclalngabhaaGreatWl
import Derived.Test.YtccjclalngabhaaGreatWiO
import Derived.Test.YtccjclalngabhaaGreatWiK
import Derived.Test.YtccjclalngabhaaGreatWiD
import Derived.Test.YtccjclalngabhaaGreatWs
namespace Go.Proofs.YtccjclalngabhaaGreat
set_option linter.unusedVariables false
set_option linter.unusedSimpArgs false
set_option maxRecDepth 100000 in
theorem live_true : w18_live = true := by decide +kernel
theorem drop_cons {α : Type} [Inhabited α] {l q : List α} {x : α} {k : Nat} (h : List.drop k l = x :: q) : List.getD l k default = x ∧ List.drop (k + 1) l = q := by
  have e : l[k]? = some x := by
    have e : (List.drop k l)[0]? = some x := by rw [h]; rfl
    rwa [List.getElem?_drop, Nat.add_zero] at e
  refine ⟨getD_of e, ?_⟩
  rw [← List.drop_drop, h]
  rfl
theorem so_L (l : List OpD) : ∀ (q : List OpD) (k : Nat), List.drop k l = q → r04_SameOps_L0 l q k = .inl ()
  | [], k, _ => rfl
  | x :: q, k, h => by
    obtain ⟨h1, h2⟩ := drop_cons h
    rw [r04_SameOps_L0, bnd_eq, h1]
    rw [if_pos ⟨rfl, rfl, rfl, rfl, rfl, rfl⟩]
    exact so_L l q (k + 1) h2
theorem so_r (l : List OpD) : r04_SameOps l l = true := by
  unfold r04_SameOps
  rw [if_pos rfl, so_L l l 0 rfl]
  rfl
theorem sm_L (l : List PairD) : ∀ (q : List PairD) (k : Nat), List.drop k l = q → r04_SameMap_L0 l q k = .inl ()
  | [], k, _ => rfl
  | x :: q, k, h => by
    obtain ⟨h1, h2⟩ := drop_cons h
    rw [r04_SameMap_L0, bnd_eq, h1]
    rw [if_pos ⟨rfl, rfl⟩]
    exact sm_L l q (k + 1) h2
theorem sm_r (l : List PairD) : r04_SameMap l l = true := by
  unfold r04_SameMap
  rw [if_pos rfl, sm_L l l 0 rfl]
  rfl
theorem sr_L (l : List ResultT) : ∀ (q : List ResultT) (k : Nat), List.drop k l = q → r04_SameResults_L0 l q k = .inl ()
  | [], k, _ => rfl
  | x :: q, k, h => by
    obtain ⟨h1, h2⟩ := drop_cons h
    rw [r04_SameResults_L0, bnd_eq, h1]
    rw [if_pos rfl, if_neg (by simp), bnd_eq, sm_r, if_pos rfl]
    exact sr_L l q (k + 1) h2
theorem sr_r (l : List ResultT) : r04_SameResults l l = true := by
  unfold r04_SameResults
  rw [if_pos rfl, sr_L l l 0 rfl]
  rfl
theorem sw_L (l : List OwnerD) : ∀ (q : List OwnerD) (k : Nat), List.drop k l = q → r17_Same_L0 l q k = .inl ()
  | [], k, _ => rfl
  | x :: q, k, h => by
    obtain ⟨h1, h2⟩ := drop_cons h
    rw [r17_Same_L0, bnd_eq, h1]
    rw [if_pos ⟨rfl, rfl⟩]
    exact sw_L l q (k + 1) h2
theorem sw_r (l : List OwnerD) : r17_Same l l = true := by
  unfold r17_Same
  rw [if_pos rfl, sw_L l l 0 rfl]
  rfl
theorem same_r (m : MsgT) : r18_Same m m = true := by
  unfold r18_Same
  simp only [bnd_eq, so_r, sr_r, sw_r, if_true, decide_true, and_self]
theorem nums_of {w : World} {a : MsgD} (h : MsgD.Ok w a) : nums (MsgD.abs a) := by
  obtain ⟨_, _, _, _, _, _, n1, n2, n3, n4, n5, n6, n7, n8, n9, _⟩ := h
  exact ⟨n1, n2, n3, n4, n5, n6, n7, n8, n9⟩
end Go.Proofs.YtccjclalngabhaaGreat
