/-
  What a cut, and operations done, tell of owners and maps. Conditions: none beyond each law's own.
-/
import Derived.Test.YtcjjblkgbfaapaaGaL
import Derived.Test.YtcjjblkgbfaapaaWoN
namespace Go.Proofs.Ytcjjblkgbfaapaa
set_option linter.unusedVariables false
set_option linter.unusedSimpArgs false
theorem cut_chk {l : List OwnerD} {o : List OpD} {r : List PartT} {e : Int} (h : owner_Cut l o = (r, e)) : owner_Check l = 0 ∨ ¬ e = 0 := by
  by_cases c : owner_Check l = 0
  · exact .inl c
  · refine .inr ?_
    unfold owner_Cut at h
    simp only [bnd] at h
    rw [if_neg c] at h
    injection h with _ h2
    rw [← h2]; exact c
theorem app_chk {m : List PairD} {o : List OpD} {a : List PairD} {b : List ResultT} {e : Int} (h : op_Apply m o = (a, b, e)) : op_CheckMap m = 0 ∨ ¬ e = 0 := by
  by_cases c : op_CheckMap m = 0
  · exact .inl c
  · refine .inr ?_
    unfold op_Apply at h
    simp only [bnd] at h
    rw [if_neg c] at h
    injection h with _ h2
    injection h2 with _ h3
    rw [← h3]; exact c
theorem key_len {m : List PairD} {i : Nat} {x : PairD} (h : op_CheckMap m = 0) (hx : m[i]? = some x) : 1 ≤ List.length x.xKey ∧ List.length x.xKey ≤ 12 := by
  have := (cm_ok.1 h).1 x (List.mem_of_getElem? hx)
  exact this.1
end Go.Proofs.Ytcjjblkgbfaapaa
