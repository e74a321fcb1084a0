/-
  The checks of buffers: the program's are the reference's.
  Conditions: none beyond each law's own.
-/
import Derived.Test.YtfkkipmdnjfocaaGreatNoW
namespace Go.Proofs.YtfkkipmdnjfocaaGreat
set_option linter.unusedVariables false
set_option linter.unusedSimpArgs false
theorem wr_eq2 (o : OpD) : op_Writes o = r04_Writes o := by
  unfold op_Writes r04_Writes
  by_cases h1 : o.xKind = 1
  · simp [h1]
  · by_cases h2 : o.xKind = 2
    · simp [h2]
    · by_cases h3 : o.xKind = 3
      · simp [h3]
      · by_cases h4 : o.xKind = 4
        · simp [h4]
        · by_cases h5 : o.xKind = 5
          · simp [h5]
          · simp [h1, h2, h3, h4, h5]
theorem bc_L (l : List EntryD) : ∀ (q : List EntryD) (k : Nat), buffer_Check_L0 l q k = r12_Check_L0 l q k
  | [], _ => rfl
  | x :: q, k => by
    unfold buffer_Check_L0 r12_Check_L0
    simp only [bnd_eq, co_eq, wr_eq2, bc_L l q, ge_iff_le]
theorem bc_eq (l : List EntryD) : buffer_Check l = r12_Check l := by
  unfold buffer_Check r12_Check
  rw [bc_L]
theorem rg_eq (p : stemT) (i : Int) : node_stem_rangeOf p i = r12_Range p.xpivots.ls i := rfl
end Go.Proofs.YtfkkipmdnjfocaaGreat
