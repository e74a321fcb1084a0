/-
 wire: the document's answer, bytes.
-/
import Derived.Test.YtccjclalngabhaaGreatWiC
namespace Go.Proofs.YtccjclalngabhaaGreat
open Go.RowKit
set_option linter.unusedVariables false
set_option linter.unusedSectionVars false
set_option linter.unusedSimpArgs false
def r01_Num (p0 : Nat) : (List UInt8) :=
 if p0 < 128 then [(UInt8.ofNat p0)] else bnd (r01_Num (p0 / 128)) fun yr34 => ([((UInt8.ofNat (p0 % 128)) + (128 : UInt8))] ++ yr34)
 termination_by p0
 decreasing_by all_goals omega
theorem r01_Num_eq (p0 : Nat) : r01_Num p0 = if ((p0 : Nat) : Int) < 128 then [(UInt8.ofNat p0)] else bnd (r01_Num (p0 / 128)) fun yr34 => ([((UInt8.ofNat (p0 % 128)) + (128 : UInt8))] ++ yr34) := by
 rw [r01_Num.eq_1 p0]
 by_cases h9 : p0 < 128
 · rw [ip h9, ip (by omega)]
 · rw [iN h9, iN (by omega)]
end Go.Proofs.YtccjclalngabhaaGreat
