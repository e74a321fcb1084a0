/-
 record: the document's numbers and texts.
-/
import Derived.Test.YtcnkpjheifkgnaaGreatRcA
namespace Go.Proofs.YtcnkpjheifkgnaaGreat
open Go.RowKit
set_option linter.unusedVariables false
set_option linter.unusedSectionVars false
set_option linter.unusedSimpArgs false
def dQ (a:Nat):(List UInt8):=
 if a < 128 then [(UInt8.ofNat a)] else bnd (dQ (a / 128)) fun b=>([((UInt8.ofNat (a % 128))+(128:UInt8))]++b)
 termination_by a
 decreasing_by all_goals omega
theorem kv (a:Nat):dQ a=if((a:Nat):Int) < 128 then [(UInt8.ofNat a)] else bnd (dQ (a / 128)) fun b=>([((UInt8.ofNat (a % 128))+(128:UInt8))]++b):=by
 rw [dQ.eq_1 a]
 by_cases c:a < 128
 · rw [ip c,ip (by omega)]
 · rw [iN c,iN (by omega)]
end Go.Proofs.YtcnkpjheifkgnaaGreat
