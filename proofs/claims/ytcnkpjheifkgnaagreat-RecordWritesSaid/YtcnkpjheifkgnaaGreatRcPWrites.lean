/-
  RecordWrites of its arguments' values: which states may be, and their bytes: the program's answers are the document's.
  Conditions: none.
-/
import Derived.Test.YtcnkpjheifkgnaaGreatRcY
import Derived.Test.YtcnkpjheifkgnaaGreatRLW
namespace Go.Proofs.YtcnkpjheifkgnaaGreat
set_option linter.unusedVariables false
set_option linter.unusedSimpArgs false
theorem zu (p:bQ) (c:bI) (r:Bool):∀ n:Nat,dV p c r n= .inl ()
  | 0=>rfl
  | n+1=>by
    unfold dV
    simp only [aN,zT,zU,ut,uw]
    rw [if_neg (fun h=>h rfl),if_pos trivial,if_neg (fun h=>h rfl),if_pos trivial,if_pos trivial,if_pos trivial]
    exact zu p c r n
theorem sW (p:bQ) (c:bI):mO p c=true:=by
  unfold mO
  rw [vZ,aN,zu p c true 2]
  rfl
end Go.Proofs.YtcnkpjheifkgnaaGreat
