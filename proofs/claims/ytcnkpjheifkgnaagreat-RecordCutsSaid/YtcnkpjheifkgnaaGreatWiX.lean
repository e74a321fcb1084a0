/-
  A shift by a number that varies.
  Conditions: none.
-/
import Derived.Test.YtcnkpjheifkgnaaGreatKy
namespace Go.Proofs.YtcnkpjheifkgnaaGreat
open Go.RowKit
section
variable {P:Program} {n:Nat} {F:List (Nat × Value)} {w:World} {ty:TypeId} {x y:Operand}
theorem Yl.remI {T yt:TypeId} {a:Int} {b:Nat} (hx:ev F x=some (.int .i64 a)) (hy:ev F y=some (.int .i64 ((b:Nat):Int))) (hb:0 < b):Yl P n F w (.binOp .rem T x y yt) ty (.int .i64 (remI a b)):=
  zD hx hy (fun _ _=>rfl) (by rw [binOp_rem]; unfold Op.intDiv; rw [if_neg (by omega)]; rfl)
end
end Go.Proofs.YtcnkpjheifkgnaaGreat
