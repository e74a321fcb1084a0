/-
  A shift by a number that varies.
  Conditions: none.
-/
import Derived.Test.YtcjjblkgbfaapaaKy
namespace Go.Proofs.Ytcjjblkgbfaapaa
open Go.RowKit
theorem shr_var (n m : Nat) : Int.fdiv (n : Int) (2 ^ (min m IntKind.u32.bits)) = ((n / 2 ^ (min m 32) : Nat) : Int) := shr_nat n (min m 32) _ (by rw [Int.natCast_pow]; rfl)
theorem tdivT {x : Int} {n : Nat} (h : 0 ≤ x) : Int.tdiv x (n : Int) = ((Int.toNat x / n : Nat) : Int) := by
  conv => lhs; rw [← Int.toNat_of_nonneg h]
  rfl
theorem tmodT {x : Int} {n : Nat} (h : 0 ≤ x) : Int.tmod x (n : Int) = ((Int.toNat x % n : Nat) : Int) := by
  conv => lhs; rw [← Int.toNat_of_nonneg h]
  rfl
section
variable {P : Program} {n : Nat} {F : List (Nat × Value)} {w : World} {ty : TypeId} {x y : Operand}
theorem Yl.remI {T yt : TypeId} {a : Int} {b : Nat} (hx : ev F x = some (.int .i64 a)) (hy : ev F y = some (.int .i64 ((b : Nat) : Int))) (hb : 0 < b) : Yl P n F w (.binOp .rem T x y yt) ty (.int .i64 (remI a b)) :=
  Yl.bin hx hy (fun _ _ => rfl) (by rw [binOp_rem]; unfold Op.intDiv; rw [if_neg (by omega)]; rfl)
end
end Go.Proofs.Ytcjjblkgbfaapaa
