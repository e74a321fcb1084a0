/-
  Bits; a slice that is made with room; a string's bytes behind a row.
  Conditions: none beyond each law's own.
-/
import Derived.Test.YtcjjblkgbfaapaaKp
namespace Go.Proofs.Ytcjjblkgbfaapaa
set_option linter.unusedVariables false
set_option linter.unusedSimpArgs false
open Go.RowKit
section
variable {P : Program} {n : Nat} {F : List (Nat × Value)} {w0 w : World} {D : Nat → Prop} {L : List HP} {op : Op} {ty : TypeId} {v : Value} {K : Value → World → Prop} {x y : Operand} {T t : TypeId} {xs vs ys news : List Value}
def NumInv (l n : Nat) : Prop := n * 128 ^ l ≤ 18446744073709551615
theorem NumInv.zero {n : Nat} (h : n ≤ 18446744073709551615) : NumInv 0 n := by unfold NumInv; omega
theorem NumInv.step {l l' n : Nat} (h : NumInv l n) (hl : l' = l + 1) : NumInv l' (n / 128) := by
  subst hl
  unfold NumInv at *
  rw [Nat.pow_succ, Nat.mul_comm (128 ^ l) 128, ← Nat.mul_assoc]
  exact Nat.le_trans (Nat.mul_le_mul_right _ (Nat.div_mul_le_self n 128)) h
theorem NumInv.le {l n : Nat} (h : NumInv l n) (hn : 128 ≤ n) : l ≤ 8 := by
  unfold NumInv at h
  rcases Nat.lt_or_ge 8 l with h8 | h8
  · have h1 : 128 ^ 9 ≤ 128 ^ l := Nat.pow_le_pow_right (by decide) h8
    have h2 : 128 * 128 ^ 9 ≤ n * 128 ^ l := Nat.mul_le_mul hn h1
    have h3 : 128 * 128 ^ 9 = 1180591620717411303424 := by decide
    omega
  · exact h8
def RecN (n l : Nat) : Prop := 1 ≤ l ∧ ∀ k, n < 128 ^ k * 128 → l ≤ k + 1
theorem RecN.one {n l : Nat} (h : l = 1) : RecN n l := ⟨by omega, fun k _ => by omega⟩
theorem RecN.step {n l l' : Nat} (hn : ¬ n < 128) (h : RecN (n / 128) l) (hl : l' = l + 1) : RecN n l' :=
  ⟨by omega, fun k hk => by
    cases k with
    | zero => omega
    | succ k =>
      have h1 : n / 128 < 128 ^ k * 128 := Nat.div_lt_of_lt_mul (by rw [Nat.pow_succ] at hk; omega)
      have := h.2 k h1
      omega⟩
end
end Go.Proofs.Ytcjjblkgbfaapaa
