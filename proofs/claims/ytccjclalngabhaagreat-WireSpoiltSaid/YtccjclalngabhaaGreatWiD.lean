/-
  Which messages may be: the program and the document's answer say the same.
  Conditions: numbers of 64 bits.
-/
import Derived.Test.YtccjclalngabhaaGreatWiC
import Derived.Test.YtccjclalngabhaaGreatSpanM
namespace Go.Proofs.YtccjclalngabhaaGreat
set_option linter.unusedVariables false
set_option linter.unusedSimpArgs false
def Lets (l : List UInt8) : Prop := l.all (fun y => [113, 98, 116, 108, 118, 101, 109, 97, 110, 99, 112, 102, 114, 111, 115, 119].contains y) = true
theorem Lets.ip {c : Prop} [Decidable c] {a b : List UInt8} (ha : Lets a) (hb : Lets b) : Lets (if c then a else b) := by by_cases h : c <;> simp only [h, if_true, if_false] <;> assumption
theorem wrapN (n : Nat) : Int.toNat (IntKind.u64.wrap ((n : Nat) : Int)) = n % 18446744073709551616 := by
  simp only [IntKind.wrap, IntKind.signed, IntKind.bits]; simp; omega
theorem bOr64_eq (a b : Nat) (ha : a < 18446744073709551616) (hb : b < 18446744073709551616) : bOr64 a b = a ||| b := by
  have h : a ||| b < 2 ^ 64 := Nat.or_lt_two_pow (by omega) (by omega)
  have e : (BitVec.ofInt 64 (a : Int) ||| BitVec.ofInt 64 (b : Int)).toNat = a ||| b := by
    rw [BitVec.toNat_or, BitVec.toNat_ofInt, BitVec.toNat_ofInt]
    rw [show ((a : Int) % ((2 ^ 64 : Nat) : Int)).toNat = a by omega, show ((b : Int) % ((2 ^ 64 : Nat) : Int)).toNat = b by omega]
  unfold bOr64
  rw [e, wrapN]
  omega
theorem or_z {a b : Nat} (ha : a ≤ 18446744073709551615) (hb : b ≤ 18446744073709551615) : bOr64 a b = 0 ↔ a = 0 ∧ b = 0 := by
  rw [bOr64_eq a b (by omega) (by omega), Nat.or_eq_zero_iff]
theorem s4 {p : Prop} [Decidable p] {r : Bool} : (if p then r else false) = true ↔ p ∧ r = true := by by_cases p <;> simp [*]
theorem bl_iff {m : MsgT} (hn : m.xReq ≤ 18446744073709551615 ∧ m.xBoot ≤ 18446744073709551615 ∧ m.xTxn ≤ 18446744073709551615 ∧ m.xLow ≤ 18446744073709551615 ∧ m.xVer ≤ 18446744073709551615 ∧ m.xEpoch ≤ 18446744073709551615 ∧ m.xMove ≤ 18446744073709551615 ∧ m.xAttempt ≤ 18446744073709551615 ∧ m.xN ≤ 18446744073709551615) : wire_blank m = true ↔ ((m.xReq = 0 ∧ m.xBoot = 0 ∧ m.xTxn = 0 ∧ m.xLow = 0 ∧ m.xVer = 0 ∧ m.xEpoch = 0 ∧ m.xMove = 0 ∧ m.xAttempt = 0 ∧ m.xN = 0) ∧ (m.xOps.ls = [] ∧ m.xResults.ls = [] ∧ m.xOwners.ls = []) ∧ m.xClient = 0 ∧ m.xCode = 0 ∧ m.xPeer = 0 ∧ m.xFlag = false ∧ m.xRange.xLo = [] ∧ m.xRange.xHi = []) := by
  unfold wire_blank
  rw [s4, s4, s4, s4, s4]
  obtain ⟨n1, n2, n3, n4, n5, n6, n7, n8, n9⟩ := hn
  have e : (((bOr64 (bOr64 (bOr64 (bOr64 (bOr64 (bOr64 (bOr64 (bOr64 m.xReq m.xBoot) m.xTxn) m.xLow) m.xVer) m.xEpoch) m.xMove) m.xAttempt) m.xN : Nat) : Int) = 0) ↔ m.xReq = 0 ∧ m.xBoot = 0 ∧ m.xTxn = 0 ∧ m.xLow = 0 ∧ m.xVer = 0 ∧ m.xEpoch = 0 ∧ m.xMove = 0 ∧ m.xAttempt = 0 ∧ m.xN = 0 := by
    rw [show ∀ z : Nat, ((z : Int) = 0) = (z = 0) from fun z => propext (by omega)]
    rw [or_z (bOr64_le _ _) (by omega), or_z (bOr64_le _ _) (by omega), or_z (bOr64_le _ _) (by omega), or_z (bOr64_le _ _) (by omega), or_z (bOr64_le _ _) (by omega), or_z (bOr64_le _ _) (by omega), or_z (bOr64_le _ _) (by omega), or_z (by omega) (by omega)]
    simp only [and_assoc]
  rw [e]
  have e2 : (((m.xOps.ls.length + m.xResults.ls.length) + m.xOwners.ls.length : Nat) : Int) = 0 ↔ m.xOps.ls = [] ∧ m.xResults.ls = [] ∧ m.xOwners.ls = [] := by
    constructor
    · intro h
      exact ⟨List.eq_nil_of_length_eq_zero (by omega), List.eq_nil_of_length_eq_zero (by omega), List.eq_nil_of_length_eq_zero (by omega)⟩
    · rintro ⟨h1, h2, h3⟩
      rw [h1, h2, h3]; rfl
  rw [e2]
  cases hf : m.xFlag <;> simp
theorem s1 {h : Bool} {x : Nat} {r : Bool} : (if (if h = true then false else decide (¬ ((x : Nat) : Int) = 0)) = true then false else r) = true ↔ (h = true ∨ x = 0) ∧ r = true := by
  cases h
  · by_cases e : x = 0
    · subst e; simp
    · have : ¬ ((x : Nat) : Int) = 0 := by omega
      simp [e, this]
  · simp
theorem s2 {e h d : Bool} : (if e = true then (if h = true then true else d) else false) = true ↔ e = true ∧ (h = true ∨ d = true) := by cases e <;> cases h <;> simp
theorem s3 {p : Prop} [Decidable p] {h d : Bool} : (if p then (if h = true then true else d) else false) = true ↔ p ∧ (h = true ∨ d = true) := by by_cases p <;> cases h <;> simp [*]
end Go.Proofs.YtccjclalngabhaaGreat
