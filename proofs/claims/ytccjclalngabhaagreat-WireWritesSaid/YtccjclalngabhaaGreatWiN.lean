/-
  Numbers and texts, written and read: the program's way and the reference's are one.
  Conditions: none beyond each law's own.
-/
import Derived.Test.YtccjclalngabhaaGreatWs
import Derived.Test.YtccjclalngabhaaGreatWx
import Derived.Test.YtccjclalngabhaaGreatWe
import Derived.Test.YtccjclalngabhaaGreatWiD
namespace Go.Proofs.YtccjclalngabhaaGreat
set_option linter.unusedVariables false
set_option linter.unusedSimpArgs false
def dec : List UInt8 → Nat
  | [] => 0
  | b :: r => b.toNat % 128 + 128 * dec r
theorem b_or128 (n : Nat) : (UInt8.ofNat n ||| (128 : UInt8)) = UInt8.ofNat (n % 128) + (128 : UInt8) := by
  have h : ∀ x : _root_.Fin 256, (UInt8.ofNat x.val ||| (128 : UInt8)) = UInt8.ofNat (x.val % 128) + (128 : UInt8) := by decide +kernel
  have e : UInt8.ofNat n = UInt8.ofNat (n % 256) := by
    apply UInt8.toNat_inj.1
    simp only [UInt8.toNat_ofNat']
    omega
  have h2 := h ⟨n % 256, Nat.mod_lt _ (by decide)⟩
  rw [e, h2]
  show UInt8.ofNat (n % 256 % 128) + _ = _
  rw [show n % 256 % 128 = n % 128 by omega]
theorem num_L : ∀ (f n : Nat) (l : List UInt8), n < f → (octet_Num_L0 f n l).2 ++ [UInt8.ofNat (octet_Num_L0 f n l).1] = l ++ r01_Num n
  | 0, n, l, h => absurd h (Nat.not_lt_zero _)
  | f + 1, n, l, h => by
    unfold octet_Num_L0
    by_cases c : ((n : Nat) : Int) ≥ 128
    · rw [if_pos c, num_L f (n / 128) _ (by omega), r01_Num_eq n, if_neg (by omega), bnd_eq, b_or128, List.append_assoc]
    · rw [if_neg c, r01_Num_eq n, if_pos (by omega)]
theorem num_eq (n : Nat) : octet_Num n = r01_Num n := by
  unfold octet_Num
  rw [bnd_eq, num_L (n + 1) n [] (by omega), List.nil_append]
theorem text_eq (s : List UInt8) : octet_Text s = r01_Text s := by
  unfold octet_Text r01_Text
  rw [num_eq]
end Go.Proofs.YtccjclalngabhaaGreat
