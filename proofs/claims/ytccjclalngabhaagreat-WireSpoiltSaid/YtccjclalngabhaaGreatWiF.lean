/-
  Datagrams: what was sealed is opened as it was; what is opened was sealed so.
  Conditions: none beyond each one's own.
-/
import Derived.Test.YtccjclalngabhaaGreatWiV
namespace Go.Proofs.YtccjclalngabhaaGreat
set_option linter.unusedVariables false
set_option linter.unusedSimpArgs false
theorem wrap32N (n : Nat) : Int.toNat (IntKind.u32.wrap ((n : Nat) : Int)) = n % 4294967296 := by
  simp only [IntKind.wrap, IntKind.signed, IntKind.bits]; simp; omega
theorem bOr32_eq (a b : Nat) (ha : a < 4294967296) (hb : b < 4294967296) : bOr32 a b = a ||| b := by
  have h : a ||| b < 2 ^ 32 := Nat.or_lt_two_pow (by omega) (by omega)
  have e : (BitVec.ofInt 32 (a : Int) ||| BitVec.ofInt 32 (b : Int)).toNat = a ||| b := by
    rw [BitVec.toNat_or, BitVec.toNat_ofInt, BitVec.toNat_ofInt]
    rw [show ((a : Int) % ((2 ^ 32 : Nat) : Int)).toNat = a by omega, show ((b : Int) % ((2 ^ 32 : Nat) : Int)).toNat = b by omega]
  unfold bOr32
  rw [e, wrap32N]
  omega
theorem or_add (a b i : Nat) (ha : a < 2 ^ i) : a ||| (b * 2 ^ i) = a + b * 2 ^ i := by
  rw [Nat.or_comm, Nat.add_comm, ← Nat.shiftLeft_eq, Nat.shiftLeft_add_eq_or_of_lt ha]
theorem shl32_eq (a k : Nat) (hk : k ≤ 32) (h : a * 2 ^ k < 4294967296) : bShl32 a k = a * 2 ^ k := by
  unfold bShl32
  rw [Nat.min_eq_left hk, show ((a : Int) * 2 ^ k) = ((a * 2 ^ k : Nat) : Int) by rw [Int.natCast_mul, Int.natCast_pow]; rfl, wrap32N]
  omega
theorem fix4 (a b c d : UInt8) : bOr32 (bOr32 (bOr32 a.toNat (bShl32 b.toNat 8)) (bShl32 c.toNat 16)) (bShl32 d.toNat 24) = a.toNat + b.toNat * 256 + c.toNat * 65536 + d.toNat * 16777216 := by
  have h1 := UInt8.toNat_lt a
  have h2 := UInt8.toNat_lt b
  have h3 := UInt8.toNat_lt c
  have h4 := UInt8.toNat_lt d
  rw [shl32_eq b.toNat 8 (by omega) (by omega), shl32_eq c.toNat 16 (by omega) (by omega), shl32_eq d.toNat 24 (by omega) (by omega)]
  rw [bOr32_eq a.toNat _ (by omega) (by omega), or_add a.toNat b.toNat 8 (by omega)]
  rw [bOr32_eq (a.toNat + b.toNat * 2 ^ 8) (c.toNat * 2 ^ 16) (by omega) (by omega), or_add (a.toNat + b.toNat * 2 ^ 8) c.toNat 16 (by omega)]
  rw [bOr32_eq (a.toNat + b.toNat * 2 ^ 8 + c.toNat * 2 ^ 16) (d.toNat * 2 ^ 24) (by omega) (by omega), or_add (a.toNat + b.toNat * 2 ^ 8 + c.toNat * 2 ^ 16) d.toNat 24 (by omega)]
theorem b8 (n : Nat) : (UInt8.ofNat n).toNat = n % 256 := by simp only [UInt8.toNat_ofNat']
theorem rf_f (s : Nat) (h : s ≤ 4294967295) : octet_ReadFixed [UInt8.ofNat s, UInt8.ofNat (s / 256), UInt8.ofNat (s / 65536), UInt8.ofNat (s / 16777216)] = (s, 0) := by
  unfold octet_ReadFixed
  simp only [List.length_cons, List.length_nil]
  rw [if_neg (by omega)]
  simp only [bnd_eq, List.getD_cons_zero, List.getD_cons_succ]
  rw [fix4, b8, b8, b8, b8]
  exact Prod.ext (by dsimp only; omega) rfl
theorem rf_b (l : List UInt8) (hl : List.length l = 4) : (octet_ReadFixed l).2 = 0 ∧ l = [UInt8.ofNat (octet_ReadFixed l).1, UInt8.ofNat ((octet_ReadFixed l).1 / 256), UInt8.ofNat ((octet_ReadFixed l).1 / 65536), UInt8.ofNat ((octet_ReadFixed l).1 / 16777216)] := by
  match l, hl with
  | [a, b, c, d], _ =>
    unfold octet_ReadFixed
    simp only [List.length_cons, List.length_nil]
    rw [if_neg (by omega)]
    simp only [bnd_eq, List.getD_cons_zero, List.getD_cons_succ]
    rw [fix4]
    have h1 := UInt8.toNat_lt a
    have h2 := UInt8.toNat_lt b
    have h3 := UInt8.toNat_lt c
    have h4 := UInt8.toNat_lt d
    refine ⟨trivial, ?_⟩
    have e : ∀ (x : UInt8) (n : Nat), n % 256 = x.toNat → x = UInt8.ofNat n := fun x n h => UInt8.toNat_inj.1 (by rw [b8]; exact h.symm)
    rw [← e a _ (by omega), ← e b _ (by omega), ← e c _ (by omega), ← e d _ (by omega)]
theorem num_2 {n : Nat} (h : n ≤ 16383) : List.length (octet_Num n) ≤ 2 := by
  rw [num_eq]
  obtain ⟨n1, n2, n3, n4⟩ := num_props n
  rcases Nat.lt_or_ge 2 (List.length (r01_Num n)) with hl | hl
  · exfalso
    obtain ⟨d1, d2, d3⟩ := dec_lt _ n2
    have hp : 0 < n := Nat.pos_of_ne_zero fun e => by have := n4 e; omega
    have h3 := n3 hp
    have : (128 : Nat) ^ 2 ≤ 128 ^ (List.length (r01_Num n) - 1) := Nat.pow_le_pow_right (by decide) (by omega)
    have h5 : 1 * 128 ^ 2 ≤ lst (r01_Num n) * 128 ^ (List.length (r01_Num n) - 1) := Nat.mul_le_mul (by omega) this
    omega
  · exact hl
theorem num_1 (n : Nat) (h : n ≤ 18446744073709551615) : 1 ≤ List.length (octet_Num n) := by rw [num_eq]; exact (num_len n h).1
theorem sum_le (l : List UInt8) : octet_Sum l ≤ 4294967295 := Nat.le_of_lt_succ (Z.sum_lt l)
theorem seal_of (l : List UInt8) (h : List.length l ≤ 4096) : frame_Seal l = ((([83] ++ octet_Num (List.length l)) ++ l) ++ [UInt8.ofNat (octet_Sum (([83] ++ octet_Num (List.length l)) ++ l)), UInt8.ofNat (octet_Sum (([83] ++ octet_Num (List.length l)) ++ l) / 256), UInt8.ofNat (octet_Sum (([83] ++ octet_Num (List.length l)) ++ l) / 65536), UInt8.ofNat (octet_Sum (([83] ++ octet_Num (List.length l)) ++ l) / 16777216)], 0) := by
  unfold frame_Seal
  rw [if_neg (by omega)]
  rfl
theorem seal_len (l : List UInt8) (h : List.length l ≤ 4096) : List.length (frame_Seal l).1 ≤ 4103 := by
  rw [seal_of l h]
  have := num_2 (n := List.length l) (by omega)
  simp only [List.length_append, List.length_cons, List.length_nil]
  omega
theorem open_f (l : List UInt8) (h : List.length l ≤ 4096) : frame_Open (frame_Seal l).1 = (l, 0) := by
  have hn2 := num_2 (n := List.length l) (by omega)
  have hn1 := num_1 (List.length l) (by omega)
  rw [seal_of l h]
  generalize hB : ([83] ++ octet_Num (List.length l)) ++ l = B
  have hs := sum_le B
  generalize hS : octet_Sum B = s at hs
  have hlB : List.length B = 1 + List.length (octet_Num (List.length l)) + List.length l := by rw [← hB, List.length_append, List.length_append]; rfl
  generalize hF : [UInt8.ofNat s, UInt8.ofNat (s / 256), UInt8.ofNat (s / 65536), UInt8.ofNat (s / 16777216)] = F4
  have hlF : List.length F4 = 4 := by rw [← hF]; rfl
  have hl : List.length (B ++ F4) - 4 = List.length B := by rw [List.length_append, hlF]; omega
  have hl' : List.length (B ++ F4) = List.length B + 4 := by rw [List.length_append, hlF]
  show frame_Open (B ++ F4) = (l, 0)
  have hr : octet_ReadFixed F4 = (s, 0) := by rw [← hF]; exact rf_f s hs
  have hd : List.drop 1 B = octet_Num (List.length l) ++ l := by rw [← hB]; rfl
  have hg : List.getD B 0 default = (83 : UInt8) := by rw [← hB]; rfl
  have hz : Int.toNat (1 + ((List.length (octet_Num (List.length l)) : Nat) : Int)) = 1 + List.length (octet_Num (List.length l)) := by omega
  unfold frame_Open
  rw [if_neg (by rw [hl']; omega), if_neg (by rw [hl']; omega)]
  simp only [bnd_eq]
  rw [hl, List.drop_left, List.take_left, hr]
  dsimp only
  rw [if_pos rfl, hS, if_pos rfl, hg, if_pos (by decide), hd, rn_f _ _ (by omega)]
  dsimp only
  rw [if_pos rfl, hz, if_pos (by rw [hlB]; omega), if_neg (by omega)]
  have hx : List.drop (1 + List.length (octet_Num (List.length l))) B = l := by
    rw [← List.drop_drop, hd, List.drop_left]
  rw [hx, show List.length B - (1 + List.length (octet_Num (List.length l))) = List.length l by omega, List.take_of_length_le (Nat.le_refl _)]
end Go.Proofs.YtccjclalngabhaaGreat
