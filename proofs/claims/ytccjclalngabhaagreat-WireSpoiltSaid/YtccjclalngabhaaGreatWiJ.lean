/-
  A message's datagram whose bits were turned within 32 side by side: its sum is not right.
  Conditions: numbers of 64 bits, a burst of 32.
-/
import Derived.Test.YtccjclalngabhaaGreatWiH
import Derived.Test.YtccjclalngabhaaGreatBurst
import Derived.Test.YtccjclalngabhaaGreatFrM
import Derived.Test.YtccjclalngabhaaGreatWSpoilt
import Derived.Test.YtccjclalngabhaaGreatWiE
namespace Go.Proofs.YtccjclalngabhaaGreat
set_option linter.unusedVariables false
set_option linter.unusedSimpArgs false
theorem bAnd32_1 (a : Nat) (ha : a < 4294967296) : bAnd32 a 1 = a % 2 := by
  have e : (BitVec.ofInt 32 (a : Int) &&& BitVec.ofInt 32 ((1 : Nat) : Int)).toNat = a % 2 := by
    rw [BitVec.toNat_and, BitVec.toNat_ofInt, BitVec.toNat_ofInt]
    rw [show ((a : Int) % ((2 ^ 32 : Nat) : Int)).toNat = a by omega, show (((1 : Nat) : Int) % ((2 ^ 32 : Nat) : Int)).toNat = 1 by decide]
    exact Nat.and_one_is_mod a
  unfold bAnd32
  rw [e, wrap32N]
  omega
theorem bit_iff {b k : Nat} (hb : b < 4294967296) (hk : k ≤ 32) : (((bAnd32 (b / 2 ^ (min k 32)) 1 : Nat) : Int) = 1) ↔ b.testBit k = true := by
  have h1 : b / 2 ^ k ≤ b := Nat.div_le_self _ _
  rw [Nat.min_eq_left hk, bAnd32_1 _ (by omega), Nat.testBit_eq_decide_div_mod_eq, decide_eq_true_eq]
  omega
theorem set_bit (y : UInt8) (r : Nat) (h : r < 8) : (y ^^^ u8I (1 * 2 ^ (min r IntKind.u8.bits))).toNat = y.toNat ^^^ 2 ^ r := by
  have hb : IntKind.u8.bits = 8 := rfl
  have e : (1 * 2 ^ (min r IntKind.u8.bits) : Int) = ((2 ^ r : Nat) : Int) := by rw [hb, Nat.min_eq_left (by omega), Int.one_mul, Int.natCast_pow]; rfl
  have h2 : 2 ^ r ≤ 2 ^ 7 := Nat.pow_le_pow_right (by decide) (show r ≤ 7 by omega)
  rw [UInt8.toNat_xor, e]
  generalize 2 ^ r = z at h2
  have := u8a (x := ((z : Nat) : Int)) (by omega) (by omega)
  rw [show (u8I ((z : Nat) : Int)).toNat = z by omega]
theorem sp_L (a : Int) (b : Nat) (B : List UInt8) {p : Nat} (hp : remI ((remI a (8 * B.length)) + ((8 * B.length : Nat) : Int)) (8 * B.length) = ((p : Nat) : Int)) (hb : b < 4294967296) :
    ∀ (q k : Nat) (t : Bool) (ys : List UInt8), k + q = 32 → p + k ≤ 8 * B.length → B.length = ys.length → Z.word B ^^^ Z.word ys = 2 ^ p * (b % 2 ^ k) → t = decide (b % 2 ^ k ≠ 0) →
    ∃ k' ys', k' ≤ 32 ∧ p + k' ≤ 8 * B.length ∧ w18_WireSpoilt_L0 a b B q t k ys = (decide (b % 2 ^ k' ≠ 0), ys') ∧ B.length = ys'.length ∧ Z.word B ^^^ Z.word ys' = 2 ^ p * (b % 2 ^ k')
  | 0, k, t, ys, hk, hpk, hl, hw, ht => ⟨k, ys, by omega, hpk, by rw [ht]; rfl, hl, hw⟩
  | q + 1, k, t, ys, hk, hpk, hl, hw, ht => by
    unfold w18_WireSpoilt_L0
    rw [hp]
    by_cases c : ((p : Nat) : Int) + ((k : Nat) : Int) < ((8 * B.length : Nat) : Int)
    · rw [if_pos c]
      have hi : Int.toNat (((p : Nat) : Int) + ((k : Nat) : Int)) = p + k := by omega
      rw [hi]
      have hix : (p + k) / 8 < ys.length := by omega
      cases hbit : b.testBit k with
      | true =>
        rw [if_pos ((bit_iff hb (by omega)).2 hbit), bnd_eq]
        have hg : List.getD ys ((p + k) / 8) default = ys[(p + k) / 8] := by rw [List.getD_eq_getElem?_getD, List.getElem?_eq_getElem hix]; rfl
        rw [hg]
        refine sp_L a b B hp hb q (k + 1) true _ (by omega) (by omega) (by rw [List.length_set]; exact hl) ?_ ?_
        · exact Z.burst_step hw hbit hix (set_bit _ _ (by omega))
        · exact (decide_eq_true (Z.burst_ne hbit)).symm
      | false =>
        rw [if_neg (fun h => by rw [(bit_iff hb (by omega)).1 h] at hbit; cases hbit)]
        refine sp_L a b B hp hb q (k + 1) t ys (by omega) (by omega) hl ?_ ?_
        · rw [Z.burst_zero hbit]; exact hw
        · rw [Z.burst_zero hbit]; exact ht
    · rw [if_neg c]
      exact ⟨k, ys, by omega, hpk, by rw [ht], hl, hw⟩
theorem open_50 {l : List UInt8} (h6 : 6 ≤ List.length l) (h7 : List.length l ≤ 4103) (hs : Z.sum32 l ≠ Z.res) : (frame_Open l).2 = 50 := by
  unfold frame_Open
  rw [if_neg (by omega), if_neg (by omega)]
  simp only [bnd_eq]
  have hsp : List.take (List.length l - 4) l ++ List.drop (List.length l - 4) l = l := List.take_append_drop _ _
  have hlF : List.length (List.drop (List.length l - 4) l) = 4 := by rw [List.length_drop]; omega
  generalize List.take (List.length l - 4) l = B at *
  generalize List.drop (List.length l - 4) l = F4 at *
  obtain ⟨f1, f2⟩ := rf_b F4 hlF
  rw [if_pos f1]
  match F4, hlF with
  | [x0, x1, x2, x3], _ =>
    have hr : (octet_ReadFixed [x0, x1, x2, x3]).1 = Z.w4 x0 x1 x2 x3 := by
      unfold octet_ReadFixed
      simp only [List.length_cons, List.length_nil]
      rw [if_neg (by omega)]
      simp only [bnd_eq, List.getD_cons_zero, List.getD_cons_succ]
      rw [fix4]
      unfold Z.w4
      omega
    rw [hr, if_neg (fun e => hs (by rw [← hsp]; exact (Z.sum_res B x0 x1 x2 x3).1 (by have e' : ((Z.w4 x0 x1 x2 x3 : Nat) : Int) = ((Z.sum32 B : Nat) : Int) := e; omega)))]
theorem seal_res (l : List UInt8) (h : List.length l ≤ 4096) : Z.sum32 (frame_Seal l).1 = Z.res ∧ 6 ≤ List.length (frame_Seal l).1 := by
  have hn1 := num_1 (List.length l) (by omega)
  rw [seal_of l h]
  refine ⟨?_, by simp only [List.length_append, List.length_cons, List.length_nil]; omega⟩
  generalize ([83] ++ octet_Num (List.length l)) ++ l = B
  have hs := sum_le B
  refine (Z.sum_res B _ _ _ _).1 ?_
  show Z.w4 _ _ _ _ = octet_Sum B
  generalize octet_Sum B = s at hs ⊢
  unfold Z.w4
  rw [b8, b8, b8, b8]
  omega
theorem dec_err {l : List UInt8} (h : ¬ (frame_Open l).2 = 0) : (wire_Decode l).2 = (frame_Open l).2 ∧ (wire_Decode l).1.xKind = 0 := by
  unfold wire_Decode
  rw [bnd_eq, if_neg h]
  exact ⟨rfl, rfl⟩
theorem ck_180 (m : MsgT) : wire_Check m = 0 ∨ wire_Check m = 180 := by
  unfold wire_Check
  simp only [bnd_eq]
  repeat' split
  all_goals first | exact .inl rfl | exact .inr rfl
theorem T_WireSpoilt {m : MsgT} (hn : nums m) (a : Int) {b : Nat} (hb : b ≤ 4294967295) : w18_WireSpoilt m a b = true := by
  unfold w18_WireSpoilt
  rw [live_true]
  simp only [bnd_eq]
  by_cases hc : wire_Check m = 0
  · obtain ⟨fs, hm⟩ := may_of hn hc
    obtain ⟨d1, d2, d3⟩ := dec_f hn hc hm
    have hbl : List.length (bodyOf m fs) ≤ 4096 := by have := out_len hn hm; unfold bodyOf; simp only [List.length_append, List.length_cons, List.length_nil]; omega
    obtain ⟨s1, s2⟩ := seal_res _ hbl
    rw [← enc_of hc hm] at s1 s2
    rw [if_pos d2]
    generalize (wire_Encode m).1 = B at d1 d3 s1 s2 ⊢
    rw [if_neg (by omega)]
    have hr1 := remI_bd a (n := 8 * B.length) (by omega)
    have hr2 := remI_bd ((remI a (8 * B.length)) + ((8 * B.length : Nat) : Int)) (n := 8 * B.length) (by omega)
    have hr3 := remI_nn (a := (remI a (8 * B.length)) + ((8 * B.length : Nat) : Int)) (n := 8 * B.length) (by omega)
    obtain ⟨p, hp⟩ : ∃ p : Nat, remI ((remI a (8 * B.length)) + ((8 * B.length : Nat) : Int)) (8 * B.length) = ((p : Nat) : Int) := ⟨Int.toNat (remI ((remI a (8 * B.length)) + ((8 * B.length : Nat) : Int)) (8 * B.length)), (Int.toNat_of_nonneg hr3).symm⟩
    rw [hp] at hr2
    obtain ⟨k', ys', hk1, hk2, hk3, hk4, hk5⟩ := sp_L a b B hp (by omega) 32 0 false B rfl (by omega) rfl (by rw [Nat.xor_self, Nat.pow_zero, Nat.mod_one, Nat.mul_zero]) (by rw [Nat.pow_zero, Nat.mod_one]; rfl)
    rw [hk3]
    have hend := Z.burst_end hk4 hk5 hk1 (by omega)
    by_cases hz : b % 2 ^ k' = 0
    · rw [hz, Nat.mul_zero] at hk5
      have e := Z.word_inj B ys' hk4 (Z.x_eq.1 hk5)
      rw [← e, d1]
      simp only [hz]
      rfl
    · have h50 := open_50 (l := ys') (by omega) (by omega) (fun e => hz (hend.1 (s1.trans e.symm)))
      obtain ⟨e1, e2⟩ := dec_err (l := ys') (by rw [h50]; decide)
      rw [h50] at e1
      have hd : decide (b % 2 ^ k' ≠ 0) = true := decide_eq_true hz
      simp [hd, e1, e2]
  · have h180 := (ck_180 m).resolve_left hc
    have e : wire_Encode m = ([], 180) := by unfold wire_Encode; rw [bnd_eq, if_neg hc, h180]
    rw [e]
    rfl
end Go.Proofs.YtccjclalngabhaaGreat
