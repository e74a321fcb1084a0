/-
  Contracts of the reference's Sum, Fixed, ReadFixed, and of octet.ReadFixed.
-/
import Derived.Test.YtccjclalngabhaaGreatOctF
import Derived.Test.YtccjclalngabhaaGreatBase
import Derived.Lib.SlBytesConst
import Derived.Deep.QuietTactic
import Derived.BigQuiet
namespace Go.Proofs.YtccjclalngabhaaGreat.Z
open Go.RowKit
theorem hid'' {p : Prop} (h : p) : Hid p := h
set_option maxHeartbeats 1000000 in
set_option maxRecDepth 100000 in
theorem rSum_any (cap n : Nat) (A : Option Addr) (xs : List UInt8) (w : World) (hl : n ≤ maxLen) (hx : Byt w w.heap.size A n xs) :
    Calls Tryz.prog 65 #[.slice A n cap] w fun e w' => e = .returned (.int .u32 (sum32 xs : Nat)) ∧ w = w' := by
  have hn := hx.len
  have HN := Lib.hid hn; clear hn
  have HX := Lib.hid hx; clear hx
  unfold maxLen at hl
  go_enter Tryz.func65, Tryz.ntmps65
  go_wp2
  go_loop [3, 9] (fun v i => ∃ r j : Nat, j ≤ n ∧ i = .int .i64 j ∧ v = .int .u32 r ∧ Hid (r = crc 4294967295 (xs.take j))) (fun _ i => n - (intOf i).toNat)
  case atStart => exact ⟨4294967295, 0, by omega, rfl, rfl, rfl⟩
  case round =>
    obtain ⟨r, j, hj, rfl, rfl, hr⟩ := hrel
    have hr32 : r < 2 ^ 32 := by rw [hr.out]; exact crc_lt _ (by decide)
    by_cases hlt : j < n
    · obtain ⟨b, off, x, rfl, _, hxj, hc⟩ := HX.out.at_ hlt
      have HJ := Lib.hid hxj; clear hxj
      have h1 := xor8 r x hr32
      have hq : r ^^^ x.toNat < 2 ^ 32 := Nat.xor_lt_two_pow hr32 (Nat.lt_trans x.toNat_lt (by decide))
      have hx8 : (x.toNat : Int) < 256 := by have := x.toNat_lt; omega
      have hfin : Hid (sts 8 (r ^^^ x.toNat) = crc 4294967295 (xs.take (j + 1))) := by show _ = _; rw [crc_take HJ.out, ← hr.out]
      generalize r ^^^ x.toNat = r1 at h1 hq hfin
      have HQ := hid'' hq
      clear hr32 hq
      go_wp2
      go_loop [3, 6] (fun v i => ∃ s m : Nat, m ≤ 8 ∧ i = .int .i64 m ∧ v = .int .u32 s ∧ Hid (s = sts m r1)) (fun _ i => 8 - (intOf i).toNat)
      case atStart => exact ⟨r1, 0, by omega, rfl, rfl, rfl⟩
      case round =>
        obtain ⟨s, m, hm, rfl, rfl, hs⟩ := hrel
        have hs32 : s < 2 ^ 32 := by rw [hs.out]; exact sts_lt m HQ.out
        by_cases hlm : m < 8
        · have h2 := xorP s hs32
          have HS := hid'' hs32
          clear hs32
          rcases Nat.mod_two_eq_zero_or_one s with hp | hp
          · have t1 : ((s : Int) % 2 == 1) = false := by simp; omega
            have HP := hid'' hp
            clear hp
            go_wp2
            go_round
            case rel => exact ⟨s / 2, m + 1, by omega, by go_num, by go_num, by show _ = _; rw [sts_succ, ← hs.out]; unfold st; rw [if_neg (by have := HP.out; omega)]⟩
            case measure => simp [intOf]; omega
          · have t1 : ((s : Int) % 2 == 1) = true := by simp; omega
            have HP := hid'' hp
            clear hp
            go_wp2
            go_round
            case rel => exact ⟨s / 2 ^^^ 3988292384, m + 1, by omega, by go_num, rfl, by show _ = _; rw [sts_succ, ← hs.out]; unfold st; rw [if_pos HP.out]⟩
            case measure => simp [intOf]; omega
        · clear hs32
          go_wp2
          go_round
          case rel =>
            have e : s = sts 8 r1 := by rw [hs.out]; congr 1; omega
            exact ⟨s, j + 1, by omega, by go_num, rfl, by show _ = _; rw [e, hfin.out]⟩
          case measure => simp [intOf]; omega
    · go_wp2
      go_ret
      refine ⟨ret_i ?_, rfl⟩
      have e : xs.take j = xs := List.take_of_length_le (by rw [HN.out]; omega)
      have hr2 := hr.out
      rw [e] at hr2
      have := u32_xor_nat r 4294967295 hr32 (by decide)
      rw [hr2] at this ⊢
      exact this
end Go.Proofs.YtccjclalngabhaaGreat.Z
