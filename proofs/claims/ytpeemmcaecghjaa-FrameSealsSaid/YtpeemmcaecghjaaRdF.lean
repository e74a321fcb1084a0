/-
  Contracts of the reference's Sum, Fixed, ReadFixed, and of octet.ReadFixed.
-/
import Derived.Test.YtpeemmcaecghjaaStr
import Derived.Deep.QuietTactic
import Derived.BigQuiet
namespace Go.Proofs.Ytpeemmcaecghjaa
open Go.RowKit

theorem hid'' {p : Prop} (h : p) : Hid p := h

set_option maxHeartbeats 1000000 in
set_option maxRecDepth 100000 in
theorem rSum_any (cap n : Nat) (A : Option Addr) (xs : List UInt8) (w : World) (hl : n ≤ maxLen) (hx : Byt w w.heap.size A n xs) :
    Calls Try.prog 17 #[.slice A n cap] w fun e w' => e = .returned (.int .u32 (sum32 xs : Nat)) ∧ w = w' := by
  have hn := hx.len
  have HN := Lib.hid hn; clear hn
  have HX := Lib.hid hx; clear hx
  unfold maxLen at hl
  go_enter Try.func17, Try.ntmps17
  go_wp2
  go_loop [3, 9] (fun v i => ∃ r j : Nat, j ≤ n ∧ i = .int .i64 j ∧ v = .int .u32 r ∧ Hid (r = crc 4294967295 (xs.take j))) (fun _ i => n - (intOf i).toNat)
  case atStart => exact ⟨4294967295, 0, by omega, rfl, rfl, rfl⟩
  case round =>
    obtain ⟨r, j, hj, rfl, rfl, hr⟩ := hrel
    have hr32 : r < 2 ^ 32 := by rw [hr.out]; exact crc_lt _ (by decide)
    by_cases hlt : j < n
    · obtain ⟨b, off, x, rfl, _, hxj, hc⟩ := HX.out.at_ hlt
      have HJ := Lib.hid hxj; clear hxj
      have h1 := xor8 r x hr32
      have hq : r ^^^ x.toNat < 2 ^ 32 := Nat.xor_lt_two_pow hr32 (Nat.lt_trans x.toNat_lt (by decide))
      have hx8 : (x.toNat : Int) < 256 := by have := x.toNat_lt; omega
      have hfin : Hid (sts 8 (r ^^^ x.toNat) = crc 4294967295 (xs.take (j + 1))) := by show _ = _; rw [crc_take HJ.out, ← hr.out]
      generalize r ^^^ x.toNat = r1 at h1 hq hfin
      have HQ := hid'' hq
      clear hr32 hq
      go_wp2
      go_loop [3, 6] (fun v i => ∃ s m : Nat, m ≤ 8 ∧ i = .int .i64 m ∧ v = .int .u32 s ∧ Hid (s = sts m r1)) (fun _ i => 8 - (intOf i).toNat)
      case atStart => exact ⟨r1, 0, by omega, rfl, rfl, rfl⟩
      case round =>
        obtain ⟨s, m, hm, rfl, rfl, hs⟩ := hrel
        have hs32 : s < 2 ^ 32 := by rw [hs.out]; exact sts_lt m HQ.out
        by_cases hlm : m < 8
        · have h2 := xorP s hs32
          have HS := hid'' hs32
          clear hs32
          rcases Nat.mod_two_eq_zero_or_one s with hp | hp
          · have t1 : ((s : Int) % 2 == 1) = false := by simp; omega
            have HP := hid'' hp
            clear hp
            go_wp2
            go_round
            case rel => exact ⟨s / 2, m + 1, by omega, by go_num, by go_num, by show _ = _; rw [sts_succ, ← hs.out]; unfold st; rw [if_neg (by have := HP.out; omega)]⟩
            case measure => simp [intOf]; omega
          · have t1 : ((s : Int) % 2 == 1) = true := by simp; omega
            have HP := hid'' hp
            clear hp
            go_wp2
            go_round
            case rel => exact ⟨s / 2 ^^^ 3988292384, m + 1, by omega, by go_num, rfl, by show _ = _; rw [sts_succ, ← hs.out]; unfold st; rw [if_pos HP.out]⟩
            case measure => simp [intOf]; omega
        · clear hs32
          go_wp2
          go_round
          case rel =>
            have e : s = sts 8 r1 := by rw [hs.out]; congr 1; omega
            exact ⟨s, j + 1, by omega, by go_num, rfl, by show _ = _; rw [e, hfin.out]⟩
          case measure => simp [intOf]; omega
    · go_wp2
      go_ret
      refine ⟨ret_i ?_, rfl⟩
      have e : xs.take j = xs := List.take_of_length_le (by rw [HN.out]; omega)
      have hr2 := hr.out
      rw [e] at hr2
      have := u32_xor_nat r 4294967295 hr32 (by decide)
      rw [hr2] at this ⊢
      exact this

/-- The number of four bytes, as both texts reckon it. -/
def rdF (x0 x1 x2 x3 : UInt8) : Int :=
  bits BinOp.or IntKind.u32 (bits BinOp.or IntKind.u32 (bits BinOp.or IntKind.u32 ((x0.toNat : Int) % 4294967296) ((x1.toNat : Int) % 4294967296 * 256 % 4294967296)) ((x2.toNat : Int) % 4294967296 * 65536 % 4294967296)) ((x3.toNat : Int) % 4294967296 * 16777216 % 4294967296)

set_option maxHeartbeats 1000000 in
theorem ReadFixed_four (cap n : Nat) (b off : Nat) (x0 x1 x2 x3 : UInt8) (w : World) (hl : 4 ≤ n) (h0 : w.cell? ⟨b, off, none⟩ = some (.int .u8 (x0.toNat : Int))) (h1 : w.cell? ⟨b, off + 1, none⟩ = some (.int .u8 (x1.toNat : Int))) (h2 : w.cell? ⟨b, off + 2, none⟩ = some (.int .u8 (x2.toNat : Int))) (h3 : w.cell? ⟨b, off + 3, none⟩ = some (.int .u8 (x3.toNat : Int))) :
    Calls Try.prog 18 #[.slice (some ⟨b, off, none⟩) n cap] w fun e w' => e = .returned (.tuple #[.int .u32 (rdF x0 x1 x2 x3), .int .i64 0]) ∧ Below w.heap.size w w' := by
  have q0 : ¬ ((n : Int) < 4) := by omega
  have q1 : (0 : Int) < (n : Int) := by omega
  have q2 : (1 : Int) < (n : Int) := by omega
  have q3 : (2 : Int) < (n : Int) := by omega
  have q4 : (3 : Int) < (n : Int) := by omega
  go_enter Try.func18, Try.ntmps18
  go_wp2
  go_quiet (fail)
  go_wp2
  go_ret2
  exact ⟨rfl, ⟨rfl, rfl, rfl, Nat.le_refl _, fun _ _ => rfl⟩⟩

set_option maxHeartbeats 1000000 in
theorem rReadFixed_four (cap n : Nat) (b off : Nat) (x0 x1 x2 x3 : UInt8) (w : World) (hl : 4 ≤ n) (h0 : w.cell? ⟨b, off, none⟩ = some (.int .u8 (x0.toNat : Int))) (h1 : w.cell? ⟨b, off + 1, none⟩ = some (.int .u8 (x1.toNat : Int))) (h2 : w.cell? ⟨b, off + 2, none⟩ = some (.int .u8 (x2.toNat : Int))) (h3 : w.cell? ⟨b, off + 3, none⟩ = some (.int .u8 (x3.toNat : Int))) :
    Calls Try.prog 21 #[.slice (some ⟨b, off, none⟩) n cap] w fun e w' => e = .returned (.tuple #[.int .u32 (rdF x0 x1 x2 x3), .int .i64 0]) ∧ Below w.heap.size w w' := by
  have q0 : ¬ ((n : Int) < 4) := by omega
  have q1 : (0 : Int) < (n : Int) := by omega
  have q2 : (1 : Int) < (n : Int) := by omega
  have q3 : (2 : Int) < (n : Int) := by omega
  have q4 : (3 : Int) < (n : Int) := by omega
  go_enter Try.func21, Try.ntmps21
  go_wp2
  go_quiet (fail)
  go_wp2
  go_ret2
  exact ⟨rfl, ⟨rfl, rfl, rfl, Nat.le_refl _, fun _ _ => rfl⟩⟩

set_option maxHeartbeats 400000 in
theorem rReadFixed_short (cap n : Nat) (A : Option Addr) (w : World) (hl : n < 4) :
    Calls Try.prog 21 #[.slice A n cap] w fun e w' => e = .returned (.tuple #[.int .u32 0, .int .i64 10]) ∧ w = w' := by
  have h4 : (n : Int) < 4 := by omega
  go_enter Try.func21, Try.ntmps21
  go_wp2
  go_ret2
  exact ⟨rfl, rfl⟩

theorem rFixed_any (x : Int) (hx : 0 ≤ x) (w : World) :
    Calls Try.prog 16 #[.int .u32 x] w fun e w' => e = .returned (.agg #[.int .u8 (x % 256), .int .u8 (x / 256 % 256), .int .u8 (x / 65536 % 256), .int .u8 (x / 16777216 % 256)]) ∧ Below w.heap.size w w' := by
  go_enter Try.func16, Try.ntmps16
  go_wp2
  refine bodyPost_ret (v := .agg #[.int .u8 (x % 256), .int .u8 (x / 256 % 256), .int .u8 (x / 65536 % 256), .int .u8 (x / 16777216 % 256)]) (by simp [results, Try.results16, go_sem]) rfl ⟨rfl, ?_⟩
  exact ((Below.refl _ _).alloc (Nat.le_refl _) _).trans (Below.refl _ _)

/-- Both read the same. -/
theorem rd_both (cap n : Nat) (A : Option Addr) (xs : List UInt8) (w : World) (hx : Byt w w.heap.size A n xs) : ∃ v e_ : Int, ∀ W, Below w.heap.size w W →
    (Calls Try.prog 18 #[.slice A n cap] W fun e w' => e = .returned (.tuple #[.int .u32 v, .int .i64 e_]) ∧ Below W.heap.size W w') ∧
    (Calls Try.prog 21 #[.slice A n cap] W fun e w' => e = .returned (.tuple #[.int .u32 v, .int .i64 e_]) ∧ Below W.heap.size W w') := by
  by_cases hn : n < 4
  · exact ⟨0, 10, fun W _ => ⟨(ReadFixed_short cap n A W hn).mono fun e w' ⟨he, hw⟩ => ⟨he, hw ▸ Below.refl _ _⟩, (rReadFixed_short cap n A W hn).mono fun e w' ⟨he, hw⟩ => ⟨he, hw ▸ Below.refl _ _⟩⟩⟩
  · obtain ⟨b, off, x0, rfl, hb, _, c0⟩ := hx.at_ (show 0 < n by omega)
    obtain ⟨b1, o1, x1, e1, _, _, c1⟩ := hx.at_ (show 1 < n by omega)
    obtain ⟨b2, o2, x2, e2, _, _, c2⟩ := hx.at_ (show 2 < n by omega)
    obtain ⟨b3, o3, x3, e3, _, _, c3⟩ := hx.at_ (show 3 < n by omega)
    obtain ⟨rfl, rfl⟩ : b = b1 ∧ off = o1 := by simpa using e1
    obtain ⟨rfl, rfl⟩ : b = b2 ∧ off = o2 := by simpa using e2
    obtain ⟨rfl, rfl⟩ : b = b3 ∧ off = o3 := by simpa using e3
    refine ⟨rdF x0 x1 x2 x3, 0, fun W hW => ⟨?_, ?_⟩⟩
    · exact ReadFixed_four cap n b off x0 x1 x2 x3 W (by omega) ((hW.cell hb).trans c0) ((hW.cell hb).trans c1) ((hW.cell hb).trans c2) ((hW.cell hb).trans c3)
    · exact rReadFixed_four cap n b off x0 x1 x2 x3 W (by omega) ((hW.cell hb).trans c0) ((hW.cell hb).trans c1) ((hW.cell hb).trans c2) ((hW.cell hb).trans c3)

theorem eq4' (n : Nat) (a b c d : Int) (w : World) : (Op.equalIn (n + 2) 33 (.agg #[.int .u8 a, .int .u8 b, .int .u8 c, .int .u8 d]) (.agg #[.int .u8 a, .int .u8 b, .int .u8 c, .int .u8 d])).run Try.prog w = .ok true w := by
  have hi : Try.prog.underlying 33 = some (.array 4 5) := Try.underlying33
  have hq : ∀ x : Int, (Op.equalIn (n + 1) 5 (.int .u8 x) (.int .u8 x)).run Try.prog w = .ok true w := fun x => by
    rw [run_equalIn_int w n 5 .u8 .u8 x x Try.underlying5]; simp
  obtain ⟨i0, hi0, _, hz1, _⟩ := info_parts (show (Try.prog.info? 5).map (fun i => (i.zero, i.size, i.bytes)) = some (some (.int .u8 0), 1, 1) from by kernel_rfl)
  have hag : (isAgg 5).run Try.prog w = .ok false w := by simp [isAgg, run_underlying Try.underlying5]
  rw [Op.equalIn]
  simp only [Sem.run_bind, run_underlying hi, Result.andThen_ok]
  simp [sizeOf, typeInfo, hi0, hz1, Std.Legacy.Range.forIn_eq_forIn_range', Std.Legacy.Range.size, List.range', part, hag, hq]
theorem eq4 (a b c d : Int) (w : World) : (Op.equalIn 10000 33 (.agg #[.int .u8 a, .int .u8 b, .int .u8 c, .int .u8 d]) (.agg #[.int .u8 a, .int .u8 b, .int .u8 c, .int .u8 d])).run Try.prog w = .ok true w := eq4' 9998 a b c d w

end Go.Proofs.Ytpeemmcaecghjaa
