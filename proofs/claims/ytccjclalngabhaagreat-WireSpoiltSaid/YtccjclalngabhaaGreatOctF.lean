/-
  Contract of octet.Sum.
-/
import Derived.Test.YtccjclalngabhaaGreatOctE
namespace Go.Proofs.YtccjclalngabhaaGreat.Z
open Go.RowKit
theorem half (r : Nat) (h : r < 2 ^ 32) : ∃ q : Nat, q < 16 ∧ bits .and .u32 (r : Int) 15 = (q : Int) ∧ bits .xor .u32 ((r : Int) / 16) ((sts 4 q : Nat) : Int) = ((sts 4 r : Nat) : Int) := by
  refine ⟨r % 16, Nat.mod_lt _ (by decide), ?_, ?_⟩
  · have := u32_and_nat r 15 h (by decide)
    rw [nat_mask4] at this
    exact this
  · have h2 : sts 4 (r % 16) < 2 ^ 32 := sts_lt 4 (by omega)
    have := u32_xor_nat (r / 16) (sts 4 (r % 16)) (by omega) h2
    rw [← nib] at this
    simpa using this
theorem xor8 (r : Nat) (x : UInt8) (h : r < 2 ^ 32) : bits .xor .u32 (r : Int) (x.toNat : Int) = ((r ^^^ x.toNat : Nat) : Int) :=
  u32_xor_nat r x.toNat h (Nat.lt_trans x.toNat_lt (by decide))
theorem sts8 (r : Nat) : sts 4 (sts 4 r) = sts 8 r := by rw [← sts_add]
set_option maxHeartbeats 1000000 in
set_option maxRecDepth 100000 in
theorem Sum_any (cap n : Nat) (A : Option Addr) (xs : List UInt8) (w : World) (hl : n ≤ maxLen) (hx : Byt w w.heap.size A n xs) :
    Calls Tryz.prog 53 #[.slice A n cap] w fun e w' => e = .returned (.int .u32 (sum32 xs : Nat)) ∧ Below w.heap.size w w' := by
  have hn := hx.len
  have K := Lib.hid (sumSteps_any w)
  have HN := Lib.hid hn; clear hn
  have HX := Lib.hid hx; clear hx
  unfold maxLen at hl
  go_enter Tryz.func53, Tryz.ntmps53
  go_wp2_with fail
  refine K.out.mono ?_
  rintro e w1 ⟨rfl, hb⟩
  go_wp2_with (first | (refine wpList_store_row rfl _ _ _ rfl _ _ rfl rfl _ _ (heap_alloc_new _ _) (by kernel_rfl) (by kernel_rfl) (tabA_one 16) ?_))
  generalize hW : World.setRow _ _ _ = W2
  have hC : Hid (W2.heap[w1.heap.size]? = some (.cells (tabA 16) 139 (0, 0))) := by show _ = _; rw [← hW]; exact setRow_heap _ _ _ _ _ _ (heap_alloc_new _ _)
  have hB : Below w.heap.size w W2 := by rw [← hW]; exact below_setRow (hb.alloc hb.size _) hb.size _
  have HX2 : Hid (Byt W2 w.heap.size A n xs) := HX.out.below hB
  generalize w1.heap.size = g at hC ⊢
  clear hW HX hb K
  go_loop [4, 10] (fun v i => ∃ r j : Nat, j ≤ n ∧ i = .int .i64 j ∧ v = .int .u32 r ∧ Hid (r = crc 4294967295 (xs.take j))) (fun _ i => n - (intOf i).toNat)
  case atStart => exact ⟨4294967295, 0, by omega, rfl, rfl, rfl⟩
  case round =>
    obtain ⟨r, j, hj, rfl, rfl, hr⟩ := hrel
    have hr32 : r < 2 ^ 32 := by rw [hr.out]; exact crc_lt _ (by decide)
    by_cases hlt : j < n
    · obtain ⟨b, off, x, rfl, _, hxj, hc⟩ := HX2.out.at_ hlt
      have HJ := Lib.hid hxj; clear hxj
      have h1 := xor8 r x hr32
      have hq : r ^^^ x.toNat < 2 ^ 32 := Nat.xor_lt_two_pow hr32 (Nat.lt_trans x.toNat_lt (by decide))
      obtain ⟨q1, hq1, e1, e2⟩ := half _ hq
      obtain ⟨q2, hq2, e3, e4⟩ := half _ (sts_lt 4 hq)
      have c1 : W2.cell? ⟨g, q1, none⟩ = some (.int .u32 ((sts 4 q1 : Nat) : Int)) := by rw [blk_cell hC.out, tabA_get _ _ hq1, if_pos hq1]
      have c2 : W2.cell? ⟨g, q2, none⟩ = some (.int .u32 ((sts 4 q2 : Nat) : Int)) := by rw [blk_cell hC.out, tabA_get _ _ hq2, if_pos hq2]
      have hx8 : (x.toNat : Int) < 256 := by have := x.toNat_lt; omega
      have hfin : Hid (sts 4 (sts 4 (r ^^^ x.toNat)) = crc 4294967295 (xs.take (j + 1))) := by show _ = _; rw [sts8, crc_take HJ.out, ← hr.out]
      generalize hs : sts 4 (sts 4 (r ^^^ x.toNat)) = r3 at e4 hfin
      clear hs
      generalize sts 4 (r ^^^ x.toNat) = r2 at e2 e3 e4
      generalize r ^^^ x.toNat = r1 at h1 hq e1 e2
      generalize sts 4 q1 = s1 at c1 e2
      generalize sts 4 q2 = s2 at c2 e4
      clear hr32 hq
      go_wp2
      go_round
      case rel => exact ⟨r3, j + 1, by omega, by go_num, rfl, hfin⟩
      case measure => simp [intOf]; omega
    · go_wp2
      go_ret
      refine ⟨ret_i ?_, hB⟩
      have hm : IntKind.max IntKind.u32 = ((4294967295 : Nat) : Int) := by decide
      have e : xs.take j = xs := List.take_of_length_le (by rw [HN.out]; omega)
      have hr2 := hr.out
      rw [e] at hr2
      rw [hm, u32_xor_nat 4294967295 r (by decide) hr32, Nat.xor_comm, hr2]
      rfl
end Go.Proofs.YtccjclalngabhaaGreat.Z
