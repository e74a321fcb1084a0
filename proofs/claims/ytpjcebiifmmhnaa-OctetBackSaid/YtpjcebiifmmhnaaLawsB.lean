/-
  The walk of the law OctetBack.
-/
import Derived.Test.YtpjcebiifmmhnaaLawsA
import Derived.Deep.RegionWith
import Derived.Deep.QuietTactic
import Derived.BigQuiet
import Derived.Test.YtpjcebiifmmhnaaReg
namespace Go.Proofs.Ytpjcebiifmmhnaa
open Go.RowKit

set_option maxHeartbeats 1000000 in
set_option maxRecDepth 100000 in
theorem W_OctetBack (n : Nat) (hn : Hid (n < 18446744073709551616)) (s : ByteArray) (hs : s.size ≤ 140737488351232) (A : Option Addr) (len cap : Nat) (xs : List UInt8) (w : World) : Byt w w.heap.size A len xs → len ≤ cap → cap * 1 ≤ 140737488351232 →
    Calls Try.prog 7 #[.int .u64 (n : Int), .string s, .slice A len cap] w fun e w' => e = .returned (.bool true) ∧ Below w.heap.size w w' := by
  intro hx0 hlc0 hcap0
  by_cases hbig : 100000 < s.size
  · go_enter Try.func7, Try.ntmps7
    go_wp2_with fail
    refine (live_any w).mono ?_
    rintro e w1 ⟨rfl, hb1⟩
    go_wp2
    go_ret
    exact ⟨rfl, hb1⟩
  · have hsm : s.size ≤ 100000 := by omega
    have hx := Lib.hid hx0
    have hlc : len ≤ 140737488351232 := by omega
    have hlcap : len ≤ cap := hlc0
    clear hbig hs hx0 hlc0 hcap0
    go_enter Try.func7, Try.ntmps7
    go_wp2_with fail
    refine (live_any w).mono ?_
    rintro e w1 ⟨rfl, hb1⟩
    go_wp2_with fail
    refine (Num_w n hn w1).mono ?_
    rintro e w2 ⟨A1, m1, c1, rfl, hc1, hm1, hm1', hl1, ho1, hb2⟩
    have hb02 : Below w.heap.size w w2 := hb1.trans (hb2.mono hb1.size)
    have hX2 := hx.out.below hb02
    go_wp2_with (at_builtin; refine wp_app rfl _ _ _ _ rfl elB rfl ho1.out rfl (src_rd Try.underlying23 hX2 bv_one) ?c1 ?c2 ?c3 ?_)
    case c1 => unfold maxLen; omega
    case c2 => omega
    case c3 => exact hb2.size
    intro v w3 hown3 hb3
    obtain ⟨B1, d1, rfl, hd1, _⟩ := own_form hown3
    rw [← List.map_append] at hown3
    have hb03 : Below w.heap.size w w3 := hb02.trans (hb3.mono hb1.size)
    have K1 := ReadNum_any _ d1 _ _ _ _ (by unfold maxLen; omega) hd1 (Byt.of_own hown3)
    rw [rdNum_num n hn.out] at K1
    unfold tup3 at K1
    rw [hl1.out] at K1
    go_wp2_with fail
    refine K1.mono ?_
    rintro e w4 ⟨rfl, rfl⟩
    clear K1 hown3 ho1
    go_wp2_with fail
    refine (Text_w s hsm w3).mono ?_
    rintro e w4 ⟨A2, m2, c2, rfl, hc2, hm2, hm2', hl2, ho2, hb4⟩
    have hb04 : Below w.heap.size w w4 := hb03.trans (hb4.mono hb03.size)
    have hX4 := hx.out.below hb04
    go_wp2_with (at_builtin; refine wp_app_g rfl _ _ _ _ rfl elB rfl ho2.out rfl (src_rd Try.underlying23 hX4 bv_one) ?c1 ?c2 ?c3 ?_)
    case c1 => unfold maxLen; omega
    case c2 => exact fun old ho => by have := ns_fine ho; omega
    case c3 => exact hb4.size
    intro v w5 hown5 hb5
    obtain ⟨B2, d2, rfl, hd2, _⟩ := own_form hown5
    rw [← List.map_append] at hown5
    have hb05 : Below w.heap.size w w5 := hb04.trans (hb5.mono hb03.size)
    have K2 := ReadText_any _ d2 _ _ _ (s.size : Int) _ (by unfold maxLen; omega) hd2 (Byt.of_own hown5) (by omega) (by omega)
    rw [rdText_back s hsm] at K2
    unfold tupT at K2
    rw [hl2.out] at K2
    simp only [Array.toArray_toList] at K2
    go_wp2_with fail
    refine K2.mono ?_
    rintro e w6 ⟨rfl, rfl⟩
    clear K2 hown5 ho2
    have tn : ((n : Int) == (n : Int)) = true := by simp
    have ts : (s.toList == s.toList) = true := by simp
    go_wp2_with fail
    refine (Num_w n hn w5).mono ?_
    rintro e w6 ⟨A3, m3, c3, rfl, hc3, hm3, hm3', hl3, ho3, hb6⟩
    have h31 : m3 = m1 := by rw [← hl3.out, ← hl1.out]
    subst h31
    have hb06 : Below w.heap.size w w6 := hb05.trans (hb6.mono hb05.size)
    go_wp2_with fail
    refine (Text_w s hsm w6).mono ?_
    rintro e w7 ⟨A4, m4, c4, rfl, hc4, hm4, hm4', hl4, ho4, hb7⟩
    have h42 : m4 = m2 := by rw [← hl4.out, ← hl2.out]
    subst h42
    have hb07 : Below w.heap.size w w7 := hb06.trans (hb7.mono hb06.size)
    go_wp2_with fail
    refine (Text_w s hsm w7).mono ?_
    rintro e w8 ⟨A5, m5, c5, rfl, hc5, hm5, hm5', hl5, ho5, hb8⟩
    have hb08 : Below w.heap.size w w8 := hb07.trans (hb8.mono hb07.size)
    have K3 := ReadText_any _ c5 _ _ _ ((s.size : Int) - 1) _ (by unfold maxLen; omega) hc5 (Byt.of_own ho5.out) (by omega) (by omega)
    rw [rdText_long s hsm] at K3
    unfold tupT at K3
    have K3 := Lib.hid K3
    go_wp2_with fail
    refine K3.out.mono ?_
    rintro e w9 ⟨rfl, rfl⟩
    have hX8 := hx.out.below hb08
    have K4 := ReadNum_any _ cap _ _ _ _ (by unfold maxLen; omega) hlcap hX8
    have hX8 := Lib.hid hX8
    have hrd := Lib.hid (@num_rdNum xs)
    have hrk := rdNum_k xs
    rw [hX8.out.len] at hrk
    have hre := rdNum_e xs
    unfold tup3 at K4
    obtain ⟨⟨v, k, er⟩, hr⟩ : ∃ r, rdNum xs = r := ⟨_, rfl⟩
    have hrd2 := hrd.out
    rw [hr] at K4 hrk hre hrd2
    simp only at K4 hrk hre hrd2
    have hrd2 := Lib.hid hrd2
    have K4 := Lib.hid K4
    clear hr hrd K3 ho3 ho4 ho5
    by_cases h0 : er = 0
    · subst h0
      obtain ⟨hnv, hv⟩ := hrd2.out rfl
      replace hnv := hid' hnv
      replace hv := hid' hv
      go_wp2_with fail
      refine K4.out.mono ?_
      rintro e w9 ⟨rfl, rfl⟩
      clear K4 hre hrd2
      go_wp2_with fail
      have hY := hid' (fun (W : World) (hW : Fwd w8.drew W) => own_str' (c := cap) ((hX8.out.below (((Below.refl _ w8).drew.trans hW).mono hb08.size)).take (m := k) hrk))
      have hs1 := fun W => cut_to (P := Try.prog) Try.underlying23 (elem_info elB) A len cap k .i64 (k : Int) rfl (by omega) W
      have hb08' := hid' hb08
      clear hb08 hX8 hx hb07 hb06 hb05 hb04 hb03 hb02 hb1 hb2 hb3 hb4 hb5 hb6 hb7 hb8 hX2 hX4 tn ts hn hsm hlc hc1 hm1 hm1' hl1 hd1 hc2 hm2 hm2' hl2 hd2 hc3 hm3 hm3' hl3 hc4 hm4 hm4' hl4 hc5 hm5 hm5' hl5
      refine held_start (by kernel_rfl) ?_
      refine held_take2 (i := 0) (v := ?_) rfl (by kernel_rfl) (by kernel_rfl) (by kernel_rfl) (fun _ _ _ h => h) (by rfl) ?_ ?_
      rotate_left
      · (intro W hW; go_simp; try with_reducible rfl)
      try simp only [Act.put, List.setIfInBounds_toArray, List.set_cons_zero, List.set_cons_succ]
      refine held_take2 (i := 1) (v := ?_) rfl (by kernel_rfl) (by kernel_rfl) (by kernel_rfl) (fun _ _ _ h => h) (by rfl) ?_ ?_
      rotate_left
      · (intro W hW; go_simp; try with_reducible rfl)
      try simp only [Act.put, List.setIfInBounds_toArray, List.set_cons_zero, List.set_cons_succ]
      refine held_take2 (i := 2) (v := ?_) rfl (by kernel_rfl) (by kernel_rfl) (by kernel_rfl) (fun _ _ _ h => h) (by rfl) ?_ ?_
      rotate_left
      · (intro W hW; go_simp; try with_reducible rfl)
      try simp only [Act.put, List.setIfInBounds_toArray, List.set_cons_zero, List.set_cons_succ]
      refine held_take2 (i := 3) (v := ?_) rfl (by kernel_rfl) (by kernel_rfl) (by kernel_rfl) (fun _ _ _ h => h) (by rfl) ?_ ?_
      rotate_left
      · (intro W hW; go_simp; try with_reducible rfl)
      try simp only [Act.put, List.setIfInBounds_toArray, List.set_cons_zero, List.set_cons_succ]
      refine held_take2 (i := 4) (v := ?_) rfl (by kernel_rfl) (by kernel_rfl) (by kernel_rfl) (fun _ _ _ h => h) (by rfl) ?_ ?_
      rotate_left
      · (intro W hW; go_simp; try with_reducible rfl)
      try simp only [Act.put, List.setIfInBounds_toArray, List.set_cons_zero, List.set_cons_succ]
      refine held_take2 (i := 5) (v := ?_) rfl (by kernel_rfl) (by kernel_rfl) (by kernel_rfl) (fun _ _ _ h => h) (by rfl) ?_ ?_
      rotate_left
      · (intro W hW; go_simp; try with_reducible rfl)
      try simp only [Act.put, List.setIfInBounds_toArray, List.set_cons_zero, List.set_cons_succ]
      refine held_take2 (i := 6) (v := ?_) rfl (by kernel_rfl) (by kernel_rfl) (by kernel_rfl) (fun _ _ _ h => h) (by rfl) ?_ ?_
      rotate_left
      · (intro W hW; go_simp; try with_reducible rfl)
      try simp only [Act.put, List.setIfInBounds_toArray, List.set_cons_zero, List.set_cons_succ]
      refine held_take2 (i := 7) (v := ?_) rfl (by kernel_rfl) (by kernel_rfl) (by kernel_rfl) (fun _ _ _ h => h) (by rfl) ?_ ?_
      rotate_left
      · (intro W hW; go_simp; try with_reducible rfl)
      try simp only [Act.put, List.setIfInBounds_toArray, List.set_cons_zero, List.set_cons_succ]
      refine held_take2 (i := 8) (v := ?_) rfl (by kernel_rfl) (by kernel_rfl) (by kernel_rfl) (fun _ _ _ h => h) (by rfl) ?_ ?_
      rotate_left
      · (intro W hW; go_simp; try with_reducible rfl)
      try simp only [Act.put, List.setIfInBounds_toArray, List.set_cons_zero, List.set_cons_succ]
      refine held_take2 (i := 9) (v := ?_) rfl (by kernel_rfl) (by kernel_rfl) (by kernel_rfl) (fun _ _ _ h => h) (by rfl) ?_ ?_
      rotate_left
      · (intro W hW; go_simp; try with_reducible rfl)
      try simp only [Act.put, List.setIfInBounds_toArray, List.set_cons_zero, List.set_cons_succ]
      refine held_take2 (i := 12) (v := ?_) rfl (by kernel_rfl) (by kernel_rfl) (by kernel_rfl) (fun _ _ _ h => h) (by rfl) ?_ ?_
      rotate_left
      · (intro W hW; go_simp; try with_reducible rfl)
      try simp only [Act.put, List.setIfInBounds_toArray, List.set_cons_zero, List.set_cons_succ]
      refine held_take2 (i := 13) (v := ?_) rfl (by kernel_rfl) (by kernel_rfl) (by kernel_rfl) (fun _ _ _ h => h) (by rfl) ?_ ?_
      rotate_left
      · (intro W hW; go_simp; try with_reducible rfl)
      try simp only [Act.put, List.setIfInBounds_toArray, List.set_cons_zero, List.set_cons_succ]
      refine held_take2 (i := 14) (v := ?_) rfl (by kernel_rfl) (by kernel_rfl) (by kernel_rfl) (fun _ _ _ h => h) (by rfl) ?_ ?_
      rotate_left
      · (intro W hW; go_simp; try with_reducible rfl)
      try simp only [Act.put, List.setIfInBounds_toArray, List.set_cons_zero, List.set_cons_succ]
      clear hs1
      refine held_take2 (i := 15) (v := ?_) rfl (by kernel_rfl) (by kernel_rfl) (by kernel_rfl) (fun _ _ _ h => h) (by rfl) ?_ ?_
      rotate_left
      · (intro W hW; have hcv := hY.out W hW; go_simp; try with_reducible rfl)
      try simp only [Act.put, List.setIfInBounds_toArray, List.set_cons_zero, List.set_cons_succ]
      refine held_call (i := 10) (f := 15) (args := #[.int .u64 (v : Int)]) rfl (by kernel_rfl) (by rfl) (by go_simp) ?_
      refine (Num_w v hv.out _).mono ?_
      rintro e w9 ⟨A6, m6, c6, rfl, hc6, hm6, hm6', hl6, ho6, hb9⟩
      refine ⟨_, rfl, hb9, ?_⟩
      have hZ := hid' (fun (W : World) (hW : Fwd w9 W) => own_str' (c := c6) ((Byt.of_own ho6.out).below hW))
      rw [hnv.out] at hZ
      have hb09 := hid' (hb08'.out.drew.trans (hb9.mono hb08'.out.size))
      clear hc6 hm6 hm6' hl6 ho6 hb9 hb08' hnv hv hY
      generalize str (List.take k xs) = z at hZ ⊢
      try simp only [Act.put, List.setIfInBounds_toArray, List.set_cons_zero, List.set_cons_succ]
      refine held_take2 (i := 11) (v := ?_) rfl (by kernel_rfl) (by kernel_rfl) (by kernel_rfl) (fun _ _ _ h => h) (by rfl) ?_ ?_
      rotate_left
      · (intro W hW; have hcv := hZ.out W hW; go_simp; try with_reducible rfl)
      try simp only [Act.put, List.setIfInBounds_toArray, List.set_cons_zero, List.set_cons_succ]
      have tz : (z.toList == z.toList) = true := by simp
      refine held_take2 (i := 16) (v := ?_) rfl (by kernel_rfl) (by kernel_rfl) (by kernel_rfl) (fun _ _ _ h => h) (by rfl) ?_ ?_
      rotate_left
      · (intro W hW; go_simp; try with_reducible rfl)
      try simp only [Act.put, List.setIfInBounds_toArray, List.set_cons_zero, List.set_cons_succ]
      refine held_take2 (i := 17) (v := ?_) rfl (by kernel_rfl) (by kernel_rfl) (by kernel_rfl) (fun _ _ _ h => h) (by rfl) ?_ ?_
      rotate_left
      · (intro W hW; go_simp; try with_reducible rfl)
      try simp only [Act.put, List.setIfInBounds_toArray, List.set_cons_zero, List.set_cons_succ]
      refine held_take2 (i := 18) (v := ?_) rfl (by kernel_rfl) (by kernel_rfl) (by kernel_rfl) (fun _ _ _ h => h) (by rfl) ?_ ?_
      rotate_left
      · (intro W hW; go_simp; try with_reducible rfl)
      try simp only [Act.put, List.setIfInBounds_toArray, List.set_cons_zero, List.set_cons_succ]
      refine held_take2 (i := 19) (v := ?_) rfl (by kernel_rfl) (by kernel_rfl) (by kernel_rfl) (fun _ _ _ h => h) (by rfl) ?_ ?_
      rotate_left
      · (intro W hW; go_simp; try with_reducible rfl)
      try simp only [Act.put, List.setIfInBounds_toArray, List.set_cons_zero, List.set_cons_succ]
      refine wpAnyH_done (by kernel_rfl) ?_ _
      go_wp2
      go_ret
      exact ⟨by simp, hb09.out⟩
    · have t0 : ((er : Int) == 0) = false := by simp; omega
      go_wp2_with fail
      refine K4.out.mono ?_
      rintro e w9 ⟨rfl, rfl⟩
      clear K4 hre hrd2
      go_wp2_with fail
      go_quiet (fail)
      go_wp2
      go_ret
      exact ⟨rfl, ⟨hb08.os, hb08.tape, hb08.output, hb08.size, hb08.block⟩⟩
end Go.Proofs.Ytpjcebiifmmhnaa
