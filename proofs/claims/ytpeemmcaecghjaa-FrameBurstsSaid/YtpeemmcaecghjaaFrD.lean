/-
  The walk of the law FrameBursts.
-/
import Derived.Test.YtpeemmcaecghjaaFrC
import Derived.Test.YtpeemmcaecghjaaBlk
import Derived.Test.YtpeemmcaecghjaaBurst
import Derived.Deep.RegionWith
import Derived.Deep.RegionHeld3
import Derived.BigRegion
namespace Go.Proofs.Ytpeemmcaecghjaa
open Go.RowKit

set_option maxHeartbeats 2000000 in
set_option maxRecDepth 100000 in
theorem W_FrameBursts (A : Option Addr) (len cap : Nat) (xs : List UInt8) (w : World) : Byt w w.heap.size A len xs → len ≤ cap → cap * 1 ≤ 140737488351232 → ∀ (at_ : Int), -9223372036854775808 ≤ at_ → at_ ≤ 9223372036854775807 → ∀ (bu : Nat), bu < 4294967296 →
    Calls Try.prog 5 #[.slice A len cap, .int .i64 at_, .int .u32 (bu : Int)] w fun e w' => e = .returned (.bool true) ∧ Below w.heap.size w w' := by
  intro hx0 hlc0 hcap0 at_ ha1 ha2 bu hbu
  have hl0 := Lib.hid hx0.len
  have hx := Lib.hid hx0
  clear hx0 hcap0
  by_cases hz : 4096 < len
  · have t0 : (4096 : Int) < (len : Int) := by omega
    go_enter Try.func5, Try.ntmps5
    go_wp2_with fail
    refine (live_any w).mono ?_
    rintro e w1 ⟨rfl, hb1⟩
    go_wp2
    go_ret
    exact ⟨rfl, hb1⟩
  · have t0 : ¬ (4096 : Int) < (len : Int) := by omega
    have hn1 : len ≤ 4096 := by omega
    clear hz
    go_enter Try.func5, Try.ntmps5
    go_wp2_with fail
    refine (live_any w).mono ?_
    rintro e w1 ⟨rfl, hb1⟩
    go_wp2_with fail
    refine (Seal_any _ cap len A xs w1 (hx.out.below hb1) hb1.size hlc0).mono ?_
    rintro e w2 ⟨A3, m3, c3, er3, rfl, he3, ho3, hb2⟩
    have hlx : xs.length ≤ 4096 := by rw [hl0.out]; exact hn1
    have e1 : sB xs = sealL xs := by unfold sB; rw [if_neg (by omega)]
    have e2 : sE xs = 0 := by unfold sE; rw [if_neg (by omega)]
    rw [e1] at ho3
    rw [e2] at he3
    obtain rfl : er3 = 0 := by rw [he3.out]; rfl
    obtain ⟨zs, hzs⟩ : ∃ zs, sealL xs = zs := ⟨_, rfl⟩
    have HS := Lib.hid (show sum32 zs = res by rw [← hzs]; exact res_seal xs)
    have HO := Lib.hid (show opE zs = 0 by rw [← hzs]; exact (op_seal hlx).1)
    rw [hzs] at ho3
    have HL := Lib.hid ho3.out.len
    have hm6 : 6 ≤ m3 := by rw [← HL.out]; exact (op_ok HO.out).1
    have hm7 : m3 ≤ 4103 := by rw [← HL.out]; exact (op_ok HO.out).2.1
    have hn0 : 0 < m3 := by omega
    obtain ⟨g, cap2, cur, hv, hg1, hcap2, hcm, hg, htake, hgs⟩ := own_pos ho3.out.1 hn0
    cases hv
    have HG := Lib.hid hg
    have HT := Lib.hid htake
    clear hg htake ho3 e1 e2 he3 hzs hlx hl0 hx
    have t1 : ((m3 : Int) == 0) = false := by simp; omega
    obtain ⟨p, hp, hidx⟩ := idx_lt at_ (8 * m3) (by omega) (by omega)
    replace hidx : (wrap64 (at_.tmod (8 * (m3 : Int)) + 8 * (m3 : Int))).tmod (8 * (m3 : Int)) = (p : Int) := by simpa using hidx
    have t2 : ((8 * (m3 : Int)) == 0) = false := by simp; omega
    go_wp2_with fail
    clear hidx t1 t2
    go_loopw [11, 12] (fun t i wr => ∃ (k : Nat) (b : Bool) (ys : List UInt8) (cur : Array Value), k ≤ 32 ∧ p + k ≤ 8 * m3 ∧ i = .int .i64 (k : Int) ∧ t = .bool b ∧ Hid (b = decide (bu % 2 ^ k ≠ 0)) ∧ Hid (wr.heap[g]? = some (.cells cur 5 (0, 0))) ∧ Hid (cur.toList.take m3 = ys.map bv) ∧ Hid (ys.length = m3) ∧ Hid (word zs ^^^ word ys = 2 ^ p * (bu % 2 ^ k)) ∧ Below w1.heap.size w1 wr) (fun _ i _ => 32 - (intOf i).toNat)
    case atStart =>
      refine ⟨0, false, zs, cur, by omega, by omega, rfl, rfl, ?_, HG.out, HT.out, HL.out, ?_, hb2⟩
      · show _ = _
        simp [Nat.mod_one]
      · show _ = _
        simp [Nat.mod_one]
    case round =>
      obtain ⟨k, b, ys, cur, hk, hpk, rfl, rfl, hbb, hg, ht, hl, hw, hbel⟩ := hrel
      by_cases hk32 : k < 32
      · by_cases hpl : p + k < 8 * m3
        · have hdv : ((bu : Int) / 2 ^ k) = ((bu / 2 ^ k : Nat) : Int) := by simp
          have hd2 : bu / 2 ^ k < 2 ^ 32 := Nat.lt_of_le_of_lt (Nat.div_le_self _ _) hbu
          have h1 := and1 (bu / 2 ^ k) hd2
          rw [← hdv] at h1
          cases hbit : bu.testBit k
          · have h2 : bu / 2 ^ k % 2 = 0 := by
              rw [Nat.testBit_eq_decide_div_mod_eq] at hbit
              have := of_decide_eq_false hbit; omega
            rw [h2] at h1
            have HB := Lib.hid hbit
            clear hbit hdv hd2 h2
            go_wp2
            go_roundw
            case rel =>
              refine ⟨k + 1, b, ys, cur, by omega, by omega, by go_num, rfl, ?_, hg, ht, hl, ?_, hbel⟩
              · rw [burst_zero HB.out]; exact hbb
              · rw [burst_zero HB.out]; exact hw
            case measure => simp [intOf]; omega
          · have h2 : bu / 2 ^ k % 2 = 1 := by
              rw [Nat.testBit_eq_decide_div_mod_eq] at hbit
              exact of_decide_eq_true hbit
            rw [h2] at h1
            have HB := Lib.hid hbit
            clear hbit hdv hd2 h2
            obtain ⟨m, hm⟩ : ∃ m, (p + k) / 8 = m := ⟨_, rfl⟩
            obtain ⟨r, hr⟩ : ∃ r, (p + k) % 8 = r := ⟨_, rfl⟩
            have hml : m < m3 := by omega
            have hr8 : r < 8 := by omega
            obtain ⟨z, hz⟩ : ∃ z, ys[m]'(by rw [hl.out]; exact hml) = z := ⟨_, rfl⟩
            have hyz : ys[m]? = some z := by rw [List.getElem?_eq_getElem (by rw [hl.out]; exact hml), hz]
            have hp2 : 2 ^ r < 256 := by have := Nat.pow_lt_pow_right (a := 2) (by decide) hr8; simpa using this
            have hlt : z.toNat ^^^ 2 ^ r < 256 := Nat.xor_lt_two_pow (n := 8) z.toNat_lt hp2
            obtain ⟨y, hye⟩ : ∃ y : UInt8, y.toNat = z.toNat ^^^ 2 ^ r := ⟨UInt8.ofNat _, ofNat_toNat hlt⟩
            have hxor := u8_xor_nat z.toNat (2 ^ r) z.toNat_lt hp2
            rw [← hye] at hxor
            have hxor' : bits BinOp.xor IntKind.u8 (z.toNat : Int) (2 ^ r) = (y.toNat : Int) := by simpa using hxor
            have hs1 : IntKind.u8.wrap (2 ^ r) = 2 ^ r := by
              rw [IntKind.wrap_u8']
              have : ((2 ^ r : Nat) : Int) < 256 := by exact_mod_cast hp2
              have h0 : (0 : Int) ≤ ((2 ^ r : Nat) : Int) := Int.natCast_nonneg _
              push_cast at this h0
              omega
            have hc := blk_get hg.out ht.out hyz hml
            have hf := blk_frozen hg.out m
            obtain ⟨hg3, ht3⟩ := blk_put hg.out ht.out m y
            have hg3 := hid' hg3
            have ht3 := hid' ht3
            have e1 : ((p : Int) + (k : Int)) / 8 = (m : Int) := by omega
            have e2 : ((p : Int) + (k : Int)).tdiv 8 = (m : Int) := by rw [Int.tdiv_eq_ediv_of_nonneg (by omega)]; exact e1
            have e3 : ((p : Int) + (k : Int)) % 8 = (r : Int) := by omega
            have e4 : ((p : Int) + (k : Int)).tmod 8 = (r : Int) := by rw [Int.tmod_eq_emod_of_nonneg (by omega)]; exact e3
            have e5 : IntKind.i64.wrap ((p : Int) + (k : Int)) = (p : Int) + (k : Int) := by rw [IntKind.wrap_i64]; omega
            have e6 : IntKind.i64.wrap (m : Int) = (m : Int) := by rw [IntKind.wrap_i64]; omega
            have HM := hid' hm
            have HR := hid' hr
            have HY := hid' hye
            have HZ := hid' hz
            have HYZ := hid' hyz
            clear hm hr hye hz hyz hp2 hlt hxor
            go_wp2_with fail
            go_region_with (fail)
            clear hxor' hs1 hc hf e1 e2 e3 e4 e5 e6
            go_wp2
            go_roundw
            case rel =>
              refine ⟨k + 1, true, ys.set m y, _, by omega, by omega, by go_num, rfl, ?_, hg3.out, ht3.out, ?_, ?_, ?_⟩
              · show _ = _
                simp [burst_ne HB.out]
              · show _ = _
                rw [List.length_set]; exact hl.out
              · show _ = _
                have hi : (p + k) / 8 < ys.length := by rw [HM.out, hl.out]; exact hml
                have e := burst_step (y := y) hw.out HB.out hi (by
                  rw [HY.out, HR.out]
                  congr 2
                  have := List.getElem?_eq_getElem hi
                  simp only [HM.out] at this ⊢
                  exact (Option.some.inj (this.symm.trans HYZ.out)).symm)
                rw [HM.out] at e
                exact e
              · exact Below.drew (hbel.setCell hg1 _)
            case measure => simp [intOf]; omega
        · have hkp : 8 * m3 ≤ p + k := by omega
          have K0 : 0 < m3 := hn0
          go_wp2_with fail
          (
            have hB := hbel
            have hY3 : Byt _ _ _ _ _ := blk_byt hg.out ht.out hl.out
            have K1 := Open_any _ c3 m3 (some ⟨g, 0, none⟩) ys wr hY3 (Nat.le_refl _) hcap2
            have K1 := Lib.hid K1
            have hend := burst_end (HL.out.trans hl.out.symm) hw.out hk (by have := HL.out; omega)
            have hE : (b = true ∧ opE ys = 50) ∨ (b = false ∧ opE ys = 0) := by
              by_cases hz0 : bu % 2 ^ k = 0
              · right
                have e1 : word zs = word ys := by
                  have e2 := hw.out
                  rw [hz0, Nat.mul_zero] at e2
                  exact x_eq.1 e2
                have e3 := word_inj zs ys (HL.out.trans hl.out.symm) e1
                subst e3
                exact ⟨by rw [hbb.out]; simp [hz0], HO.out⟩
              · left
                have e1 : sum32 ys ≠ res := fun e => hz0 (hend.1 (HS.out.trans e.symm))
                refine ⟨by rw [hbb.out]; simp [hz0], ?_⟩
                unfold opE
                have := hl.out
                rw [if_neg (by omega), if_neg (by omega), if_pos e1]
            have hE := Lib.hid hE
            clear hY3 hend hw hbb hg ht hl HL HG HT hbel HO HS hm6 hm7
            refine (show Calls _ _ _ _ _ from K1.out).mono ?_
            rintro e w4 ⟨A5, m5, c5, er5, rfl, he5, ho5, hb4⟩
            have hB4 := hb1.trans ((hB.trans (hb4.mono hB.size)).mono hb1.size)
            rcases hE.out with ⟨rfl, h5⟩ | ⟨rfl, h5⟩
            all_goals
              rw [h5] at he5
              obtain rfl := he5.out
              clear hE h5 he5 ho5 hb4 hB K1
              go_wp2
              go_ret
              exact ⟨by simp, hB4⟩)
      · go_wp2_with fail
        (
          have hB := hbel
          have hY3 : Byt _ _ _ _ _ := blk_byt hg.out ht.out hl.out
          have K1 := Open_any _ c3 m3 (some ⟨g, 0, none⟩) ys wr hY3 (Nat.le_refl _) hcap2
          have K1 := Lib.hid K1
          have hend := burst_end (HL.out.trans hl.out.symm) hw.out hk (by have := HL.out; omega)
          have hE : (b = true ∧ opE ys = 50) ∨ (b = false ∧ opE ys = 0) := by
            by_cases hz0 : bu % 2 ^ k = 0
            · right
              have e1 : word zs = word ys := by
                have e2 := hw.out
                rw [hz0, Nat.mul_zero] at e2
                exact x_eq.1 e2
              have e3 := word_inj zs ys (HL.out.trans hl.out.symm) e1
              subst e3
              exact ⟨by rw [hbb.out]; simp [hz0], HO.out⟩
            · left
              have e1 : sum32 ys ≠ res := fun e => hz0 (hend.1 (HS.out.trans e.symm))
              refine ⟨by rw [hbb.out]; simp [hz0], ?_⟩
              unfold opE
              have := hl.out
              rw [if_neg (by omega), if_neg (by omega), if_pos e1]
          have hE := Lib.hid hE
          clear hY3 hend hw hbb hg ht hl HL HG HT hbel HO HS hm6 hm7
          refine (show Calls _ _ _ _ _ from K1.out).mono ?_
          rintro e w4 ⟨A5, m5, c5, er5, rfl, he5, ho5, hb4⟩
          have hB4 := hb1.trans ((hB.trans (hb4.mono hB.size)).mono hb1.size)
          rcases hE.out with ⟨rfl, h5⟩ | ⟨rfl, h5⟩
          all_goals
            rw [h5] at he5
            obtain rfl := he5.out
            clear hE h5 he5 ho5 hb4 hB K1
            go_wp2
            go_ret
            exact ⟨by simp, hB4⟩)
end Go.Proofs.Ytpeemmcaecghjaa
