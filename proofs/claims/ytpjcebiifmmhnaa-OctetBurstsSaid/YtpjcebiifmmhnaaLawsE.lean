/-
  The walk of the law OctetBursts (unfinished).
-/
import Derived.Test.YtpjcebiifmmhnaaLawsC
import Derived.Test.YtpjcebiifmmhnaaBurst
import Derived.Deep.RegionWith
import Derived.Deep.RegionHeld3
import Derived.BigRegion
namespace Go.Proofs.Ytpjcebiifmmhnaa
open Go.RowKit

set_option maxHeartbeats 2000000 in
set_option maxRecDepth 100000 in
theorem W_OctetBursts (A : Option Addr) (len cap : Nat) (xs : List UInt8) (w : World) : Byt w w.heap.size A len xs → len ≤ cap → cap * 1 ≤ 140737488351232 → ∀ (at_ : Int), -9223372036854775808 ≤ at_ → at_ ≤ 9223372036854775807 → ∀ (bu : Nat), bu < 4294967296 →
    Calls Try.prog 8 #[.slice A len cap, .int .i64 at_, .int .u32 (bu : Int)] w fun e w' => e = .returned (.bool true) ∧ Below w.heap.size w w' := by
  intro hx0 hlc0 hcap0 at_ ha1 ha2 bu hbu
  have hx := Lib.hid hx0
  clear hx0
  have hlm : len ≤ 140737488351232 := by omega
  clear hcap0
  by_cases hz : len = 0 ∨ 100000 < len
  · rcases hz with hz | hz
    · subst hz
      go_enter Try.func8, Try.ntmps8
      go_wp2_with fail
      refine (live_any w).mono ?_
      rintro e w1 ⟨rfl, hb1⟩
      go_wp2
      go_ret
      exact ⟨rfl, hb1⟩
    · have t1 : ((8 * (len : Int)) == 0) = false := by simp; omega
      go_enter Try.func8, Try.ntmps8
      go_wp2_with fail
      refine (live_any w).mono ?_
      rintro e w1 ⟨rfl, hb1⟩
      go_wp2
      go_ret
      exact ⟨rfl, hb1⟩
  · have hn0 : 0 < len := by omega
    have hn1 : len ≤ 100000 := by omega
    clear hz
    have t1 : ((8 * (len : Int)) == 0) = false := by simp; omega
    go_enter Try.func8, Try.ntmps8
    go_wp2_with fail
    refine (live_any w).mono ?_
    rintro e w1 ⟨rfl, hb1⟩
    obtain ⟨p, hp, hidx⟩ := idx_lt at_ (8 * len) (by omega) (by omega)
    replace hidx : (wrap64 (at_.tmod (8 * (len : Int)) + 8 * (len : Int))).tmod (8 * (len : Int)) = (p : Int) := by simpa using hidx
    have hX1 := hx.out.below hb1
    go_wp2_with (at_builtin; refine wp_app rfl _ _ _ _ rfl elB rfl (World.ownsRow_nil _ w1.heap.size _ _) rfl (src_rd Try.underlying23 hX1 bv_one) ?c1 ?c2 ?c3 ?_)
    case c1 => unfold maxLen; omega
    case c2 => omega
    case c3 => exact Nat.le_refl _
    intro v w2 hown2 hb2
    obtain ⟨g, cap2, cur, rfl, hg1, hcap2, hcm, hg, htake, hgs⟩ := own_pos hown2 hn0
    have HG := Lib.hid hg
    have HT := Lib.hid htake
    have HL := Lib.hid (show xs.length = len from hx.out.len)
    clear hg htake hown2 hX1
    go_wp2_with fail
    clear hidx t1
    go_loopw [10, 11] (fun t i wr => ∃ (k : Nat) (b : Bool) (ys : List UInt8) (cur : Array Value), k ≤ 32 ∧ p + k ≤ 8 * len ∧ i = .int .i64 (k : Int) ∧ t = .bool b ∧ Hid (b = decide (bu % 2 ^ k ≠ 0)) ∧ Hid (wr.heap[g]? = some (.cells cur 5 (0, 0))) ∧ Hid (cur.toList.take len = ys.map bv) ∧ Hid (ys.length = len) ∧ Hid (word xs ^^^ word ys = 2 ^ p * (bu % 2 ^ k)) ∧ Below w1.heap.size w1 wr) (fun _ i _ => 32 - (intOf i).toNat)
    case atStart =>
      refine ⟨0, false, xs, cur, by omega, by omega, rfl, rfl, ?_, HG.out, HT.out, HL.out, ?_, hb2⟩
      · show _ = _
        simp [Nat.mod_one]
      · show _ = _
        simp [Nat.mod_one]
    case round =>
      obtain ⟨k, b, ys, cur, hk, hpk, rfl, rfl, hbb, hg, ht, hl, hw, hbel⟩ := hrel
      by_cases hk32 : k < 32
      · by_cases hpl : p + k < 8 * len
        · have hdv : ((bu : Int) / 2 ^ k) = ((bu / 2 ^ k : Nat) : Int) := by simp
          have hd2 : bu / 2 ^ k < 2 ^ 32 := Nat.lt_of_le_of_lt (Nat.div_le_self _ _) hbu
          have h1 := and1 (bu / 2 ^ k) hd2
          rw [← hdv] at h1
          cases hbit : bu.testBit k
          · have h2 : bu / 2 ^ k % 2 = 0 := by
              rw [Nat.testBit_eq_decide_div_mod_eq] at hbit
              have := of_decide_eq_false hbit; omega
            rw [h2] at h1
            have HB := Lib.hid hbit
            clear hbit hdv hd2 h2
            go_wp2
            go_roundw
            case rel =>
              refine ⟨k + 1, b, ys, cur, by omega, by omega, by go_num, rfl, ?_, hg, ht, hl, ?_, hbel⟩
              · rw [burst_zero HB.out]; exact hbb
              · rw [burst_zero HB.out]; exact hw
            case measure => simp [intOf]; omega
          · have h2 : bu / 2 ^ k % 2 = 1 := by
              rw [Nat.testBit_eq_decide_div_mod_eq] at hbit
              exact of_decide_eq_true hbit
            rw [h2] at h1
            have HB := Lib.hid hbit
            clear hbit hdv hd2 h2
            obtain ⟨m, hm⟩ : ∃ m, (p + k) / 8 = m := ⟨_, rfl⟩
            obtain ⟨r, hr⟩ : ∃ r, (p + k) % 8 = r := ⟨_, rfl⟩
            have hml : m < len := by omega
            have hr8 : r < 8 := by omega
            obtain ⟨z, hz⟩ : ∃ z, ys[m]'(by rw [hl.out]; exact hml) = z := ⟨_, rfl⟩
            have hyz : ys[m]? = some z := by rw [List.getElem?_eq_getElem (by rw [hl.out]; exact hml), hz]
            have hp2 : 2 ^ r < 256 := by have := Nat.pow_lt_pow_right (a := 2) (by decide) hr8; simpa using this
            have hlt : z.toNat ^^^ 2 ^ r < 256 := Nat.xor_lt_two_pow (n := 8) z.toNat_lt hp2
            obtain ⟨y, hye⟩ : ∃ y : UInt8, y.toNat = z.toNat ^^^ 2 ^ r := ⟨UInt8.ofNat _, ofNat_toNat hlt⟩
            have hxor := u8_xor_nat z.toNat (2 ^ r) z.toNat_lt hp2
            rw [← hye] at hxor
            have hxor' : bits BinOp.xor IntKind.u8 (z.toNat : Int) (2 ^ r) = (y.toNat : Int) := by simpa using hxor
            have hs1 : IntKind.u8.wrap (2 ^ r) = 2 ^ r := by
              rw [IntKind.wrap_u8']
              have : ((2 ^ r : Nat) : Int) < 256 := by exact_mod_cast hp2
              have h0 : (0 : Int) ≤ ((2 ^ r : Nat) : Int) := Int.natCast_nonneg _
              push_cast at this h0
              omega
            have hc := blk_get hg.out ht.out hyz hml
            have hf := blk_frozen hg.out m
            obtain ⟨hg3, ht3⟩ := blk_put hg.out ht.out m y
            have hg3 := hid' hg3
            have ht3 := hid' ht3
            have e1 : ((p : Int) + (k : Int)) / 8 = (m : Int) := by omega
            have e2 : ((p : Int) + (k : Int)).tdiv 8 = (m : Int) := by rw [Int.tdiv_eq_ediv_of_nonneg (by omega)]; exact e1
            have e3 : ((p : Int) + (k : Int)) % 8 = (r : Int) := by omega
            have e4 : ((p : Int) + (k : Int)).tmod 8 = (r : Int) := by rw [Int.tmod_eq_emod_of_nonneg (by omega)]; exact e3
            have e5 : IntKind.i64.wrap ((p : Int) + (k : Int)) = (p : Int) + (k : Int) := by rw [IntKind.wrap_i64]; omega
            have e6 : IntKind.i64.wrap (m : Int) = (m : Int) := by rw [IntKind.wrap_i64]; omega
            have HM := hid' hm
            have HR := hid' hr
            have HY := hid' hye
            have HZ := hid' hz
            have HYZ := hid' hyz
            clear hm hr hye hz hyz hp2 hlt hxor
            go_wp2_with fail
            go_region_with (fail)
            clear hxor' hs1 hc hf e1 e2 e3 e4 e5 e6
            go_wp2
            go_roundw
            case rel =>
              refine ⟨k + 1, true, ys.set m y, _, by omega, by omega, by go_num, rfl, ?_, hg3.out, ht3.out, ?_, ?_, ?_⟩
              · show _ = _
                simp [burst_ne HB.out]
              · show _ = _
                rw [List.length_set]; exact hl.out
              · show _ = _
                have hi : (p + k) / 8 < ys.length := by rw [HM.out, hl.out]; exact hml
                have e := burst_step (y := y) hw.out HB.out hi (by
                  rw [HY.out, HR.out]
                  congr 2
                  have := List.getElem?_eq_getElem hi
                  simp only [HM.out] at this ⊢
                  exact (Option.some.inj (this.symm.trans HYZ.out)).symm)
                rw [HM.out] at e
                exact e
              · exact Below.drew (hbel.setCell hg1 _)
            case measure => simp [intOf]; omega
        · have hkp : 8 * len ≤ p + k := by omega
          have K0 : 0 < len := hn0
          go_wp2_with fail
          (
            have hB := hb1.trans (hbel.mono hb1.size)
            have hX3 : Byt _ _ _ _ _ := (hx.out.below hB).more hB.size
            have hY3 : Byt _ _ _ _ _ := blk_byt hg.out ht.out hl.out
            have K1 := Sum_any cap len A xs _ (by unfold maxLen; omega) hX3
            have K2 := fun W (hW : Below wr.heap.size wr W) => Sum_any cap2 len (some ⟨g, 0, none⟩) ys W (by unfold maxLen; omega) ((hY3.below hW).more hW.size)
            replace K1 := hid' K1
            replace K2 := hid' K2
            replace hB := hid' hB
            have hend := burst_end (HL.out.trans hl.out.symm) hw.out hk (by have := HL.out; omega)
            have t3 : (((sum32 xs : Nat) : Int) != ((sum32 ys : Nat) : Int)) = b := by
              rw [hbb.out]
              by_cases hz0 : bu % 2 ^ k = 0
              · have := hend.2 hz0
                rw [this]; simp [hz0]
              · have : sum32 xs ≠ sum32 ys := fun e => hz0 (hend.1 e)
                simp [hz0]; omega
            have t4 : (b == b) = true := by simp
            clear hX3 hY3 hend hw hbb hg ht hl HL HG HT hbel hx
            generalize sum32 xs = s1 at K1 t3
            generalize sum32 ys = s2 at K2 t3
            refine (show Calls _ _ _ _ _ from K1.out).mono ?_
            rintro e w4 ⟨rfl, hb4⟩
            go_wp2_with fail
            refine (K2.out _ hb4).mono ?_
            rintro e w5 ⟨rfl, hb5⟩
            go_wp2
            go_ret
            exact ⟨by first | rfl | (congr 2; rw [t3, t4]) | simp [t3], hB.out.trans ((hb4.trans (hb5.mono hb4.size)).mono hB.out.size)⟩)
      · go_wp2_with fail
        (
          have hB := hb1.trans (hbel.mono hb1.size)
          have hX3 : Byt _ _ _ _ _ := (hx.out.below hB).more hB.size
          have hY3 : Byt _ _ _ _ _ := blk_byt hg.out ht.out hl.out
          have K1 := Sum_any cap len A xs _ (by unfold maxLen; omega) hX3
          have K2 := fun W (hW : Below wr.heap.size wr W) => Sum_any cap2 len (some ⟨g, 0, none⟩) ys W (by unfold maxLen; omega) ((hY3.below hW).more hW.size)
          replace K1 := hid' K1
          replace K2 := hid' K2
          replace hB := hid' hB
          have hend := burst_end (HL.out.trans hl.out.symm) hw.out hk (by have := HL.out; omega)
          have t3 : (((sum32 xs : Nat) : Int) != ((sum32 ys : Nat) : Int)) = b := by
            rw [hbb.out]
            by_cases hz0 : bu % 2 ^ k = 0
            · have := hend.2 hz0
              rw [this]; simp [hz0]
            · have : sum32 xs ≠ sum32 ys := fun e => hz0 (hend.1 e)
              simp [hz0]; omega
          have t4 : (b == b) = true := by simp
          clear hX3 hY3 hend hw hbb hg ht hl HL HG HT hbel hx
          generalize sum32 xs = s1 at K1 t3
          generalize sum32 ys = s2 at K2 t3
          refine (show Calls _ _ _ _ _ from K1.out).mono ?_
          rintro e w4 ⟨rfl, hb4⟩
          go_wp2_with fail
          refine (K2.out _ hb4).mono ?_
          rintro e w5 ⟨rfl, hb5⟩
          go_wp2
          go_ret
          exact ⟨by first | rfl | (congr 2; rw [t3, t4]) | simp [t3], hB.out.trans ((hb4.trans (hb5.mono hb4.size)).mono hB.out.size)⟩)
end Go.Proofs.Ytpjcebiifmmhnaa
