/-
  The walk of the law FrameCuts.
-/
import Derived.Test.YtpeemmcaecghjaaFrC
import Derived.Test.YtpeemmcaecghjaaBlk
namespace Go.Proofs.Ytpeemmcaecghjaa
open Go.RowKit

set_option maxHeartbeats 1000000 in
set_option maxRecDepth 100000 in
theorem W_FrameCuts (A : Option Addr) (len cap : Nat) (xs : List UInt8) (w : World) : Byt w w.heap.size A len xs → len ≤ cap → cap * 1 ≤ 140737488351232 → ∀ (at_ : Int), -9223372036854775808 ≤ at_ → at_ ≤ 9223372036854775807 → ∀ (A2 : Option Addr) (len2 cap2 : Nat) (ys : List UInt8), Byt w w.heap.size A2 len2 ys → len2 ≤ cap2 → cap2 * 1 ≤ 140737488351232 →
    Calls Try.prog 6 #[.slice A len cap, .int .i64 at_, .slice A2 len2 cap2] w fun e w' => e = .returned (.bool true) ∧ Below w.heap.size w w' := by
  intro hx0 hlc hcap0 at_ ha1 ha2 A2 len2 cap2 ys hy0 hlc2 hcap2
  have hl := Lib.hid hx0.len
  have hx := Lib.hid hx0
  have hl2 := Lib.hid hy0.len
  have hy := Lib.hid hy0
  clear hx0 hy0 hcap0 hcap2
  by_cases hbig : 10000 < len2
  · have t : (10000 : Int) < (len2 : Int) := by omega
    go_enter Try.func6, Try.ntmps6
    go_wp2_with fail
    refine (live_any w).mono ?_
    rintro e w1 ⟨rfl, hb1⟩
    go_wp2
    go_ret
    exact ⟨rfl, hb1⟩
  · have t : ¬ (10000 : Int) < (len2 : Int) := by omega
    have hbig2 : len2 ≤ 10000 := by omega
    clear hbig
    by_cases h4 : 4096 < len
    · have t4 : (4096 : Int) < (len : Int) := by omega
      go_enter Try.func6, Try.ntmps6
      go_wp2_with fail
      refine (live_any w).mono ?_
      rintro e w1 ⟨rfl, hb1⟩
      go_wp2_with fail
      refine (Seal_any _ cap len A xs w1 (hx.out.below hb1) hb1.size hlc).mono ?_
      rintro e w2 ⟨A3, m3, c3, er3, rfl, he3, ho3, hb2⟩
      obtain ⟨_, _, e1⟩ := open_none (xs := xs) (by rw [hl.out]; exact h4)
      rw [e1] at he3
      obtain rfl : er3 = 2 := by rw [he3.out]; rfl
      clear e1 he3 ho3
      go_wp2
      go_ret
      exact ⟨rfl, hb1.trans (hb2.mono hb1.size)⟩
    · have hlx : xs.length ≤ 4096 := by rw [hl.out]; omega
      have HX := Lib.hid hlx
      clear h4 hlx
      go_enter Try.func6, Try.ntmps6
      go_wp2_with fail
      refine (live_any w).mono ?_
      rintro e w1 ⟨rfl, hb1⟩
      go_wp2_with fail
      refine (Seal_any _ cap len A xs w1 (hx.out.below hb1) hb1.size hlc).mono ?_
      rintro e w2 ⟨A3, m3, c3, er3, rfl, he3, ho3, hb2⟩
      have e1 : sB xs = sealL xs := by have := HX.out; unfold sB; rw [if_neg (by omega)]
      have e2 : sE xs = 0 := by have := HX.out; unfold sE; rw [if_neg (by omega)]
      rw [e1] at ho3
      rw [e2] at he3
      obtain rfl : er3 = 0 := by rw [he3.out]; rfl
      have HL := Lib.hid ho3.out.len
      have hok := op_ok (op_seal HX.out).1
      rw [HL.out] at hok
      have hm6 : 6 ≤ m3 := hok.1
      have hm7 : m3 ≤ 4103 := hok.2.1
      have hc3 := ho3.out.2.1
      replace ho3 := Lib.hid ho3.out.byt
      clear e1 e2 he3 hok
      have t1 : ((m3 : Int) == 0) = false := by simp; omega
      obtain ⟨p, hp, hidx⟩ := idx_lt at_ m3 (by omega) (by omega)
      have hs1 := fun W => cut_to (P := Try.prog) Try.underlying22 (elem_info elB) A3 m3 c3 p .i64 (p : Int) rfl (by omega) W
      have hb02 := hb1.trans (hb2.mono hb1.size)
      have K1 := Lib.hid (Open_any _ c3 p A3 _ w2 (ho3.out.take (m := p) (by omega)) (Nat.le_refl _) (by omega))
      go_wp2_with fail
      refine K1.out.mono ?_
      rintro e w3 ⟨A4, m4, c4, er4, rfl, he4, ho4, hb3⟩
      have hne := op_cut HX.out (k := p) (by rw [HL.out]; exact hp)
      have hn := opB_no hne
      rw [hn] at ho4
      obtain rfl : m4 = 0 := by rw [← ho4.out.len]; rfl
      have t5 : (er4 != 0) = true := by have := he4.out; subst this; simp; omega
      have hb03 := hb02.trans (hb3.mono hb02.size)
      have hX3 := ho3.out.below hb3
      clear K1 hs1 hidx t1 hne hn ho4 he4 hb1 hb2 ho3 hb02
      go_wp2_with (at_builtin; refine wp_app rfl _ _ _ _ rfl elB rfl (World.ownsRow_nil _ w3.heap.size _ _) rfl (src_rd Try.underlying22 hX3 bv_one) ?c1 ?c2 ?c3 ?_)
      case c1 => unfold maxLen; omega
      case c2 => omega
      case c3 => exact Nat.le_refl _
      intro v w4 hown4 hb4
      have hown5 : w4.ownsRow w3.heap.size 5 1 v m3 ((sealL xs).map bv) := by simpa using hown4
      have hY4 := hy.out.below (hb03.trans (hb4.mono hb03.size))
      clear hown4
      go_wp2_with (at_builtin; refine wp_app rfl _ _ _ _ rfl elB rfl hown5 rfl (src_rd Try.underlying22 hY4 bv_one) ?c4 ?c5 ?c6 ?_)
      case c4 => unfold maxLen; omega
      case c5 => omega
      case c6 => exact hb4.size
      intro v' w5 hown6 hb5
      obtain ⟨A6, c6, rfl, hc6, _⟩ := own_form hown6
      rw [← List.map_append] at hown6
      have hb05 := hb03.trans ((hb4.trans hb5).mono hb03.size)
      have K2 := Lib.hid (Open_any _ c6 (m3 + len2) A6 _ w5 (Byt.of_own hown6) (Nat.le_refl _) hc6)
      clear hY4 hown5 hown6 hX3 hb4 hb5 hb3 hb03
      go_wp2_with fail
      refine K2.out.mono ?_
      rintro e w6 ⟨A7, m7, c7, er7, rfl, he7, ho7, hb6⟩
      have hb06 := hb05.trans (hb6.mono hb05.size)
      by_cases hz : len2 = 0
      · have hys : ys = [] := List.eq_nil_of_length_eq_zero (by rw [hl2.out]; exact hz)
        have h0 := (op_more (zs := ys) HX.out).2 hys
        rw [h0] at he7
        obtain rfl : er7 = 0 := by rw [he7.out]; rfl
        have t6 : ((len2 : Int) == 0) = true := by simp; omega
        clear K2 h0 he7 ho7 hys hz hb6 hb05
        go_wp2
        go_ret
        exact ⟨by simp, hb06⟩
      · have h0 : opE (sealL xs ++ ys) ≠ 0 := fun h => hz (by have := (op_more (zs := ys) HX.out).1 h; rw [← hl2.out, this]; rfl)
        have hn := opB_no h0
        rw [hn] at ho7
        obtain rfl : m7 = 0 := by rw [← ho7.out.len]; rfl
        have t6 : ((len2 : Int) == 0) = false := by simp; omega
        have t7 : (er7 == 0) = false := by have := he7.out; subst this; simp; omega
        clear K2 h0 hn he7 ho7 hb6 hb05
        go_wp2
        go_ret
        exact ⟨by simp, hb06⟩
end Go.Proofs.Ytpeemmcaecghjaa
