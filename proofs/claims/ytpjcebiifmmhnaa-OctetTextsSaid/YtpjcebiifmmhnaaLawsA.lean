/-
  The walks of the laws OctetOrder, OctetCuts, OctetBack.
-/
import Derived.Test.YtpjcebiifmmhnaaOctG
namespace Go.Proofs.Ytpjcebiifmmhnaa
open Go.RowKit

set_option maxHeartbeats 1000000 in
set_option maxRecDepth 100000 in
theorem W_OctetOrder (a : Nat) (ha : Hid (a < 18446744073709551616)) (b : Nat) (hb : Hid (b < 18446744073709551616)) (w : World) :
    Calls Try.prog 9 #[.int .u64 (a : Int), .int .u64 (b : Int)] w fun e w' => e = .returned (.bool true) ∧ Below w.heap.size w w' := by
  go_enter Try.func9, Try.ntmps9
  go_wp2_with fail
  refine (live_any w).mono ?_
  rintro e w1 ⟨rfl, hb1⟩
  go_wp2_with fail
  refine (Num_w a ha w1).mono ?_
  rintro e w2 ⟨A1, m1, c1, rfl, hc1, hm1, hm1', hl1, ho1, hb2⟩
  go_wp2_with fail
  refine (Num_w b hb w2).mono ?_
  rintro e w3 ⟨A2, m2, c2, rfl, hc2, hm2, hm2', hl2, ho2, hb3⟩
  have hcv1 := own_str' (c := c1) (Byt.of_own (own_below ho1.out hb3))
  have hcv2 := own_str' (c := c2) (Byt.of_own ho2.out)
  have hfin : Below w.heap.size w w3 := hb1.trans ((hb2.trans (hb3.mono hb2.size)).mono hb1.size)
  have hle : a ≤ b → m1 ≤ m2 := fun h => by
    have := num_mono (b + 1) a b (by omega) h
    rwa [hl1.out, hl2.out] at this
  have hse := str_eq (xs := num a) (ys := num b)
  have hde : decide (num a = num b) = decide (a = b) := by
    by_cases e : a = b
    · subst e; simp
    · have : ¬ num a = num b := fun h => e (num_inj h)
      simp [e, this]
  rw [hde] at hse
  generalize str (num a) = sa at hcv1 hse
  generalize str (num b) = sb at hcv2 hse
  clear hb1 hb2 hb3 ho1 ho2 hde
  have H5 := Lib.hid hfin; clear hfin
  have h10 : (m1 : Int) ≤ 10 := by omega
  by_cases hab : a ≤ b
  · have hmm := hle hab
    clear hle
    by_cases heq : a = b
    · have t1 : ((a : Int) == (b : Int)) = true := by simp; omega
      rw [show decide (a = b) = true from by simp; omega] at hse
      have hge : b ≤ a := by omega
      clear heq
      go_wp2
      go_ret
      exact ⟨rfl, H5.out⟩
    · have hlt : a < b := by omega
      have t1 : ((a : Int) == (b : Int)) = false := by simp; omega
      rw [show decide (a = b) = false from by simp; omega] at hse
      clear heq
      go_wp2
      go_ret
      exact ⟨by first | rfl | (rw [hse]; rfl), H5.out⟩
  · have hlt : b < a := by omega
    have t1 : ((a : Int) == (b : Int)) = false := by simp; omega
    rw [show decide (a = b) = false from by simp; omega] at hse
    clear hab hle
    go_wp2
    go_ret
    exact ⟨by first | rfl | (rw [hse]; rfl), H5.out⟩

theorem Text_w (s : ByteArray) (hs : s.size ≤ 100000) (w : World) :
    Calls Try.prog 19 #[.string s] w fun e w' => ∃ (A : Option Addr) (m c : Nat), e = .returned (.slice A m c) ∧ m ≤ c ∧ 1 ≤ m ∧ m ≤ 100010 ∧ Hid ((txt s).length = m) ∧ Hid (w'.ownsRow w.heap.size 5 1 (.slice A m c) m ((txt s).map bv)) ∧ Below w.heap.size w w' := by
  refine (Text_any s hs w).mono ?_
  rintro e w' ⟨v, rfl, ho, hb⟩
  obtain ⟨A, c, rfl, hc, _⟩ := own_form ho
  have h1 := txt_len s
  have h2 := num_pos s.size
  have h3 := num_len (n := s.size) (by omega)
  exact ⟨A, _, c, rfl, hc, by omega, by omega, rfl, ho, hb⟩

set_option maxHeartbeats 1000000 in
set_option maxRecDepth 100000 in
theorem W_OctetCuts (n : Nat) (hn : Hid (n < 18446744073709551616)) (s : ByteArray) (hs : s.size ≤ 140737488351232) (w : World) :
    Calls Try.prog 10 #[.int .u64 (n : Int), .string s] w fun e w' => e = .returned (.bool true) ∧ Below w.heap.size w w' := by
  by_cases hbig : 10000 < s.size
  · go_enter Try.func10, Try.ntmps10
    go_wp2_with fail
    refine (live_any w).mono ?_
    rintro e w1 ⟨rfl, hb1⟩
    go_wp2
    go_ret
    exact ⟨rfl, hb1⟩
  · have hsm : s.size ≤ 10000 := by omega
    clear hbig hs
    go_enter Try.func10, Try.ntmps10
    go_wp2_with fail
    refine (live_any w).mono ?_
    rintro e w1 ⟨rfl, hb1⟩
    go_wp2_with fail
    refine (Num_w n hn w1).mono ?_
    rintro e w2 ⟨A1, m1, c1, rfl, hc1, hm1, hm1', hl1, ho1, hb2⟩
    go_wp2_with fail
    refine (Text_w s (by omega) w2).mono ?_
    rintro e w3 ⟨A2, m2, c2, rfl, hc2, hm2, hm2', hl2, ho2, hb3⟩
    go_wp2_with fail
    refine (Fixed_any _ (by omega) w3).mono ?_
    rintro e w4 ⟨rfl, hb4⟩
    have hz1 : ((m1 : Int) == 0) = false := by simp; omega
    have hz2 : ((m2 : Int) == 0) = false := by simp; omega
    have hs1 := fun W => cut_to (P := Try.prog) Try.underlying23 (elem_info elB) A1 m1 c1 (m1 - 1) .i64 ((m1 : Int) - 1) (by omega) (by omega) W
    have hs2 := fun W => cut_to (P := Try.prog) Try.underlying23 (elem_info elB) A2 m2 c2 (m2 - 1) .i64 ((m2 : Int) - 1) (by omega) (by omega) W
    go_wp2_with fail
    generalize hW : World.alloc w4 _ = w5
    have hb5 : Below w4.heap.size w4 w5 := by rw [← hW]; exact below_alloc _ _
    clear hW
    have hb35 : Below w3.heap.size w3 w5 := hb4.trans (hb5.mono hb4.size)
    have hb25 : Below w2.heap.size w2 w5 := hb3.trans (hb35.mono hb3.size)
    have hfin : Below w.heap.size w w5 := hb1.trans ((hb2.trans (hb25.mono hb2.size)).mono hb1.size)
    have hY1 := (Byt.of_own (own_below ho1.out hb25)).take (m := m1 - 1) (by omega)
    have hY2 := (Byt.of_own (own_below ho2.out hb35)).take (m := m2 - 1) (by omega)
    have K1 := ReadNum_any _ c1 _ _ _ _ (by unfold maxLen; omega) (by omega) hY1
    have K2 := ReadText_any _ c2 _ _ _ (s.size : Int) _ (by unfold maxLen; omega) (by omega) hY2 (by omega) (by omega)
    rw [← hl1.out, rdNum_cut n hn.out, hl1.out] at K1
    rw [← hl2.out, rdText_cut s (by omega), hl2.out] at K2
    clear hY1 hY2 hb5 hb35 hb25 hb1 hb2 hb3 hb4 ho1 ho2 hz1 hz2
    have K1 := Lib.hid K1
    have K2 := Lib.hid K2
    have hfin := Lib.hid hfin
    refine K1.out.mono ?_
    rintro e w6 ⟨rfl, rfl⟩
    unfold tup3
    go_wp2_with fail
    refine K2.out.mono ?_
    rintro e w6 ⟨rfl, rfl⟩
    unfold tupT
    go_wp2_with fail
    refine (ReadFixed_short _ _ _ _ (by decide)).mono ?_
    rintro e w6 ⟨rfl, rfl⟩
    go_wp2
    go_ret
    exact ⟨rfl, hfin.out⟩
end Go.Proofs.Ytpjcebiifmmhnaa
