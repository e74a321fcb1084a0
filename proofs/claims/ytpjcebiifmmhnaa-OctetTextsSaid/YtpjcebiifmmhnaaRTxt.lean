/-
  Contracts of the reference's Text, ReadText.
-/
import Derived.Test.YtpjcebiifmmhnaaRNum
import Derived.Test.YtpjcebiifmmhnaaOctD
namespace Go.Proofs.Ytpjcebiifmmhnaa
open Go.RowKit

set_option maxHeartbeats 400000 in
set_option maxRecDepth 100000 in
theorem rText_any (s : ByteArray) (hs : s.size ≤ 100000) (w : World) :
    Calls Try.prog 20 #[.string s] w fun e w' => ∃ v, e = .returned v ∧ w'.ownsRow w.heap.size 5 1 v (txt s).length ((txt s).map bv) ∧ Below w.heap.size w w' := by
  have hl := num_len (n := s.size) (by omega)
  have hlz : (txt s).length = (num s.size).length + s.size := by unfold txt; rw [List.length_append, Array.length_toList]; rfl
  have K := Lib.hid (rNum_aux (s.size + 1) s.size (Nat.lt_succ_self _) (by show _ < _; omega) w)
  have HL := Lib.hid hl; clear hl
  have HZ := Lib.hid hlz; clear hlz
  go_enter Try.func20, Try.ntmps20
  go_wp2_with fail
  refine K.out.mono ?_
  rintro e w1 ⟨v, rfl, hown, hb⟩
  go_wp2_with (at_builtin; refine wp_app rfl _ _ _ _ rfl elB rfl hown rfl (Src.ofString w1 Try.underlying9 s) ?c1 ?c2 ?c3 ?_)
  case c1 => have := HL.out; unfold maxLen; omega
  case c2 => have := HL.out; omega
  case c3 => exact hb.size
  intro v' w' hown' hbel'
  go_wp2
  go_ret
  refine ⟨_, rfl, ?_, hb.trans hbel'⟩
  rw [HZ.out]
  unfold txt
  rw [List.map_append, ← byteCells_bv]
  exact hown'

theorem rText_w (s : ByteArray) (hs : s.size ≤ 100000) (w : World) :
    Calls Try.prog 20 #[.string s] w fun e w' => ∃ (A : Option Addr) (m c : Nat), e = .returned (.slice A m c) ∧ m ≤ c ∧ Hid (w'.ownsRow w.heap.size 5 1 (.slice A m c) m ((txt s).map bv)) ∧ Below w.heap.size w w' := by
  refine (rText_any s hs w).mono ?_
  rintro e w' ⟨v, rfl, ho, hb⟩
  obtain ⟨A, c, rfl, hc, _⟩ := own_form ho
  exact ⟨A, _, c, rfl, hc, ho, hb⟩

set_option maxHeartbeats 400000 in
set_option maxRecDepth 100000 in
theorem rReadText_any (B cap n : Nat) (A : Option Addr) (xs : List UInt8) (most : Int) (w : World) (hl : n ≤ maxLen) (hcap : n ≤ cap) (hx : Byt w B A n xs) (hB : B ≤ w.heap.size) (hm1 : -9223372036854775808 ≤ most) (hm2 : most ≤ 9223372036854775807) :
    Calls Try.prog 18 #[.slice A n cap, .int .i64 most] w fun e w' => e = .returned (tupT (rdText xs most)) ∧ Below w.heap.size w w' := by
  have hn := hx.len
  have K := rReadNum_any B cap n A xs w hl hcap hx hB
  have hk := rdNum_k xs
  have he := rdNum_e xs
  have e : rdText xs most = if (rdNum xs).2.2 ≠ 0 then ([], 0, (rdNum xs).2.2)
    else if most < 0 ∨ most < ((rdNum xs).1 : Int) then ([], 0, 2)
    else if n - (rdNum xs).2.1 < (rdNum xs).1 then ([], 0, 10)
    else ((xs.drop (rdNum xs).2.1).take (rdNum xs).1, (rdNum xs).2.1 + (rdNum xs).1, 0) := by rw [← hn]; rfl
  rw [e]; clear e
  rw [hn] at hk
  unfold tup3 at K
  obtain ⟨⟨a, k, er⟩, hr⟩ : ∃ r, rdNum xs = r := ⟨_, rfl⟩
  rw [hr] at K hk he ⊢
  simp only at K hk he ⊢
  clear hr
  have HX := Lib.hid hx; clear hx
  have HK := Lib.hid K; clear K
  clear hn
  unfold maxLen at hl
  by_cases h0 : er = 0
  · subst h0
    clear he
    rw [if_neg (by simp)]
    by_cases hneg : most < 0
    · rw [if_pos (.inl hneg)]
      go_enter Try.func18, Try.ntmps18
      go_wp2_with fail
      refine HK.out.mono ?_
      rintro e w1 ⟨rfl, hb1⟩
      go_wp2
      go_ret3
      exact ⟨rfl, hb1⟩
    · obtain ⟨mo, rfl⟩ := Int.eq_ofNat_of_zero_le (show 0 ≤ most by omega)
      clear hneg hm1
      by_cases hmo : mo < a
      · rw [if_pos (.inr (by omega))]
        go_enter Try.func18, Try.ntmps18
        go_wp2_with fail
        refine HK.out.mono ?_
        rintro e w1 ⟨rfl, hb1⟩
        go_wp2
        go_ret3
        exact ⟨rfl, hb1⟩
      · rw [if_neg (by omega)]
        by_cases hsh : n - k < a
        · rw [if_pos hsh]
          go_enter Try.func18, Try.ntmps18
          go_wp2_with fail
          refine HK.out.mono ?_
          rintro e w1 ⟨rfl, hb1⟩
          go_wp2
          go_ret3
          exact ⟨rfl, hb1⟩
        · rw [if_neg hsh]
          obtain ⟨A', hA1, _, hA3⟩ := cut_any (P := Try.prog) Try.underlying23 (elem_info elB) A n cap k (k + a) (by omega) (by omega)
          have hr := hA3 w B _ (by omega) HX.out
          simp only [Nat.mul_one, Nat.add_sub_cancel_left] at hA1 hr
          rw [← List.map_drop, ← List.map_take] at hr
          have hsl := Lib.hid (fun W => hA1 .i64 .i64 (k : Int) ((k : Int) + (a : Int)) W rfl (by omega))
          have hcv := Lib.hid (fun W (hW : Below w.heap.size w W) => conv_bytes (P := Try.prog) (src := 23) (dst := 9) Try.underlying23 Try.underlying5 Try.underlying9 (Rd.below hr (hW.mono hB)) (cap - k))
          clear hr hA1 hA3
          go_enter Try.func18, Try.ntmps18
          go_wp2_with fail
          refine HK.out.mono ?_
          rintro e w1 ⟨rfl, hb1⟩
          replace hsl := hsl.out w1
          replace hcv := hcv.out w1 hb1
          go_wp2
          go_ret3
          exact ⟨rfl, hb1⟩
  · rw [if_pos h0]
    have t0 : ((er : Int) == 0) = false := by simp; omega
    clear he h0
    go_enter Try.func18, Try.ntmps18
    go_wp2_with fail
    refine HK.out.mono ?_
    rintro e w1 ⟨rfl, hb1⟩
    go_wp2
    go_ret3
    exact ⟨rfl, hb1⟩
end Go.Proofs.Ytpjcebiifmmhnaa
