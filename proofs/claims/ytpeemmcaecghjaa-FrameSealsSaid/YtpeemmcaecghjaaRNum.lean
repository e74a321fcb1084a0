/-
  Contracts of the reference's Num, ReadNum.
-/
import Derived.Test.YtpeemmcaecghjaaStr
import Derived.Test.YtpeemmcaecghjaaReg
import Derived.Laws.OwnMore
import Derived.Deep.RegionWith
import Derived.BigQuiet
namespace Go.Proofs.Ytpeemmcaecghjaa
open Go.RowKit

theorem rd_yes {xs : List UInt8} {i v : Nat} (hi : i < xs.length) (hv : v < 18446744073709551616) (h : num v = xs.take (i + 1)) : rdNum xs = (v, i + 1, 0) := by
  have := rdNum_num v hv (xs.drop (i + 1))
  rw [h, List.take_append_drop, List.length_take, Nat.min_eq_left (by omega)] at this
  exact this

theorem rd_no {xs : List UInt8} {i : Nat} (e : nlen xs = i + 1) (h : num (unum (xs.take (i + 1)) % 18446744073709551616) ≠ xs.take (i + 1)) : rdNum xs = (0, 0, 11) := by
  have h1 := @num_rdNum xs
  unfold rdNum at h1 ⊢
  rw [e] at h1 ⊢
  rw [if_neg (by omega)] at h1 ⊢
  by_cases hb : (1 < i + 1 ∧ lastOf xs = 0) ∨ (i + 1 = 10 ∧ 1 < lastOf xs)
  · rw [if_pos hb]
  · rw [if_neg hb] at h1
    obtain ⟨h2, h3⟩ := h1 rfl
    simp only at h2 h3
    exact absurd (by rw [Nat.mod_eq_of_lt h3]; exact h2) h

set_option maxHeartbeats 1000000 in
set_option maxRecDepth 100000 in
theorem rNum_aux : ∀ (k n : Nat), n < k → Hid (n < 18446744073709551616) → ∀ w : World,
    Calls Try.prog 15 #[.int .u64 (n : Int)] w fun e w' => ∃ v, e = .returned v ∧ w'.ownsRow w.heap.size 5 1 v (num n).length ((num n).map bv) ∧ Below w.heap.size w w' := by
  intro k
  induction k with
  | zero => intro n h; omega
  | succ k ih =>
    intro n hk hn w
    by_cases h : n < 128
    · have t : (n : Int) < 128 := by omega
      have e1 : num n = [UInt8.ofNat n] := num_lt h
      have e2 : bv (UInt8.ofNat n) = .int .u8 (n : Int) := by unfold bv; rw [ofNat_toNat (by omega)]
      have HP := Lib.hid (show (w.alloc (.cells #[.int .u8 (n : Int)] 5)).ownsRow w.heap.size 5 1 (.slice (some ⟨w.heap.size, 0, none⟩) 1 1) (num n).length ((num n).map bv) by
        have := World.ownsRow_lit (e := 5) (size := 1) w #[.int .u8 (n : Int)] 1 (Nat.le_refl _) (by unfold maxLen; omega) rfl
        rw [e1, List.map_cons, List.map_nil, e2]; exact this)
      clear ih e1 e2
      go_enter Try.func15, Try.ntmps15
      go_wp2
      go_ret
      exact ⟨_, rfl, HP.out, (Below.refl _ _).alloc (Nat.le_refl _) _⟩
    · have t : ¬ (n : Int) < 128 := by omega
      obtain ⟨q, hq⟩ : ∃ q, n / 128 = q := ⟨_, rfl⟩
      have hq64 : q < 18446744073709551616 := by have := hn.out; omega
      have e1 : IntKind.u64.wrap ((n : Int) / 128) = (q : Int) := by simp [IntKind.wrap, IntKind.bits, IntKind.signed]; omega
      have hlq := Lib.hid (num_len hq64)
      have e2 : (num n).map bv = [Value.int .u8 ((n : Int) % 128 + 128)] ++ (num q).map bv := by
        rw [num_ge h, hq, List.map_cons]
        unfold bv
        rw [ofNat_toNat (by omega)]
        simp
      have e3 : (num n).length = 1 + (num q).length := by rw [num_ge h, hq, List.length_cons, Nat.add_comm]
      have E2 := Lib.hid e2
      have E3 := Lib.hid e3
      have K := Lib.hid (fun W => ih q (by omega) hq64 W)
      clear ih e2 e3 hq hq64
      go_enter Try.func15, Try.ntmps15
      go_wp2_with fail
      refine (K.out _).mono ?_
      rintro e w1 ⟨v, rfl, ho1, hb1⟩
      have hb01 : Below w.heap.size w w1 := ((Below.refl _ _).alloc (Nat.le_refl _) _).trans (hb1.mono (by simp))
      have hlit : w1.ownsRow w.heap.size 5 1 (.slice (some ⟨w.heap.size, 0, none⟩) 1 1) 1 [.int .u8 ((n : Int) % 128 + 128)] :=
        own_below (World.ownsRow_lit w #[.int .u8 ((n : Int) % 128 + 128)] 1 (Nat.le_refl _) (by unfold maxLen; omega) rfl) hb1
      obtain ⟨A1, c1, rfl, hc1, _⟩ := own_form ho1
      have hN := Byt.of_own ho1
      clear e1 K
      go_wp2_with (at_builtin; refine wp_app rfl _ _ _ _ rfl elB rfl hlit rfl (src_rd Try.underlying22 hN bv_one) ?c1 ?c2 ?c3 ?_)
      case c1 => have := hlq.out; unfold maxLen; omega
      case c2 => have := hlq.out; omega
      case c3 => exact hb01.size
      intro v' w2 hown2 hb2
      have hown3 : w2.ownsRow w.heap.size 5 1 v' (num n).length ((num n).map bv) := by rw [E2.out, E3.out]; exact hown2
      have hb02 := hb01.trans hb2
      have H2 := Lib.hid hown3
      clear hlit hN ho1 hown2 hown3 hb1 hb2
      go_wp2
      go_ret
      exact ⟨_, rfl, H2.out, hb02⟩

theorem rNum_w (n : Nat) (hn : Hid (n < 18446744073709551616)) (w : World) :
    Calls Try.prog 15 #[.int .u64 (n : Int)] w fun e w' => ∃ (A : Option Addr) (m c : Nat), e = .returned (.slice A m c) ∧ m ≤ c ∧ 1 ≤ m ∧ m ≤ 10 ∧ Hid ((num n).length = m) ∧ Hid (w'.ownsRow w.heap.size 5 1 (.slice A m c) m ((num n).map bv)) ∧ Below w.heap.size w w' := by
  refine (rNum_aux (n + 1) n (Nat.lt_succ_self n) hn w).mono ?_
  rintro e w' ⟨v, rfl, ho, hb⟩
  obtain ⟨A, c, rfl, hc, _⟩ := own_form ho
  exact ⟨A, _, c, rfl, hc, num_pos n, num_len hn.out, rfl, ho, hb⟩

/-- The number that bytes say, in 64 bits. -/
def uM (xs : List UInt8) : Nat := unum xs % 18446744073709551616
theorem uM_lt (xs : List UInt8) : uM xs < 18446744073709551616 := Nat.mod_lt _ (by decide)
theorem uM_nil : uM [] = 0 := rfl
theorem uM_cons (x : UInt8) (xs : List UInt8) : IntKind.u64.wrap (IntKind.u64.wrap ((uM xs : Int) * 128) + (x.toNat : Int) % 128) = ((uM (x :: xs) : Nat) : Int) := by
  have e : uM (x :: xs) = (x.toNat % 128 + 128 * unum xs) % 18446744073709551616 := rfl
  have e2 : uM xs = unum xs % 18446744073709551616 := rfl
  simp only [IntKind.wrap, IntKind.bits, IntKind.signed]
  simp
  omega

set_option maxHeartbeats 1000000 in
set_option maxRecDepth 100000 in
theorem rReadNum_any (B cap n : Nat) (A : Option Addr) (xs : List UInt8) (w : World) (hl0 : n ≤ maxLen) (hcap : n ≤ cap) (hx0 : Byt w B A n xs) (hB : B ≤ w.heap.size) :
    Calls Try.prog 22 #[.slice A n cap] w fun e w' => e = .returned (tup3 (rdNum xs)) ∧ Below w.heap.size w w' := by
  have hn := Lib.hid hx0.len
  have hx := Lib.hid hx0
  clear hx0
  unfold maxLen at hl0
  go_enter Try.func22, Try.ntmps22
  go_wp2
  go_loop [5] (fun i => ∃ k : Nat, k ≤ n ∧ k ≤ 10 ∧ i = .int .i64 k ∧ Hid (∀ j (hj : j < xs.length), j < k → 128 ≤ xs[j].toNat)) (fun i => 10 - (intOf i).toNat)
  case atStart => exact ⟨0, by omega, by omega, rfl, fun j hj h => absurd h (Nat.not_lt_zero j)⟩
  case round =>
    obtain ⟨k, hk, hk10, rfl, hb⟩ := hrel
    by_cases h1 : k < n
    · by_cases h2 : k < 10
      · obtain ⟨b, off, x, rfl, hbB, hxk, hc⟩ := hx.out.at_ h1
        have HX := Lib.hid hxk
        clear hxk
        by_cases h3 : 128 ≤ x.toNat
        · have t3 : (128 : Int) ≤ (x.toNat : Int) := by omega
          go_wp2
          go_round
          case rel =>
            refine ⟨k + 1, by omega, by omega, by go_num, fun j hj hjk => ?_⟩
            by_cases hjk' : j < k
            · exact hb.out j hj hjk'
            · have : j = k := by omega
              subst this
              have h5 := HX.out
              rw [List.getElem?_eq_getElem hj] at h5
              cases h5
              exact h3
          case measure => simp [intOf]; omega
        · have t3 : ¬ (128 : Int) ≤ (x.toNat : Int) := by omega
          have HB3 := Lib.hid h3
          clear h3
          have hcell : ∀ (j : Nat) (y : UInt8), (xs.take (k + 1))[j]? = some y → w.cell? ⟨b, off + j, none⟩ = some (.int .u8 (y.toNat : Int)) := fun j y hy => by
            by_cases hjk : j < k + 1
            · rw [List.getElem?_take, if_pos hjk] at hy
              obtain ⟨b', off', z, hA, _, hz, hcz⟩ := hx.out.at_ (k := j) (by omega)
              cases hA
              rw [hz] at hy
              cases hy
              exact hcz
            · rw [List.getElem?_take, if_neg hjk] at hy; cases hy
          obtain ⟨zs, hzs⟩ : ∃ zs, xs.take (k + 1) = zs := ⟨_, rfl⟩
          have hzl : zs.length = k + 1 := by rw [← hzs, List.length_take, hn.out]; omega
          rw [hzs] at hcell
          have HC := Lib.hid hcell
          have HZ := Lib.hid hzs
          have HZL := Lib.hid hzl
          clear hcell hzs hzl
          go_wp2
          go_loop [6, 7] (fun v i => ∃ j : Nat, j ≤ k + 1 ∧ i = .int .i64 ((j : Int) - 1) ∧ v = .int .u64 ((uM (zs.drop j) : Nat) : Int)) (fun _ i => (intOf i + 1).toNat)
          case atStart =>
            refine ⟨k + 1, Nat.le_refl _, by go_num, ?_⟩
            rw [List.drop_of_length_le (by rw [HZL.out]; exact Nat.le_refl _), uM_nil]
            rfl
          case round =>
            obtain ⟨j, hj, rfl, rfl⟩ := hrel
            rcases j with _ | j
            · simp only [show (((0 : Nat) : Int) - 1) = -1 from rfl, List.drop_zero]
              go_wp2_with fail
              obtain ⟨v, hv⟩ : ∃ v, uM zs = v := ⟨_, rfl⟩
              have hv64 : v < 18446744073709551616 := by rw [← hv]; exact uM_lt zs
              have hnl : nlen xs = k + 1 := by
                obtain ⟨hk2, hx2⟩ := List.getElem?_eq_some_iff.1 HX.out
                exact nlen_hit hk2 h2 (by rw [hx2]; have := HB3.out; omega) (fun j hj hjk => hb.out j hj hjk)
              have hR : rdNum xs = if num v = zs then (v, k + 1, 0) else (0, 0, 11) := by
                by_cases hc : num v = zs
                · rw [if_pos hc]
                  exact rd_yes (by rw [hn.out]; exact h1) hv64 (by rw [hc, HZ.out])
                · rw [if_neg hc]
                  exact rd_no hnl (by rw [HZ.out]; show num (uM zs) ≠ zs; rw [hv]; exact hc)
              have HR := Lib.hid hR
              have hs1 := fun W => cut_to (P := Try.prog) Try.underlying22 (elem_info elB) (some ⟨b, off, none⟩) n cap (k + 1) .i64 ((k : Int) + 1) (by omega) (by omega) W
              have hY := Lib.hid (fun (W : World) (hW : Fwd w.drew W) => own_str' (c := cap) (show Byt W B (some ⟨b, off, none⟩) (k + 1) zs by
                have := (hx.out.below (((Below.refl _ w).drew.trans hW).mono hB)).take (m := k + 1) (by omega)
                rw [HZ.out] at this; exact this))
              have HV := Lib.hid hv64
              rw [hv]
              clear hv hv64 hnl hR hc HX hb HB3 HC HZ HZL hx hn
              have hw1 : IntKind.i64.wrap ((k : Int) + 1) = (k : Int) + 1 := by rw [IntKind.wrap_i64]; omega
              refine held_start (by kernel_rfl) ?_
              refine held_take2 (i := 0) (v := ?_) rfl (by kernel_rfl) (by kernel_rfl) (by kernel_rfl) (fun _ _ _ h => h) (by rfl) ?_ ?_
              rotate_left
              · (intro W hW; go_simp; try with_reducible rfl)
              try simp only [Act.put, List.setIfInBounds_toArray, List.set_cons_zero, List.set_cons_succ]
              refine held_take2 (i := 3) (v := ?_) rfl (by kernel_rfl) (by kernel_rfl) (by kernel_rfl) (fun _ _ _ h => h) (by rfl) ?_ ?_
              rotate_left
              · (intro W hW; go_simp; try with_reducible rfl)
              try simp only [Act.put, List.setIfInBounds_toArray, List.set_cons_zero, List.set_cons_succ]
              refine held_take2 (i := 4) (v := ?_) rfl (by kernel_rfl) (by kernel_rfl) (by kernel_rfl) (fun _ _ _ h => h) (by rfl) ?_ ?_
              rotate_left
              · (intro W hW; go_simp; try with_reducible rfl)
              try simp only [Act.put, List.setIfInBounds_toArray, List.set_cons_zero, List.set_cons_succ]
              refine held_take2 (i := 5) (v := ?_) rfl (by kernel_rfl) (by kernel_rfl) (by kernel_rfl) (fun _ _ _ h => h) (by rfl) ?_ ?_
              rotate_left
              · (intro W hW; go_simp; try with_reducible rfl)
              try simp only [Act.put, List.setIfInBounds_toArray, List.set_cons_zero, List.set_cons_succ]
              refine held_take2 (i := 6) (v := ?_) rfl (by kernel_rfl) (by kernel_rfl) (by kernel_rfl) (fun _ _ _ h => h) (by rfl) ?_ ?_
              rotate_left
              · (intro W hW; go_simp; try with_reducible rfl)
              try simp only [Act.put, List.setIfInBounds_toArray, List.set_cons_zero, List.set_cons_succ]
              clear hs1 hw1
              refine held_take2 (i := 7) (v := ?_) rfl (by kernel_rfl) (by kernel_rfl) (by kernel_rfl) (fun _ _ _ h => h) (by rfl) ?_ ?_
              rotate_left
              · (intro W hW; have hcv := hY.out W hW; go_simp; try with_reducible rfl)
              try simp only [Act.put, List.setIfInBounds_toArray, List.set_cons_zero, List.set_cons_succ]
              refine held_call (i := 1) (f := 15) (args := #[.int .u64 (v : Int)]) rfl (by kernel_rfl) (by rfl) (by go_simp) ?_
              refine (rNum_w v HV.out _).mono ?_
              rintro e w9 ⟨A6, m6, c6, rfl, hc6, hm6, hm6', hl6, ho6, hb9⟩
              refine ⟨_, rfl, hb9, ?_⟩
              have hZ := Lib.hid (fun (W : World) (hW : Fwd w9 W) => own_str' (c := c6) ((Byt.of_own ho6.out).below hW))
              have hb09 := Lib.hid ((Below.refl w.heap.size w).drew.trans hb9)
              clear hc6 hm6 hm6' hl6 ho6 hb9 HV hY
              try simp only [Act.put, List.setIfInBounds_toArray, List.set_cons_zero, List.set_cons_succ]
              have hcmp := @str_eq (num v) zs
              generalize str (num v) = z1 at hZ hcmp ⊢
              generalize str zs = z2 at hcmp ⊢
              by_cases hc : num v = zs
              · have t7 : (z1.toList == z2.toList) = true := by rw [hcmp]; simp [hc]
                rw [if_pos hc] at HR
                clear hcmp
                refine held_take2 (i := 2) (v := ?_) rfl (by kernel_rfl) (by kernel_rfl) (by kernel_rfl) (fun _ _ _ h => h) (by rfl) ?_ ?_
                rotate_left
                · (intro W hW; have hcv := hZ.out W hW; go_simp; try with_reducible rfl)
                try simp only [Act.put, List.setIfInBounds_toArray, List.set_cons_zero, List.set_cons_succ]
                refine held_take2 (i := 8) (v := ?_) rfl (by kernel_rfl) (by kernel_rfl) (by kernel_rfl) (fun _ _ _ h => h) (by rfl) ?_ ?_
                rotate_left
                · (intro W hW; go_simp; try with_reducible rfl)
                try simp only [Act.put, List.setIfInBounds_toArray, List.set_cons_zero, List.set_cons_succ]
                refine wpAnyH_done (by kernel_rfl) ?_ _
                go_wp2
                go_ret3
                exact ⟨by rw [HR.out]; rfl, hb09.out⟩
              · have t7 : (z1.toList == z2.toList) = false := by rw [hcmp]; simp [hc]
                rw [if_neg hc] at HR
                clear hcmp
                refine held_take2 (i := 2) (v := ?_) rfl (by kernel_rfl) (by kernel_rfl) (by kernel_rfl) (fun _ _ _ h => h) (by rfl) ?_ ?_
                rotate_left
                · (intro W hW; have hcv := hZ.out W hW; go_simp; try with_reducible rfl)
                try simp only [Act.put, List.setIfInBounds_toArray, List.set_cons_zero, List.set_cons_succ]
                refine held_take2 (i := 8) (v := ?_) rfl (by kernel_rfl) (by kernel_rfl) (by kernel_rfl) (fun _ _ _ h => h) (by rfl) ?_ ?_
                rotate_left
                · (intro W hW; go_simp; try with_reducible rfl)
                try simp only [Act.put, List.setIfInBounds_toArray, List.set_cons_zero, List.set_cons_succ]
                refine wpAnyH_done (by kernel_rfl) ?_ _
                go_wp2
                go_ret3
                exact ⟨by rw [HR.out]; rfl, hb09.out⟩
            · simp only [show (((j + 1 : Nat) : Int) - 1) = (j : Int) from by omega]
              obtain ⟨y, hy⟩ : ∃ y, zs[j]? = some y := ⟨_, List.getElem?_eq_getElem (by rw [HZL.out]; omega)⟩
              have hcj := HC.out j y hy
              have hU := uM_cons y (zs.drop (j + 1))
              have hD : y :: zs.drop (j + 1) = zs.drop j := by
                obtain ⟨hj2, hy2⟩ := List.getElem?_eq_some_iff.1 hy
                rw [List.drop_eq_getElem_cons hj2, hy2]
              rw [hD] at hU
              have HU := Lib.hid hU
              have hj3 : j < n := by omega
              clear hU hD hy
              go_wp2
              go_round
              case rel => exact ⟨j, by omega, by go_num, by rw [HU.out]⟩
              case measure => simp [intOf]
      · have h10 : k = 10 := by omega
        have hm : nlen xs = 0 := nlen_miss fun j hj hj10 => hb.out j hj (by omega)
        have hr : rdNum xs = (0, 0, 11) := by unfold rdNum; rw [if_pos hm, if_pos (by rw [hn.out]; omega)]
        have HR := Lib.hid hr
        have t10 : (10 : Int) ≤ (n : Int) := by omega
        clear hm hr hb hn hx
        go_wp2
        go_ret3
        exact ⟨by rw [HR.out]; rfl, Below.refl _ _⟩
    · have hm : nlen xs = 0 := nlen_miss fun j hj hj10 => hb.out j hj (by have := hn.out; omega)
      by_cases h10 : 10 ≤ n
      · have hr : rdNum xs = (0, 0, 11) := by unfold rdNum; rw [if_pos hm, if_pos (by rw [hn.out]; omega)]
        have HR := Lib.hid hr
        have t10 : (10 : Int) ≤ (n : Int) := by omega
        clear hm hr hb hn hx
        go_wp2
        go_ret3
        exact ⟨by rw [HR.out]; rfl, Below.refl _ _⟩
      · have hr : rdNum xs = (0, 0, 10) := by unfold rdNum; rw [if_pos hm, if_neg (by rw [hn.out]; omega)]
        have HR := Lib.hid hr
        have t10 : ¬ (10 : Int) ≤ (n : Int) := by omega
        clear hm hr hb hn hx
        go_wp2
        go_ret3
        exact ⟨by rw [HR.out]; rfl, Below.refl _ _⟩
end Go.Proofs.Ytpeemmcaecghjaa
