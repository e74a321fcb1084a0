/-
  AllocGoes walked.
-/
import Derived.Test.YtnifihdnpmacjaaAlT
namespace Go.Proofs.Ytnifihdnpmacjaa
open Go.RowKit

set_option maxHeartbeats 4000000 in
set_option maxRecDepth 100000 in
theorem W_AllocGoes (p : Int) (hp1 : -9223372036854775808 ≤ p) (hp2 : p ≤ 9223372036854775807) (ld : Bool) (A : Option Addr) (len cap : Nat) (xs : List UInt8) (w : World) : Byt w w.heap.size A len xs → len ≤ cap → cap * 1 ≤ 140737488351232 → ∀ (A2 : Option Addr) (len2 cap2 : Nat) (os : List (Int × Int × Bool)), Ops w w.heap.size A2 len2 os → len2 ≤ cap2 → cap2 ≤ maxLen →
    Calls Try.prog 3 #[.int .i64 p, .bool ld, .slice A len cap, .slice A2 len2 cap2] w fun e w' => e = .returned (.bool true) ∧ Below w.heap.size w w' := by
  intro hx0 hlc hcap A2 len2 cap2 os ho0 hlc2 hcap2
  have hx := Lib.hid hx0
  have hO := Lib.hid ho0
  clear hx0 ho0
  unfold maxLen at hcap2
  go_enter Try.func3, Try.ntmps3
  go_wp2_with fail
  refine (live_any w).mono ?_
  rintro e w1 ⟨rfl, hb1⟩
  cases ld
  · go_wp2_with fail
    refine (New_any p w1).mono ?_
    rintro e w2 (⟨rfl, hbad, rfl⟩ | ⟨P, rfl, hP1, hP2, rfl, ha2, hb2⟩)
    · go_wp2_with fail
      refine (rNew_any p w1).mono ?_
      rintro e w2 (⟨rfl, _, rfl⟩ | ⟨P, rfl, hP1, hP2, _⟩)
      · go_wp2
        go_ret
        exact ⟨rfl, hb1⟩
      · exact absurd hbad (by omega)
    · obtain ⟨g0, hg0⟩ : ∃ x, w1.heap.size = x := ⟨_, rfl⟩
      rw [hg0] at ha2
      rw [hg0]
      have hA2 := Lib.hid (show Alc w2 g0 P (fun _ => false) by show Alc0 _ _ _ _ _; rw [cnt_zero]; exact ha2.out)
      have hwg0 : w.heap.size ≤ g0 := by have := hb1.size; omega
      have hb02 := hb1.trans (hb2.mono hb1.size)
      have lg : g0 < w2.heap.size := hA2.out.lt
      have HB1 := Lib.hid hb1
      clear ha2 hg0 hb1 hb2
      go_wp2_with fail
      refine (rNew_any (P : Int) w2).mono ?_
      rintro e w3 (⟨rfl, hbad, rfl⟩ | ⟨P', hPP, _, _, rfl, hr3, hb3⟩)
      · exact absurd hbad (by omega)
      · obtain rfl : P' = P := by omega
        obtain ⟨bt, hbt⟩ : ∃ x, w2.heap.size = x := ⟨_, rfl⟩
        obtain ⟨bh, hbh⟩ : ∃ x, bt + 1 = x := ⟨_, rfl⟩
        rw [hbt, hbh] at hr3
        rw [hbt, hbh]
        have hA0 := Lib.hid (show Alc w3 g0 P' (fun _ => false) from hA2.out.below hb3)
        have hR0 := Lib.hid (show RA w3 bh bt P' (fun _ => false) from hr3.out)
        have hL0 : Hid (Low (fun _ => false) P') := fun _ _ => rfl
        have hgh0 : g0 ≠ bh := by omega
        have hgt0 : g0 ≠ bt := by omega
        have hwt : w.heap.size ≤ bt := by have := hb02.size; omega
        have hbel0 := Lib.hid (hb02.trans (hb3.mono hb02.size))
        generalize (fun _ : Nat => false) = f0 at hA0 hR0 hL0
        clear hA2 hb02 hb3 hr3 hbt hbh hPP HB1
        by_cases hbig : 300 < len2
        · have tb : (300 : Int) < (len2 : Int) := by omega
          clear hA0 hR0 hL0
          go_wp2
          go_ret
          exact ⟨rfl, hbel0.out⟩
        · skip
          have tb : ¬ (300 : Int) < (len2 : Int) := by omega
          go_wp2_with fail
          clear tb
          go_loopw [10, 83] (fun av i wr => ∃ (k g : Nat) (f : Nat → Bool), k ≤ len2 ∧ i = .int .i64 (k : Int) ∧ av = .pointer (some ⟨g, 0, none⟩) ∧ Hid (Alc wr g P' f) ∧ Hid (RA wr bh bt P' f) ∧ Hid (Low f P') ∧ g ≠ bh ∧ g ≠ bt ∧ w.heap.size ≤ g ∧ Hid (Below w.heap.size w wr)) (fun _ i _ => len2 - (intOf i).toNat)
          case atStart => exact ⟨0, g0, f0, by omega, rfl, rfl, hA0.out, hR0.out, hL0.out, hgh0, hgt0, hwg0, hbel0.out⟩
          case round =>
            obtain ⟨k, g, f, hk, rfl, rfl, ha, hr, hlow, hgh, hgt, hwg, hbel⟩ := hrel
            obtain ⟨w0, hw0⟩ : ∃ x, x = wr := ⟨_, rfl⟩
            subst hw0
            clear hA0 hR0 hL0 hbel0
            by_cases hlt : k < len2
            · obtain ⟨b, off, o1, o2, o3, rfl, hbB, c1, c2, c3, ho2⟩ := (hO.out.below hbel.out).at_ hlt
              obtain ⟨w4, hw4⟩ : ∃ x, w0.alloc (.cells #[.int .i64 o1, .int .i64 o2, .bool o3] 35) = x := ⟨_, rfl⟩
              obtain ⟨ob, hob⟩ : ∃ x, w0.heap.size = x := ⟨_, rfl⟩
              have hb04 : Below w0.heap.size w0 w4 := by rw [← hw4]; exact (Below.refl _ _).alloc (Nat.le_refl _) _
              have hobg : ob ≠ g := by have := ha.out.lt; omega
              have hobh : ob ≠ bh := by have := hr.out.lt; omega
              have hobt : ob ≠ bt := by have := hr.out.lt; omega
              have ha4 := Lib.hid (show Alc w4 g P' f from ha.out.below hb04)
              have hr4 := Lib.hid (show RA w4 bh bt P' f from hr.out.below hb04)
              have hbel4 := Lib.hid (hbel.out.trans (hb04.mono hbel.out.size))
              have hoc : w4.heap[ob]? = some (.cells #[.int .i64 o1, .int .i64 o2, .bool o3] 35 (0, 0)) := by rw [← hw4, ← hob]; exact heap_alloc_new w0 _
              have hoc4 := Lib.hid hoc
              have hC0 : w4.cell? ⟨ob, 0, none⟩ = some (.int .i64 o1) := blk_cell hoc 0
              have hC1 : w4.cell? ⟨ob, 1, none⟩ = some (.int .i64 o2) := blk_cell hoc 1
              clear hoc hb04 ha hr hbel
              by_cases e0 : o1 = 0
              · subst e0
                clear hC1
                have KT := Lib.hid (Take_any g P' f w4 ha4.out hP2)
                go_wp2_with fail
                refine KT.out.mono ?_
                rintro e w5 hTk
                obtain ⟨m1, er1, f2, rfl, hlw, ha5, hu5, hnx⟩ := take2 hTk ha4.out
                have hr5 := Lib.hid (show RA w5 bh bt P' f from hr4.out.upd hu5.out (Ne.symm hgh) (Ne.symm hgt))
                have hoc5 : w5.heap[ob]? = some (.cells #[.int .i64 0, .int .i64 o2, .bool o3] 35 (0, 0)) := by rw [hu5.out.2.2.2.2 ob (Array.getElem?_eq_some_iff.1 hoc4.out).1 hobg]; exact hoc4.out
                have hlow2 : Hid (Low f2 P') := hlw.out hlow.out
                have hbel5 := Lib.hid (Upd.below hbel4.out hu5.out hwg)
                have KR := Lib.hid (rTake_any bh bt P' 1 f w5 hr5.out hP2 (by omega) (by omega))
                have HOC5 := Lib.hid hoc5
                clear KT hTk hlw hu5 hr4 hoc4 hbel4 ha4 hlow hoc5
                go_wp2_with fail
                refine KR.out.mono ?_
                rintro e wX hRk
                obtain ⟨rfl, hrx, hux⟩ := hnx.out _ _ _ _ _ hRk hr5.out
                have haX := Lib.hid (show Alc wX g P' f2 from ha5.out.upd hux hgt)
                have hrX := Lib.hid hrx
                have hocX : Hid (wX.heap[ob]? = some (.cells #[.int .i64 0, .int .i64 o2, .bool o3] 35 (0, 0))) := by
                  show _ = _
                  rw [hux.2.2.2.2 ob (Array.getElem?_eq_some_iff.1 HOC5.out).1 hobt]; exact HOC5.out
                have hbelX := Lib.hid (Upd.below hbel5.out hux hwt)
                have te1 : (m1 == m1) = true := by simp
                have te2 : (er1 == er1) = true := by simp
                clear KR hRk hnx hrx hux hr5 HOC5 hbel5 ha5
                have KS := Lib.hid (same_any g bh bt P' f2 wX haX.out hrX.out hP2 hlow2.out)
                go_wp2_with fail
                refine KS.out.mono ?_
                rintro e wY ⟨rfl, hbY⟩
                have haY := Lib.hid (show Alc wY g P' f2 from haX.out.below hbY)
                have hrY := Lib.hid (show RA wY bh bt P' f2 from hrX.out.below hbY)
                have hocY := blk_below hocX.out hbY (Array.getElem?_eq_some_iff.1 hocX.out).1
                have hbelY := Lib.hid (hbelX.out.trans (hbY.mono hbelX.out.size))
                have hC2 : wY.cell? ⟨ob, 2, none⟩ = some (.bool o3) := blk_cell hocY 2
                clear KS hbY haX hrX hocX hbelX hocY
                cases o3
                · go_wp2
                  go_roundw
                  case rel => exact ⟨k + 1, g, f2, by omega, by go_num, rfl, haY.out, hrY.out, hlow2.out, hgh, hgt, hwg, hbelY.out⟩
                  case measure => simp [intOf]; omega
                · have KC := Lib.hid (Clone_any g P' _ f2 wY haY.out)
                  have lY := Lib.hid haY.out.lt
                  have lR := Lib.hid hrY.out.lt
                  go_wp2_with fail
                  clear hC2
                  refine KC.out.mono ?_
                  rintro e wZ ⟨rfl, haC, hbZ⟩
                  obtain ⟨gc, hgc⟩ : ∃ x, wY.heap.size = x := ⟨_, rfl⟩
                  have lY2 : g < gc := by have := lY.out; omega
                  have lR2 : bh < gc ∧ bt < gc := by have := lR.out; omega
                  have hwgc : w.heap.size ≤ gc := by omega
                  have haZ := Lib.hid (show Alc wZ g P' f2 from haY.out.below hbZ)
                  have hrZ := Lib.hid (show RA wZ bh bt P' f2 from hrY.out.below hbZ)
                  have hbelZ := Lib.hid (hbelY.out.trans (hbZ.mono hbelY.out.size))
                  rw [hgc] at haC
                  rw [hgc]
                  have hAC := Lib.hid (show Alc wZ gc P' f2 from haC.out)
                  have KT := Lib.hid (Take_any g P' f2 wZ haZ.out hP2)
                  clear KC hbZ haC hgc haY hrY hbelY lY lR
                  go_wp2_with fail
                  refine KT.out.mono ?_
                  rintro e wA hTk
                  obtain ⟨m1, er1, f1, rfl, _, haA, huA, _⟩ := take2 hTk haZ.out
                  have KG := Lib.hid (Give_any g P' 0 f1 wA haA.out hP2)
                  have hAC2 := Lib.hid (show Alc wA gc P' f2 from hAC.out.upd huA.out (by omega))
                  have hrA := Lib.hid (show RA wA bh bt P' f2 from hrZ.out.upd huA.out (Ne.symm hgh) (Ne.symm hgt))
                  have hbelA := Lib.hid (Upd.below hbelZ.out huA.out hwg)
                  clear KT hTk haA huA haZ hrZ hbelZ hAC
                  go_wp2_with fail
                  refine KG.out.mono ?_
                  rintro e wB ⟨er2, f3, rfl, _, _, _, huB⟩
                  have hAC3 := Lib.hid (show Alc wB gc P' f2 from hAC2.out.upd huB.out (by omega))
                  have hrB := Lib.hid (show RA wB bh bt P' f2 from hrA.out.upd huB.out (Ne.symm hgh) (Ne.symm hgt))
                  have hbelB := Lib.hid (Upd.below hbelA.out huB.out hwg)
                  have n1 : gc ≠ bh := by omega
                  have n2 : gc ≠ bt := by omega
                  clear KG huB hAC2 hrA hbelA
                  go_wp2
                  go_roundw
                  case rel => exact ⟨k + 1, gc, f2, by omega, by go_num, rfl, hAC3.out, hrB.out, hlow2.out, n1, n2, hwgc, hbelB.out⟩
                  case measure => simp [intOf]; omega
              · by_cases e1 : o1 = 1
                · subst e1
                  have KT := Lib.hid (TakeRun_any g P' o2 f w4 ha4.out hP2 (by omega))
                  go_wp2_with fail
                  clear hC1
                  refine KT.out.mono ?_
                  rintro e w5 hTk
                  obtain ⟨m1, er1, f2, rfl, hlw, ha5, hu5, hnx⟩ := take2 hTk ha4.out
                  have hr5 := Lib.hid (show RA w5 bh bt P' f from hr4.out.upd hu5.out (Ne.symm hgh) (Ne.symm hgt))
                  have hoc5 : w5.heap[ob]? = some (.cells #[.int .i64 1, .int .i64 o2, .bool o3] 35 (0, 0)) := by rw [hu5.out.2.2.2.2 ob (Array.getElem?_eq_some_iff.1 hoc4.out).1 hobg]; exact hoc4.out
                  have hlow2 : Hid (Low f2 P') := hlw.out hlow.out
                  have hbel5 := Lib.hid (Upd.below hbel4.out hu5.out hwg)
                  have KR := Lib.hid (rTake_any bh bt P' o2 f w5 hr5.out hP2 (by omega) (by omega))
                  have hC1 : w5.cell? ⟨ob, 1, none⟩ = some (.int .i64 o2) := blk_cell hoc5 1
                  have HOC5 := Lib.hid hoc5
                  clear KT hTk hlw hu5 hr4 hoc4 hbel4 ha4 hlow hoc5
                  go_wp2_with fail
                  clear hC1
                  refine KR.out.mono ?_
                  rintro e wX hRk
                  obtain ⟨rfl, hrx, hux⟩ := hnx.out _ _ _ _ _ hRk hr5.out
                  have haX := Lib.hid (show Alc wX g P' f2 from ha5.out.upd hux hgt)
                  have hrX := Lib.hid hrx
                  have hocX : Hid (wX.heap[ob]? = some (.cells #[.int .i64 1, .int .i64 o2, .bool o3] 35 (0, 0))) := by
                    show _ = _
                    rw [hux.2.2.2.2 ob (Array.getElem?_eq_some_iff.1 HOC5.out).1 hobt]; exact HOC5.out
                  have hbelX := Lib.hid (Upd.below hbel5.out hux hwt)
                  have te1 : (m1 == m1) = true := by simp
                  have te2 : (er1 == er1) = true := by simp
                  clear KR hRk hnx hrx hux hr5 HOC5 hbel5 ha5
                  have KS := Lib.hid (same_any g bh bt P' f2 wX haX.out hrX.out hP2 hlow2.out)
                  go_wp2_with fail
                  refine KS.out.mono ?_
                  rintro e wY ⟨rfl, hbY⟩
                  have haY := Lib.hid (show Alc wY g P' f2 from haX.out.below hbY)
                  have hrY := Lib.hid (show RA wY bh bt P' f2 from hrX.out.below hbY)
                  have hocY := blk_below hocX.out hbY (Array.getElem?_eq_some_iff.1 hocX.out).1
                  have hbelY := Lib.hid (hbelX.out.trans (hbY.mono hbelX.out.size))
                  have hC2 : wY.cell? ⟨ob, 2, none⟩ = some (.bool o3) := blk_cell hocY 2
                  clear KS hbY haX hrX hocX hbelX hocY
                  cases o3
                  · go_wp2
                    go_roundw
                    case rel => exact ⟨k + 1, g, f2, by omega, by go_num, rfl, haY.out, hrY.out, hlow2.out, hgh, hgt, hwg, hbelY.out⟩
                    case measure => simp [intOf]; omega
                  · have KC := Lib.hid (Clone_any g P' _ f2 wY haY.out)
                    have lY := Lib.hid haY.out.lt
                    have lR := Lib.hid hrY.out.lt
                    go_wp2_with fail
                    clear hC2
                    refine KC.out.mono ?_
                    rintro e wZ ⟨rfl, haC, hbZ⟩
                    obtain ⟨gc, hgc⟩ : ∃ x, wY.heap.size = x := ⟨_, rfl⟩
                    have lY2 : g < gc := by have := lY.out; omega
                    have lR2 : bh < gc ∧ bt < gc := by have := lR.out; omega
                    have hwgc : w.heap.size ≤ gc := by omega
                    have haZ := Lib.hid (show Alc wZ g P' f2 from haY.out.below hbZ)
                    have hrZ := Lib.hid (show RA wZ bh bt P' f2 from hrY.out.below hbZ)
                    have hbelZ := Lib.hid (hbelY.out.trans (hbZ.mono hbelY.out.size))
                    rw [hgc] at haC
                    rw [hgc]
                    have hAC := Lib.hid (show Alc wZ gc P' f2 from haC.out)
                    have KT := Lib.hid (Take_any g P' f2 wZ haZ.out hP2)
                    clear KC hbZ haC hgc haY hrY hbelY lY lR
                    go_wp2_with fail
                    refine KT.out.mono ?_
                    rintro e wA hTk
                    obtain ⟨m1, er1, f1, rfl, _, haA, huA, _⟩ := take2 hTk haZ.out
                    have KG := Lib.hid (Give_any g P' 0 f1 wA haA.out hP2)
                    have hAC2 := Lib.hid (show Alc wA gc P' f2 from hAC.out.upd huA.out (by omega))
                    have hrA := Lib.hid (show RA wA bh bt P' f2 from hrZ.out.upd huA.out (Ne.symm hgh) (Ne.symm hgt))
                    have hbelA := Lib.hid (Upd.below hbelZ.out huA.out hwg)
                    clear KT hTk haA huA haZ hrZ hbelZ hAC
                    go_wp2_with fail
                    refine KG.out.mono ?_
                    rintro e wB ⟨er2, f3, rfl, _, _, _, huB⟩
                    have hAC3 := Lib.hid (show Alc wB gc P' f2 from hAC2.out.upd huB.out (by omega))
                    have hrB := Lib.hid (show RA wB bh bt P' f2 from hrA.out.upd huB.out (Ne.symm hgh) (Ne.symm hgt))
                    have hbelB := Lib.hid (Upd.below hbelA.out huB.out hwg)
                    have n1 : gc ≠ bh := by omega
                    have n2 : gc ≠ bt := by omega
                    clear KG huB hAC2 hrA hbelA
                    go_wp2
                    go_roundw
                    case rel => exact ⟨k + 1, gc, f2, by omega, by go_num, rfl, hAC3.out, hrB.out, hlow2.out, n1, n2, hwgc, hbelB.out⟩
                    case measure => simp [intOf]; omega
                · by_cases e2 : o1 = 2
                  · subst e2
                    have KG := Lib.hid (fun W (hA : Alc W g P' f) => Give_any g P' o2 f W hA hP2)
                    go_wp2_with fail
                    have hS : w4.cell? ⟨ob, 1, none⟩ = some (.int .i64 o2) := hC1
                    clear hC1
                    refine heldS_start (fun W => W.cell? ⟨ob, 1, none⟩ = some (.int .i64 o2)) (by kernel_rfl) ?_
                    refine heldS_take (i := 0) (v := ?_) rfl (by kernel_rfl) (by kernel_rfl) (by kernel_rfl) (fun _ _ _ h => h) (by rfl) hS ?_ ?_
                    rotate_left
                    · (intro W hW; go_simp; try with_reducible rfl)
                    try simp only [Act.put, List.setIfInBounds_toArray, List.set_cons_zero, List.set_cons_succ]
                    refine heldS_take (i := 1) (v := ?_) rfl (by kernel_rfl) (by kernel_rfl) (by kernel_rfl) (fun _ _ _ h => h) (by rfl) hS ?_ ?_
                    rotate_left
                    · (intro W hW; go_simp; try with_reducible rfl)
                    try simp only [Act.put, List.setIfInBounds_toArray, List.set_cons_zero, List.set_cons_succ]
                    refine heldS_take (i := 2) (v := ?_) rfl (by kernel_rfl) (by kernel_rfl) (by kernel_rfl) (fun _ _ _ h => h) (by rfl) hS ?_ ?_
                    rotate_left
                    · (intro W hW; have hcW : W.cell? ⟨ob, 1, none⟩ = some (.int .i64 o2) := hW; go_simp; try with_reducible rfl)
                    try simp only [Act.put, List.setIfInBounds_toArray, List.set_cons_zero, List.set_cons_succ]
                    refine heldS_take (i := 4) (v := ?_) rfl (by kernel_rfl) (by kernel_rfl) (by kernel_rfl) (fun _ _ _ h => h) (by rfl) hS ?_ ?_
                    rotate_left
                    · (intro W hW; go_simp; try with_reducible rfl)
                    try simp only [Act.put, List.setIfInBounds_toArray, List.set_cons_zero, List.set_cons_succ]
                    refine heldS_take (i := 5) (v := ?_) rfl (by kernel_rfl) (by kernel_rfl) (by kernel_rfl) (fun _ _ _ h => h) (by rfl) hS ?_ ?_
                    rotate_left
                    · (intro W hW; go_simp; try with_reducible rfl)
                    try simp only [Act.put, List.setIfInBounds_toArray, List.set_cons_zero, List.set_cons_succ]
                    refine heldS_take (i := 6) (v := ?_) rfl (by kernel_rfl) (by kernel_rfl) (by kernel_rfl) (fun _ _ _ h => h) (by rfl) hS ?_ ?_
                    rotate_left
                    · (intro W hW; have hcW : W.cell? ⟨ob, 1, none⟩ = some (.int .i64 o2) := hW; go_simp; try with_reducible rfl)
                    try simp only [Act.put, List.setIfInBounds_toArray, List.set_cons_zero, List.set_cons_succ]
                    refine heldS_call (i := 3) (f := 15) (args := #[.pointer (some ⟨g, 0, none⟩), .int .i64 o2]) rfl (by kernel_rfl) (by rfl) (by go_simp) ?_
                    refine (KG.out w4.drew ha4.out).mono ?_
                    rintro e w5 ⟨er, f', rfl, her, hf', ha5, hu⟩
                    have her2 : er = givE P' f o2 := her.out
                    have hff : f' = givF P' f o2 := hf'.out
                    subst her2
                    subst hff
                    have hlow2 : Hid (Low (givF P' f o2) P') := by
                      show Low (givF P' f o2) P'
                      unfold givF
                      by_cases hh : hasB P' f o2 = true
                      · rw [if_pos hh]; exact low_flip hlow.out (hasB_lt hh)
                      · rw [if_neg hh]; exact hlow.out
                    clear her hf'
                    have hoc5 : w5.heap[ob]? = some (.cells #[.int .i64 2, .int .i64 o2, .bool o3] 35 (0, 0)) := by
                      rw [hu.out.2.2.2.2 ob (Array.getElem?_eq_some_iff.1 hoc4.out).1 hobg]; exact hoc4.out
                    have hS5 : w5.cell? ⟨ob, 1, none⟩ = some (.int .i64 o2) := blk_cell hoc5 1
                    refine ⟨_, rfl, hS5, ?_⟩
                    have hr5 := Lib.hid (show RA w5 bh bt P' f from (show RA w4.drew bh bt P' f from hr4.out).upd hu.out (Ne.symm hgh) (Ne.symm hgt))
                    have hbel5 := Lib.hid (Upd.below hbel4.out.drew hu.out hwg)
                    have KR := Lib.hid (rGive_any bh bt P' o2 f w5 hr5.out hP2)
                    have HOC5 := Lib.hid hoc5
                    obtain ⟨er1, he1⟩ : ∃ x, givE P' f o2 = x := ⟨_, rfl⟩
                    obtain ⟨f2, hf2⟩ : ∃ x, givF P' f o2 = x := ⟨_, rfl⟩
                    rw [he1, hf2] at KR
                    rw [hf2] at ha5
                    rw [he1]
                    rw [hf2] at hlow2
                    have te2 : (er1 == er1) = true := by simp
                    clear KG hoc5 hS hr4 hbel4 ha4 hlow hu he1 hf2 hoc4 hr5
                    try simp only [Act.put, List.setIfInBounds_toArray, List.set_cons_zero, List.set_cons_succ]
                    refine heldS_call (i := 7) (f := 16) (args := #[.pointer (some ⟨bh, 0, none⟩), .int .i64 o2]) rfl (by kernel_rfl) (by rfl) (by go_simp) ?_
                    refine KR.out.mono ?_
                    rintro e wX ⟨rfl, hrX, hux⟩
                    have haX := Lib.hid (show Alc wX g P' f2 from ha5.out.upd hux.out hgt)
                    have hocX : Hid (wX.heap[ob]? = some (.cells #[.int .i64 2, .int .i64 o2, .bool o3] 35 (0, 0))) := by
                      show _ = _
                      rw [hux.out.2.2.2.2 ob (Array.getElem?_eq_some_iff.1 HOC5.out).1 hobt]; exact HOC5.out
                    have hSX : wX.cell? ⟨ob, 1, none⟩ = some (.int .i64 o2) := blk_cell hocX.out 1
                    refine ⟨_, rfl, hSX, ?_⟩
                    have hbelX := Lib.hid (Upd.below hbel5.out hux.out hwt)
                    clear KR hux HOC5 hbel5 ha5 hS5
                    try simp only [Act.put, List.setIfInBounds_toArray, List.set_cons_zero, List.set_cons_succ]
                    refine heldS_take (i := 8) (v := ?_) rfl (by kernel_rfl) (by kernel_rfl) (by kernel_rfl) (fun _ _ _ h => h) (by rfl) hSX ?_ ?_
                    rotate_left
                    · (intro W hW; go_simp; try with_reducible rfl)
                    try simp only [Act.put, List.setIfInBounds_toArray, List.set_cons_zero, List.set_cons_succ]
                    refine heldS_take (i := 9) (v := ?_) rfl (by kernel_rfl) (by kernel_rfl) (by kernel_rfl) (fun _ _ _ h => h) (by rfl) hSX ?_ ?_
                    rotate_left
                    · (intro W hW; go_simp; try with_reducible rfl)
                    try simp only [Act.put, List.setIfInBounds_toArray, List.set_cons_zero, List.set_cons_succ]
                    refine wpAnyH_done (by kernel_rfl) ?_ _
                    clear hSX
                    have KS := Lib.hid (same_any g bh bt P' f2 wX haX.out hrX.out hP2 hlow2.out)
                    go_wp2_with fail
                    refine KS.out.mono ?_
                    rintro e wY ⟨rfl, hbY⟩
                    have haY := Lib.hid (show Alc wY g P' f2 from haX.out.below hbY)
                    have hrY := Lib.hid (show RA wY bh bt P' f2 from hrX.out.below hbY)
                    have hocY := blk_below hocX.out hbY (Array.getElem?_eq_some_iff.1 hocX.out).1
                    have hbelY := Lib.hid (hbelX.out.trans (hbY.mono hbelX.out.size))
                    have hC2 : wY.cell? ⟨ob, 2, none⟩ = some (.bool o3) := blk_cell hocY 2
                    clear KS hbY haX hrX hocX hbelX hocY
                    cases o3
                    · go_wp2
                      go_roundw
                      case rel => exact ⟨k + 1, g, f2, by omega, by go_num, rfl, haY.out, hrY.out, hlow2.out, hgh, hgt, hwg, hbelY.out⟩
                      case measure => simp [intOf]; omega
                    · have KC := Lib.hid (Clone_any g P' _ f2 wY haY.out)
                      have lY := Lib.hid haY.out.lt
                      have lR := Lib.hid hrY.out.lt
                      go_wp2_with fail
                      clear hC2
                      refine KC.out.mono ?_
                      rintro e wZ ⟨rfl, haC, hbZ⟩
                      obtain ⟨gc, hgc⟩ : ∃ x, wY.heap.size = x := ⟨_, rfl⟩
                      have lY2 : g < gc := by have := lY.out; omega
                      have lR2 : bh < gc ∧ bt < gc := by have := lR.out; omega
                      have hwgc : w.heap.size ≤ gc := by omega
                      have haZ := Lib.hid (show Alc wZ g P' f2 from haY.out.below hbZ)
                      have hrZ := Lib.hid (show RA wZ bh bt P' f2 from hrY.out.below hbZ)
                      have hbelZ := Lib.hid (hbelY.out.trans (hbZ.mono hbelY.out.size))
                      rw [hgc] at haC
                      rw [hgc]
                      have hAC := Lib.hid (show Alc wZ gc P' f2 from haC.out)
                      have KT := Lib.hid (Take_any g P' f2 wZ haZ.out hP2)
                      clear KC hbZ haC hgc haY hrY hbelY lY lR
                      go_wp2_with fail
                      refine KT.out.mono ?_
                      rintro e wA hTk
                      obtain ⟨m1, er1, f1, rfl, _, haA, huA, _⟩ := take2 hTk haZ.out
                      have KG := Lib.hid (Give_any g P' 0 f1 wA haA.out hP2)
                      have hAC2 := Lib.hid (show Alc wA gc P' f2 from hAC.out.upd huA.out (by omega))
                      have hrA := Lib.hid (show RA wA bh bt P' f2 from hrZ.out.upd huA.out (Ne.symm hgh) (Ne.symm hgt))
                      have hbelA := Lib.hid (Upd.below hbelZ.out huA.out hwg)
                      clear KT hTk haA huA haZ hrZ hbelZ hAC
                      go_wp2_with fail
                      refine KG.out.mono ?_
                      rintro e wB ⟨er2, f3, rfl, _, _, _, huB⟩
                      have hAC3 := Lib.hid (show Alc wB gc P' f2 from hAC2.out.upd huB.out (by omega))
                      have hrB := Lib.hid (show RA wB bh bt P' f2 from hrA.out.upd huB.out (Ne.symm hgh) (Ne.symm hgt))
                      have hbelB := Lib.hid (Upd.below hbelA.out huB.out hwg)
                      have n1 : gc ≠ bh := by omega
                      have n2 : gc ≠ bt := by omega
                      clear KG huB hAC2 hrA hbelA
                      go_wp2
                      go_roundw
                      case rel => exact ⟨k + 1, gc, f2, by omega, by go_num, rfl, hAC3.out, hrB.out, hlow2.out, n1, n2, hwgc, hbelB.out⟩
                      case measure => simp [intOf]; omega
                  · by_cases e3 : o1 = 3
                    · subst e3
                      have KG := Lib.hid (fun W (hA : Alc W g P' f) => MarkF_any g P' o2 f W hA hP2)
                      go_wp2_with fail
                      have hS : w4.cell? ⟨ob, 1, none⟩ = some (.int .i64 o2) := hC1
                      clear hC1
                      refine heldS_start (fun W => W.cell? ⟨ob, 1, none⟩ = some (.int .i64 o2)) (by kernel_rfl) ?_
                      refine heldS_take (i := 0) (v := ?_) rfl (by kernel_rfl) (by kernel_rfl) (by kernel_rfl) (fun _ _ _ h => h) (by rfl) hS ?_ ?_
                      rotate_left
                      · (intro W hW; go_simp; try with_reducible rfl)
                      try simp only [Act.put, List.setIfInBounds_toArray, List.set_cons_zero, List.set_cons_succ]
                      refine heldS_take (i := 1) (v := ?_) rfl (by kernel_rfl) (by kernel_rfl) (by kernel_rfl) (fun _ _ _ h => h) (by rfl) hS ?_ ?_
                      rotate_left
                      · (intro W hW; go_simp; try with_reducible rfl)
                      try simp only [Act.put, List.setIfInBounds_toArray, List.set_cons_zero, List.set_cons_succ]
                      refine heldS_take (i := 2) (v := ?_) rfl (by kernel_rfl) (by kernel_rfl) (by kernel_rfl) (fun _ _ _ h => h) (by rfl) hS ?_ ?_
                      rotate_left
                      · (intro W hW; have hcW : W.cell? ⟨ob, 1, none⟩ = some (.int .i64 o2) := hW; go_simp; try with_reducible rfl)
                      try simp only [Act.put, List.setIfInBounds_toArray, List.set_cons_zero, List.set_cons_succ]
                      refine heldS_take (i := 4) (v := ?_) rfl (by kernel_rfl) (by kernel_rfl) (by kernel_rfl) (fun _ _ _ h => h) (by rfl) hS ?_ ?_
                      rotate_left
                      · (intro W hW; go_simp; try with_reducible rfl)
                      try simp only [Act.put, List.setIfInBounds_toArray, List.set_cons_zero, List.set_cons_succ]
                      refine heldS_take (i := 5) (v := ?_) rfl (by kernel_rfl) (by kernel_rfl) (by kernel_rfl) (fun _ _ _ h => h) (by rfl) hS ?_ ?_
                      rotate_left
                      · (intro W hW; go_simp; try with_reducible rfl)
                      try simp only [Act.put, List.setIfInBounds_toArray, List.set_cons_zero, List.set_cons_succ]
                      refine heldS_take (i := 6) (v := ?_) rfl (by kernel_rfl) (by kernel_rfl) (by kernel_rfl) (fun _ _ _ h => h) (by rfl) hS ?_ ?_
                      rotate_left
                      · (intro W hW; have hcW : W.cell? ⟨ob, 1, none⟩ = some (.int .i64 o2) := hW; go_simp; try with_reducible rfl)
                      try simp only [Act.put, List.setIfInBounds_toArray, List.set_cons_zero, List.set_cons_succ]
                      refine heldS_call (i := 3) (f := 17) (args := #[.pointer (some ⟨g, 0, none⟩), .int .i64 o2]) rfl (by kernel_rfl) (by rfl) (by go_simp) ?_
                      refine (KG.out w4.drew ha4.out).mono ?_
                      rintro e w5 ⟨rfl, ha5, hu⟩
                      have hlow2 : Hid (Low (mrkF P' f o2) P') := by
                        show Low (mrkF P' f o2) P'
                        unfold mrkF
                        by_cases hh : (0 ≤ o2 ∧ o2 < (P' : Int)) ∧ f o2.toNat = false
                        · rw [if_pos hh]; exact low_flip hlow.out (by omega)
                        · rw [if_neg hh]; exact hlow.out
                      have hoc5 : w5.heap[ob]? = some (.cells #[.int .i64 3, .int .i64 o2, .bool o3] 35 (0, 0)) := by
                        rw [hu.out.2.2.2.2 ob (Array.getElem?_eq_some_iff.1 hoc4.out).1 hobg]; exact hoc4.out
                      have hS5 : w5.cell? ⟨ob, 1, none⟩ = some (.int .i64 o2) := blk_cell hoc5 1
                      refine ⟨_, rfl, hS5, ?_⟩
                      have hr5 := Lib.hid (show RA w5 bh bt P' f from (show RA w4.drew bh bt P' f from hr4.out).upd hu.out (Ne.symm hgh) (Ne.symm hgt))
                      have hbel5 := Lib.hid (Upd.below hbel4.out.drew hu.out hwg)
                      have KR := Lib.hid (rMark_any bh bt P' o2 f w5 hr5.out hP2)
                      have HOC5 := Lib.hid hoc5
                      obtain ⟨er1, he1⟩ : ∃ x, mrkE P' f o2 = x := ⟨_, rfl⟩
                      obtain ⟨f2, hf2⟩ : ∃ x, mrkF P' f o2 = x := ⟨_, rfl⟩
                      rw [he1, hf2] at KR
                      rw [hf2] at ha5
                      rw [he1]
                      rw [hf2] at hlow2
                      have te2 : (er1 == er1) = true := by simp
                      clear KG hoc5 hS hr4 hbel4 ha4 hlow hu he1 hf2 hoc4 hr5
                      try simp only [Act.put, List.setIfInBounds_toArray, List.set_cons_zero, List.set_cons_succ]
                      refine heldS_call (i := 7) (f := 18) (args := #[.pointer (some ⟨bh, 0, none⟩), .int .i64 o2]) rfl (by kernel_rfl) (by rfl) (by go_simp) ?_
                      refine KR.out.mono ?_
                      rintro e wX ⟨rfl, hrX, hux⟩
                      have haX := Lib.hid (show Alc wX g P' f2 from ha5.out.upd hux.out hgt)
                      have hocX : Hid (wX.heap[ob]? = some (.cells #[.int .i64 3, .int .i64 o2, .bool o3] 35 (0, 0))) := by
                        show _ = _
                        rw [hux.out.2.2.2.2 ob (Array.getElem?_eq_some_iff.1 HOC5.out).1 hobt]; exact HOC5.out
                      have hSX : wX.cell? ⟨ob, 1, none⟩ = some (.int .i64 o2) := blk_cell hocX.out 1
                      refine ⟨_, rfl, hSX, ?_⟩
                      have hbelX := Lib.hid (Upd.below hbel5.out hux.out hwt)
                      clear KR hux HOC5 hbel5 ha5 hS5
                      try simp only [Act.put, List.setIfInBounds_toArray, List.set_cons_zero, List.set_cons_succ]
                      refine heldS_take (i := 8) (v := ?_) rfl (by kernel_rfl) (by kernel_rfl) (by kernel_rfl) (fun _ _ _ h => h) (by rfl) hSX ?_ ?_
                      rotate_left
                      · (intro W hW; go_simp; try with_reducible rfl)
                      try simp only [Act.put, List.setIfInBounds_toArray, List.set_cons_zero, List.set_cons_succ]
                      refine heldS_take (i := 9) (v := ?_) rfl (by kernel_rfl) (by kernel_rfl) (by kernel_rfl) (fun _ _ _ h => h) (by rfl) hSX ?_ ?_
                      rotate_left
                      · (intro W hW; go_simp; try with_reducible rfl)
                      try simp only [Act.put, List.setIfInBounds_toArray, List.set_cons_zero, List.set_cons_succ]
                      refine wpAnyH_done (by kernel_rfl) ?_ _
                      clear hSX
                      have KS := Lib.hid (same_any g bh bt P' f2 wX haX.out hrX.out hP2 hlow2.out)
                      go_wp2_with fail
                      refine KS.out.mono ?_
                      rintro e wY ⟨rfl, hbY⟩
                      have haY := Lib.hid (show Alc wY g P' f2 from haX.out.below hbY)
                      have hrY := Lib.hid (show RA wY bh bt P' f2 from hrX.out.below hbY)
                      have hocY := blk_below hocX.out hbY (Array.getElem?_eq_some_iff.1 hocX.out).1
                      have hbelY := Lib.hid (hbelX.out.trans (hbY.mono hbelX.out.size))
                      have hC2 : wY.cell? ⟨ob, 2, none⟩ = some (.bool o3) := blk_cell hocY 2
                      clear KS hbY haX hrX hocX hbelX hocY
                      cases o3
                      · go_wp2
                        go_roundw
                        case rel => exact ⟨k + 1, g, f2, by omega, by go_num, rfl, haY.out, hrY.out, hlow2.out, hgh, hgt, hwg, hbelY.out⟩
                        case measure => simp [intOf]; omega
                      · have KC := Lib.hid (Clone_any g P' _ f2 wY haY.out)
                        have lY := Lib.hid haY.out.lt
                        have lR := Lib.hid hrY.out.lt
                        go_wp2_with fail
                        clear hC2
                        refine KC.out.mono ?_
                        rintro e wZ ⟨rfl, haC, hbZ⟩
                        obtain ⟨gc, hgc⟩ : ∃ x, wY.heap.size = x := ⟨_, rfl⟩
                        have lY2 : g < gc := by have := lY.out; omega
                        have lR2 : bh < gc ∧ bt < gc := by have := lR.out; omega
                        have hwgc : w.heap.size ≤ gc := by omega
                        have haZ := Lib.hid (show Alc wZ g P' f2 from haY.out.below hbZ)
                        have hrZ := Lib.hid (show RA wZ bh bt P' f2 from hrY.out.below hbZ)
                        have hbelZ := Lib.hid (hbelY.out.trans (hbZ.mono hbelY.out.size))
                        rw [hgc] at haC
                        rw [hgc]
                        have hAC := Lib.hid (show Alc wZ gc P' f2 from haC.out)
                        have KT := Lib.hid (Take_any g P' f2 wZ haZ.out hP2)
                        clear KC hbZ haC hgc haY hrY hbelY lY lR
                        go_wp2_with fail
                        refine KT.out.mono ?_
                        rintro e wA hTk
                        obtain ⟨m1, er1, f1, rfl, _, haA, huA, _⟩ := take2 hTk haZ.out
                        have KG := Lib.hid (Give_any g P' 0 f1 wA haA.out hP2)
                        have hAC2 := Lib.hid (show Alc wA gc P' f2 from hAC.out.upd huA.out (by omega))
                        have hrA := Lib.hid (show RA wA bh bt P' f2 from hrZ.out.upd huA.out (Ne.symm hgh) (Ne.symm hgt))
                        have hbelA := Lib.hid (Upd.below hbelZ.out huA.out hwg)
                        clear KT hTk haA huA haZ hrZ hbelZ hAC
                        go_wp2_with fail
                        refine KG.out.mono ?_
                        rintro e wB ⟨er2, f3, rfl, _, _, _, huB⟩
                        have hAC3 := Lib.hid (show Alc wB gc P' f2 from hAC2.out.upd huB.out (by omega))
                        have hrB := Lib.hid (show RA wB bh bt P' f2 from hrA.out.upd huB.out (Ne.symm hgh) (Ne.symm hgt))
                        have hbelB := Lib.hid (Upd.below hbelA.out huB.out hwg)
                        have n1 : gc ≠ bh := by omega
                        have n2 : gc ≠ bt := by omega
                        clear KG huB hAC2 hrA hbelA
                        go_wp2
                        go_roundw
                        case rel => exact ⟨k + 1, gc, f2, by omega, by go_num, rfl, hAC3.out, hrB.out, hlow2.out, n1, n2, hwgc, hbelB.out⟩
                        case measure => simp [intOf]; omega
                    · have q0 : (o1 == 0) = false := by simpa using e0
                      have q1 : (o1 == 1) = false := by simpa using e1
                      have q2 : (o1 == 2) = false := by simpa using e2
                      have q3 : (o1 == 3) = false := by simpa using e3
                      clear hC1
                      obtain ⟨f2, hf2⟩ : ∃ x, x = f := ⟨_, rfl⟩
                      subst hf2
                      have haX := ha4
                      have hrX := hr4
                      have hlow2 := hlow
                      have hocX := hoc4
                      have hbelX := hbel4
                      clear ha4 hr4 hlow hoc4 hbel4
                      have KS := Lib.hid (same_any g bh bt P' f2 w4 haX.out hrX.out hP2 hlow2.out)
                      go_wp2_with fail
                      refine KS.out.mono ?_
                      rintro e wY ⟨rfl, hbY⟩
                      have haY := Lib.hid (show Alc wY g P' f2 from haX.out.below hbY)
                      have hrY := Lib.hid (show RA wY bh bt P' f2 from hrX.out.below hbY)
                      have hocY := blk_below hocX.out hbY (Array.getElem?_eq_some_iff.1 hocX.out).1
                      have hbelY := Lib.hid (hbelX.out.trans (hbY.mono hbelX.out.size))
                      have hC2 : wY.cell? ⟨ob, 2, none⟩ = some (.bool o3) := blk_cell hocY 2
                      clear KS hbY haX hrX hocX hbelX hocY
                      cases o3
                      · go_wp2
                        go_roundw
                        case rel => exact ⟨k + 1, g, f2, by omega, by go_num, rfl, haY.out, hrY.out, hlow2.out, hgh, hgt, hwg, hbelY.out⟩
                        case measure => simp [intOf]; omega
                      · have KC := Lib.hid (Clone_any g P' _ f2 wY haY.out)
                        have lY := Lib.hid haY.out.lt
                        have lR := Lib.hid hrY.out.lt
                        go_wp2_with fail
                        clear hC2
                        refine KC.out.mono ?_
                        rintro e wZ ⟨rfl, haC, hbZ⟩
                        obtain ⟨gc, hgc⟩ : ∃ x, wY.heap.size = x := ⟨_, rfl⟩
                        have lY2 : g < gc := by have := lY.out; omega
                        have lR2 : bh < gc ∧ bt < gc := by have := lR.out; omega
                        have hwgc : w.heap.size ≤ gc := by omega
                        have haZ := Lib.hid (show Alc wZ g P' f2 from haY.out.below hbZ)
                        have hrZ := Lib.hid (show RA wZ bh bt P' f2 from hrY.out.below hbZ)
                        have hbelZ := Lib.hid (hbelY.out.trans (hbZ.mono hbelY.out.size))
                        rw [hgc] at haC
                        rw [hgc]
                        have hAC := Lib.hid (show Alc wZ gc P' f2 from haC.out)
                        have KT := Lib.hid (Take_any g P' f2 wZ haZ.out hP2)
                        clear KC hbZ haC hgc haY hrY hbelY lY lR
                        go_wp2_with fail
                        refine KT.out.mono ?_
                        rintro e wA hTk
                        obtain ⟨m1, er1, f1, rfl, _, haA, huA, _⟩ := take2 hTk haZ.out
                        have KG := Lib.hid (Give_any g P' 0 f1 wA haA.out hP2)
                        have hAC2 := Lib.hid (show Alc wA gc P' f2 from hAC.out.upd huA.out (by omega))
                        have hrA := Lib.hid (show RA wA bh bt P' f2 from hrZ.out.upd huA.out (Ne.symm hgh) (Ne.symm hgt))
                        have hbelA := Lib.hid (Upd.below hbelZ.out huA.out hwg)
                        clear KT hTk haA huA haZ hrZ hbelZ hAC
                        go_wp2_with fail
                        refine KG.out.mono ?_
                        rintro e wB ⟨er2, f3, rfl, _, _, _, huB⟩
                        have hAC3 := Lib.hid (show Alc wB gc P' f2 from hAC2.out.upd huB.out (by omega))
                        have hrB := Lib.hid (show RA wB bh bt P' f2 from hrA.out.upd huB.out (Ne.symm hgh) (Ne.symm hgt))
                        have hbelB := Lib.hid (Upd.below hbelA.out huB.out hwg)
                        have n1 : gc ≠ bh := by omega
                        have n2 : gc ≠ bt := by omega
                        clear KG huB hAC2 hrA hbelA
                        go_wp2
                        go_roundw
                        case rel => exact ⟨k + 1, gc, f2, by omega, by go_num, rfl, hAC3.out, hrB.out, hlow2.out, n1, n2, hwgc, hbelB.out⟩
                        case measure => simp [intOf]; omega
            · have KS := Lib.hid (same_any g bh bt P' f w0 ha.out hr.out hP2 hlow.out)
              clear ha hr hlow
              go_wp2_with fail
              refine KS.out.mono ?_
              rintro e wY ⟨rfl, hbY⟩
              have hbelY := Lib.hid (hbel.out.trans (hbY.mono hbel.out.size))
              clear KS hbY hbel
              go_wp2
              go_ret
              exact ⟨rfl, hbelY.out⟩
  · go_wp2_with fail
    refine (New_any p w1).mono ?_
    rintro e w2 hN
    obtain ⟨na, nb, rfl, hb2⟩ := new_some hN
    have hb02 := hb1.trans (hb2.mono hb1.size)
    clear hN hb1 hb2
    go_wp2_with fail
    refine (rNew_any p w2).mono ?_
    rintro e w3 hN
    obtain ⟨nc, nd, rfl, hb3⟩ := rnew_some hN
    have hb03 := hb02.trans (hb3.mono hb02.size)
    have hX3 := hx.out.below hb03
    clear hN hb02 hb3
    go_wp2_with (at_builtin; refine wp_app rfl _ _ _ _ rfl elB rfl (World.ownsRow_nil _ w3.heap.size _ _) rfl (src_rd Try.underlying22 hX3 bv_one) ?c1 ?c2 ?c3 ?_)
    case c1 => unfold maxLen; omega
    case c2 => omega
    case c3 => exact Nat.le_refl _
    intro v w4 hown hb4
    have hown4 : w4.ownsRow w3.heap.size 5 1 v len (xs.map bv) := by simpa using hown
    obtain ⟨A4, c4, rfl, hc4, hm4⟩ := own_form hown4
    have hb04 := hb03.trans (hb4.mono hb03.size)
    have s34 := hb4.size
    have s03 := hb03.size
    have KL := Lib.hid (Load_any p w4.heap.size len c4 A4 xs w4 (Byt.of_own hown4) (Nat.le_refl _) (by omega))
    have HO4 := Lib.hid hown4
    clear hown hown4 hX3 hb4 hb03
    go_wp2_with fail
    refine KL.out.mono ?_
    rintro e w5 (⟨er, rfl, hcase, hb5⟩ | ⟨P, rfl, hP1, hP2, hl, hlow0, rfl, ha5, hb5⟩)
    · have hb05 := hb04.trans (hb5.mono hb04.size)
      have KR := Lib.hid (rLoad_any p w.heap.size len cap A xs w5 (hx.out.below hb05) hb05.size (by omega))
      have HC := Lib.hid hcase
      have B5 := Lib.hid hb5
      clear KL hcase hb5 hb04
      go_wp2_with fail
      refine KR.out.mono ?_
      rintro e w6 h6
      obtain ⟨rfl, hb6⟩ := ld_err HC.out h6
      have hb06 := Lib.hid (hb05.trans (hb6.mono hb05.size))
      obtain ⟨go, hgo1, hgo2, hgo3⟩ := own_blk HO4.out (B5.out.trans (hb6.mono B5.out.size)) s34
      have hwgo : w.heap.size ≤ go := by omega
      clear KR HC h6 hb6 hb05 B5 hgo1 hgo2 HO4
      go_wp2_with fail
      go_loopw [56] (fun i wr => ∃ k : Nat, k ≤ len ∧ i = .int .i64 (k : Int) ∧ Hid (Upd go w6 wr) ∧ Hid (0 < len → ∃ cur : Array Value, wr.heap[go]? = some (.cells cur 5 (0, 0)) ∧ len ≤ cur.size)) (fun i _ => len - (intOf i).toNat)
      case atStart => exact ⟨0, by omega, rfl, Upd.refl _ _, fun hp => (hgo3 hp).2⟩
      case round =>
        obtain ⟨m, hm, rfl, hU, hCur⟩ := hrel
        by_cases hlt2 : m < len
        · obtain ⟨rfl, _⟩ := hgo3 (by omega)
          obtain ⟨cur, q1, q2⟩ := hCur.out (by omega)
          have hc1 : wr.cell? ⟨go, m, none⟩ = some (cur[m]'(by omega)) := by rw [blk_cell q1, Array.getElem?_eq_getElem]
          have hf1 := blk_frozen q1 m
          generalize (cur[m]'(by omega)) = v at hc1
          have hU2 := Lib.hid (hU.out.trans (Upd.set go m wr (.int .u8 255)))
          have hCur2 : Hid (0 < len → ∃ cur : Array Value, (wr.setCell ⟨go, m, none⟩ (.int .u8 255)).heap[go]? = some (.cells cur 5 (0, 0)) ∧ len ≤ cur.size) :=
            fun _ => ⟨_, blk_set q1 m _, by rw [Array.size_setIfInBounds]; exact q2⟩
          clear hU hCur q1 q2 hgo3
          go_wp2
          go_roundw
          case rel => exact ⟨m + 1, by omega, by go_num, hU2.out, hCur2.out⟩
          case measure => simp [intOf]; omega
        · have t3 : ¬ ((m : Int) < (len : Int)) := by omega
          clear hCur hgo3
          have te : (er != er) = false := by simp
          have hbw := Lib.hid (Upd.below hb06.out hU.out hwgo)
          clear hU hb06
          go_wp2
          go_ret
          exact ⟨rfl, hbw.out⟩
    · obtain ⟨g0, hg0⟩ : ∃ x, w4.heap.size = x := ⟨_, rfl⟩
      rw [hg0] at ha5
      rw [hg0]
      have hb05 := hb04.trans (hb5.mono hb04.size)
      have KR := Lib.hid (rLoad_any (P : Int) w.heap.size len cap A xs w5 (hx.out.below hb05) hb05.size (by omega))
      have B5 := Lib.hid hb5
      have lg : g0 < w5.heap.size := Alc0.lt (show Alc w5 g0 P (fb xs) from ha5.out)
      have s04 := hb04.size
      have HG0 := Lib.hid hg0
      have HL := Lib.hid hl
      have hL0 := Lib.hid hlow0
      have HA5 := Lib.hid (show Alc w5 g0 P (fb xs) from ha5.out)
      clear KL hb5 hb04 ha5 hg0 hl hlow0
      go_wp2_with fail
      refine KR.out.mono ?_
      rintro e w6 h6
      obtain ⟨rfl, hr6, hb6⟩ := ld_ok hP1 hP2 HL.out hL0.out h6
      have hb06 := Lib.hid (hb05.trans (hb6.mono hb05.size))
      obtain ⟨bt, hbt⟩ : ∃ x, w5.heap.size = x := ⟨_, rfl⟩
      obtain ⟨bh, hbh⟩ : ∃ x, bt + 1 = x := ⟨_, rfl⟩
      rw [hbt, hbh] at hr6
      rw [hbt, hbh]
      have HA6 := Lib.hid (show Alc w6 g0 P (fb xs) from HA5.out.below hb6)
      have HR6 := Lib.hid (show RA w6 bh bt P (fb xs) from hr6.out)
      have lR := HR6.out.lt
      have lA := HA6.out.lt
      have hgg := HG0.out
      have hgh0 : g0 ≠ bh := by omega
      have hgt0 : g0 ≠ bt := by omega
      have hwt : w.heap.size ≤ bt := by have := hb05.size; omega
      have hwg0 : w.heap.size ≤ g0 := by omega
      obtain ⟨go, hgo1, hgo2, hgo3⟩ := own_blk HO4.out (B5.out.trans (hb6.mono B5.out.size)) s34
      have hwgo : w.heap.size ≤ go := by omega
      have n0 : g0 ≠ go := by omega
      have n1 : bh ≠ go := by omega
      have n2 : bt ≠ go := by omega
      obtain ⟨f0, hf0⟩ : ∃ x, fb xs = x := ⟨_, rfl⟩
      rw [hf0] at hL0 HA6 HR6
      clear KR h6 hb6 hb05 B5 hgo1 hgo2 HO4 hr6 HL HA5 HG0 hgg hbt hbh lR lA hf0
      go_wp2_with fail
      go_loopw [56] (fun i wr => ∃ k : Nat, k ≤ len ∧ i = .int .i64 (k : Int) ∧ Hid (Upd go w6 wr) ∧ Hid (0 < len → ∃ cur : Array Value, wr.heap[go]? = some (.cells cur 5 (0, 0)) ∧ len ≤ cur.size)) (fun i _ => len - (intOf i).toNat)
      case atStart => exact ⟨0, by omega, rfl, Upd.refl _ _, fun hp => (hgo3 hp).2⟩
      case round =>
        obtain ⟨m, hm, rfl, hU, hCur⟩ := hrel
        by_cases hlt2 : m < len
        · obtain ⟨rfl, _⟩ := hgo3 (by omega)
          obtain ⟨cur, q1, q2⟩ := hCur.out (by omega)
          have hc1 : wr.cell? ⟨go, m, none⟩ = some (cur[m]'(by omega)) := by rw [blk_cell q1, Array.getElem?_eq_getElem]
          have hf1 := blk_frozen q1 m
          generalize (cur[m]'(by omega)) = v at hc1
          have hU2 := Lib.hid (hU.out.trans (Upd.set go m wr (.int .u8 255)))
          have hCur2 : Hid (0 < len → ∃ cur : Array Value, (wr.setCell ⟨go, m, none⟩ (.int .u8 255)).heap[go]? = some (.cells cur 5 (0, 0)) ∧ len ≤ cur.size) :=
            fun _ => ⟨_, blk_set q1 m _, by rw [Array.size_setIfInBounds]; exact q2⟩
          clear hU hCur q1 q2 hgo3
          go_wp2
          go_roundw
          case rel => exact ⟨m + 1, by omega, by go_num, hU2.out, hCur2.out⟩
          case measure => simp [intOf]; omega
        · have t3 : ¬ ((m : Int) < (len : Int)) := by omega
          clear hCur hgo3
          obtain ⟨w7, hw7⟩ : ∃ x, x = wr := ⟨_, rfl⟩
          subst hw7
          have hA0 := Lib.hid (show Alc w7 g0 P f0 from HA6.out.upd hU.out n0)
          have hR0 := Lib.hid (show RA w7 bh bt P f0 from HR6.out.upd hU.out n1 n2)
          have hbel0 := Lib.hid (Upd.below hb06.out hU.out hwgo)
          clear hU hb06 HA6 HR6
          by_cases hbig : 300 < len2
          · have tb : (300 : Int) < (len2 : Int) := by omega
            clear hA0 hR0 hL0
            go_wp2
            go_ret
            exact ⟨rfl, hbel0.out⟩
          · skip
            have tb : ¬ (300 : Int) < (len2 : Int) := by omega
            go_wp2_with fail
            clear tb
            go_loopw [10, 83] (fun av i wr => ∃ (k g : Nat) (f : Nat → Bool), k ≤ len2 ∧ i = .int .i64 (k : Int) ∧ av = .pointer (some ⟨g, 0, none⟩) ∧ Hid (Alc wr g P f) ∧ Hid (RA wr bh bt P f) ∧ Hid (Low f P) ∧ g ≠ bh ∧ g ≠ bt ∧ w.heap.size ≤ g ∧ Hid (Below w.heap.size w wr)) (fun _ i _ => len2 - (intOf i).toNat)
            case atStart => exact ⟨0, g0, f0, by omega, rfl, rfl, hA0.out, hR0.out, hL0.out, hgh0, hgt0, hwg0, hbel0.out⟩
            case round =>
              obtain ⟨k, g, f, hk, rfl, rfl, ha, hr, hlow, hgh, hgt, hwg, hbel⟩ := hrel
              obtain ⟨w0, hw0⟩ : ∃ x, x = wr := ⟨_, rfl⟩
              subst hw0
              clear hA0 hR0 hL0 hbel0
              by_cases hlt : k < len2
              · obtain ⟨b, off, o1, o2, o3, rfl, hbB, c1, c2, c3, ho2⟩ := (hO.out.below hbel.out).at_ hlt
                obtain ⟨w4, hw4⟩ : ∃ x, w0.alloc (.cells #[.int .i64 o1, .int .i64 o2, .bool o3] 35) = x := ⟨_, rfl⟩
                obtain ⟨ob, hob⟩ : ∃ x, w0.heap.size = x := ⟨_, rfl⟩
                have hb04 : Below w0.heap.size w0 w4 := by rw [← hw4]; exact (Below.refl _ _).alloc (Nat.le_refl _) _
                have hobg : ob ≠ g := by have := ha.out.lt; omega
                have hobh : ob ≠ bh := by have := hr.out.lt; omega
                have hobt : ob ≠ bt := by have := hr.out.lt; omega
                have ha4 := Lib.hid (show Alc w4 g P f from ha.out.below hb04)
                have hr4 := Lib.hid (show RA w4 bh bt P f from hr.out.below hb04)
                have hbel4 := Lib.hid (hbel.out.trans (hb04.mono hbel.out.size))
                have hoc : w4.heap[ob]? = some (.cells #[.int .i64 o1, .int .i64 o2, .bool o3] 35 (0, 0)) := by rw [← hw4, ← hob]; exact heap_alloc_new w0 _
                have hoc4 := Lib.hid hoc
                have hC0 : w4.cell? ⟨ob, 0, none⟩ = some (.int .i64 o1) := blk_cell hoc 0
                have hC1 : w4.cell? ⟨ob, 1, none⟩ = some (.int .i64 o2) := blk_cell hoc 1
                clear hoc hb04 ha hr hbel
                by_cases e0 : o1 = 0
                · subst e0
                  clear hC1
                  have KT := Lib.hid (Take_any g P f w4 ha4.out hP2)
                  go_wp2_with fail
                  refine KT.out.mono ?_
                  rintro e w5 hTk
                  obtain ⟨m1, er1, f2, rfl, hlw, ha5, hu5, hnx⟩ := take2 hTk ha4.out
                  have hr5 := Lib.hid (show RA w5 bh bt P f from hr4.out.upd hu5.out (Ne.symm hgh) (Ne.symm hgt))
                  have hoc5 : w5.heap[ob]? = some (.cells #[.int .i64 0, .int .i64 o2, .bool o3] 35 (0, 0)) := by rw [hu5.out.2.2.2.2 ob (Array.getElem?_eq_some_iff.1 hoc4.out).1 hobg]; exact hoc4.out
                  have hlow2 : Hid (Low f2 P) := hlw.out hlow.out
                  have hbel5 := Lib.hid (Upd.below hbel4.out hu5.out hwg)
                  have KR := Lib.hid (rTake_any bh bt P 1 f w5 hr5.out hP2 (by omega) (by omega))
                  have HOC5 := Lib.hid hoc5
                  clear KT hTk hlw hu5 hr4 hoc4 hbel4 ha4 hlow hoc5
                  go_wp2_with fail
                  refine KR.out.mono ?_
                  rintro e wX hRk
                  obtain ⟨rfl, hrx, hux⟩ := hnx.out _ _ _ _ _ hRk hr5.out
                  have haX := Lib.hid (show Alc wX g P f2 from ha5.out.upd hux hgt)
                  have hrX := Lib.hid hrx
                  have hocX : Hid (wX.heap[ob]? = some (.cells #[.int .i64 0, .int .i64 o2, .bool o3] 35 (0, 0))) := by
                    show _ = _
                    rw [hux.2.2.2.2 ob (Array.getElem?_eq_some_iff.1 HOC5.out).1 hobt]; exact HOC5.out
                  have hbelX := Lib.hid (Upd.below hbel5.out hux hwt)
                  have te1 : (m1 == m1) = true := by simp
                  have te2 : (er1 == er1) = true := by simp
                  clear KR hRk hnx hrx hux hr5 HOC5 hbel5 ha5
                  have KS := Lib.hid (same_any g bh bt P f2 wX haX.out hrX.out hP2 hlow2.out)
                  go_wp2_with fail
                  refine KS.out.mono ?_
                  rintro e wY ⟨rfl, hbY⟩
                  have haY := Lib.hid (show Alc wY g P f2 from haX.out.below hbY)
                  have hrY := Lib.hid (show RA wY bh bt P f2 from hrX.out.below hbY)
                  have hocY := blk_below hocX.out hbY (Array.getElem?_eq_some_iff.1 hocX.out).1
                  have hbelY := Lib.hid (hbelX.out.trans (hbY.mono hbelX.out.size))
                  have hC2 : wY.cell? ⟨ob, 2, none⟩ = some (.bool o3) := blk_cell hocY 2
                  clear KS hbY haX hrX hocX hbelX hocY
                  cases o3
                  · go_wp2
                    go_roundw
                    case rel => exact ⟨k + 1, g, f2, by omega, by go_num, rfl, haY.out, hrY.out, hlow2.out, hgh, hgt, hwg, hbelY.out⟩
                    case measure => simp [intOf]; omega
                  · have KC := Lib.hid (Clone_any g P _ f2 wY haY.out)
                    have lY := Lib.hid haY.out.lt
                    have lR := Lib.hid hrY.out.lt
                    go_wp2_with fail
                    clear hC2
                    refine KC.out.mono ?_
                    rintro e wZ ⟨rfl, haC, hbZ⟩
                    obtain ⟨gc, hgc⟩ : ∃ x, wY.heap.size = x := ⟨_, rfl⟩
                    have lY2 : g < gc := by have := lY.out; omega
                    have lR2 : bh < gc ∧ bt < gc := by have := lR.out; omega
                    have hwgc : w.heap.size ≤ gc := by omega
                    have haZ := Lib.hid (show Alc wZ g P f2 from haY.out.below hbZ)
                    have hrZ := Lib.hid (show RA wZ bh bt P f2 from hrY.out.below hbZ)
                    have hbelZ := Lib.hid (hbelY.out.trans (hbZ.mono hbelY.out.size))
                    rw [hgc] at haC
                    rw [hgc]
                    have hAC := Lib.hid (show Alc wZ gc P f2 from haC.out)
                    have KT := Lib.hid (Take_any g P f2 wZ haZ.out hP2)
                    clear KC hbZ haC hgc haY hrY hbelY lY lR
                    go_wp2_with fail
                    refine KT.out.mono ?_
                    rintro e wA hTk
                    obtain ⟨m1, er1, f1, rfl, _, haA, huA, _⟩ := take2 hTk haZ.out
                    have KG := Lib.hid (Give_any g P 0 f1 wA haA.out hP2)
                    have hAC2 := Lib.hid (show Alc wA gc P f2 from hAC.out.upd huA.out (by omega))
                    have hrA := Lib.hid (show RA wA bh bt P f2 from hrZ.out.upd huA.out (Ne.symm hgh) (Ne.symm hgt))
                    have hbelA := Lib.hid (Upd.below hbelZ.out huA.out hwg)
                    clear KT hTk haA huA haZ hrZ hbelZ hAC
                    go_wp2_with fail
                    refine KG.out.mono ?_
                    rintro e wB ⟨er2, f3, rfl, _, _, _, huB⟩
                    have hAC3 := Lib.hid (show Alc wB gc P f2 from hAC2.out.upd huB.out (by omega))
                    have hrB := Lib.hid (show RA wB bh bt P f2 from hrA.out.upd huB.out (Ne.symm hgh) (Ne.symm hgt))
                    have hbelB := Lib.hid (Upd.below hbelA.out huB.out hwg)
                    have n1 : gc ≠ bh := by omega
                    have n2 : gc ≠ bt := by omega
                    clear KG huB hAC2 hrA hbelA
                    go_wp2
                    go_roundw
                    case rel => exact ⟨k + 1, gc, f2, by omega, by go_num, rfl, hAC3.out, hrB.out, hlow2.out, n1, n2, hwgc, hbelB.out⟩
                    case measure => simp [intOf]; omega
                · by_cases e1 : o1 = 1
                  · subst e1
                    have KT := Lib.hid (TakeRun_any g P o2 f w4 ha4.out hP2 (by omega))
                    go_wp2_with fail
                    clear hC1
                    refine KT.out.mono ?_
                    rintro e w5 hTk
                    obtain ⟨m1, er1, f2, rfl, hlw, ha5, hu5, hnx⟩ := take2 hTk ha4.out
                    have hr5 := Lib.hid (show RA w5 bh bt P f from hr4.out.upd hu5.out (Ne.symm hgh) (Ne.symm hgt))
                    have hoc5 : w5.heap[ob]? = some (.cells #[.int .i64 1, .int .i64 o2, .bool o3] 35 (0, 0)) := by rw [hu5.out.2.2.2.2 ob (Array.getElem?_eq_some_iff.1 hoc4.out).1 hobg]; exact hoc4.out
                    have hlow2 : Hid (Low f2 P) := hlw.out hlow.out
                    have hbel5 := Lib.hid (Upd.below hbel4.out hu5.out hwg)
                    have KR := Lib.hid (rTake_any bh bt P o2 f w5 hr5.out hP2 (by omega) (by omega))
                    have hC1 : w5.cell? ⟨ob, 1, none⟩ = some (.int .i64 o2) := blk_cell hoc5 1
                    have HOC5 := Lib.hid hoc5
                    clear KT hTk hlw hu5 hr4 hoc4 hbel4 ha4 hlow hoc5
                    go_wp2_with fail
                    clear hC1
                    refine KR.out.mono ?_
                    rintro e wX hRk
                    obtain ⟨rfl, hrx, hux⟩ := hnx.out _ _ _ _ _ hRk hr5.out
                    have haX := Lib.hid (show Alc wX g P f2 from ha5.out.upd hux hgt)
                    have hrX := Lib.hid hrx
                    have hocX : Hid (wX.heap[ob]? = some (.cells #[.int .i64 1, .int .i64 o2, .bool o3] 35 (0, 0))) := by
                      show _ = _
                      rw [hux.2.2.2.2 ob (Array.getElem?_eq_some_iff.1 HOC5.out).1 hobt]; exact HOC5.out
                    have hbelX := Lib.hid (Upd.below hbel5.out hux hwt)
                    have te1 : (m1 == m1) = true := by simp
                    have te2 : (er1 == er1) = true := by simp
                    clear KR hRk hnx hrx hux hr5 HOC5 hbel5 ha5
                    have KS := Lib.hid (same_any g bh bt P f2 wX haX.out hrX.out hP2 hlow2.out)
                    go_wp2_with fail
                    refine KS.out.mono ?_
                    rintro e wY ⟨rfl, hbY⟩
                    have haY := Lib.hid (show Alc wY g P f2 from haX.out.below hbY)
                    have hrY := Lib.hid (show RA wY bh bt P f2 from hrX.out.below hbY)
                    have hocY := blk_below hocX.out hbY (Array.getElem?_eq_some_iff.1 hocX.out).1
                    have hbelY := Lib.hid (hbelX.out.trans (hbY.mono hbelX.out.size))
                    have hC2 : wY.cell? ⟨ob, 2, none⟩ = some (.bool o3) := blk_cell hocY 2
                    clear KS hbY haX hrX hocX hbelX hocY
                    cases o3
                    · go_wp2
                      go_roundw
                      case rel => exact ⟨k + 1, g, f2, by omega, by go_num, rfl, haY.out, hrY.out, hlow2.out, hgh, hgt, hwg, hbelY.out⟩
                      case measure => simp [intOf]; omega
                    · have KC := Lib.hid (Clone_any g P _ f2 wY haY.out)
                      have lY := Lib.hid haY.out.lt
                      have lR := Lib.hid hrY.out.lt
                      go_wp2_with fail
                      clear hC2
                      refine KC.out.mono ?_
                      rintro e wZ ⟨rfl, haC, hbZ⟩
                      obtain ⟨gc, hgc⟩ : ∃ x, wY.heap.size = x := ⟨_, rfl⟩
                      have lY2 : g < gc := by have := lY.out; omega
                      have lR2 : bh < gc ∧ bt < gc := by have := lR.out; omega
                      have hwgc : w.heap.size ≤ gc := by omega
                      have haZ := Lib.hid (show Alc wZ g P f2 from haY.out.below hbZ)
                      have hrZ := Lib.hid (show RA wZ bh bt P f2 from hrY.out.below hbZ)
                      have hbelZ := Lib.hid (hbelY.out.trans (hbZ.mono hbelY.out.size))
                      rw [hgc] at haC
                      rw [hgc]
                      have hAC := Lib.hid (show Alc wZ gc P f2 from haC.out)
                      have KT := Lib.hid (Take_any g P f2 wZ haZ.out hP2)
                      clear KC hbZ haC hgc haY hrY hbelY lY lR
                      go_wp2_with fail
                      refine KT.out.mono ?_
                      rintro e wA hTk
                      obtain ⟨m1, er1, f1, rfl, _, haA, huA, _⟩ := take2 hTk haZ.out
                      have KG := Lib.hid (Give_any g P 0 f1 wA haA.out hP2)
                      have hAC2 := Lib.hid (show Alc wA gc P f2 from hAC.out.upd huA.out (by omega))
                      have hrA := Lib.hid (show RA wA bh bt P f2 from hrZ.out.upd huA.out (Ne.symm hgh) (Ne.symm hgt))
                      have hbelA := Lib.hid (Upd.below hbelZ.out huA.out hwg)
                      clear KT hTk haA huA haZ hrZ hbelZ hAC
                      go_wp2_with fail
                      refine KG.out.mono ?_
                      rintro e wB ⟨er2, f3, rfl, _, _, _, huB⟩
                      have hAC3 := Lib.hid (show Alc wB gc P f2 from hAC2.out.upd huB.out (by omega))
                      have hrB := Lib.hid (show RA wB bh bt P f2 from hrA.out.upd huB.out (Ne.symm hgh) (Ne.symm hgt))
                      have hbelB := Lib.hid (Upd.below hbelA.out huB.out hwg)
                      have n1 : gc ≠ bh := by omega
                      have n2 : gc ≠ bt := by omega
                      clear KG huB hAC2 hrA hbelA
                      go_wp2
                      go_roundw
                      case rel => exact ⟨k + 1, gc, f2, by omega, by go_num, rfl, hAC3.out, hrB.out, hlow2.out, n1, n2, hwgc, hbelB.out⟩
                      case measure => simp [intOf]; omega
                  · by_cases e2 : o1 = 2
                    · subst e2
                      have KG := Lib.hid (fun W (hA : Alc W g P f) => Give_any g P o2 f W hA hP2)
                      go_wp2_with fail
                      have hS : w4.cell? ⟨ob, 1, none⟩ = some (.int .i64 o2) := hC1
                      clear hC1
                      refine heldS_start (fun W => W.cell? ⟨ob, 1, none⟩ = some (.int .i64 o2)) (by kernel_rfl) ?_
                      refine heldS_take (i := 0) (v := ?_) rfl (by kernel_rfl) (by kernel_rfl) (by kernel_rfl) (fun _ _ _ h => h) (by rfl) hS ?_ ?_
                      rotate_left
                      · (intro W hW; go_simp; try with_reducible rfl)
                      try simp only [Act.put, List.setIfInBounds_toArray, List.set_cons_zero, List.set_cons_succ]
                      refine heldS_take (i := 1) (v := ?_) rfl (by kernel_rfl) (by kernel_rfl) (by kernel_rfl) (fun _ _ _ h => h) (by rfl) hS ?_ ?_
                      rotate_left
                      · (intro W hW; go_simp; try with_reducible rfl)
                      try simp only [Act.put, List.setIfInBounds_toArray, List.set_cons_zero, List.set_cons_succ]
                      refine heldS_take (i := 2) (v := ?_) rfl (by kernel_rfl) (by kernel_rfl) (by kernel_rfl) (fun _ _ _ h => h) (by rfl) hS ?_ ?_
                      rotate_left
                      · (intro W hW; have hcW : W.cell? ⟨ob, 1, none⟩ = some (.int .i64 o2) := hW; go_simp; try with_reducible rfl)
                      try simp only [Act.put, List.setIfInBounds_toArray, List.set_cons_zero, List.set_cons_succ]
                      refine heldS_take (i := 4) (v := ?_) rfl (by kernel_rfl) (by kernel_rfl) (by kernel_rfl) (fun _ _ _ h => h) (by rfl) hS ?_ ?_
                      rotate_left
                      · (intro W hW; go_simp; try with_reducible rfl)
                      try simp only [Act.put, List.setIfInBounds_toArray, List.set_cons_zero, List.set_cons_succ]
                      refine heldS_take (i := 5) (v := ?_) rfl (by kernel_rfl) (by kernel_rfl) (by kernel_rfl) (fun _ _ _ h => h) (by rfl) hS ?_ ?_
                      rotate_left
                      · (intro W hW; go_simp; try with_reducible rfl)
                      try simp only [Act.put, List.setIfInBounds_toArray, List.set_cons_zero, List.set_cons_succ]
                      refine heldS_take (i := 6) (v := ?_) rfl (by kernel_rfl) (by kernel_rfl) (by kernel_rfl) (fun _ _ _ h => h) (by rfl) hS ?_ ?_
                      rotate_left
                      · (intro W hW; have hcW : W.cell? ⟨ob, 1, none⟩ = some (.int .i64 o2) := hW; go_simp; try with_reducible rfl)
                      try simp only [Act.put, List.setIfInBounds_toArray, List.set_cons_zero, List.set_cons_succ]
                      refine heldS_call (i := 3) (f := 15) (args := #[.pointer (some ⟨g, 0, none⟩), .int .i64 o2]) rfl (by kernel_rfl) (by rfl) (by go_simp) ?_
                      refine (KG.out w4.drew ha4.out).mono ?_
                      rintro e w5 ⟨er, f', rfl, her, hf', ha5, hu⟩
                      have her2 : er = givE P f o2 := her.out
                      have hff : f' = givF P f o2 := hf'.out
                      subst her2
                      subst hff
                      have hlow2 : Hid (Low (givF P f o2) P) := by
                        show Low (givF P f o2) P
                        unfold givF
                        by_cases hh : hasB P f o2 = true
                        · rw [if_pos hh]; exact low_flip hlow.out (hasB_lt hh)
                        · rw [if_neg hh]; exact hlow.out
                      clear her hf'
                      have hoc5 : w5.heap[ob]? = some (.cells #[.int .i64 2, .int .i64 o2, .bool o3] 35 (0, 0)) := by
                        rw [hu.out.2.2.2.2 ob (Array.getElem?_eq_some_iff.1 hoc4.out).1 hobg]; exact hoc4.out
                      have hS5 : w5.cell? ⟨ob, 1, none⟩ = some (.int .i64 o2) := blk_cell hoc5 1
                      refine ⟨_, rfl, hS5, ?_⟩
                      have hr5 := Lib.hid (show RA w5 bh bt P f from (show RA w4.drew bh bt P f from hr4.out).upd hu.out (Ne.symm hgh) (Ne.symm hgt))
                      have hbel5 := Lib.hid (Upd.below hbel4.out.drew hu.out hwg)
                      have KR := Lib.hid (rGive_any bh bt P o2 f w5 hr5.out hP2)
                      have HOC5 := Lib.hid hoc5
                      obtain ⟨er1, he1⟩ : ∃ x, givE P f o2 = x := ⟨_, rfl⟩
                      obtain ⟨f2, hf2⟩ : ∃ x, givF P f o2 = x := ⟨_, rfl⟩
                      rw [he1, hf2] at KR
                      rw [hf2] at ha5
                      rw [he1]
                      rw [hf2] at hlow2
                      have te2 : (er1 == er1) = true := by simp
                      clear KG hoc5 hS hr4 hbel4 ha4 hlow hu he1 hf2 hoc4 hr5
                      try simp only [Act.put, List.setIfInBounds_toArray, List.set_cons_zero, List.set_cons_succ]
                      refine heldS_call (i := 7) (f := 16) (args := #[.pointer (some ⟨bh, 0, none⟩), .int .i64 o2]) rfl (by kernel_rfl) (by rfl) (by go_simp) ?_
                      refine KR.out.mono ?_
                      rintro e wX ⟨rfl, hrX, hux⟩
                      have haX := Lib.hid (show Alc wX g P f2 from ha5.out.upd hux.out hgt)
                      have hocX : Hid (wX.heap[ob]? = some (.cells #[.int .i64 2, .int .i64 o2, .bool o3] 35 (0, 0))) := by
                        show _ = _
                        rw [hux.out.2.2.2.2 ob (Array.getElem?_eq_some_iff.1 HOC5.out).1 hobt]; exact HOC5.out
                      have hSX : wX.cell? ⟨ob, 1, none⟩ = some (.int .i64 o2) := blk_cell hocX.out 1
                      refine ⟨_, rfl, hSX, ?_⟩
                      have hbelX := Lib.hid (Upd.below hbel5.out hux.out hwt)
                      clear KR hux HOC5 hbel5 ha5 hS5
                      try simp only [Act.put, List.setIfInBounds_toArray, List.set_cons_zero, List.set_cons_succ]
                      refine heldS_take (i := 8) (v := ?_) rfl (by kernel_rfl) (by kernel_rfl) (by kernel_rfl) (fun _ _ _ h => h) (by rfl) hSX ?_ ?_
                      rotate_left
                      · (intro W hW; go_simp; try with_reducible rfl)
                      try simp only [Act.put, List.setIfInBounds_toArray, List.set_cons_zero, List.set_cons_succ]
                      refine heldS_take (i := 9) (v := ?_) rfl (by kernel_rfl) (by kernel_rfl) (by kernel_rfl) (fun _ _ _ h => h) (by rfl) hSX ?_ ?_
                      rotate_left
                      · (intro W hW; go_simp; try with_reducible rfl)
                      try simp only [Act.put, List.setIfInBounds_toArray, List.set_cons_zero, List.set_cons_succ]
                      refine wpAnyH_done (by kernel_rfl) ?_ _
                      clear hSX
                      have KS := Lib.hid (same_any g bh bt P f2 wX haX.out hrX.out hP2 hlow2.out)
                      go_wp2_with fail
                      refine KS.out.mono ?_
                      rintro e wY ⟨rfl, hbY⟩
                      have haY := Lib.hid (show Alc wY g P f2 from haX.out.below hbY)
                      have hrY := Lib.hid (show RA wY bh bt P f2 from hrX.out.below hbY)
                      have hocY := blk_below hocX.out hbY (Array.getElem?_eq_some_iff.1 hocX.out).1
                      have hbelY := Lib.hid (hbelX.out.trans (hbY.mono hbelX.out.size))
                      have hC2 : wY.cell? ⟨ob, 2, none⟩ = some (.bool o3) := blk_cell hocY 2
                      clear KS hbY haX hrX hocX hbelX hocY
                      cases o3
                      · go_wp2
                        go_roundw
                        case rel => exact ⟨k + 1, g, f2, by omega, by go_num, rfl, haY.out, hrY.out, hlow2.out, hgh, hgt, hwg, hbelY.out⟩
                        case measure => simp [intOf]; omega
                      · have KC := Lib.hid (Clone_any g P _ f2 wY haY.out)
                        have lY := Lib.hid haY.out.lt
                        have lR := Lib.hid hrY.out.lt
                        go_wp2_with fail
                        clear hC2
                        refine KC.out.mono ?_
                        rintro e wZ ⟨rfl, haC, hbZ⟩
                        obtain ⟨gc, hgc⟩ : ∃ x, wY.heap.size = x := ⟨_, rfl⟩
                        have lY2 : g < gc := by have := lY.out; omega
                        have lR2 : bh < gc ∧ bt < gc := by have := lR.out; omega
                        have hwgc : w.heap.size ≤ gc := by omega
                        have haZ := Lib.hid (show Alc wZ g P f2 from haY.out.below hbZ)
                        have hrZ := Lib.hid (show RA wZ bh bt P f2 from hrY.out.below hbZ)
                        have hbelZ := Lib.hid (hbelY.out.trans (hbZ.mono hbelY.out.size))
                        rw [hgc] at haC
                        rw [hgc]
                        have hAC := Lib.hid (show Alc wZ gc P f2 from haC.out)
                        have KT := Lib.hid (Take_any g P f2 wZ haZ.out hP2)
                        clear KC hbZ haC hgc haY hrY hbelY lY lR
                        go_wp2_with fail
                        refine KT.out.mono ?_
                        rintro e wA hTk
                        obtain ⟨m1, er1, f1, rfl, _, haA, huA, _⟩ := take2 hTk haZ.out
                        have KG := Lib.hid (Give_any g P 0 f1 wA haA.out hP2)
                        have hAC2 := Lib.hid (show Alc wA gc P f2 from hAC.out.upd huA.out (by omega))
                        have hrA := Lib.hid (show RA wA bh bt P f2 from hrZ.out.upd huA.out (Ne.symm hgh) (Ne.symm hgt))
                        have hbelA := Lib.hid (Upd.below hbelZ.out huA.out hwg)
                        clear KT hTk haA huA haZ hrZ hbelZ hAC
                        go_wp2_with fail
                        refine KG.out.mono ?_
                        rintro e wB ⟨er2, f3, rfl, _, _, _, huB⟩
                        have hAC3 := Lib.hid (show Alc wB gc P f2 from hAC2.out.upd huB.out (by omega))
                        have hrB := Lib.hid (show RA wB bh bt P f2 from hrA.out.upd huB.out (Ne.symm hgh) (Ne.symm hgt))
                        have hbelB := Lib.hid (Upd.below hbelA.out huB.out hwg)
                        have n1 : gc ≠ bh := by omega
                        have n2 : gc ≠ bt := by omega
                        clear KG huB hAC2 hrA hbelA
                        go_wp2
                        go_roundw
                        case rel => exact ⟨k + 1, gc, f2, by omega, by go_num, rfl, hAC3.out, hrB.out, hlow2.out, n1, n2, hwgc, hbelB.out⟩
                        case measure => simp [intOf]; omega
                    · by_cases e3 : o1 = 3
                      · subst e3
                        have KG := Lib.hid (fun W (hA : Alc W g P f) => MarkF_any g P o2 f W hA hP2)
                        go_wp2_with fail
                        have hS : w4.cell? ⟨ob, 1, none⟩ = some (.int .i64 o2) := hC1
                        clear hC1
                        refine heldS_start (fun W => W.cell? ⟨ob, 1, none⟩ = some (.int .i64 o2)) (by kernel_rfl) ?_
                        refine heldS_take (i := 0) (v := ?_) rfl (by kernel_rfl) (by kernel_rfl) (by kernel_rfl) (fun _ _ _ h => h) (by rfl) hS ?_ ?_
                        rotate_left
                        · (intro W hW; go_simp; try with_reducible rfl)
                        try simp only [Act.put, List.setIfInBounds_toArray, List.set_cons_zero, List.set_cons_succ]
                        refine heldS_take (i := 1) (v := ?_) rfl (by kernel_rfl) (by kernel_rfl) (by kernel_rfl) (fun _ _ _ h => h) (by rfl) hS ?_ ?_
                        rotate_left
                        · (intro W hW; go_simp; try with_reducible rfl)
                        try simp only [Act.put, List.setIfInBounds_toArray, List.set_cons_zero, List.set_cons_succ]
                        refine heldS_take (i := 2) (v := ?_) rfl (by kernel_rfl) (by kernel_rfl) (by kernel_rfl) (fun _ _ _ h => h) (by rfl) hS ?_ ?_
                        rotate_left
                        · (intro W hW; have hcW : W.cell? ⟨ob, 1, none⟩ = some (.int .i64 o2) := hW; go_simp; try with_reducible rfl)
                        try simp only [Act.put, List.setIfInBounds_toArray, List.set_cons_zero, List.set_cons_succ]
                        refine heldS_take (i := 4) (v := ?_) rfl (by kernel_rfl) (by kernel_rfl) (by kernel_rfl) (fun _ _ _ h => h) (by rfl) hS ?_ ?_
                        rotate_left
                        · (intro W hW; go_simp; try with_reducible rfl)
                        try simp only [Act.put, List.setIfInBounds_toArray, List.set_cons_zero, List.set_cons_succ]
                        refine heldS_take (i := 5) (v := ?_) rfl (by kernel_rfl) (by kernel_rfl) (by kernel_rfl) (fun _ _ _ h => h) (by rfl) hS ?_ ?_
                        rotate_left
                        · (intro W hW; go_simp; try with_reducible rfl)
                        try simp only [Act.put, List.setIfInBounds_toArray, List.set_cons_zero, List.set_cons_succ]
                        refine heldS_take (i := 6) (v := ?_) rfl (by kernel_rfl) (by kernel_rfl) (by kernel_rfl) (fun _ _ _ h => h) (by rfl) hS ?_ ?_
                        rotate_left
                        · (intro W hW; have hcW : W.cell? ⟨ob, 1, none⟩ = some (.int .i64 o2) := hW; go_simp; try with_reducible rfl)
                        try simp only [Act.put, List.setIfInBounds_toArray, List.set_cons_zero, List.set_cons_succ]
                        refine heldS_call (i := 3) (f := 17) (args := #[.pointer (some ⟨g, 0, none⟩), .int .i64 o2]) rfl (by kernel_rfl) (by rfl) (by go_simp) ?_
                        refine (KG.out w4.drew ha4.out).mono ?_
                        rintro e w5 ⟨rfl, ha5, hu⟩
                        have hlow2 : Hid (Low (mrkF P f o2) P) := by
                          show Low (mrkF P f o2) P
                          unfold mrkF
                          by_cases hh : (0 ≤ o2 ∧ o2 < (P : Int)) ∧ f o2.toNat = false
                          · rw [if_pos hh]; exact low_flip hlow.out (by omega)
                          · rw [if_neg hh]; exact hlow.out
                        have hoc5 : w5.heap[ob]? = some (.cells #[.int .i64 3, .int .i64 o2, .bool o3] 35 (0, 0)) := by
                          rw [hu.out.2.2.2.2 ob (Array.getElem?_eq_some_iff.1 hoc4.out).1 hobg]; exact hoc4.out
                        have hS5 : w5.cell? ⟨ob, 1, none⟩ = some (.int .i64 o2) := blk_cell hoc5 1
                        refine ⟨_, rfl, hS5, ?_⟩
                        have hr5 := Lib.hid (show RA w5 bh bt P f from (show RA w4.drew bh bt P f from hr4.out).upd hu.out (Ne.symm hgh) (Ne.symm hgt))
                        have hbel5 := Lib.hid (Upd.below hbel4.out.drew hu.out hwg)
                        have KR := Lib.hid (rMark_any bh bt P o2 f w5 hr5.out hP2)
                        have HOC5 := Lib.hid hoc5
                        obtain ⟨er1, he1⟩ : ∃ x, mrkE P f o2 = x := ⟨_, rfl⟩
                        obtain ⟨f2, hf2⟩ : ∃ x, mrkF P f o2 = x := ⟨_, rfl⟩
                        rw [he1, hf2] at KR
                        rw [hf2] at ha5
                        rw [he1]
                        rw [hf2] at hlow2
                        have te2 : (er1 == er1) = true := by simp
                        clear KG hoc5 hS hr4 hbel4 ha4 hlow hu he1 hf2 hoc4 hr5
                        try simp only [Act.put, List.setIfInBounds_toArray, List.set_cons_zero, List.set_cons_succ]
                        refine heldS_call (i := 7) (f := 18) (args := #[.pointer (some ⟨bh, 0, none⟩), .int .i64 o2]) rfl (by kernel_rfl) (by rfl) (by go_simp) ?_
                        refine KR.out.mono ?_
                        rintro e wX ⟨rfl, hrX, hux⟩
                        have haX := Lib.hid (show Alc wX g P f2 from ha5.out.upd hux.out hgt)
                        have hocX : Hid (wX.heap[ob]? = some (.cells #[.int .i64 3, .int .i64 o2, .bool o3] 35 (0, 0))) := by
                          show _ = _
                          rw [hux.out.2.2.2.2 ob (Array.getElem?_eq_some_iff.1 HOC5.out).1 hobt]; exact HOC5.out
                        have hSX : wX.cell? ⟨ob, 1, none⟩ = some (.int .i64 o2) := blk_cell hocX.out 1
                        refine ⟨_, rfl, hSX, ?_⟩
                        have hbelX := Lib.hid (Upd.below hbel5.out hux.out hwt)
                        clear KR hux HOC5 hbel5 ha5 hS5
                        try simp only [Act.put, List.setIfInBounds_toArray, List.set_cons_zero, List.set_cons_succ]
                        refine heldS_take (i := 8) (v := ?_) rfl (by kernel_rfl) (by kernel_rfl) (by kernel_rfl) (fun _ _ _ h => h) (by rfl) hSX ?_ ?_
                        rotate_left
                        · (intro W hW; go_simp; try with_reducible rfl)
                        try simp only [Act.put, List.setIfInBounds_toArray, List.set_cons_zero, List.set_cons_succ]
                        refine heldS_take (i := 9) (v := ?_) rfl (by kernel_rfl) (by kernel_rfl) (by kernel_rfl) (fun _ _ _ h => h) (by rfl) hSX ?_ ?_
                        rotate_left
                        · (intro W hW; go_simp; try with_reducible rfl)
                        try simp only [Act.put, List.setIfInBounds_toArray, List.set_cons_zero, List.set_cons_succ]
                        refine wpAnyH_done (by kernel_rfl) ?_ _
                        clear hSX
                        have KS := Lib.hid (same_any g bh bt P f2 wX haX.out hrX.out hP2 hlow2.out)
                        go_wp2_with fail
                        refine KS.out.mono ?_
                        rintro e wY ⟨rfl, hbY⟩
                        have haY := Lib.hid (show Alc wY g P f2 from haX.out.below hbY)
                        have hrY := Lib.hid (show RA wY bh bt P f2 from hrX.out.below hbY)
                        have hocY := blk_below hocX.out hbY (Array.getElem?_eq_some_iff.1 hocX.out).1
                        have hbelY := Lib.hid (hbelX.out.trans (hbY.mono hbelX.out.size))
                        have hC2 : wY.cell? ⟨ob, 2, none⟩ = some (.bool o3) := blk_cell hocY 2
                        clear KS hbY haX hrX hocX hbelX hocY
                        cases o3
                        · go_wp2
                          go_roundw
                          case rel => exact ⟨k + 1, g, f2, by omega, by go_num, rfl, haY.out, hrY.out, hlow2.out, hgh, hgt, hwg, hbelY.out⟩
                          case measure => simp [intOf]; omega
                        · have KC := Lib.hid (Clone_any g P _ f2 wY haY.out)
                          have lY := Lib.hid haY.out.lt
                          have lR := Lib.hid hrY.out.lt
                          go_wp2_with fail
                          clear hC2
                          refine KC.out.mono ?_
                          rintro e wZ ⟨rfl, haC, hbZ⟩
                          obtain ⟨gc, hgc⟩ : ∃ x, wY.heap.size = x := ⟨_, rfl⟩
                          have lY2 : g < gc := by have := lY.out; omega
                          have lR2 : bh < gc ∧ bt < gc := by have := lR.out; omega
                          have hwgc : w.heap.size ≤ gc := by omega
                          have haZ := Lib.hid (show Alc wZ g P f2 from haY.out.below hbZ)
                          have hrZ := Lib.hid (show RA wZ bh bt P f2 from hrY.out.below hbZ)
                          have hbelZ := Lib.hid (hbelY.out.trans (hbZ.mono hbelY.out.size))
                          rw [hgc] at haC
                          rw [hgc]
                          have hAC := Lib.hid (show Alc wZ gc P f2 from haC.out)
                          have KT := Lib.hid (Take_any g P f2 wZ haZ.out hP2)
                          clear KC hbZ haC hgc haY hrY hbelY lY lR
                          go_wp2_with fail
                          refine KT.out.mono ?_
                          rintro e wA hTk
                          obtain ⟨m1, er1, f1, rfl, _, haA, huA, _⟩ := take2 hTk haZ.out
                          have KG := Lib.hid (Give_any g P 0 f1 wA haA.out hP2)
                          have hAC2 := Lib.hid (show Alc wA gc P f2 from hAC.out.upd huA.out (by omega))
                          have hrA := Lib.hid (show RA wA bh bt P f2 from hrZ.out.upd huA.out (Ne.symm hgh) (Ne.symm hgt))
                          have hbelA := Lib.hid (Upd.below hbelZ.out huA.out hwg)
                          clear KT hTk haA huA haZ hrZ hbelZ hAC
                          go_wp2_with fail
                          refine KG.out.mono ?_
                          rintro e wB ⟨er2, f3, rfl, _, _, _, huB⟩
                          have hAC3 := Lib.hid (show Alc wB gc P f2 from hAC2.out.upd huB.out (by omega))
                          have hrB := Lib.hid (show RA wB bh bt P f2 from hrA.out.upd huB.out (Ne.symm hgh) (Ne.symm hgt))
                          have hbelB := Lib.hid (Upd.below hbelA.out huB.out hwg)
                          have n1 : gc ≠ bh := by omega
                          have n2 : gc ≠ bt := by omega
                          clear KG huB hAC2 hrA hbelA
                          go_wp2
                          go_roundw
                          case rel => exact ⟨k + 1, gc, f2, by omega, by go_num, rfl, hAC3.out, hrB.out, hlow2.out, n1, n2, hwgc, hbelB.out⟩
                          case measure => simp [intOf]; omega
                      · have q0 : (o1 == 0) = false := by simpa using e0
                        have q1 : (o1 == 1) = false := by simpa using e1
                        have q2 : (o1 == 2) = false := by simpa using e2
                        have q3 : (o1 == 3) = false := by simpa using e3
                        clear hC1
                        obtain ⟨f2, hf2⟩ : ∃ x, x = f := ⟨_, rfl⟩
                        subst hf2
                        have haX := ha4
                        have hrX := hr4
                        have hlow2 := hlow
                        have hocX := hoc4
                        have hbelX := hbel4
                        clear ha4 hr4 hlow hoc4 hbel4
                        have KS := Lib.hid (same_any g bh bt P f2 w4 haX.out hrX.out hP2 hlow2.out)
                        go_wp2_with fail
                        refine KS.out.mono ?_
                        rintro e wY ⟨rfl, hbY⟩
                        have haY := Lib.hid (show Alc wY g P f2 from haX.out.below hbY)
                        have hrY := Lib.hid (show RA wY bh bt P f2 from hrX.out.below hbY)
                        have hocY := blk_below hocX.out hbY (Array.getElem?_eq_some_iff.1 hocX.out).1
                        have hbelY := Lib.hid (hbelX.out.trans (hbY.mono hbelX.out.size))
                        have hC2 : wY.cell? ⟨ob, 2, none⟩ = some (.bool o3) := blk_cell hocY 2
                        clear KS hbY haX hrX hocX hbelX hocY
                        cases o3
                        · go_wp2
                          go_roundw
                          case rel => exact ⟨k + 1, g, f2, by omega, by go_num, rfl, haY.out, hrY.out, hlow2.out, hgh, hgt, hwg, hbelY.out⟩
                          case measure => simp [intOf]; omega
                        · have KC := Lib.hid (Clone_any g P _ f2 wY haY.out)
                          have lY := Lib.hid haY.out.lt
                          have lR := Lib.hid hrY.out.lt
                          go_wp2_with fail
                          clear hC2
                          refine KC.out.mono ?_
                          rintro e wZ ⟨rfl, haC, hbZ⟩
                          obtain ⟨gc, hgc⟩ : ∃ x, wY.heap.size = x := ⟨_, rfl⟩
                          have lY2 : g < gc := by have := lY.out; omega
                          have lR2 : bh < gc ∧ bt < gc := by have := lR.out; omega
                          have hwgc : w.heap.size ≤ gc := by omega
                          have haZ := Lib.hid (show Alc wZ g P f2 from haY.out.below hbZ)
                          have hrZ := Lib.hid (show RA wZ bh bt P f2 from hrY.out.below hbZ)
                          have hbelZ := Lib.hid (hbelY.out.trans (hbZ.mono hbelY.out.size))
                          rw [hgc] at haC
                          rw [hgc]
                          have hAC := Lib.hid (show Alc wZ gc P f2 from haC.out)
                          have KT := Lib.hid (Take_any g P f2 wZ haZ.out hP2)
                          clear KC hbZ haC hgc haY hrY hbelY lY lR
                          go_wp2_with fail
                          refine KT.out.mono ?_
                          rintro e wA hTk
                          obtain ⟨m1, er1, f1, rfl, _, haA, huA, _⟩ := take2 hTk haZ.out
                          have KG := Lib.hid (Give_any g P 0 f1 wA haA.out hP2)
                          have hAC2 := Lib.hid (show Alc wA gc P f2 from hAC.out.upd huA.out (by omega))
                          have hrA := Lib.hid (show RA wA bh bt P f2 from hrZ.out.upd huA.out (Ne.symm hgh) (Ne.symm hgt))
                          have hbelA := Lib.hid (Upd.below hbelZ.out huA.out hwg)
                          clear KT hTk haA huA haZ hrZ hbelZ hAC
                          go_wp2_with fail
                          refine KG.out.mono ?_
                          rintro e wB ⟨er2, f3, rfl, _, _, _, huB⟩
                          have hAC3 := Lib.hid (show Alc wB gc P f2 from hAC2.out.upd huB.out (by omega))
                          have hrB := Lib.hid (show RA wB bh bt P f2 from hrA.out.upd huB.out (Ne.symm hgh) (Ne.symm hgt))
                          have hbelB := Lib.hid (Upd.below hbelA.out huB.out hwg)
                          have n1 : gc ≠ bh := by omega
                          have n2 : gc ≠ bt := by omega
                          clear KG huB hAC2 hrA hbelA
                          go_wp2
                          go_roundw
                          case rel => exact ⟨k + 1, gc, f2, by omega, by go_num, rfl, hAC3.out, hrB.out, hlow2.out, n1, n2, hwgc, hbelB.out⟩
                          case measure => simp [intOf]; omega
              · have KS := Lib.hid (same_any g bh bt P f w0 ha.out hr.out hP2 hlow.out)
                clear ha hr hlow
                go_wp2_with fail
                refine KS.out.mono ?_
                rintro e wY ⟨rfl, hbY⟩
                have hbelY := Lib.hid (hbel.out.trans (hbY.mono hbel.out.size))
                clear KS hbY hbel
                go_wp2
                go_ret
                exact ⟨rfl, hbelY.out⟩
end Go.Proofs.Ytnifihdnpmacjaa
