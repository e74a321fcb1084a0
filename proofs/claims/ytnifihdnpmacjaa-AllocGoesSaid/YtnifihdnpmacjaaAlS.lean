/-
  Contract of the law's same.
-/
import Derived.Test.YtnifihdnpmacjaaAlR
import Derived.Test.YtnifihdnpmacjaaAlL
import Derived.Test.YtnifihdnpmacjaaReg
namespace Go.Proofs.Ytnifihdnpmacjaa
open Go.RowKit

def BitsO (P : Nat) (f : Nat → Bool) (w : World) (e : Ending) (w' : World) : Prop := ∃ xs : List UInt8, xs.length = (P + 7) / 8 ∧ AsBytes f xs ∧ e = .returned (.slice (some ⟨w.heap.size, 0, none⟩) ((P + 7) / 8) ((P + 7) / 8)) ∧ Hid (Byt w' w'.heap.size (some ⟨w.heap.size, 0, none⟩) ((P + 7) / 8) xs) ∧ Hid (∃ cur : Array Value, w'.heap[w.heap.size]? = some (.cells cur 5 (0, 0)) ∧ (P + 7) / 8 ≤ cur.size) ∧ Below w.heap.size w w'

set_option maxHeartbeats 1000000 in
set_option maxRecDepth 100000 in
theorem BitsO_any (g P : Nat) (T : Int) (f : Nat → Bool) (w : World) (h : Alc0 w g P T f) (hP : P ≤ 1024) :
    Calls Try.prog 23 #[.pointer (some ⟨g, 0, none⟩)] w (BitsO P f w) := by
  have K := size_any g P T f w h hP
  unfold BitsO
  have hn0 : (P + 7) / 8 ≤ 128 := by omega
  obtain ⟨n, hn⟩ : ∃ n, (P + 7) / 8 = n := ⟨_, rfl⟩
  rw [hn] at K hn0
  rw [hn]
  clear hn
  obtain ⟨xs, hl, ha, hc⟩ := h.bytes n hn0
  have hmk := fun W => run_make_row' (P := Try.prog) 22 5 (.int .u8 0) 1 Try.underlying22 (by kernel_rfl) rfl .i64 .i64 n (by omega) (by omega) W
  have K := Lib.hid K
  have HC := Lib.hid hc
  have HL := Lib.hid hl
  have HA := Lib.hid ha
  have hg := h.lt
  clear hc hl ha h
  go_enter Try.func23, Try.ntmps23
  go_wp2_with fail
  refine K.out.mono ?_
  rintro e w1 ⟨rfl, rfl⟩
  go_wp2_with (with_reducible refine wpList_copy_splice rfl _ _ _ _ rfl 5 Try.underlying22 (by kernel_rfl) (some ⟨w.heap.size, 0, none⟩) (some ⟨g, 2, none⟩) n n 128 128 rfl rfl w.heap.size 0 (madeCells #[.int .u8 0] n).toList 5 ?c1 (xs.map bv) ?c2 ?c3 ?c4 bv_one w.heap.size w ?c5 (Nat.le_refl _) ?_)
  case c1 => exact heap_alloc_new w _
  case c2 => rw [List.length_map, HL.out]; exact (Nat.min_eq_right hn0).symm
  case c3 =>
    intro _
    exact HC.out
  case c4 => simp [size_madeCells, HL.out]
  case c5 => exact (Below.refl _ _).alloc (Nat.le_refl _) _
  intro w2 hg2 hb2
  have HB := Lib.hid (show Byt w2 w2.heap.size (some ⟨w.heap.size, 0, none⟩) n xs from ⟨by rw [List.length_map, HL.out, Nat.mul_one], fun _ => ⟨_, 0, rfl, (Array.getElem?_eq_some_iff.1 hg2.out).1, fun j hj => by
    rw [blk_cell hg2.out, Nat.zero_add]
    simp only [splice, List.getElem?_toArray, List.take_zero, List.nil_append]
    rw [List.getElem?_append_left hj, List.getElem?_eq_getElem hj]⟩⟩)
  have HG := Lib.hid (show ∃ cur : Array Value, w2.heap[w.heap.size]? = some (.cells cur 5 (0, 0)) ∧ n ≤ cur.size from ⟨_, hg2.out, by simp [splice, HL.out]⟩)
  clear hg2 hmk K HC
  go_wp2
  go_ret
  exact ⟨xs, HL.out, HA.out, rfl, HB.out, HG.out, hb2⟩

theorem RA.upd' {w w' : World} {g h t P : Nat} {f : Nat → Bool} (r : RA w h t P f) (hu : Upd g w w') (h1 : w.heap.size ≤ g ∨ (h < g ∧ t < g)) : RA w' h t P f := by
  have := r.lt
  exact r.keep (hu.2.2.2.2 h this.1 (by omega)) (hu.2.2.2.2 t this.2 (by omega))

/-- The blocks of the two answers of Used, in a later world. -/
theorem blocks {w w1 w2 w3 : World} (hb1 : Below w.heap.size w w1) (hb2 : Below w1.heap.size w1 w2) (hb3 : Below w2.heap.size w2 w3) {A1 A2 : Option Addr} {T : Nat} {L : List Value} (o1 : OwnI w1 w.heap.size A1 T L) (o2 : OwnI w2 w1.heap.size A2 T L) (hbb : w2.heap.size < w3.heap.size) :
    ∃ bu, w.heap.size ≤ bu ∧ bu ≠ w2.heap.size ∧ (0 < T → A1 = some ⟨bu, 0, none⟩ ∧ (∃ cur : Array Value, w3.heap[bu]? = some (.cells cur 3 (0, 0)) ∧ ∀ (j : Nat) (x : Value), L[j]? = some x → cur[j]? = some x) ∧
      ∃ (b2 : Nat) (cur2 : Array Value), A2 = some ⟨b2, 0, none⟩ ∧ b2 ≠ bu ∧ b2 < w3.heap.size ∧ w3.heap[b2]? = some (.cells cur2 3 (0, 0)) ∧ ∀ (j : Nat) (x : Value), L[j]? = some x → cur2[j]? = some x) := by
  by_cases hT : 0 < T
  · obtain ⟨g1, c1, rfl, hg1, hh1, hc1⟩ := o1.2 hT
    obtain ⟨g2, c2, rfl, hg2, hh2, hc2⟩ := o2.2 hT
    have l1 := (Array.getElem?_eq_some_iff.1 hh1).1
    have l2 := (Array.getElem?_eq_some_iff.1 hh2).1
    have s1 := hb2.size
    exact ⟨g1, hg1, by omega, fun _ => ⟨rfl, ⟨c1, blk_below (blk_below hh1 hb2 l1) hb3 (by omega), hc1⟩, g2, c2, rfl, by omega, by omega, blk_below hh2 hb3 l2, hc2⟩⟩
  · have s1 := hb1.size
    have s2 := hb2.size
    exact ⟨w3.heap.size, by omega, by omega, fun h => absurd h hT⟩

set_option maxHeartbeats 2000000 in
set_option maxRecDepth 100000 in
theorem same_any (g h t P : Nat) (f : Nat → Bool) (w : World) (a : Alc w g P f) (r : RA w h t P f) (hP : P ≤ 1024) (hlow : Low f P) :
    Calls Try.prog 19 #[.pointer (some ⟨g, 0, none⟩), .pointer (some ⟨h, 0, none⟩)] w fun e w' => e = .returned (.bool true) ∧ Below w.heap.size w w' := by
  have hcl := cnt_le f P
  have KU := Lib.hid (UsedO_any g P f w a hP)
  have HA := Lib.hid a
  have HR := Lib.hid r
  have HLow := Lib.hid hlow
  clear a r hlow
  go_enter Try.func19, Try.ntmps19
  go_wp2_with fail
  refine KU.out.mono ?_
  rintro e w1 ⟨A1, c1, rfl, hc1, hO1, hb1⟩
  have KU2 := Lib.hid (rUsedO_any h t P f w1 (HR.out.below hb1) hP)
  clear KU
  go_wp2_with fail
  refine KU2.out.mono ?_
  rintro e w2 ⟨A2, c2, rfl, hc2, hO2, hb2⟩
  have hb02 := hb1.trans (hb2.mono hb1.size)
  have KB := Lib.hid (BitsO_any g P _ f w2 (HA.out.below hb02) hP)
  clear KU2
  go_wp2_with fail
  refine KB.out.mono ?_
  rintro e w3 ⟨xs, hxl, hxA, rfl, hxB, hxG, hb3⟩
  have hb03 := hb02.trans (hb3.mono hb02.size)
  obtain ⟨bb, hbb⟩ : ∃ bb, w2.heap.size = bb := ⟨_, rfl⟩
  rw [hbb] at hxB hxG
  rw [hbb]
  have HBB := Lib.hid hbb
  have hbb3 : bb < w3.heap.size := by obtain ⟨_, hc, _⟩ := hxG.out; exact (Array.getElem?_eq_some_iff.1 hc).1
  obtain ⟨T, hT⟩ : ∃ T, cnt f P = T := ⟨_, rfl⟩
  rw [hT] at hO1 hO2 hc1 hc2 hcl
  rw [hT]
  obtain ⟨L, hL⟩ : ∃ L, (usedL f P).map iv = L := ⟨_, rfl⟩
  rw [hL] at hO1 hO2
  have HLm := Lib.hid hL
  obtain ⟨n, hn⟩ : ∃ n, (P + 7) / 8 = n := ⟨_, rfl⟩
  rw [hn] at hxl hxB hxG
  rw [hn]
  have HN := Lib.hid hn
  have HT := Lib.hid hT
  have hn128 : n ≤ 128 := by omega
  have HXL := Lib.hid hxl
  have HXA := Lib.hid hxA
  have B1 := Lib.hid hb1
  have B2 := Lib.hid hb2
  have B3 := Lib.hid hb3.drew
  have B03 := Lib.hid hb03.drew
  have hr3 := Lib.hid (HR.out.below hb03.drew)
  have hxB := Lib.hid (show Byt w3.drew w3.drew.heap.size (some ⟨bb, 0, none⟩) n xs from hxB.out)
  have KL := Lib.hid (show Calls Try.prog 22 #[.pointer (some ⟨g, 0, none⟩)] w3.drew fun e w' => e = .returned (.int .i64 ((P : Int) - (T : Int))) ∧ Below w3.drew.heap.size w3.drew w' from by
    have := Left_any g P _ f w3.drew (HA.out.below hb03.drew) hP (by omega) (by have := cnt_le f P; omega)
    rw [hT] at this
    exact this)
  have t0 : ((T : Int) != (T : Int)) = false := by simp
  have t1 : IntKind.i64.wrap ((P : Int) - (T : Int)) = (P : Int) - (T : Int) := by rw [IntKind.wrap_i64]; omega
  have t2 : (((P : Int) - (T : Int)) != ((P : Int) - (T : Int))) = false := by simp
  have hS1 := Lib.hid (fun (W : World) (hW : Fwd w3.drew W) => (hr3.out.below hW).row)
  clear KB hb1 hb2 hb3 hb03 hb02 hT hL hn hbb hxl hxA
  go_wp2_with fail
  refine held_start (by kernel_rfl) ?_
  refine held_take2 (i := 0) (v := ?_) rfl (by kernel_rfl) (by kernel_rfl) (by kernel_rfl) (fun _ _ _ h => h) (by rfl) ?_ ?_
  rotate_left
  · (intro W hW; go_simp; try with_reducible rfl)
  try simp only [Act.put, List.setIfInBounds_toArray, List.set_cons_zero, List.set_cons_succ]
  refine held_take2 (i := 1) (v := ?_) rfl (by kernel_rfl) (by kernel_rfl) (by kernel_rfl) (fun _ _ _ h => h) (by rfl) ?_ ?_
  rotate_left
  · (intro W hW; go_simp; try with_reducible rfl)
  try simp only [Act.put, List.setIfInBounds_toArray, List.set_cons_zero, List.set_cons_succ]
  refine held_take2 (i := 2) (v := ?_) rfl (by kernel_rfl) (by kernel_rfl) (by kernel_rfl) (fun _ _ _ h => h) (by rfl) ?_ ?_
  rotate_left
  · (intro W hW; go_simp; try with_reducible rfl)
  try simp only [Act.put, List.setIfInBounds_toArray, List.set_cons_zero, List.set_cons_succ]
  refine held_take2 (i := 3) (v := ?_) rfl (by kernel_rfl) (by kernel_rfl) (by kernel_rfl) (fun _ _ _ h => h) (by rfl) ?_ ?_
  rotate_left
  · (intro W hW; go_simp; try with_reducible rfl)
  try simp only [Act.put, List.setIfInBounds_toArray, List.set_cons_zero, List.set_cons_succ]
  refine held_take2 (i := 4) (v := ?_) rfl (by kernel_rfl) (by kernel_rfl) (by kernel_rfl) (fun _ _ _ h => h) (by rfl) ?_ ?_
  rotate_left
  · (intro W hW; go_simp; try with_reducible rfl)
  try simp only [Act.put, List.setIfInBounds_toArray, List.set_cons_zero, List.set_cons_succ]
  refine held_take2 (i := 5) (v := ?_) rfl (by kernel_rfl) (by kernel_rfl) (by kernel_rfl) (fun _ _ _ h => h) (by rfl) ?_ ?_
  rotate_left
  · (intro W hW; go_simp; try with_reducible rfl)
  try simp only [Act.put, List.setIfInBounds_toArray, List.set_cons_zero, List.set_cons_succ]
  refine held_take2 (i := 6) (v := ?_) rfl (by kernel_rfl) (by kernel_rfl) (by kernel_rfl) (fun _ _ _ h => h) (by rfl) ?_ ?_
  rotate_left
  · (intro W hW; go_simp; try with_reducible rfl)
  try simp only [Act.put, List.setIfInBounds_toArray, List.set_cons_zero, List.set_cons_succ]
  refine held_take2 (i := 8) (v := ?_) rfl (by kernel_rfl) (by kernel_rfl) (by kernel_rfl) (fun _ _ _ h => h) (by rfl) ?_ ?_
  rotate_left
  · (intro W hW; go_simp; try with_reducible rfl)
  try simp only [Act.put, List.setIfInBounds_toArray, List.set_cons_zero, List.set_cons_succ]
  refine held_take2 (i := 9) (v := ?_) rfl (by kernel_rfl) (by kernel_rfl) (by kernel_rfl) (fun _ _ _ h => h) (by rfl) ?_ ?_
  rotate_left
  · (intro W hW; go_simp; try with_reducible rfl)
  try simp only [Act.put, List.setIfInBounds_toArray, List.set_cons_zero, List.set_cons_succ]
  refine held_take2 (i := 10) (v := ?_) rfl (by kernel_rfl) (by kernel_rfl) (by kernel_rfl) (fun _ _ _ h => h) (by rfl) ?_ ?_
  rotate_left
  · (intro W hW; go_simp; try with_reducible rfl)
  try simp only [Act.put, List.setIfInBounds_toArray, List.set_cons_zero, List.set_cons_succ]
  refine held_take2 (i := 11) (v := ?_) rfl (by kernel_rfl) (by kernel_rfl) (by kernel_rfl) (fun _ _ _ h => h) (by rfl) ?_ ?_
  rotate_left
  · (intro W hW; have hcW := hS1.out W hW; go_simp; try with_reducible rfl)
  try simp only [Act.put, List.setIfInBounds_toArray, List.set_cons_zero, List.set_cons_succ]
  refine held_take2 (i := 12) (v := ?_) rfl (by kernel_rfl) (by kernel_rfl) (by kernel_rfl) (fun _ _ _ h => h) (by rfl) ?_ ?_
  rotate_left
  · (intro W hW; go_simp; try with_reducible rfl)
  try simp only [Act.put, List.setIfInBounds_toArray, List.set_cons_zero, List.set_cons_succ]
  refine held_take2 (i := 13) (v := ?_) rfl (by kernel_rfl) (by kernel_rfl) (by kernel_rfl) (fun _ _ _ h => h) (by rfl) ?_ ?_
  rotate_left
  · (intro W hW; go_simp; try with_reducible rfl)
  try simp only [Act.put, List.setIfInBounds_toArray, List.set_cons_zero, List.set_cons_succ]
  refine held_take2 (i := 14) (v := ?_) rfl (by kernel_rfl) (by kernel_rfl) (by kernel_rfl) (fun _ _ _ h => h) (by rfl) ?_ ?_
  rotate_left
  · (intro W hW; go_simp; try with_reducible rfl)
  try simp only [Act.put, List.setIfInBounds_toArray, List.set_cons_zero, List.set_cons_succ]
  refine held_take2 (i := 15) (v := ?_) rfl (by kernel_rfl) (by kernel_rfl) (by kernel_rfl) (fun _ _ _ h => h) (by rfl) ?_ ?_
  rotate_left
  · (intro W hW; go_simp; try with_reducible rfl)
  try simp only [Act.put, List.setIfInBounds_toArray, List.set_cons_zero, List.set_cons_succ]
  refine held_call (i := 7) (f := 22) (args := #[.pointer (some ⟨g, 0, none⟩)]) rfl (by kernel_rfl) (by rfl) (by go_simp) ?_
  refine KL.out.mono ?_
  rintro e w4 ⟨rfl, hb4⟩
  refine ⟨_, rfl, hb4, ?_⟩
  have hZ := Lib.hid (fun (W : World) (hW : Fwd w4 W) => own_str' (c := n) ((hxB.out.below hb4).below (hW.mono hb4.size)))
  have B34 := Lib.hid hb4
  have KR := Lib.hid (rBits_any h t P f w4 (hr3.out.below hb4) hP HLow.out)
  obtain ⟨z, hz⟩ : ∃ z, str xs = z := ⟨_, rfl⟩
  rw [hz] at hZ
  have HZ := Lib.hid hz
  clear KL hb4 hz
  try simp only [Act.put, List.setIfInBounds_toArray, List.set_cons_zero, List.set_cons_succ]
  refine held_take2 (i := 16) (v := ?_) rfl (by kernel_rfl) (by kernel_rfl) (by kernel_rfl) (fun _ _ _ h => h) (by rfl) ?_ ?_
  rotate_left
  · (intro W hW; go_simp; try with_reducible rfl)
  try simp only [Act.put, List.setIfInBounds_toArray, List.set_cons_zero, List.set_cons_succ]
  refine held_take2 (i := 17) (v := ?_) rfl (by kernel_rfl) (by kernel_rfl) (by kernel_rfl) (fun _ _ _ h => h) (by rfl) ?_ ?_
  rotate_left
  · (intro W hW; go_simp; try with_reducible rfl)
  try simp only [Act.put, List.setIfInBounds_toArray, List.set_cons_zero, List.set_cons_succ]
  refine held_take2 (i := 18) (v := ?_) rfl (by kernel_rfl) (by kernel_rfl) (by kernel_rfl) (fun _ _ _ h => h) (by rfl) ?_ ?_
  rotate_left
  · (intro W hW; go_simp; try with_reducible rfl)
  try simp only [Act.put, List.setIfInBounds_toArray, List.set_cons_zero, List.set_cons_succ]
  refine held_take2 (i := 19) (v := ?_) rfl (by kernel_rfl) (by kernel_rfl) (by kernel_rfl) (fun _ _ _ h => h) (by rfl) ?_ ?_
  rotate_left
  · (intro W hW; go_simp; try with_reducible rfl)
  try simp only [Act.put, List.setIfInBounds_toArray, List.set_cons_zero, List.set_cons_succ]
  refine held_take2 (i := 20) (v := ?_) rfl (by kernel_rfl) (by kernel_rfl) (by kernel_rfl) (fun _ _ _ h => h) (by rfl) ?_ ?_
  rotate_left
  · (intro W hW; have hcv := hZ.out W hW; go_simp; try with_reducible rfl)
  try simp only [Act.put, List.setIfInBounds_toArray, List.set_cons_zero, List.set_cons_succ]
  refine held_take2 (i := 21) (v := ?_) rfl (by kernel_rfl) (by kernel_rfl) (by kernel_rfl) (fun _ _ _ h => h) (by rfl) ?_ ?_
  rotate_left
  · (intro W hW; go_simp; try with_reducible rfl)
  try simp only [Act.put, List.setIfInBounds_toArray, List.set_cons_zero, List.set_cons_succ]
  refine held_call (i := 22) (f := 32) (args := #[.pointer (some ⟨h, 0, none⟩)]) rfl (by kernel_rfl) (by rfl) (by go_simp) ?_
  refine KR.out.mono ?_
  rintro e w5 ⟨ys, hyl, hyA, rfl, hyB, hb5⟩
  have hxy := asBytes_inj (hyl.trans (HN.out.trans HXL.out.symm)) hyA HXA.out
  subst hxy
  refine ⟨_, rfl, hb5, ?_⟩
  have hY := Lib.hid (fun (W : World) (hW : Fwd w5 W) => own_str' (c := (P + 7) / 8) (hyB.out.below hW))
  rw [HZ.out] at hY
  have tz3 : (z.toList == z.toList) = true := by simp
  have B35 := Lib.hid (B34.out.trans (hb5.mono B34.out.size))
  clear KR hyl hyA hyB hb5 hZ B34
  try simp only [Act.put, List.setIfInBounds_toArray, List.set_cons_zero, List.set_cons_succ]
  refine held_take2 (i := 23) (v := ?_) rfl (by kernel_rfl) (by kernel_rfl) (by kernel_rfl) (fun _ _ _ h => h) (by rfl) ?_ ?_
  rotate_left
  · (intro W hW; have hcv := hY.out W hW; go_simp; try with_reducible rfl)
  try simp only [Act.put, List.setIfInBounds_toArray, List.set_cons_zero, List.set_cons_succ]
  refine held_take2 (i := 24) (v := ?_) rfl (by kernel_rfl) (by kernel_rfl) (by kernel_rfl) (fun _ _ _ h => h) (by rfl) ?_ ?_
  rotate_left
  · (intro W hW; go_simp; try with_reducible rfl)
  try simp only [Act.put, List.setIfInBounds_toArray, List.set_cons_zero, List.set_cons_succ]
  refine held_take2 (i := 25) (v := ?_) rfl (by kernel_rfl) (by kernel_rfl) (by kernel_rfl) (fun _ _ _ h => h) (by rfl) ?_ ?_
  rotate_left
  · (intro W hW; go_simp; try with_reducible rfl)
  try simp only [Act.put, List.setIfInBounds_toArray, List.set_cons_zero, List.set_cons_succ]
  refine wpAnyH_done (by kernel_rfl) ?_ _
  have b25 := B3.out.trans (B35.out.mono B3.out.size)
  have hbb5 : w2.heap.size < w5.heap.size := by have h1 := B35.out.size; have h2 := HBB.out; have h3 : w3.drew.heap.size = w3.heap.size := rfl; omega
  obtain ⟨bu, hbu, hbub, hblk⟩ := blocks B1.out B2.out b25 hO1.out hO2.out hbb5
  have hG5 : ∃ cur : Array Value, w5.heap[bb]? = some (.cells cur 5 (0, 0)) ∧ n ≤ cur.size := by
    obtain ⟨cur, q1, q2⟩ := hxG.out
    exact ⟨cur, blk_below (show w3.drew.heap[bb]? = _ from q1) B35.out hbb3, q2⟩
  have ha5 := Lib.hid (show Alc w5 g P f from HA.out.below (B03.out.trans (B35.out.mono B03.out.size)))
  have hr5 := Lib.hid (show RA w5 h t P f from HR.out.below (B03.out.trans (B35.out.mono B03.out.size)))
  have b05 := Lib.hid (B03.out.trans (B35.out.mono B03.out.size))
  have HBU := Lib.hid hblk
  have HG5 := Lib.hid hG5
  have lA := Lib.hid HA.out.lt
  have lR := Lib.hid HR.out.lt
  have hwbb : w.heap.size ≤ bb := by have h1 := B1.out.size; have h2 := B2.out.size; have := HBB.out; omega
  have hbub2 : bu ≠ bb := by have := HBB.out; omega
  have hLl : L.length = T := hO1.out.1
  have HL := Lib.hid hLl
  clear hY hblk hG5 hO1 hO2 hxB hxG b25 hbb5 HN HXL HXA B1 B2 B3 B03 B35 HZ hS1 hr3 t1 t2 tz3 hbub hLl
  go_wp2_with fail
  go_loopw [45] (fun i wr => ∃ k : Nat, k ≤ T ∧ i = .int .i64 (k : Int) ∧ Hid (Upd bu w5 wr) ∧ Hid (0 < T → ∃ cur : Array Value, wr.heap[bu]? = some (.cells cur 3 (0, 0)) ∧ ∀ (j : Nat) (x : Value), k ≤ j → L[j]? = some x → cur[j]? = some x)) (fun i _ => T - (intOf i).toNat)
  case atStart => exact ⟨0, by omega, rfl, Upd.refl _ _, fun hp => by
    obtain ⟨_, ⟨cur, q1, q2⟩, _⟩ := HBU.out hp
    exact ⟨cur, q1, fun j x _ hj => q2 j x hj⟩⟩
  case round =>
    obtain ⟨k, hk, rfl, hU, hCur⟩ := hrel
    by_cases hlt : k < T
    · obtain ⟨rfl, _, b2, cur2, rfl, hb2u, hb25, hq2, hq3⟩ := HBU.out (by omega)
      obtain ⟨cur, q1, q2⟩ := hCur.out (by omega)
      obtain ⟨x, hx⟩ : ∃ x, L[k]? = some x := ⟨_, List.getElem?_eq_getElem (by rw [HL.out]; exact hlt)⟩
      obtain ⟨xk, rfl⟩ : ∃ xk : Nat, x = .int .i64 (xk : Int) := by
        rw [← HLm.out, List.getElem?_map] at hx
        obtain ⟨y, _, hy⟩ := Option.map_eq_some_iff.1 hx
        exact ⟨y, hy.symm⟩
      have hc1 : wr.cell? ⟨bu, k, none⟩ = some (.int .i64 (xk : Int)) := by rw [blk_cell q1]; exact q2 k _ (Nat.le_refl _) hx
      have hf1 := blk_frozen q1 k
      have hc2 : wr.cell? ⟨b2, k, none⟩ = some (.int .i64 (xk : Int)) := by
        rw [blk_cell ((hU.out.2.2.2.2 b2 hb25 hb2u).trans hq2)]
        exact hq3 k _ hx
      have t1 : ((xk : Int) != (xk : Int)) = false := by simp
      have hU2 := Lib.hid (hU.out.trans (Upd.set bu k wr (.int .i64 (-7))))
      have hCur2 : Hid (0 < T → ∃ cur : Array Value, (wr.setCell ⟨bu, k, none⟩ (.int .i64 (-7))).heap[bu]? = some (.cells cur 3 (0, 0)) ∧ ∀ (j : Nat) (x : Value), k + 1 ≤ j → L[j]? = some x → cur[j]? = some x) := fun _ => by
        refine ⟨_, blk_set q1 k _, fun j x hj hx => ?_⟩
        rw [Array.getElem?_setIfInBounds_ne (by omega)]
        exact q2 j x (by omega) hx
      clear hU hCur q1 q2 hq2 hq3 hx HBU
      go_wp2_with fail
      go_quiet (fail)
      go_wp2
      go_roundw
      case rel => exact ⟨k + 1, by omega, by go_num, hU2.out, hCur2.out⟩
      case measure => simp [intOf]; omega
    · obtain rfl : k = T := by omega
      have hGw : Hid (∃ cur : Array Value, wr.heap[bb]? = some (.cells cur 5 (0, 0)) ∧ n ≤ cur.size) := by
        obtain ⟨cur, q1, q2⟩ := HG5.out
        exact ⟨cur, (hU.out.2.2.2.2 bb (Array.getElem?_eq_some_iff.1 q1).1 (Ne.symm hbub2)).trans q1, q2⟩
      have haw := Lib.hid (show Alc wr g P f from ha5.out.upd hU.out (by have := lA.out; omega))
      have hrw := Lib.hid (show RA wr h t P f from hr5.out.upd' hU.out (.inr (by have := lR.out; omega)))
      have hbw := Lib.hid (Upd.below b05.out hU.out hbu)
      obtain ⟨w6, hw6⟩ : ∃ x, x = wr := ⟨_, rfl⟩
      subst hw6
      clear hU hCur HBU HG5 ha5 hr5 b05
      go_wp2_with fail
      go_loopw [63] (fun i wr => ∃ k : Nat, k ≤ n ∧ i = .int .i64 (k : Int) ∧ Hid (Upd bb w6 wr) ∧ Hid (∃ cur : Array Value, wr.heap[bb]? = some (.cells cur 5 (0, 0)) ∧ n ≤ cur.size)) (fun i _ => n - (intOf i).toNat)
      case atStart => exact ⟨0, by omega, rfl, Upd.refl _ _, hGw.out⟩
      case round =>
        obtain ⟨m, hm, rfl, hU, hCur⟩ := hrel
        by_cases hlt2 : m < n
        · obtain ⟨cur, q1, q2⟩ := hCur.out
          have hc1 : wr.cell? ⟨bb, m, none⟩ = some (cur[m]'(by omega)) := by rw [blk_cell q1, Array.getElem?_eq_getElem]
          have hf1 := blk_frozen q1 m
          generalize (cur[m]'(by omega)) = v at hc1
          have hU2 := Lib.hid (hU.out.trans (Upd.set bb m wr (.int .u8 255)))
          have hCur2 : Hid (∃ cur : Array Value, (wr.setCell ⟨bb, m, none⟩ (.int .u8 255)).heap[bb]? = some (.cells cur 5 (0, 0)) ∧ n ≤ cur.size) :=
            ⟨_, blk_set q1 m _, by rw [Array.size_setIfInBounds]; exact q2⟩
          clear hU hCur q1 q2
          go_wp2
          go_roundw
          case rel => exact ⟨m + 1, by omega, by go_num, hU2.out, hCur2.out⟩
          case measure => simp [intOf]; omega
        · have t3 : ¬ ((m : Int) < (n : Int)) := by omega
          have haw2 := Lib.hid (show Alc wr g P f from haw.out.upd hU.out (by have := lA.out; omega))
          have hrw2 := Lib.hid (show RA wr h t P f from hrw.out.upd' hU.out (.inr (by have := lR.out; omega)))
          have hbw2 := Lib.hid (Upd.below hbw.out hU.out hwbb)
          have hrow := hrw2.out.row
          have KH := Lib.hid (fun i => Has_any g P i _ f wr haw2.out hP)
          have KR := Lib.hid (fun i => rHas_any h t P i f wr hrw2.out hP)
          obtain ⟨w7, hw7⟩ : ∃ x, x = wr := ⟨_, rfl⟩
          subst hw7
          clear hU hCur hGw haw hrw hbw haw2 hrw2
          go_wp2_with fail
          clear t3
          go_loopw [10] (fun i wr => Hid (wr = w7) ∧ ∃ k : Nat, k ≤ 71 ∧ i = .int .i64 ((k : Int) - 1)) (fun i _ => 71 - ((intOf i) + 1).toNat)
          case atStart => exact ⟨Lib.hid rfl, 0, by omega, by go_num⟩
          case round =>
            obtain ⟨hwr, q, hq, rfl⟩ := hrel
            replace hwr := hwr.out.symm
            subst hwr
            by_cases hc : ((q : Int) - 1) ≤ (P : Int) ∧ ((q : Int) - 1) < 70
            · obtain ⟨u1, u2⟩ := hc
              have K1 := Lib.hid (KH.out ((q : Int) - 1))
              have K2 := Lib.hid (KR.out ((q : Int) - 1))
              generalize hasB P f ((q : Int) - 1) = hb at K1 K2
              have tb : (hb != hb) = false := by simp
              clear KH KR
              go_wp2_with fail
              refine K1.out.mono ?_
              rintro e w8 ⟨rfl, rfl⟩
              go_wp2_with fail
              refine K2.out.mono ?_
              rintro e w8 ⟨rfl, rfl⟩
              go_wp2
              go_roundw
              case rel => exact ⟨trivial, q + 1, by omega, by go_num⟩
              case measure => simp [intOf]; omega
            · by_cases u1 : ((q : Int) - 1) ≤ (P : Int)
              · have u2 : ¬ ((q : Int) - 1) < 70 := by omega
                clear hc KH KR
                go_wp2
                go_ret
                exact ⟨rfl, hbw2.out⟩
              · clear hc KH KR
                go_wp2
                go_ret
                exact ⟨rfl, hbw2.out⟩
end Go.Proofs.Ytnifihdnpmacjaa
