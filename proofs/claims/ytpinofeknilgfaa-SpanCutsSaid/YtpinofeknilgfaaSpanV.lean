/-
  Contracts of the document's own answers for layer 2: Point, Cut; the walk of SpanCuts.
-/
import Derived.Test.YtpinofeknilgfaaSpanS
import Derived.BigRegion
import Derived.Deep.RegionHeld3
namespace Go.Proofs.Ytpinofeknilgfaa
open Go.RowKit Go.Sort

set_option maxHeartbeats 1000000 in
theorem rPoint_bad (k : ByteArray) (h : okK k = false) (w : World) : Calls Try.prog 23 #[.string k] w fun e w' =>
    e = .returned (.tuple #[emp, .int .i64 20]) ∧ Below w.heap.size w w' := by
  unfold emp
  go_enter Try.func23, Try.ntmps23
  go_wp2_with (go_at_call 13; refine (rKey_b _ h _).mono ?_; rintro e w' ⟨rfl, rfl⟩; dsimp only [cond])
  refine bodyPost_ret (v := _) (by simp [results, Try.results23, go_sem, *]) rfl ⟨rfl, ?_⟩
  exact (al_below _ _)

set_option maxHeartbeats 1000000 in
theorem rPoint_short (k : ByteArray) (h : okK k = true) (hs : k.size < 12) (w : World) : Calls Try.prog 23 #[.string k] w fun e w' =>
    e = .returned (.tuple #[.agg #[.string k, .string (k ++ ⟨#[0]⟩)], .int .i64 0]) ∧ Below w.heap.size w w' := by
  go_enter Try.func23, Try.ntmps23
  go_wp2_with (go_at_call 13; refine (rKey_b _ h _).mono ?_; rintro e w' ⟨rfl, rfl⟩; dsimp only [cond])
  refine bodyPost_ret (v := _) (by simp [results, Try.results23, go_sem, *]) rfl ⟨rfl, ?_⟩
  exact (al_below _ _)

set_option maxHeartbeats 2000000 in
set_option maxRecDepth 100000 in
theorem rPoint_long (k : ByteArray) (h : okK k = true) (hs : 12 ≤ k.size) (w : World) : Calls Try.prog 23 #[.string k] w fun e w' =>
    e = .returned (.tuple #[.agg #[.string k, .string (hi12 k)], .int .i64 0]) ∧ Below w.heap.size w w' := by
  have hz : k.size = 12 := by
    have : 1 ≤ k.size ∧ k.size ≤ 12 := by simpa [okK] using h
    omega
  clear hs
  go_enter Try.func23, Try.ntmps23
  go_wp2_with (go_at_call 13; refine (rKey_b _ h _).mono ?_; rintro e w' ⟨rfl, rfl⟩; dsimp only [cond])
  go_loop [5] (fun v => ∃ m : Nat, m ≤ 12 ∧ v = .int .i64 (m : Int) ∧ Hid (bump k.toList.reverse = bump (k.toList.take m).reverse)) (fun v => (intOf v).toNat)
  case atStart =>
    refine ⟨12, by omega, by rfl, ?_⟩
    show _ = _
    rw [List.take_of_length_le (by rw [key_len]; omega)]
  case round =>
    obtain ⟨m, hm, rfl, hrel⟩ := hrel
    rcases m with _ | m
    · go_wp2
      have e : hi12 k = ⟨#[]⟩ := by unfold hi12; rw [hrel.out]; rfl
      rw [e]
      refine bodyPost_ret (v := _) (by simp [results, Try.results23, go_sem, *]) rfl ⟨rfl, ?_⟩
      exact (al_below _ _)
    · have e : (((m + 1 : Nat) : Int) - 1) = (m : Int) := by omega
      obtain ⟨x, hxe⟩ : ∃ x, k[m]'(by omega) = x := ⟨_, rfl⟩
      have hxi : Hid (k.toList[m]? = some x) := by show _ = _; rw [key_at (by omega), hxe]
      by_cases hx : x.toNat = 255
      · have t1 : ((x.toNat : Int) == 255) = true := by rw [hx]; rfl
        have HX := hid' hx
        clear hx e
        go_wp2
        go_round
        case rel =>
          refine ⟨m, by omega, rfl, ?_⟩
          show _ = _
          rw [hrel.out, take_rev hxi.out, bump, if_pos HX.out]
        case measure => simp [intOf] <;> omega
      · have t1 : ((x.toNat : Int) == 255) = false := by simp; omega
        have HX := hid' hx
        clear hx e
        go_wp2
        have hx255 : x.toNat < 255 := by have := x.toNat_lt; have := HX.out; omega
        have e1 : (x + 1).toNat = x.toNat + 1 := by rw [UInt8.toNat_add]; show (x.toNat + 1) % 256 = _; omega
        have hcv : (convert 41 9 (.slice (some ⟨w.heap.size + 1, 0, none⟩) 1 1)).run Try.prog (((w.alloc (.cells #[.string ⟨#[]⟩, .string ⟨#[]⟩] 23)).alloc (.cells #[.int .u8 (IntKind.u8.wrap ((x.toNat : Int) + 1))] 5)).drew) = .ok (.string ⟨#[x + 1]⟩) (((w.alloc (.cells #[.string ⟨#[]⟩, .string ⟨#[]⟩] 23)).alloc (.cells #[.int .u8 (IntKind.u8.wrap ((x.toNat : Int) + 1))] 5)).drew) := by
          refine conv_bytes (P := Try.prog) (e := 5) (B := w.heap.size + 2) (xs := [x + 1]) Try.underlying41 Try.underlying5 Try.underlying9 ⟨rfl, fun _ => ⟨_, _, rfl, Nat.lt_succ_self _, fun j hj => ?_⟩⟩ 1
          have : j = 0 := by simpa using hj
          subst this
          refine (cell_of_row (w := World.alloc _ _) (w.heap.size + 1) 0 _ _ _ (al2_1 w _ _)).trans ?_
          have e2 : IntKind.u8.wrap ((x.toNat : Int) + 1) = ((x + 1).toNat : Int) := by rw [IntKind.wrap_u8', e1]; omega
          rw [e2]; rfl
        have hslg : ∀ (n : Int), n = (m : Int) → ∀ W : World, (Instr.slice 9 (.string k) none (some (.int .i64 n)) none).run Try.prog W = .ok (.string (k.extract 0 m)) W := by
          intro n hn W
          subst hn
          rw [run_slice_string_to_if W 9 k .i64 m Try.underlying9, if_pos (by omega)]
          simp
        have hsl1 := hslg (m : Int) rfl
        clear hslg
        have hw1 : IntKind.i64.wrap (m : Int) = m := by rw [IntKind.wrap_i64]; omega
        clear hx255 e1
        go_region_with (fail)
        all_goals (try go_wp2)
        have e : hi12 k = k.extract 0 m ++ ⟨#[x + 1]⟩ := by
          unfold hi12
          rw [hrel.out, take_rev hxi.out, bump, if_neg HX.out, List.reverse_cons, List.reverse_reverse]
          apply ByteArray.ext
          rw [ByteArray.data_append, ByteArray.data_extract]
          apply Array.ext'
          rw [ByteArray.toList_eq]
          simp
        rw [e]
        refine bodyPost_ret (v := _) (by simp [results, Try.results23, go_sem, *]) rfl ⟨rfl, ?_⟩
        exact Below.drew (al2_below w _ _)

theorem rPoint_any (k : ByteArray) (w : World) : Calls Try.prog 23 #[.string k] w fun e w' =>
    e = .returned (.tuple #[pV k, .int .i64 (pE k)]) ∧ Below w.heap.size w w' := by
  unfold pV pE pHi
  cases h : okK k
  · exact rPoint_bad k h w
  · by_cases hs : k.size < 12
    · rw [if_pos hs]; exact rPoint_short k h hs w
    · rw [if_neg hs]; exact rPoint_long k h (by omega) w
set_option maxHeartbeats 1000000 in
theorem rCut_bad (lo hi at_ : ByteArray) (h : okR lo hi = false) (w : World) : Calls Try.prog 25 #[.agg #[.string lo, .string hi], .string at_] w fun e w' =>
    e = .returned (.tuple #[emp, emp, .int .i64 21]) ∧ Below w.heap.size w w' := by
  unfold emp
  go_enter Try.func25, Try.ntmps25
  go_wp2_with fail
  refine (rCheck_b lo hi h _).mono ?_
  rintro e w1 ⟨rfl, hb1⟩
  dsimp only [cond]
  obtain ⟨c0, c1, f0, f1⟩ := cells2 (blk_carry (al3_1 w _ _ _) hb1 (by simp <;> omega))
  obtain ⟨d0, d1, g0, g1⟩ := cells2 (blk_carry (al3_2 w _ _ _) hb1 (by simp))
  have hbb := hid' ((al3_below w _ _ _).trans (hb1.mono (by simp <;> omega)))
  clear hb1
  go_wp2
  refine bodyPost_ret (v := _) (by simp [results, Try.results25, go_sem, *]) rfl ⟨rfl, ?_⟩
  refine below_set (below_set (below_set (below_set hbb.out ?_ _) ?_ _) ?_ _) ?_ _ <;> omega

set_option maxHeartbeats 1000000 in
theorem rCut_key (lo hi at_ : ByteArray) (h : okR lo hi = true) (hk : okK at_ = false) (w : World) : Calls Try.prog 25 #[.agg #[.string lo, .string hi], .string at_] w fun e w' =>
    e = .returned (.tuple #[emp, emp, .int .i64 20]) ∧ Below w.heap.size w w' := by
  unfold emp
  go_enter Try.func25, Try.ntmps25
  go_wp2_with fail
  refine (rCheck_b lo hi h _).mono ?_
  rintro e w1 ⟨rfl, hb1⟩
  dsimp only [cond]
  obtain ⟨c0, c1, f0, f1⟩ := cells2 (blk_carry (al3_1 w _ _ _) hb1 (by simp <;> omega))
  obtain ⟨d0, d1, g0, g1⟩ := cells2 (blk_carry (al3_2 w _ _ _) hb1 (by simp))
  have hbb := hid' ((al3_below w _ _ _).trans (hb1.mono (by simp <;> omega)))
  clear hb1
  go_wp2_with (go_at_call 13; refine (rKey_b _ hk _).mono ?_; rintro e w' ⟨rfl, rfl⟩; dsimp only [cond])
  refine bodyPost_ret (v := _) (by simp [results, Try.results25, go_sem, *]) rfl ⟨rfl, ?_⟩
  refine below_set (below_set (below_set (below_set hbb.out ?_ _) ?_ _) ?_ _) ?_ _ <;> omega

set_option maxHeartbeats 2000000 in
theorem rCut_rest (lo hi at_ : ByteArray) (h : okR lo hi = true) (hk : okK at_ = true) (hc : (lt lo at_ && belowB at_ hi) = false) (w : World) : Calls Try.prog 25 #[.agg #[.string lo, .string hi], .string at_] w fun e w' =>
    e = .returned (.tuple #[emp, emp, .int .i64 21]) ∧ Below w.heap.size w w' := by
  unfold emp
  unfold belowB at hc
  have hlq : (Op.bytesLess at_.toList lo.toList || at_.toList == lo.toList) = !(lt lo at_) := leq_not at_ lo
  cases hl : lt lo at_ <;> cases hem : em hi <;> cases hla : lt at_ hi
  all_goals
    rw [hl] at hlq hc
    rw [hem, hla] at hc
    have hem' : hi.toList.isEmpty = _ := hem
    have hla' : Op.bytesLess at_.toList hi.toList = _ := hla
    clear hem hla
    try (exact absurd hc (by decide))
  all_goals
    simp only [Bool.not_true, Bool.not_false] at hlq
    clear hl hc
    go_enter Try.func25, Try.ntmps25
    go_wp2_with fail
    refine (rCheck_b lo hi h _).mono ?_
    rintro e w1 ⟨rfl, hb1⟩
    dsimp only [cond]
    obtain ⟨a0, a1, _, _⟩ := cells2 (blk_carry (al3_0 w _ _ _) hb1 (by simp <;> omega))
    obtain ⟨c0, c1, f0, f1⟩ := cells2 (blk_carry (al3_1 w _ _ _) hb1 (by simp <;> omega))
    obtain ⟨d0, d1, g0, g1⟩ := cells2 (blk_carry (al3_2 w _ _ _) hb1 (by simp))
    have hbb := hid' ((al3_below w _ _ _).trans (hb1.mono (by simp <;> omega)))
    clear hb1
    go_wp2_with (first | (go_at_call 13; refine (rKey_b _ hk _).mono ?_; rintro e w' ⟨rfl, rfl⟩; dsimp only [cond]))
    refine bodyPost_ret (v := _) (by simp [results, Try.results25, go_sem, *]) rfl ⟨rfl, ?_⟩
    refine below_set (below_set (below_set (below_set hbb.out ?_ _) ?_ _) ?_ _) ?_ _ <;> omega

set_option maxHeartbeats 2000000 in
theorem rCut_yes (lo hi at_ : ByteArray) (h : okR lo hi = true) (hk : okK at_ = true) (hl : lt lo at_ = true) (hbe : belowB at_ hi = true) (w : World) : Calls Try.prog 25 #[.agg #[.string lo, .string hi], .string at_] w fun e w' =>
    e = .returned (.tuple #[.agg #[.string lo, .string at_], .agg #[.string at_, .string hi], .int .i64 0]) ∧ Below w.heap.size w w' := by
  have hlq : (Op.bytesLess at_.toList lo.toList || at_.toList == lo.toList) = !(lt lo at_) := leq_not at_ lo
  rw [hl] at hlq
  simp only [Bool.not_true] at hlq
  clear hl
  cases hem : em hi <;> cases hla : lt at_ hi
  all_goals
    unfold belowB at hbe
    rw [hem, hla] at hbe
    try (exact absurd hbe (by decide))
  all_goals
    have hem' : hi.toList.isEmpty = _ := hem
    have hla' : Op.bytesLess at_.toList hi.toList = _ := hla
    clear hem hla hbe
    go_enter Try.func25, Try.ntmps25
    go_wp2_with fail
    refine (rCheck_b lo hi h _).mono ?_
    rintro e w1 ⟨rfl, hb1⟩
    dsimp only [cond]
    obtain ⟨a0, a1, _, _⟩ := cells2 (blk_carry (al3_0 w _ _ _) hb1 (by simp <;> omega))
    obtain ⟨c0, c1, f0, f1⟩ := cells2 (blk_carry (al3_1 w _ _ _) hb1 (by simp <;> omega))
    obtain ⟨d0, d1, g0, g1⟩ := cells2 (blk_carry (al3_2 w _ _ _) hb1 (by simp))
    have hbb := hid' ((al3_below w _ _ _).trans (hb1.mono (by simp <;> omega)))
    clear hb1
    go_wp2_with (first | (go_at_call 13; refine (rKey_b _ hk _).mono ?_; rintro e w' ⟨rfl, rfl⟩; dsimp only [cond]))
    go_region_held3 (fun w' => w'.cell? ⟨w.heap.size, 0, none⟩ = some (.string lo) ∧ w'.cell? ⟨w.heap.size, 1, none⟩ = some (.string hi)) (first | exact ⟨a0, a1⟩ | exact ⟨cell_drew (cell_far (cell_far (cell_far (cell_far a0 (by omega)) (by omega)) (by omega)) (by omega)), cell_drew (cell_far (cell_far (cell_far (cell_far a1 (by omega)) (by omega)) (by omega)) (by omega))⟩ | exact ⟨cell_drew (cell_far (cell_far a0 (by omega)) (by omega)), cell_drew (cell_far (cell_far a1 (by omega)) (by omega))⟩ | go_keep) (first | fail)
    all_goals (try go_wp2)
    all_goals
      refine bodyPost_ret (v := _) (by simp [results, Try.results25, go_sem, *]) rfl ⟨rfl, ?_⟩
      repeat (first | exact hbb.out | refine Below.drew ?_ | refine below_set ?_ ?_ _)
      all_goals omega

theorem rCut_any (lo hi at_ : ByteArray) (w : World) : Calls Try.prog 25 #[.agg #[.string lo, .string hi], .string at_] w fun e w' =>
    e = .returned (.tuple #[cutV1 lo hi at_, cutV2 lo hi at_, .int .i64 (cutE lo hi at_)]) ∧ Below w.heap.size w w' := by
  unfold cutV1 cutV2 cutE
  cases h : okR lo hi
  · exact rCut_bad lo hi at_ h w
  · cases hk : okK at_
    · exact rCut_key lo hi at_ h hk w
    · cases hc : (lt lo at_ && belowB at_ hi)
      · exact rCut_rest lo hi at_ h hk hc w
      · have := hc
        simp only [Bool.and_eq_true] at this
        exact rCut_yes lo hi at_ h hk this.1 this.2 w

theorem rPoint_pq (k : ByteArray) : ∃ p1 p2 : ByteArray, ∃ pe : Int,
    (∀ w, Calls Try.prog 22 #[.string k] w fun e w' => e = .returned (.tuple #[.agg #[.string p1, .string p2], .int .i64 pe]) ∧ Below w.heap.size w w') ∧
    (∀ w, Calls Try.prog 23 #[.string k] w fun e w' => e = .returned (.tuple #[.agg #[.string p1, .string p2], .int .i64 pe]) ∧ Below w.heap.size w w') := by
  have K1 := Point_any k
  have K2 := rPoint_any k
  unfold pV at K1 K2
  by_cases h : okK k = true
  · simp only [if_pos h] at K1 K2
    exact ⟨_, _, _, K1, K2⟩
  · simp only [if_neg h, emp] at K1 K2
    exact ⟨_, _, _, K1, K2⟩

theorem rCut_pq (l h at_ : ByteArray) : ∃ u1 v1 u2 v2 : ByteArray, ∃ ce : Int,
    (∀ w, Calls Try.prog 24 #[.agg #[.string l, .string h], .string at_] w fun e w' => e = .returned (.tuple #[.agg #[.string u1, .string v1], .agg #[.string u2, .string v2], .int .i64 ce]) ∧ Below w.heap.size w w') ∧
    (∀ w, Calls Try.prog 25 #[.agg #[.string l, .string h], .string at_] w fun e w' => e = .returned (.tuple #[.agg #[.string u1, .string v1], .agg #[.string u2, .string v2], .int .i64 ce]) ∧ Below w.heap.size w w') := by
  have K1 := Cut_any l h at_
  have K2 := rCut_any l h at_
  unfold cutV1 cutV2 at K1 K2
  by_cases hh : cutE l h at_ = 0
  · simp only [if_pos hh] at K1 K2
    exact ⟨_, _, _, _, _, K1, K2⟩
  · simp only [if_neg hh, emp] at K1 K2
    exact ⟨_, _, _, _, _, K1, K2⟩

set_option maxHeartbeats 2000000 in
set_option maxRecDepth 100000 in
theorem W_SpanCuts (a b : ByteArray) (_ : a.size ≤ maxLen) (_ : b.size ≤ maxLen) (k : ByteArray) (_ : k.size ≤ 140737488351232) (w : World) :
    Calls Try.prog 5 #[.agg #[.string a, .string b], .string k] w fun e w' => e = .returned (.bool true) ∧ Below w.heap.size w w' := by
  rename_i s1 s2 s3
  clear s1 s2 s3
  obtain ⟨p1, p2, pe, K1, K2⟩ := rPoint_pq k
  obtain ⟨u1, v1, u2, v2, ce, K3, K4⟩ := rCut_pq a b k
  replace K1 := hid' K1
  replace K2 := hid' K2
  replace K3 := hid' K3
  replace K4 := hid' K4
  have t1 : (pe == pe) = true := by simp
  have t2 : (ce == ce) = true := by simp
  go_enter Try.func5, Try.ntmps5
  go_wp2_with fail
  refine (live_any _).mono ?_
  rintro e_ w1 ⟨rfl, h1⟩
  have R3 := hid' (bk_call (al_new w (.cells #[.string a, .string b] 23)) h1)
  have F3 := hid' ((below_alloc w _).trans (h1.mono (by simp)))
  clear h1
  go_wp2_with fail
  (
    with_reducible refine ((K1.out) _).mono ?_
    rintro e_ w4 ⟨rfl, h4⟩
    try replace R3 := hid' (bk_call R3.out h4)
    try replace P3 := hid' (bk_call P3.out h4)
    try replace Q3 := hid' (bk_call Q3.out h4)
    try replace U3 := hid' (bk_call U3.out h4)
    try replace V3 := hid' (bk_call V3.out h4)
    replace F3 := hid' (F3.out.trans (h4.mono F3.out.size))
    clear h4)
  go_wp2_with fail
  have P3 := hid' (al_new w4 (.cells #[.string p1, .string p2] 23))
  replace R3 := hid' (bk_al R3.out (.cells #[.string p1, .string p2] 23))
  replace F3 := hid' (F3.out.alloc F3.out.size (.cells #[.string p1, .string p2] 23))
  generalize hgp : w4.heap.size = gp at P3 ⊢
  generalize World.alloc w4 _ = w5 at R3 P3 F3 ⊢
  clear hgp
  (
    with_reducible refine ((K2.out) _).mono ?_
    rintro e_ w4 ⟨rfl, h4⟩
    try replace R3 := hid' (bk_call R3.out h4)
    try replace P3 := hid' (bk_call P3.out h4)
    try replace Q3 := hid' (bk_call Q3.out h4)
    try replace U3 := hid' (bk_call U3.out h4)
    try replace V3 := hid' (bk_call V3.out h4)
    replace F3 := hid' (F3.out.trans (h4.mono F3.out.size))
    clear h4)
  obtain ⟨r30, r31, _, _⟩ := cells2 R3.out
  have q1 := bk_lt R3.out
  go_wp2_with fail
  clear r30 r31 q1
  have Q3 := hid' (al_new w4 (.cells #[.string p1, .string p2] 23))
  replace R3 := hid' (bk_al R3.out (.cells #[.string p1, .string p2] 23))
  replace P3 := hid' (bk_al P3.out (.cells #[.string p1, .string p2] 23))
  replace F3 := hid' (F3.out.alloc F3.out.size (.cells #[.string p1, .string p2] 23))
  generalize hgq : w4.heap.size = gq at Q3 ⊢
  generalize World.alloc w4 _ = w6 at R3 P3 Q3 F3 ⊢
  clear hgq
  (
    with_reducible refine ((K3.out) _).mono ?_
    rintro e_ w4 ⟨rfl, h4⟩
    try replace R3 := hid' (bk_call R3.out h4)
    try replace P3 := hid' (bk_call P3.out h4)
    try replace Q3 := hid' (bk_call Q3.out h4)
    try replace U3 := hid' (bk_call U3.out h4)
    try replace V3 := hid' (bk_call V3.out h4)
    replace F3 := hid' (F3.out.trans (h4.mono F3.out.size))
    clear h4)
  obtain ⟨r30, r31, _, _⟩ := cells2 R3.out
  have q1 := bk_lt R3.out
  go_wp2_with fail
  clear r30 r31 q1
  have U3 := hid' (al2_0 w4 (.cells #[.string u1, .string v1] 23) (.cells #[.string u2, .string v2] 23))
  have V3 := hid' (al2_1 w4 (.cells #[.string u1, .string v1] 23) (.cells #[.string u2, .string v2] 23))
  replace R3 := hid' (bk_al (bk_al R3.out (.cells #[.string u1, .string v1] 23)) (.cells #[.string u2, .string v2] 23))
  replace P3 := hid' (bk_al (bk_al P3.out (.cells #[.string u1, .string v1] 23)) (.cells #[.string u2, .string v2] 23))
  replace Q3 := hid' (bk_al (bk_al Q3.out (.cells #[.string u1, .string v1] 23)) (.cells #[.string u2, .string v2] 23))
  have Z3 : w.heap.size ≤ (World.alloc w4 (.cells #[.string u1, .string v1] 23)).heap.size := by have := F3.out.size; simp; omega
  replace F3 := hid' ((F3.out.alloc F3.out.size (.cells #[.string u1, .string v1] 23)).alloc Z3 (.cells #[.string u2, .string v2] 23))
  clear Z3
  generalize hgu : w4.heap.size = gu at U3 V3 ⊢
  generalize World.alloc (World.alloc w4 _) _ = w7 at R3 P3 Q3 U3 V3 F3 ⊢
  clear hgu
  (
    with_reducible refine ((K4.out) _).mono ?_
    rintro e_ w4 ⟨rfl, h4⟩
    try replace R3 := hid' (bk_call R3.out h4)
    try replace P3 := hid' (bk_call P3.out h4)
    try replace Q3 := hid' (bk_call Q3.out h4)
    try replace U3 := hid' (bk_call U3.out h4)
    try replace V3 := hid' (bk_call V3.out h4)
    replace F3 := hid' (F3.out.trans (h4.mono F3.out.size))
    clear h4)
  clear K1 K2 K3 K4
  have F4 := hid' (F3.out.alloc F3.out.size (.cells #[.string u1, .string v1] 23))
  obtain ⟨p30, p31, _, _⟩ := cells2 P3.out
  obtain ⟨q30, q31, _, _⟩ := cells2 Q3.out
  obtain ⟨u30, u31, _, _⟩ := cells2 U3.out
  obtain ⟨v30, v31, _, _⟩ := cells2 V3.out
  have q1 := bk_lt P3.out
  have q2 := bk_lt Q3.out
  have q3 := bk_lt U3.out
  have q4 := bk_lt V3.out
  go_wp2
  go_ret
  have Z3 := F4.out.size
  exact ⟨rfl, F4.out.alloc (by simpa using Z3) _⟩
end Go.Proofs.Ytpinofeknilgfaa
