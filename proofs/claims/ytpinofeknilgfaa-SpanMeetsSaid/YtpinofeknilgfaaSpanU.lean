/-
  Contracts of the document's own answers for layer 2: below, Meet, Covers; the walk of SpanMeets.
-/
import Derived.Test.YtpinofeknilgfaaSpanS
namespace Go.Proofs.Ytpinofeknilgfaa
open Go.RowKit Go.Sort

def rbel (a b : ByteArray) : Bool := !(em a) && (em b || lt a b)

theorem rbelow_b (a b : ByteArray) {x : Bool} (h : rbel a b = x) (w : World) : Calls Try.prog 28 #[.string a, .string b] w fun e w' => e = .returned (.bool x) ∧ w = w' := by
  subst h
  unfold rbel
  cases ha : em a <;> cases hb : em b <;> cases hl : lt a b
  all_goals
    have ha' : a.toList.isEmpty = _ := ha
    have hb' : b.toList.isEmpty = _ := hb
    have hl' : Op.bytesLess a.toList b.toList = _ := hl
    clear ha hb hl
    go_enter Try.func28, Try.ntmps28
    go_wp2
    go_ret
    exact ⟨rfl, rfl⟩

theorem lesser_rbel (a b : ByteArray) : lesserB a b = cond (rbel b a) b a := by
  apply ext_list
  unfold lesserB rbel
  cases ha : em a <;> cases hb : em b <;> cases hl : lt b a <;> simp
  all_goals
    have h1 := (em_iff a).1 ha
    have h2 := (em_iff b).1 hb
    rw [h1, h2]

set_option maxHeartbeats 1000000 in
theorem rMeet_no (lo1 hi1 lo2 hi2 : ByteArray) (h : (okR lo1 hi1 && okR lo2 hi2) = false) (w : World) : Calls Try.prog 19 #[.agg #[.string lo1, .string hi1], .agg #[.string lo2, .string hi2]] w fun e w' =>
    e = .returned (.tuple #[.agg #[.string ⟨#[]⟩, .string ⟨#[]⟩], .bool false]) ∧ Below w.heap.size w w' := by
  cases h1 : okR lo1 hi1
  · go_enter Try.func19, Try.ntmps19
    go_wp2_with fail
    refine (rCheck_b lo1 hi1 h1 _).mono ?_
    rintro e w1 ⟨rfl, hb1⟩
    dsimp only [cond]
    obtain ⟨c0, c1, f0, f1⟩ := cells2 (blk_carry (al3_2 w _ _ _) hb1 (by simp))
    have hbb := (al3_below w _ _ _).trans (hb1.mono (by simp <;> omega))
    have hbb := hid' hbb
    clear hb1
    go_wp2
    refine bodyPost_ret (v := .tuple #[.agg #[.string ⟨#[]⟩, .string ⟨#[]⟩], .bool false]) ?_ rfl ⟨rfl, ?_⟩
    · simp [results, Try.results19, go_sem, *]
    · exact (hbb.out.setCell (by show _ ≤ w.heap.size + 1 + 1; omega) _).setCell (by show _ ≤ w.heap.size + 1 + 1; omega) _
  · have h2 : okR lo2 hi2 = false := by simpa [h1] using h
    go_enter Try.func19, Try.ntmps19
    go_wp2_with fail
    refine (rCheck_b lo1 hi1 h1 _).mono ?_
    rintro e w1 ⟨rfl, hb1⟩
    dsimp only [cond]
    have hB1 := hid' (blk_carry (al3_1 w _ _ _) hb1 (by simp <;> omega))
    obtain ⟨b0, b1, _, _⟩ := cells2 hB1.out
    have hB2 := hid' (blk_carry (al3_2 w _ _ _) hb1 (by simp))
    have hbb := (al3_below w _ _ _).trans (hb1.mono (by simp <;> omega))
    have hss := hb1.size
    simp only [World.size_alloc] at hss
    clear hb1
    go_wp2_with fail
    refine (rCheck_b lo2 hi2 h2 _).mono ?_
    rintro e w2 ⟨rfl, hb2⟩
    dsimp only [cond]
    obtain ⟨c0, c1, f0, f1⟩ := cells2 (blk_carry hB2.out hb2 (by omega))
    have hbb := hid' (hbb.trans (hb2.mono hbb.size))
    clear hb2
    go_wp2
    refine bodyPost_ret (v := .tuple #[.agg #[.string ⟨#[]⟩, .string ⟨#[]⟩], .bool false]) ?_ rfl ⟨rfl, ?_⟩
    · simp [results, Try.results19, go_sem, *]
    · exact (hbb.out.setCell (by show _ ≤ w.heap.size + 1 + 1; omega) _).setCell (by show _ ≤ w.heap.size + 1 + 1; omega) _

set_option maxHeartbeats 2000000 in
theorem rMeet_yes (lo1 hi1 lo2 hi2 : ByteArray) (h1 : okR lo1 hi1 = true) (h2 : okR lo2 hi2 = true) (w : World) : Calls Try.prog 19 #[.agg #[.string lo1, .string hi1], .agg #[.string lo2, .string hi2]] w fun e w' =>
    e = .returned (cond (belowB (mxS lo1 lo2) (lesserB hi1 hi2)) (.tuple #[.agg #[.string (mxS lo1 lo2), .string (lesserB hi1 hi2)], .bool true]) (.tuple #[.agg #[.string ⟨#[]⟩, .string ⟨#[]⟩], .bool false])) ∧ Below w.heap.size w w' := by
  rw [lesser_rbel]
  obtain ⟨m, hm⟩ : ∃ m, mxS lo1 lo2 = m := ⟨_, rfl⟩
  obtain ⟨x, hx⟩ : ∃ x, rbel hi2 hi1 = x := ⟨_, rfl⟩
  rw [hm, hx]
  have hmx : ∀ (W : World) (ts : Array TypeId) (t : TypeId), (Builtin.max_ ts t #[.string lo1, .string lo2]).run Try.prog W = .ok (.string m) W := fun W ts t => by rw [← hm]; exact Go.Lib.run_max_strs (P := Try.prog) W ts t lo1 lo2
  have KB := hid' (rbelow_b _ _ hx)
  obtain ⟨eh, heh⟩ : ∃ y, em (cond x hi2 hi1) = y := ⟨_, rfl⟩
  obtain ⟨lh, hlh⟩ : ∃ y, lt m (cond x hi2 hi1) = y := ⟨_, rfl⟩
  have e : belowB m (cond x hi2 hi1) = (eh || lh) := by unfold belowB; rw [heh, hlh]
  rw [e]
  clear e
  have HE := hid' heh
  have HL := hid' hlh
  clear hm hx heh hlh
  go_enter Try.func19, Try.ntmps19
  go_wp2_with fail
  refine (rCheck_b lo1 hi1 h1 _).mono ?_
  rintro e w1 ⟨rfl, hb1⟩
  dsimp only [cond]
  have hB0 := hid' (blk_carry (al3_0 w _ _ _) hb1 (by simp <;> omega))
  have hB1 := hid' (blk_carry (al3_1 w _ _ _) hb1 (by simp <;> omega))
  have hB2 := hid' (blk_carry (al3_2 w _ _ _) hb1 (by simp))
  obtain ⟨b0, b1, _, _⟩ := cells2 hB1.out
  have hbb := (al3_below w _ _ _).trans (hb1.mono (by simp <;> omega))
  have hss := hb1.size
  simp only [World.size_alloc] at hss
  clear hb1
  go_wp2_with fail
  refine (rCheck_b lo2 hi2 h2 _).mono ?_
  rintro e w2 ⟨rfl, hb2⟩
  dsimp only [cond]
  clear b0 b1
  have hbb := hbb.trans (hb2.mono hbb.size)
  have hsz := hb2.size
  have q0 : w.heap.size < w2.heap.size := by omega
  have q1 : w.heap.size + 1 < w2.heap.size := by omega
  have q2 : w.heap.size + 1 + 1 < w2.heap.size := by omega
  have B0 := blk_carry hB0.out hb2 (by omega)
  have B1 := blk_carry hB1.out hb2 (by omega)
  have B2 := blk_carry hB2.out hb2 (by omega)
  clear hb2 hB0 hB1 hB2 hss hsz
  obtain ⟨a0, a1, _, _⟩ := cells2 B0
  obtain ⟨b0, b1, _, _⟩ := cells2 B1
  go_wp2_with fail
  have x3 := al_new w2 (.cells #[.string m, .string hi1] 23)
  have HB := hid' (hbb.alloc hbb.size (.cells #[.string m, .string hi1] 23))
  obtain ⟨c0, c1, f0, f1⟩ := cells2 (bk_al B2 (.cells #[.string m, .string hi1] 23))
  clear a0 a1 b0 b1
  obtain ⟨b0, b1, _, _⟩ := cells2 (bk_al B1 (.cells #[.string m, .string hi1] 23))
  clear B0 B1 B2 hbb
  generalize World.alloc w2 _ = w3 at x3 HB b0 b1 c0 c1 f0 f1 ⊢
  obtain ⟨d0, d1, g0, g1⟩ := cells2 x3
  have q3 := bk_lt x3
  clear x3
  refine (KB.out _).mono ?_
  rintro e w4 ⟨rfl, rfl⟩
  clear KB
  have n1 : (w.heap.size + 1 + 1 == w2.heap.size) = false := by simp; omega
  have n2 : (w2.heap.size == w.heap.size + 1 + 1) = false := by simp; omega
  cases x
  · cases eh <;> cases lh
    all_goals
      have hh' : hi1.toList.isEmpty = _ := HE.out
      have hl' : Op.bytesLess m.toList hi1.toList = _ := HL.out
      clear HE HL
      go_wp2
      refine bodyPost_ret (v := _) (by simp [results, Try.results19, go_sem, *]) rfl ⟨rfl, ?_⟩
      refine below_set (below_set HB.out ?_ _) ?_ _ <;> (try simp) <;> omega
  · cases eh <;> cases lh
    all_goals
      have hh' : hi2.toList.isEmpty = _ := HE.out
      have hl' : Op.bytesLess m.toList hi2.toList = _ := HL.out
      clear HE HL
      go_wp2
      refine bodyPost_ret (v := _) (by simp [results, Try.results19, go_sem, *]) rfl ⟨rfl, ?_⟩
      refine below_set (below_set (below_set HB.out ?_ _) ?_ _) ?_ _ <;> (try simp) <;> omega

theorem rMeet_pq (a b c d : ByteArray) : ∃ p q : ByteArray, ∃ mb : Bool, meetB a b c d = mb ∧
    (∀ w, Calls Try.prog 18 #[.agg #[.string a, .string b], .agg #[.string c, .string d]] w fun e w' => e = .returned (.tuple #[.agg #[.string p, .string q], .bool mb]) ∧ Below w.heap.size w w') ∧
    (∀ w, Calls Try.prog 19 #[.agg #[.string a, .string b], .agg #[.string c, .string d]] w fun e w' => e = .returned (.tuple #[.agg #[.string p, .string q], .bool mb]) ∧ Below w.heap.size w w') := by
  cases hq : (okR a b && okR c d)
  · have h : meetB a b c d = false := by unfold meetB; rw [hq]; rfl
    exact ⟨⟨#[]⟩, ⟨#[]⟩, false, h, fun w => Meet_f a b c d h w, fun w => rMeet_no a b c d hq w⟩
  · have e : meetB a b c d = belowB (mxS a c) (lesserB b d) := by unfold meetB; rw [hq]; rfl
    simp only [Bool.and_eq_true] at hq
    cases h : meetB a b c d
    · refine ⟨⟨#[]⟩, ⟨#[]⟩, false, rfl, fun w => Meet_f a b c d h w, fun w => ?_⟩
      have K := rMeet_yes a b c d hq.1 hq.2 w
      rw [← e, h] at K
      exact K
    · refine ⟨_, _, true, rfl, fun w => Meet_t a b c d h rfl rfl w, fun w => ?_⟩
      have K := rMeet_yes a b c d hq.1 hq.2 w
      rw [← e, h] at K
      exact K

/-- The document's Covers, as a test. -/
theorem rcovers (a b c d : ByteArray) : coversB a b c d = (okR a b && okR c d && !(lt c a) && !(rbel b d)) := by
  refine bool_ext (coversB_iff ..) (q := M.R a.toList b.toList ∧ M.R c.toList d.toList ∧ a.toList ≤ c.toList ∧ (b.toList = [] ∨ (d.toList ≠ [] ∧ d.toList ≤ b.toList))) ?_ (M.C_iff ..)
  have e1 : a.toList ≤ c.toList ↔ (!(lt c a)) = true := by rw [← List.not_lt, ← lt_iff]; simp
  have e2 : d.toList ≤ b.toList ↔ (!(lt b d)) = true := by rw [← List.not_lt, ← lt_iff]; simp
  rw [← okR_iff, ← okR_iff, e1, e2, ← em_iff, Ne, ← em_iff]
  unfold rbel
  cases em b <;> cases em d <;> cases lt b d <;> simp [and_assoc]

set_option maxHeartbeats 2000000 in
theorem rCovers_b (a b c d : ByteArray) {x : Bool} (h : coversB a b c d = x) (w : World) : Calls Try.prog 21 #[.agg #[.string a, .string b], .agg #[.string c, .string d]] w fun e w' =>
    e = .returned (.bool x) ∧ Below w.heap.size w w' := by
  subst h
  rw [rcovers]
  obtain ⟨b1, hb1⟩ : ∃ x, okR a b = x := ⟨_, rfl⟩
  obtain ⟨b2, hb2⟩ : ∃ x, okR c d = x := ⟨_, rfl⟩
  obtain ⟨b3, hb3⟩ : ∃ x, lt c a = x := ⟨_, rfl⟩
  obtain ⟨b4, hb4⟩ : ∃ x, rbel b d = x := ⟨_, rfl⟩
  rw [hb1, hb2, hb3, hb4]
  have K1 := hid' (rCheck_b a b hb1)
  have K2 := hid' (rCheck_b c d hb2)
  have K4 := hid' (rbelow_b b d hb4)
  have T := hid' hb3
  clear hb1 hb2 hb3 hb4
  go_enter Try.func21, Try.ntmps21
  go_wp2_with fail
  have A0 := hid' (al2_0 w (.cells #[.string a, .string b] 23) (.cells #[.string c, .string d] 23))
  have C0 := hid' (al2_1 w (.cells #[.string a, .string b] 23) (.cells #[.string c, .string d] 23))
  have F0 := hid' (al2_below w (.cells #[.string a, .string b] 23) (.cells #[.string c, .string d] 23))
  refine (K1.out _).mono ?_
  rintro e w1 ⟨rfl, h1⟩
  replace A0 := hid' (bk_call A0.out h1)
  replace C0 := hid' (bk_call C0.out h1)
  replace F0 := hid' (F0.out.trans (h1.mono F0.out.size))
  clear h1
  cases b1
  · dsimp only [cond]
    go_wp2
    go_ret
    exact ⟨rfl, F0.out⟩
  · dsimp only [cond]
    obtain ⟨c0, c1, _, _⟩ := cells2 C0.out
    have q2 := bk_lt C0.out
    go_wp2_with fail
    clear c0 c1 q2
    refine (K2.out _).mono ?_
    rintro e w2 ⟨rfl, h2⟩
    replace A0 := hid' (bk_call A0.out h2)
    replace C0 := hid' (bk_call C0.out h2)
    replace F0 := hid' (F0.out.trans (h2.mono F0.out.size))
    clear h2
    obtain ⟨a0, a1, _, _⟩ := cells2 A0.out
    obtain ⟨c0, c1, _, _⟩ := cells2 C0.out
    have q1 := bk_lt A0.out
    have q2 := bk_lt C0.out
    cases b2
    · dsimp only [cond]
      go_wp2
      go_ret
      exact ⟨rfl, F0.out⟩
    · dsimp only [cond]
      cases b3
      · have t : (Op.bytesLess a.toList c.toList || a.toList == c.toList) = true := by rw [leq_not, T.out]; rfl
        clear T
        go_wp2_with fail
        refine (K4.out _).mono ?_
        rintro e w3 ⟨rfl, rfl⟩
        go_wp2
        go_ret
        exact ⟨by cases b4 <;> rfl, F0.out⟩
      · have t : (Op.bytesLess a.toList c.toList || a.toList == c.toList) = false := by rw [leq_not, T.out]; rfl
        clear T
        go_wp2
        go_ret
        exact ⟨rfl, F0.out⟩

set_option maxHeartbeats 2000000 in
set_option maxRecDepth 100000 in
theorem W_SpanMeets (a b : ByteArray) (_ : a.size ≤ maxLen) (_ : b.size ≤ maxLen) (c d : ByteArray) (_ : c.size ≤ maxLen) (_ : d.size ≤ maxLen) (w : World) :
    Calls Try.prog 4 #[.agg #[.string a, .string b], .agg #[.string c, .string d]] w fun e w' => e = .returned (.bool true) ∧ Below w.heap.size w w' := by
  rename_i s1 s2 s3 s4
  clear s1 s2 s3 s4
  obtain ⟨p, q, mb, hmb, K1, K2⟩ := rMeet_pq a b c d
  obtain ⟨cv, hcv⟩ : ∃ x, coversB a b c d = x := ⟨_, rfl⟩
  replace K1 := hid' K1
  replace K2 := hid' K2
  have K3 := hid' (Covers_b a b c d hcv)
  have K4 := hid' (rCovers_b a b c d hcv)
  clear hmb hcv
  have t1 : (mb == mb) = true := by simp
  have t2 : (cv == cv) = true := by simp
  go_enter Try.func4, Try.ntmps4
  go_wp2_with fail
  refine (live_any _).mono ?_
  rintro e_ w1 ⟨rfl, h1⟩
  have A3 := hid' (bk_call (al2_0 w _ _) h1)
  have C3 := hid' (bk_call (al2_1 w _ _) h1)
  have F3 := hid' ((al2_below w _ _).trans (h1.mono (by simp <;> omega)))
  clear h1
  obtain ⟨a30, a31, _, _⟩ := cells2 A3.out
  obtain ⟨c30, c31, _, _⟩ := cells2 C3.out
  go_wp2_with fail
  clear a30 a31 c30 c31
  with_reducible refine ((K1.out) _).mono ?_
  rintro e_ w4 ⟨rfl, h4⟩
  replace A3 := hid' (bk_call A3.out h4)
  replace C3 := hid' (bk_call C3.out h4)
  replace F3 := hid' (F3.out.trans (h4.mono F3.out.size))
  clear h4
  obtain ⟨a30, a31, _, _⟩ := cells2 A3.out
  obtain ⟨c30, c31, _, _⟩ := cells2 C3.out
  have q1 := bk_lt A3.out
  have q2 := bk_lt C3.out
  go_wp2_with fail
  have M3 := hid' (al_new w4 (.cells #[.string p, .string q] 23))
  replace A3 := hid' (bk_al A3.out (.cells #[.string p, .string q] 23))
  replace C3 := hid' (bk_al C3.out (.cells #[.string p, .string q] 23))
  replace F3 := hid' (F3.out.alloc F3.out.size (.cells #[.string p, .string q] 23))
  clear a30 a31 c30 c31 q1 q2
  generalize hgm : w4.heap.size = gm at M3 ⊢
  generalize World.alloc w4 _ = w5 at A3 C3 F3 M3 ⊢
  clear hgm
  with_reducible refine ((K2.out) _).mono ?_
  rintro e_ w6 ⟨rfl, h4⟩
  replace A3 := hid' (bk_call A3.out h4)
  replace C3 := hid' (bk_call C3.out h4)
  replace F3 := hid' (F3.out.trans (h4.mono F3.out.size))
  replace M3 := hid' (bk_call M3.out h4)
  clear h4
  replace A3 := hid' (bk_al A3.out (.cells #[.string p, .string q] 23))
  replace C3 := hid' (bk_al C3.out (.cells #[.string p, .string q] 23))
  replace M3 := hid' (bk_al M3.out (.cells #[.string p, .string q] 23))
  have N3 := hid' (al_new w6 (.cells #[.string p, .string q] 23))
  replace F3 := hid' (F3.out.alloc F3.out.size (.cells #[.string p, .string q] 23))
  go_wp2_with fail
  generalize hgn : w6.heap.size = gn at N3 ⊢
  generalize World.alloc w6 _ = w7 at A3 C3 F3 M3 N3 ⊢
  clear hgn
  obtain ⟨a30, a31, _, _⟩ := cells2 A3.out
  obtain ⟨c30, c31, _, _⟩ := cells2 C3.out
  obtain ⟨m30, m31, _, _⟩ := cells2 M3.out
  obtain ⟨n30, n31, _, _⟩ := cells2 N3.out
  have k1 := cell_regrown a30
  have k2 := cell_regrown a31
  have k3 := cell_regrown c30
  have k4 := cell_regrown c31
  have k5 := cell_regrown m30
  have k6 := cell_regrown m31
  have k7 := cell_regrown n30
  have k8 := cell_regrown n31
  have G1 := hid' (rg (w := w7) (fun W _ => K3.out W))
  have G2 := hid' (rg (w := w7) (fun W _ => K4.out W))
  clear a30 a31 c30 c31 m30 m31 n30 n31 K1 K2 K3 K4
  go_wp2_with fail
  refine wp_region_quiet_below (by kernel_rfl) (by kernel_rfl) ?_
  repeat (quiet_step (first | with_reducible exact G1.out _ _ | with_reducible exact G2.out _ _))
  refine wpQuiet_nil ?_
  rintro w' ⟨⟨dq, osq⟩, rfl⟩
  have hq := below_regrown w7 dq osq
  dsimp only
  generalize grow (redrawn w7 dq) osq = w8 at hq ⊢
  have f3 := hid' (F3.out.trans (hq.mono F3.out.size))
  clear hq F3 A3 C3 M3 N3 G1 G2 k1 k2 k3 k4 k5 k6 k7 k8
  go_wp2
  go_ret
  exact ⟨rfl, f3.out⟩
end Go.Proofs.Ytpinofeknilgfaa
