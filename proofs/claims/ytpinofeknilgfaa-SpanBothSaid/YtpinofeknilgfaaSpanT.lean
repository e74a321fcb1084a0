/-
  The walk of SpanBoth.
-/
import Derived.Test.YtpinofeknilgfaaSpanS
namespace Go.Proofs.Ytpinofeknilgfaa
open Go.RowKit Go.Sort

theorem Meet_pq (a b c d : ByteArray) : ∃ p q : ByteArray, ∃ mb : Bool, meetB a b c d = mb ∧ (mb = true → p = mxS a c ∧ q = lesserB b d) ∧
    (∀ w, Calls Try.prog 18 #[.agg #[.string a, .string b], .agg #[.string c, .string d]] w fun e w' => e = .returned (.tuple #[.agg #[.string p, .string q], .bool mb]) ∧ Below w.heap.size w w') ∧
    (∀ w, Calls Try.prog 18 #[.agg #[.string c, .string d], .agg #[.string a, .string b]] w fun e w' => e = .returned (.tuple #[.agg #[.string p, .string q], .bool mb]) ∧ Below w.heap.size w w') := by
  cases h : meetB a b c d
  · exact ⟨⟨#[]⟩, ⟨#[]⟩, false, rfl, by simp, fun w => Meet_f a b c d h w, fun w => Meet_f c d a b (by rw [meetB_comm]; exact h) w⟩
  · exact ⟨_, _, true, rfl, fun _ => ⟨rfl, rfl⟩, fun w => Meet_t a b c d h rfl rfl w, fun w => Meet_t c d a b (by rw [meetB_comm]; exact h) (mxS_comm ..) (lesserB_comm ..) w⟩

theorem both_b (a b c d k : ByteArray) : (hasB a b k && hasB c d k) = (meetB a b c d && hasB (mxS a c) (lesserB b d) k) := by
  refine bool_ext (p := M.H a.toList b.toList k.toList ∧ M.H c.toList d.toList k.toList) (q := M.M a.toList b.toList c.toList d.toList ∧ M.H (M.mx a.toList c.toList) (M.ls b.toList d.toList) k.toList) ?_ ?_ (M.both ..)
  · rw [Bool.and_eq_true, hasB_iff, hasB_iff]
  · rw [Bool.and_eq_true, meetB_iff, hasB_iff, mxS_list, lesserB_list]

theorem covers_is {a b c d : ByteArray} (h : coversB a b c d = true) : meetB a b c d = true ∧ mxS a c = c ∧ lesserB b d = d := by
  unfold coversB at h
  simp only [Bool.and_eq_true] at h
  exact ⟨h.1, ext_list ((eqS_iff ..).1 h.2.1), ext_list ((eqS_iff ..).1 h.2.2)⟩

theorem cut_b {l h at_ k : ByteArray} (r : okR l h = true) (ka : okK at_ = true) (hl : lt l at_ = true) (hb : belowB at_ h = true) :
    hasB l h k = (hasB l at_ k != hasB at_ h k) ∧ (hasB l at_ k && hasB at_ h k) = false := by
  have c := M.cut (k := k.toList) ((okR_iff ..).1 r) ((okK_iff ..).1 ka) ((lt_iff ..).1 hl) ((belowB_iff ..).1 hb)
  rw [← hasB_iff, ← hasB_iff, ← hasB_iff] at c
  revert c
  cases hasB l h k <;> cases hasB l at_ k <;> cases hasB at_ h k <;> simp

theorem Cut_pq (l h at_ k : ByteArray) : ∃ u1 v1 u2 v2 : ByteArray, ∃ ce : Int,
    ((ce == 0) = true → hasB l h k = (hasB u1 v1 k != hasB u2 v2 k) ∧ (hasB u1 v1 k && hasB u2 v2 k) = false) ∧
    (∀ w, Calls Try.prog 24 #[.agg #[.string l, .string h], .string at_] w fun e w' => e = .returned (.tuple #[.agg #[.string u1, .string v1], .agg #[.string u2, .string v2], .int .i64 ce]) ∧ Below w.heap.size w w') := by
  cases hr : okR l h
  · exact ⟨⟨#[]⟩, ⟨#[]⟩, ⟨#[]⟩, ⟨#[]⟩, 21, by simp, fun w => Cut_bad l h at_ hr w⟩
  · cases hk : okK at_
    · exact ⟨⟨#[]⟩, ⟨#[]⟩, ⟨#[]⟩, ⟨#[]⟩, 20, by simp, fun w => Cut_key l h at_ hr hk w⟩
    · cases hc : (lt l at_ && belowB at_ h)
      · exact ⟨⟨#[]⟩, ⟨#[]⟩, ⟨#[]⟩, ⟨#[]⟩, 21, by simp, fun w => Cut_rest l h at_ hr hk hc w⟩
      · simp only [Bool.and_eq_true] at hc
        exact ⟨_, _, _, _, 0, fun _ => cut_b hr hk hc.1 hc.2, fun w => Cut_yes l h at_ hr hk hc.1 hc.2 w⟩

set_option maxHeartbeats 8000000 in
set_option maxRecDepth 100000 in
theorem W_SpanBoth (a b : ByteArray) (_ : a.size ≤ maxLen) (_ : b.size ≤ maxLen) (c d : ByteArray) (_ : c.size ≤ maxLen) (_ : d.size ≤ maxLen) (k : ByteArray) (_ : k.size ≤ 140737488351232) (at_ : ByteArray) (_ : at_.size ≤ 140737488351232) (w : World) :
    Calls Try.prog 7 #[.agg #[.string a, .string b], .agg #[.string c, .string d], .string k, .string at_] w fun e w' => e = .returned (.bool true) ∧ Below w.heap.size w w' := by
  rename_i s1 s2 s3 s4 s5 s6
  clear s1 s2 s3 s4 s5 s6
  obtain ⟨p, q, mb, hmb, hpq, K1, K2⟩ := Meet_pq a b c d
  obtain ⟨x1, hx1⟩ : ∃ x, hasB a b k = x := ⟨_, rfl⟩
  obtain ⟨x2, hx2⟩ : ∃ x, hasB c d k = x := ⟨_, rfl⟩
  obtain ⟨xm, hxm⟩ : ∃ x, hasB p q k = x := ⟨_, rfl⟩
  obtain ⟨cv, hcv⟩ : ∃ x, coversB a b c d = x := ⟨_, rfl⟩
  have F1 : (x1 && x2) = (mb && xm) := by
    subst hx1 hx2 hxm
    rw [both_b, hmb]
    cases mb
    · rfl
    · obtain ⟨rfl, rfl⟩ := hpq rfl; rfl
  have F2 : cv = true → mb = true ∧ p = c ∧ q = d := fun h => by
    obtain ⟨e1, e2, e3⟩ := covers_is (hcv.trans h)
    have := hmb.symm.trans e1
    obtain ⟨rfl, rfl⟩ := hpq this
    exact ⟨this, e2, e3⟩
  obtain ⟨u1, v1, u2, v2, ce, F4, K7⟩ := Cut_pq a b at_ k
  obtain ⟨y1, hy1⟩ : ∃ x, hasB u1 v1 k = x := ⟨_, rfl⟩
  obtain ⟨y2, hy2⟩ : ∃ x, hasB u2 v2 k = x := ⟨_, rfl⟩
  rw [hx1, hy1, hy2] at F4
  have K8 := hid' (Has_b u1 v1 k hy1)
  have K9 := hid' (Has_b u2 v2 k hy2)
  replace F4 := hid' F4
  replace K7 := hid' K7
  replace K1 := hid' K1
  replace K2 := hid' K2
  have K3 := hid' (Has_b a b k hx1)
  have K4 := hid' (Has_b c d k hx2)
  have K5 := hid' (Has_b p q k hxm)
  have K6 := hid' (Covers_b a b c d hcv)
  replace F1 := hid' F1
  replace F2 := hid' F2
  clear hmb hpq hx1 hx2 hxm hcv hy1 hy2
  go_enter Try.func7, Try.ntmps7
  go_wp2_with fail
  refine (live_any _).mono ?_
  rintro e_ w1 ⟨rfl, h1⟩
  have A3 := hid' (bk_call (al2_0 w _ _) h1)
  have C3 := hid' (bk_call (al2_1 w _ _) h1)
  have F3 := hid' ((al2_below w _ _).trans (h1.mono (by simp <;> omega)))
  clear h1
  obtain ⟨a30, a31, _, _⟩ := cells2 A3.out
  obtain ⟨c30, c31, _, _⟩ := cells2 C3.out
  go_wp2_with fail
  clear a30 a31 c30 c31
  (
    with_reducible refine ((K1.out) _).mono ?_
    rintro e_ w4 ⟨rfl, h4⟩
    try dsimp only
    replace A3 := hid' (bk_call A3.out h4)
    replace C3 := hid' (bk_call C3.out h4)
    replace F3 := hid' (F3.out.trans (h4.mono F3.out.size)))
  obtain ⟨a30, a31, _, _⟩ := cells2 A3.out
  obtain ⟨c30, c31, _, _⟩ := cells2 C3.out
  have q1 := bk_lt A3.out
  have q2 := bk_lt C3.out
  go_wp2_with fail
  have M3 := hid' (al_new w4 (.cells #[.string p, .string q] 23))
  replace A3 := hid' (bk_al A3.out (.cells #[.string p, .string q] 23))
  replace C3 := hid' (bk_al C3.out (.cells #[.string p, .string q] 23))
  replace F3 := hid' (F3.out.alloc F3.out.size (.cells #[.string p, .string q] 23))
  clear a30 a31 c30 c31 q1 q2 h4
  generalize hgm : w4.heap.size = gm at M3 ⊢
  generalize World.alloc w4 _ = w5 at A3 C3 F3 M3 ⊢
  clear hgm
  (
    with_reducible refine ((K2.out) _).mono ?_
    rintro e_ w4 ⟨rfl, h4⟩
    try dsimp only
    replace A3 := hid' (bk_call A3.out h4)
    replace C3 := hid' (bk_call C3.out h4)
    replace F3 := hid' (F3.out.trans (h4.mono F3.out.size)))
  replace M3 := hid' (bk_call M3.out h4)
  clear h4
  obtain ⟨a30, a31, _, _⟩ := cells2 A3.out
  obtain ⟨c30, c31, _, _⟩ := cells2 C3.out
  obtain ⟨m30, m31, _, _⟩ := cells2 M3.out
  have q1 := bk_lt A3.out
  have q2 := bk_lt C3.out
  have q3 := bk_lt M3.out
  go_wp2_with fail
  replace A3 := hid' (bk_al A3.out (.cells #[.string p, .string q] 23))
  replace C3 := hid' (bk_al C3.out (.cells #[.string p, .string q] 23))
  replace M3 := hid' (bk_al M3.out (.cells #[.string p, .string q] 23))
  have N3 := hid' (al_new w4 (.cells #[.string p, .string q] 23))
  replace F3 := hid' (F3.out.alloc F3.out.size (.cells #[.string p, .string q] 23))
  clear a30 a31 c30 c31 m30 m31 q1 q2 q3
  generalize hgn : w4.heap.size = gn at N3 ⊢
  generalize World.alloc w4 _ = w6 at A3 C3 F3 M3 N3 ⊢
  clear hgn
  (
    with_reducible refine ((K3.out) _).mono ?_
    rintro e_ w4 ⟨rfl, h4⟩
    try dsimp only
    replace A3 := hid' (bk_call A3.out h4)
    replace C3 := hid' (bk_call C3.out h4)
    replace F3 := hid' (F3.out.trans (h4.mono F3.out.size)))
  (
    replace M3 := hid' (bk_call M3.out h4)
    replace N3 := hid' (bk_call N3.out h4)
    clear h4
    obtain ⟨a30, a31, _, _⟩ := cells2 A3.out
    obtain ⟨c30, c31, _, _⟩ := cells2 C3.out
    obtain ⟨m30, m31, _, _⟩ := cells2 M3.out
    obtain ⟨n30, n31, _, _⟩ := cells2 N3.out
    have q1 := bk_lt A3.out
    have q2 := bk_lt C3.out
    have q3 := bk_lt M3.out
    have q4 := bk_lt N3.out)
  cases x1
  · cases mb
    · cases cv
      · clear F1
        go_wp2_with fail
        (
          clear a30 a31 c30 c31 m30 m31 n30 n31 q1 q2 q3 q4)
        (
          with_reducible refine ((K6.out) _).mono ?_
          rintro e_ w4 ⟨rfl, h4⟩
          try dsimp only
          replace A3 := hid' (bk_call A3.out h4)
          replace C3 := hid' (bk_call C3.out h4)
          replace F3 := hid' (F3.out.trans (h4.mono F3.out.size)))
        (
          replace M3 := hid' (bk_call M3.out h4)
          replace N3 := hid' (bk_call N3.out h4)
          clear h4
          obtain ⟨a30, a31, _, _⟩ := cells2 A3.out
          obtain ⟨c30, c31, _, _⟩ := cells2 C3.out
          obtain ⟨m30, m31, _, _⟩ := cells2 M3.out
          obtain ⟨n30, n31, _, _⟩ := cells2 N3.out
          have q1 := bk_lt A3.out
          have q2 := bk_lt C3.out
          have q3 := bk_lt M3.out
          have q4 := bk_lt N3.out)
        go_wp2_with fail
        (
          (
            clear a30 a31 c30 c31 m30 m31 n30 n31 q1 q2 q3 q4)
          clear K1 K2 K4 K5 K6 F2
          (
            with_reducible refine ((K7.out) _).mono ?_
            rintro e_ w4 ⟨rfl, h4⟩
            try dsimp only
            replace A3 := hid' (bk_call A3.out h4)
            replace C3 := hid' (bk_call C3.out h4)
            replace F3 := hid' (F3.out.trans (h4.mono F3.out.size)))
          (
            replace M3 := hid' (bk_call M3.out h4)
            replace N3 := hid' (bk_call N3.out h4)
            clear h4
            obtain ⟨a30, a31, _, _⟩ := cells2 A3.out
            obtain ⟨c30, c31, _, _⟩ := cells2 C3.out
            obtain ⟨m30, m31, _, _⟩ := cells2 M3.out
            obtain ⟨n30, n31, _, _⟩ := cells2 N3.out
            have q1 := bk_lt A3.out
            have q2 := bk_lt C3.out
            have q3 := bk_lt M3.out
            have q4 := bk_lt N3.out)
          cases hce : (ce == 0)
          · have hcn : (ce != 0) = true := by simpa [bne] using hce
            clear F4 K7 K3 K8 K9
            go_wp2
            go_ret
            exact ⟨rfl, (F3.out.alloc F3.out.size _).alloc (by have := F3.out.size; simp; omega) _⟩
          · have F5 := hid' (F4.out hce)
            obtain rfl : ce = 0 := by simpa using hce
            clear F4 hce K7
            cases y1 <;> cases y2
            all_goals first
              | (exfalso; have F6 := F5.out; revert F6; clear F5; decide; done)
              | (clear F5; (
                             go_wp2_with fail
                             have U3 := hid' (al2_0 w4 (.cells #[.string u1, .string v1] 23) (.cells #[.string u2, .string v2] 23))
                             have V3 := hid' (al2_1 w4 (.cells #[.string u1, .string v1] 23) (.cells #[.string u2, .string v2] 23))
                             replace A3 := hid' (bk_al (bk_al A3.out (.cells #[.string u1, .string v1] 23)) (.cells #[.string u2, .string v2] 23))
                             have Z3 : w.heap.size ≤ (World.alloc w4 (.cells #[.string u1, .string v1] 23)).heap.size := by have := F3.out.size; simp; omega
                             replace F3 := hid' ((F3.out.alloc F3.out.size (.cells #[.string u1, .string v1] 23)).alloc Z3 (.cells #[.string u2, .string v2] 23))
                             clear Z3 C3 M3 N3
                             (
                               clear a30 a31 c30 c31 m30 m31 n30 n31 q1 q2 q3 q4)
                             generalize hgu : w4.heap.size = gu at U3 V3 ⊢
                             generalize World.alloc (World.alloc w4 _) _ = w7 at A3 U3 V3 F3 ⊢
                             clear hgu
                             obtain ⟨a30, a31, _, _⟩ := cells2 A3.out
                             obtain ⟨u30, u31, _, _⟩ := cells2 U3.out
                             obtain ⟨v30, v31, _, _⟩ := cells2 V3.out
                             have k1 := cell_regrown a30
                             have k2 := cell_regrown a31
                             have k3 := cell_regrown u30
                             have k4 := cell_regrown u31
                             have k5 := cell_regrown v30
                             have k6 := cell_regrown v31
                             have G1 := hid' (rg (w := w7) (fun W _ => K3.out W))
                             have G2 := hid' (rg (w := w7) (fun W _ => K8.out W))
                             have G3 := hid' (rg (w := w7) (fun W _ => K9.out W))
                             clear a30 a31 u30 u31 v30 v31 K3 K8 K9 A3 U3 V3
                             refine wp_region_quiet_below (by kernel_rfl) (by kernel_rfl) ?_
                             repeat (quiet_step (first | with_reducible exact G1.out _ _ | with_reducible exact G2.out _ _ | with_reducible exact G3.out _ _))
                             refine wpQuiet_nil ?_
                             rintro w' ⟨⟨dq, osq⟩, rfl⟩
                             have hq := below_regrown w7 dq osq
                             dsimp only
                             generalize grow (redrawn w7 dq) osq = w8 at hq ⊢
                             have f3 := hid' (F3.out.trans (hq.mono F3.out.size))
                             clear hq F3 G1 G2 G3 k1 k2 k3 k4 k5 k6
                             go_wp2
                             go_ret
                             exact ⟨rfl, f3.out⟩)))
      · exact absurd (F2.out rfl).1 (by simp)
    · have h1 : xm = false := by simpa using F1.out
      subst h1
      clear F1
      go_wp2_with fail
      (
        clear a30 a31 c30 c31 m30 m31 n30 n31 q1 q2 q3 q4)
      (
        with_reducible refine ((K5.out) _).mono ?_
        rintro e_ w4 ⟨rfl, h4⟩
        try dsimp only
        replace A3 := hid' (bk_call A3.out h4)
        replace C3 := hid' (bk_call C3.out h4)
        replace F3 := hid' (F3.out.trans (h4.mono F3.out.size)))
      (
        replace M3 := hid' (bk_call M3.out h4)
        replace N3 := hid' (bk_call N3.out h4)
        clear h4
        obtain ⟨a30, a31, _, _⟩ := cells2 A3.out
        obtain ⟨c30, c31, _, _⟩ := cells2 C3.out
        obtain ⟨m30, m31, _, _⟩ := cells2 M3.out
        obtain ⟨n30, n31, _, _⟩ := cells2 N3.out
        have q1 := bk_lt A3.out
        have q2 := bk_lt C3.out
        have q3 := bk_lt M3.out
        have q4 := bk_lt N3.out)
      go_wp2_with fail
      (
        clear a30 a31 c30 c31 m30 m31 n30 n31 q1 q2 q3 q4)
      (
        with_reducible refine ((K6.out) _).mono ?_
        rintro e_ w4 ⟨rfl, h4⟩
        try dsimp only
        replace A3 := hid' (bk_call A3.out h4)
        replace C3 := hid' (bk_call C3.out h4)
        replace F3 := hid' (F3.out.trans (h4.mono F3.out.size)))
      (
        replace M3 := hid' (bk_call M3.out h4)
        replace N3 := hid' (bk_call N3.out h4)
        clear h4
        obtain ⟨a30, a31, _, _⟩ := cells2 A3.out
        obtain ⟨c30, c31, _, _⟩ := cells2 C3.out
        obtain ⟨m30, m31, _, _⟩ := cells2 M3.out
        obtain ⟨n30, n31, _, _⟩ := cells2 N3.out
        have q1 := bk_lt A3.out
        have q2 := bk_lt C3.out
        have q3 := bk_lt M3.out
        have q4 := bk_lt N3.out)
      cases cv
      · go_wp2_with fail
        (
          (
            clear a30 a31 c30 c31 m30 m31 n30 n31 q1 q2 q3 q4)
          clear K1 K2 K4 K5 K6 F2
          (
            with_reducible refine ((K7.out) _).mono ?_
            rintro e_ w4 ⟨rfl, h4⟩
            try dsimp only
            replace A3 := hid' (bk_call A3.out h4)
            replace C3 := hid' (bk_call C3.out h4)
            replace F3 := hid' (F3.out.trans (h4.mono F3.out.size)))
          (
            replace M3 := hid' (bk_call M3.out h4)
            replace N3 := hid' (bk_call N3.out h4)
            clear h4
            obtain ⟨a30, a31, _, _⟩ := cells2 A3.out
            obtain ⟨c30, c31, _, _⟩ := cells2 C3.out
            obtain ⟨m30, m31, _, _⟩ := cells2 M3.out
            obtain ⟨n30, n31, _, _⟩ := cells2 N3.out
            have q1 := bk_lt A3.out
            have q2 := bk_lt C3.out
            have q3 := bk_lt M3.out
            have q4 := bk_lt N3.out)
          cases hce : (ce == 0)
          · have hcn : (ce != 0) = true := by simpa [bne] using hce
            clear F4 K7 K3 K8 K9
            go_wp2
            go_ret
            exact ⟨rfl, (F3.out.alloc F3.out.size _).alloc (by have := F3.out.size; simp; omega) _⟩
          · have F5 := hid' (F4.out hce)
            obtain rfl : ce = 0 := by simpa using hce
            clear F4 hce K7
            cases y1 <;> cases y2
            all_goals first
              | (exfalso; have F6 := F5.out; revert F6; clear F5; decide; done)
              | (clear F5; (
                             go_wp2_with fail
                             have U3 := hid' (al2_0 w4 (.cells #[.string u1, .string v1] 23) (.cells #[.string u2, .string v2] 23))
                             have V3 := hid' (al2_1 w4 (.cells #[.string u1, .string v1] 23) (.cells #[.string u2, .string v2] 23))
                             replace A3 := hid' (bk_al (bk_al A3.out (.cells #[.string u1, .string v1] 23)) (.cells #[.string u2, .string v2] 23))
                             have Z3 : w.heap.size ≤ (World.alloc w4 (.cells #[.string u1, .string v1] 23)).heap.size := by have := F3.out.size; simp; omega
                             replace F3 := hid' ((F3.out.alloc F3.out.size (.cells #[.string u1, .string v1] 23)).alloc Z3 (.cells #[.string u2, .string v2] 23))
                             clear Z3 C3 M3 N3
                             (
                               clear a30 a31 c30 c31 m30 m31 n30 n31 q1 q2 q3 q4)
                             generalize hgu : w4.heap.size = gu at U3 V3 ⊢
                             generalize World.alloc (World.alloc w4 _) _ = w7 at A3 U3 V3 F3 ⊢
                             clear hgu
                             obtain ⟨a30, a31, _, _⟩ := cells2 A3.out
                             obtain ⟨u30, u31, _, _⟩ := cells2 U3.out
                             obtain ⟨v30, v31, _, _⟩ := cells2 V3.out
                             have k1 := cell_regrown a30
                             have k2 := cell_regrown a31
                             have k3 := cell_regrown u30
                             have k4 := cell_regrown u31
                             have k5 := cell_regrown v30
                             have k6 := cell_regrown v31
                             have G1 := hid' (rg (w := w7) (fun W _ => K3.out W))
                             have G2 := hid' (rg (w := w7) (fun W _ => K8.out W))
                             have G3 := hid' (rg (w := w7) (fun W _ => K9.out W))
                             clear a30 a31 u30 u31 v30 v31 K3 K8 K9 A3 U3 V3
                             refine wp_region_quiet_below (by kernel_rfl) (by kernel_rfl) ?_
                             repeat (quiet_step (first | with_reducible exact G1.out _ _ | with_reducible exact G2.out _ _ | with_reducible exact G3.out _ _))
                             refine wpQuiet_nil ?_
                             rintro w' ⟨⟨dq, osq⟩, rfl⟩
                             have hq := below_regrown w7 dq osq
                             dsimp only
                             generalize grow (redrawn w7 dq) osq = w8 at hq ⊢
                             have f3 := hid' (F3.out.trans (hq.mono F3.out.size))
                             clear hq F3 G1 G2 G3 k1 k2 k3 k4 k5 k6
                             go_wp2
                             go_ret
                             exact ⟨rfl, f3.out⟩)))
      · obtain ⟨_, hp, hq⟩ := F2.out rfl
        subst hp hq
        go_wp2_with fail
        (
          (
            clear a30 a31 c30 c31 m30 m31 n30 n31 q1 q2 q3 q4)
          clear K1 K2 K4 K5 K6 F2
          (
            with_reducible refine ((K7.out) _).mono ?_
            rintro e_ w4 ⟨rfl, h4⟩
            try dsimp only
            replace A3 := hid' (bk_call A3.out h4)
            replace C3 := hid' (bk_call C3.out h4)
            replace F3 := hid' (F3.out.trans (h4.mono F3.out.size)))
          (
            replace M3 := hid' (bk_call M3.out h4)
            replace N3 := hid' (bk_call N3.out h4)
            clear h4
            obtain ⟨a30, a31, _, _⟩ := cells2 A3.out
            obtain ⟨c30, c31, _, _⟩ := cells2 C3.out
            obtain ⟨m30, m31, _, _⟩ := cells2 M3.out
            obtain ⟨n30, n31, _, _⟩ := cells2 N3.out
            have q1 := bk_lt A3.out
            have q2 := bk_lt C3.out
            have q3 := bk_lt M3.out
            have q4 := bk_lt N3.out)
          cases hce : (ce == 0)
          · have hcn : (ce != 0) = true := by simpa [bne] using hce
            clear F4 K7 K3 K8 K9
            go_wp2
            go_ret
            exact ⟨rfl, (F3.out.alloc F3.out.size _).alloc (by have := F3.out.size; simp; omega) _⟩
          · have F5 := hid' (F4.out hce)
            obtain rfl : ce = 0 := by simpa using hce
            clear F4 hce K7
            cases y1 <;> cases y2
            all_goals first
              | (exfalso; have F6 := F5.out; revert F6; clear F5; decide; done)
              | (clear F5; (
                             go_wp2_with fail
                             have U3 := hid' (al2_0 w4 (.cells #[.string u1, .string v1] 23) (.cells #[.string u2, .string v2] 23))
                             have V3 := hid' (al2_1 w4 (.cells #[.string u1, .string v1] 23) (.cells #[.string u2, .string v2] 23))
                             replace A3 := hid' (bk_al (bk_al A3.out (.cells #[.string u1, .string v1] 23)) (.cells #[.string u2, .string v2] 23))
                             have Z3 : w.heap.size ≤ (World.alloc w4 (.cells #[.string u1, .string v1] 23)).heap.size := by have := F3.out.size; simp; omega
                             replace F3 := hid' ((F3.out.alloc F3.out.size (.cells #[.string u1, .string v1] 23)).alloc Z3 (.cells #[.string u2, .string v2] 23))
                             clear Z3 C3 M3 N3
                             (
                               clear a30 a31 c30 c31 m30 m31 n30 n31 q1 q2 q3 q4)
                             generalize hgu : w4.heap.size = gu at U3 V3 ⊢
                             generalize World.alloc (World.alloc w4 _) _ = w7 at A3 U3 V3 F3 ⊢
                             clear hgu
                             obtain ⟨a30, a31, _, _⟩ := cells2 A3.out
                             obtain ⟨u30, u31, _, _⟩ := cells2 U3.out
                             obtain ⟨v30, v31, _, _⟩ := cells2 V3.out
                             have k1 := cell_regrown a30
                             have k2 := cell_regrown a31
                             have k3 := cell_regrown u30
                             have k4 := cell_regrown u31
                             have k5 := cell_regrown v30
                             have k6 := cell_regrown v31
                             have G1 := hid' (rg (w := w7) (fun W _ => K3.out W))
                             have G2 := hid' (rg (w := w7) (fun W _ => K8.out W))
                             have G3 := hid' (rg (w := w7) (fun W _ => K9.out W))
                             clear a30 a31 u30 u31 v30 v31 K3 K8 K9 A3 U3 V3
                             refine wp_region_quiet_below (by kernel_rfl) (by kernel_rfl) ?_
                             repeat (quiet_step (first | with_reducible exact G1.out _ _ | with_reducible exact G2.out _ _ | with_reducible exact G3.out _ _))
                             refine wpQuiet_nil ?_
                             rintro w' ⟨⟨dq, osq⟩, rfl⟩
                             have hq := below_regrown w7 dq osq
                             dsimp only
                             generalize grow (redrawn w7 dq) osq = w8 at hq ⊢
                             have f3 := hid' (F3.out.trans (hq.mono F3.out.size))
                             clear hq F3 G1 G2 G3 k1 k2 k3 k4 k5 k6
                             go_wp2
                             go_ret
                             exact ⟨rfl, f3.out⟩)))
  · go_wp2_with fail
    (
      clear a30 a31 c30 c31 m30 m31 n30 n31 q1 q2 q3 q4)
    (
      with_reducible refine ((K4.out) _).mono ?_
      rintro e_ w4 ⟨rfl, h4⟩
      try dsimp only
      replace A3 := hid' (bk_call A3.out h4)
      replace C3 := hid' (bk_call C3.out h4)
      replace F3 := hid' (F3.out.trans (h4.mono F3.out.size)))
    (
      replace M3 := hid' (bk_call M3.out h4)
      replace N3 := hid' (bk_call N3.out h4)
      clear h4
      obtain ⟨a30, a31, _, _⟩ := cells2 A3.out
      obtain ⟨c30, c31, _, _⟩ := cells2 C3.out
      obtain ⟨m30, m31, _, _⟩ := cells2 M3.out
      obtain ⟨n30, n31, _, _⟩ := cells2 N3.out
      have q1 := bk_lt A3.out
      have q2 := bk_lt C3.out
      have q3 := bk_lt M3.out
      have q4 := bk_lt N3.out)
    cases x2
    · cases mb
      · cases cv
        · clear F1
          go_wp2_with fail
          (
            clear a30 a31 c30 c31 m30 m31 n30 n31 q1 q2 q3 q4)
          (
            with_reducible refine ((K6.out) _).mono ?_
            rintro e_ w4 ⟨rfl, h4⟩
            try dsimp only
            replace A3 := hid' (bk_call A3.out h4)
            replace C3 := hid' (bk_call C3.out h4)
            replace F3 := hid' (F3.out.trans (h4.mono F3.out.size)))
          (
            replace M3 := hid' (bk_call M3.out h4)
            replace N3 := hid' (bk_call N3.out h4)
            clear h4
            obtain ⟨a30, a31, _, _⟩ := cells2 A3.out
            obtain ⟨c30, c31, _, _⟩ := cells2 C3.out
            obtain ⟨m30, m31, _, _⟩ := cells2 M3.out
            obtain ⟨n30, n31, _, _⟩ := cells2 N3.out
            have q1 := bk_lt A3.out
            have q2 := bk_lt C3.out
            have q3 := bk_lt M3.out
            have q4 := bk_lt N3.out)
          go_wp2_with fail
          (
            (
              clear a30 a31 c30 c31 m30 m31 n30 n31 q1 q2 q3 q4)
            clear K1 K2 K4 K5 K6 F2
            (
              with_reducible refine ((K7.out) _).mono ?_
              rintro e_ w4 ⟨rfl, h4⟩
              try dsimp only
              replace A3 := hid' (bk_call A3.out h4)
              replace C3 := hid' (bk_call C3.out h4)
              replace F3 := hid' (F3.out.trans (h4.mono F3.out.size)))
            (
              replace M3 := hid' (bk_call M3.out h4)
              replace N3 := hid' (bk_call N3.out h4)
              clear h4
              obtain ⟨a30, a31, _, _⟩ := cells2 A3.out
              obtain ⟨c30, c31, _, _⟩ := cells2 C3.out
              obtain ⟨m30, m31, _, _⟩ := cells2 M3.out
              obtain ⟨n30, n31, _, _⟩ := cells2 N3.out
              have q1 := bk_lt A3.out
              have q2 := bk_lt C3.out
              have q3 := bk_lt M3.out
              have q4 := bk_lt N3.out)
            cases hce : (ce == 0)
            · have hcn : (ce != 0) = true := by simpa [bne] using hce
              clear F4 K7 K3 K8 K9
              go_wp2
              go_ret
              exact ⟨rfl, (F3.out.alloc F3.out.size _).alloc (by have := F3.out.size; simp; omega) _⟩
            · have F5 := hid' (F4.out hce)
              obtain rfl : ce = 0 := by simpa using hce
              clear F4 hce K7
              cases y1 <;> cases y2
              all_goals first
                | (exfalso; have F6 := F5.out; revert F6; clear F5; decide; done)
                | (clear F5; (
                               go_wp2_with fail
                               have U3 := hid' (al2_0 w4 (.cells #[.string u1, .string v1] 23) (.cells #[.string u2, .string v2] 23))
                               have V3 := hid' (al2_1 w4 (.cells #[.string u1, .string v1] 23) (.cells #[.string u2, .string v2] 23))
                               replace A3 := hid' (bk_al (bk_al A3.out (.cells #[.string u1, .string v1] 23)) (.cells #[.string u2, .string v2] 23))
                               have Z3 : w.heap.size ≤ (World.alloc w4 (.cells #[.string u1, .string v1] 23)).heap.size := by have := F3.out.size; simp; omega
                               replace F3 := hid' ((F3.out.alloc F3.out.size (.cells #[.string u1, .string v1] 23)).alloc Z3 (.cells #[.string u2, .string v2] 23))
                               clear Z3 C3 M3 N3
                               (
                                 clear a30 a31 c30 c31 m30 m31 n30 n31 q1 q2 q3 q4)
                               generalize hgu : w4.heap.size = gu at U3 V3 ⊢
                               generalize World.alloc (World.alloc w4 _) _ = w7 at A3 U3 V3 F3 ⊢
                               clear hgu
                               obtain ⟨a30, a31, _, _⟩ := cells2 A3.out
                               obtain ⟨u30, u31, _, _⟩ := cells2 U3.out
                               obtain ⟨v30, v31, _, _⟩ := cells2 V3.out
                               have k1 := cell_regrown a30
                               have k2 := cell_regrown a31
                               have k3 := cell_regrown u30
                               have k4 := cell_regrown u31
                               have k5 := cell_regrown v30
                               have k6 := cell_regrown v31
                               have G1 := hid' (rg (w := w7) (fun W _ => K3.out W))
                               have G2 := hid' (rg (w := w7) (fun W _ => K8.out W))
                               have G3 := hid' (rg (w := w7) (fun W _ => K9.out W))
                               clear a30 a31 u30 u31 v30 v31 K3 K8 K9 A3 U3 V3
                               refine wp_region_quiet_below (by kernel_rfl) (by kernel_rfl) ?_
                               repeat (quiet_step (first | with_reducible exact G1.out _ _ | with_reducible exact G2.out _ _ | with_reducible exact G3.out _ _))
                               refine wpQuiet_nil ?_
                               rintro w' ⟨⟨dq, osq⟩, rfl⟩
                               have hq := below_regrown w7 dq osq
                               dsimp only
                               generalize grow (redrawn w7 dq) osq = w8 at hq ⊢
                               have f3 := hid' (F3.out.trans (hq.mono F3.out.size))
                               clear hq F3 G1 G2 G3 k1 k2 k3 k4 k5 k6
                               go_wp2
                               go_ret
                               exact ⟨rfl, f3.out⟩)))
        · exact absurd (F2.out rfl).1 (by simp)
      · have h1 : xm = false := by simpa using F1.out
        subst h1
        clear F1
        go_wp2_with fail
        (
          clear a30 a31 c30 c31 m30 m31 n30 n31 q1 q2 q3 q4)
        (
          with_reducible refine ((K5.out) _).mono ?_
          rintro e_ w4 ⟨rfl, h4⟩
          try dsimp only
          replace A3 := hid' (bk_call A3.out h4)
          replace C3 := hid' (bk_call C3.out h4)
          replace F3 := hid' (F3.out.trans (h4.mono F3.out.size)))
        (
          replace M3 := hid' (bk_call M3.out h4)
          replace N3 := hid' (bk_call N3.out h4)
          clear h4
          obtain ⟨a30, a31, _, _⟩ := cells2 A3.out
          obtain ⟨c30, c31, _, _⟩ := cells2 C3.out
          obtain ⟨m30, m31, _, _⟩ := cells2 M3.out
          obtain ⟨n30, n31, _, _⟩ := cells2 N3.out
          have q1 := bk_lt A3.out
          have q2 := bk_lt C3.out
          have q3 := bk_lt M3.out
          have q4 := bk_lt N3.out)
        go_wp2_with fail
        (
          clear a30 a31 c30 c31 m30 m31 n30 n31 q1 q2 q3 q4)
        (
          with_reducible refine ((K6.out) _).mono ?_
          rintro e_ w4 ⟨rfl, h4⟩
          try dsimp only
          replace A3 := hid' (bk_call A3.out h4)
          replace C3 := hid' (bk_call C3.out h4)
          replace F3 := hid' (F3.out.trans (h4.mono F3.out.size)))
        (
          replace M3 := hid' (bk_call M3.out h4)
          replace N3 := hid' (bk_call N3.out h4)
          clear h4
          obtain ⟨a30, a31, _, _⟩ := cells2 A3.out
          obtain ⟨c30, c31, _, _⟩ := cells2 C3.out
          obtain ⟨m30, m31, _, _⟩ := cells2 M3.out
          obtain ⟨n30, n31, _, _⟩ := cells2 N3.out
          have q1 := bk_lt A3.out
          have q2 := bk_lt C3.out
          have q3 := bk_lt M3.out
          have q4 := bk_lt N3.out)
        cases cv
        · go_wp2_with fail
          (
            (
              clear a30 a31 c30 c31 m30 m31 n30 n31 q1 q2 q3 q4)
            clear K1 K2 K4 K5 K6 F2
            (
              with_reducible refine ((K7.out) _).mono ?_
              rintro e_ w4 ⟨rfl, h4⟩
              try dsimp only
              replace A3 := hid' (bk_call A3.out h4)
              replace C3 := hid' (bk_call C3.out h4)
              replace F3 := hid' (F3.out.trans (h4.mono F3.out.size)))
            (
              replace M3 := hid' (bk_call M3.out h4)
              replace N3 := hid' (bk_call N3.out h4)
              clear h4
              obtain ⟨a30, a31, _, _⟩ := cells2 A3.out
              obtain ⟨c30, c31, _, _⟩ := cells2 C3.out
              obtain ⟨m30, m31, _, _⟩ := cells2 M3.out
              obtain ⟨n30, n31, _, _⟩ := cells2 N3.out
              have q1 := bk_lt A3.out
              have q2 := bk_lt C3.out
              have q3 := bk_lt M3.out
              have q4 := bk_lt N3.out)
            cases hce : (ce == 0)
            · have hcn : (ce != 0) = true := by simpa [bne] using hce
              clear F4 K7 K3 K8 K9
              go_wp2
              go_ret
              exact ⟨rfl, (F3.out.alloc F3.out.size _).alloc (by have := F3.out.size; simp; omega) _⟩
            · have F5 := hid' (F4.out hce)
              obtain rfl : ce = 0 := by simpa using hce
              clear F4 hce K7
              cases y1 <;> cases y2
              all_goals first
                | (exfalso; have F6 := F5.out; revert F6; clear F5; decide; done)
                | (clear F5; (
                               go_wp2_with fail
                               have U3 := hid' (al2_0 w4 (.cells #[.string u1, .string v1] 23) (.cells #[.string u2, .string v2] 23))
                               have V3 := hid' (al2_1 w4 (.cells #[.string u1, .string v1] 23) (.cells #[.string u2, .string v2] 23))
                               replace A3 := hid' (bk_al (bk_al A3.out (.cells #[.string u1, .string v1] 23)) (.cells #[.string u2, .string v2] 23))
                               have Z3 : w.heap.size ≤ (World.alloc w4 (.cells #[.string u1, .string v1] 23)).heap.size := by have := F3.out.size; simp; omega
                               replace F3 := hid' ((F3.out.alloc F3.out.size (.cells #[.string u1, .string v1] 23)).alloc Z3 (.cells #[.string u2, .string v2] 23))
                               clear Z3 C3 M3 N3
                               (
                                 clear a30 a31 c30 c31 m30 m31 n30 n31 q1 q2 q3 q4)
                               generalize hgu : w4.heap.size = gu at U3 V3 ⊢
                               generalize World.alloc (World.alloc w4 _) _ = w7 at A3 U3 V3 F3 ⊢
                               clear hgu
                               obtain ⟨a30, a31, _, _⟩ := cells2 A3.out
                               obtain ⟨u30, u31, _, _⟩ := cells2 U3.out
                               obtain ⟨v30, v31, _, _⟩ := cells2 V3.out
                               have k1 := cell_regrown a30
                               have k2 := cell_regrown a31
                               have k3 := cell_regrown u30
                               have k4 := cell_regrown u31
                               have k5 := cell_regrown v30
                               have k6 := cell_regrown v31
                               have G1 := hid' (rg (w := w7) (fun W _ => K3.out W))
                               have G2 := hid' (rg (w := w7) (fun W _ => K8.out W))
                               have G3 := hid' (rg (w := w7) (fun W _ => K9.out W))
                               clear a30 a31 u30 u31 v30 v31 K3 K8 K9 A3 U3 V3
                               refine wp_region_quiet_below (by kernel_rfl) (by kernel_rfl) ?_
                               repeat (quiet_step (first | with_reducible exact G1.out _ _ | with_reducible exact G2.out _ _ | with_reducible exact G3.out _ _))
                               refine wpQuiet_nil ?_
                               rintro w' ⟨⟨dq, osq⟩, rfl⟩
                               have hq := below_regrown w7 dq osq
                               dsimp only
                               generalize grow (redrawn w7 dq) osq = w8 at hq ⊢
                               have f3 := hid' (F3.out.trans (hq.mono F3.out.size))
                               clear hq F3 G1 G2 G3 k1 k2 k3 k4 k5 k6
                               go_wp2
                               go_ret
                               exact ⟨rfl, f3.out⟩)))
        · obtain ⟨_, hp, hq⟩ := F2.out rfl
          subst hp hq
          go_wp2_with fail
          (
            (
              clear a30 a31 c30 c31 m30 m31 n30 n31 q1 q2 q3 q4)
            clear K1 K2 K4 K5 K6 F2
            (
              with_reducible refine ((K7.out) _).mono ?_
              rintro e_ w4 ⟨rfl, h4⟩
              try dsimp only
              replace A3 := hid' (bk_call A3.out h4)
              replace C3 := hid' (bk_call C3.out h4)
              replace F3 := hid' (F3.out.trans (h4.mono F3.out.size)))
            (
              replace M3 := hid' (bk_call M3.out h4)
              replace N3 := hid' (bk_call N3.out h4)
              clear h4
              obtain ⟨a30, a31, _, _⟩ := cells2 A3.out
              obtain ⟨c30, c31, _, _⟩ := cells2 C3.out
              obtain ⟨m30, m31, _, _⟩ := cells2 M3.out
              obtain ⟨n30, n31, _, _⟩ := cells2 N3.out
              have q1 := bk_lt A3.out
              have q2 := bk_lt C3.out
              have q3 := bk_lt M3.out
              have q4 := bk_lt N3.out)
            cases hce : (ce == 0)
            · have hcn : (ce != 0) = true := by simpa [bne] using hce
              clear F4 K7 K3 K8 K9
              go_wp2
              go_ret
              exact ⟨rfl, (F3.out.alloc F3.out.size _).alloc (by have := F3.out.size; simp; omega) _⟩
            · have F5 := hid' (F4.out hce)
              obtain rfl : ce = 0 := by simpa using hce
              clear F4 hce K7
              cases y1 <;> cases y2
              all_goals first
                | (exfalso; have F6 := F5.out; revert F6; clear F5; decide; done)
                | (clear F5; (
                               go_wp2_with fail
                               have U3 := hid' (al2_0 w4 (.cells #[.string u1, .string v1] 23) (.cells #[.string u2, .string v2] 23))
                               have V3 := hid' (al2_1 w4 (.cells #[.string u1, .string v1] 23) (.cells #[.string u2, .string v2] 23))
                               replace A3 := hid' (bk_al (bk_al A3.out (.cells #[.string u1, .string v1] 23)) (.cells #[.string u2, .string v2] 23))
                               have Z3 : w.heap.size ≤ (World.alloc w4 (.cells #[.string u1, .string v1] 23)).heap.size := by have := F3.out.size; simp; omega
                               replace F3 := hid' ((F3.out.alloc F3.out.size (.cells #[.string u1, .string v1] 23)).alloc Z3 (.cells #[.string u2, .string v2] 23))
                               clear Z3 C3 M3 N3
                               (
                                 clear a30 a31 c30 c31 m30 m31 n30 n31 q1 q2 q3 q4)
                               generalize hgu : w4.heap.size = gu at U3 V3 ⊢
                               generalize World.alloc (World.alloc w4 _) _ = w7 at A3 U3 V3 F3 ⊢
                               clear hgu
                               obtain ⟨a30, a31, _, _⟩ := cells2 A3.out
                               obtain ⟨u30, u31, _, _⟩ := cells2 U3.out
                               obtain ⟨v30, v31, _, _⟩ := cells2 V3.out
                               have k1 := cell_regrown a30
                               have k2 := cell_regrown a31
                               have k3 := cell_regrown u30
                               have k4 := cell_regrown u31
                               have k5 := cell_regrown v30
                               have k6 := cell_regrown v31
                               have G1 := hid' (rg (w := w7) (fun W _ => K3.out W))
                               have G2 := hid' (rg (w := w7) (fun W _ => K8.out W))
                               have G3 := hid' (rg (w := w7) (fun W _ => K9.out W))
                               clear a30 a31 u30 u31 v30 v31 K3 K8 K9 A3 U3 V3
                               refine wp_region_quiet_below (by kernel_rfl) (by kernel_rfl) ?_
                               repeat (quiet_step (first | with_reducible exact G1.out _ _ | with_reducible exact G2.out _ _ | with_reducible exact G3.out _ _))
                               refine wpQuiet_nil ?_
                               rintro w' ⟨⟨dq, osq⟩, rfl⟩
                               have hq := below_regrown w7 dq osq
                               dsimp only
                               generalize grow (redrawn w7 dq) osq = w8 at hq ⊢
                               have f3 := hid' (F3.out.trans (hq.mono F3.out.size))
                               clear hq F3 G1 G2 G3 k1 k2 k3 k4 k5 k6
                               go_wp2
                               go_ret
                               exact ⟨rfl, f3.out⟩)))
    · have h1 : mb = true ∧ xm = true := by simpa using F1.out
      obtain ⟨h1, h2⟩ := h1
      subst h1 h2
      clear F1
      go_wp2_with fail
      (
        clear a30 a31 c30 c31 m30 m31 n30 n31 q1 q2 q3 q4)
      (
        with_reducible refine ((K5.out) _).mono ?_
        rintro e_ w4 ⟨rfl, h4⟩
        try dsimp only
        replace A3 := hid' (bk_call A3.out h4)
        replace C3 := hid' (bk_call C3.out h4)
        replace F3 := hid' (F3.out.trans (h4.mono F3.out.size)))
      (
        replace M3 := hid' (bk_call M3.out h4)
        replace N3 := hid' (bk_call N3.out h4)
        clear h4
        obtain ⟨a30, a31, _, _⟩ := cells2 A3.out
        obtain ⟨c30, c31, _, _⟩ := cells2 C3.out
        obtain ⟨m30, m31, _, _⟩ := cells2 M3.out
        obtain ⟨n30, n31, _, _⟩ := cells2 N3.out
        have q1 := bk_lt A3.out
        have q2 := bk_lt C3.out
        have q3 := bk_lt M3.out
        have q4 := bk_lt N3.out)
      go_wp2_with fail
      (
        clear a30 a31 c30 c31 m30 m31 n30 n31 q1 q2 q3 q4)
      (
        with_reducible refine ((K6.out) _).mono ?_
        rintro e_ w4 ⟨rfl, h4⟩
        try dsimp only
        replace A3 := hid' (bk_call A3.out h4)
        replace C3 := hid' (bk_call C3.out h4)
        replace F3 := hid' (F3.out.trans (h4.mono F3.out.size)))
      (
        replace M3 := hid' (bk_call M3.out h4)
        replace N3 := hid' (bk_call N3.out h4)
        clear h4
        obtain ⟨a30, a31, _, _⟩ := cells2 A3.out
        obtain ⟨c30, c31, _, _⟩ := cells2 C3.out
        obtain ⟨m30, m31, _, _⟩ := cells2 M3.out
        obtain ⟨n30, n31, _, _⟩ := cells2 N3.out
        have q1 := bk_lt A3.out
        have q2 := bk_lt C3.out
        have q3 := bk_lt M3.out
        have q4 := bk_lt N3.out)
      cases cv
      · go_wp2_with fail
        (
          (
            clear a30 a31 c30 c31 m30 m31 n30 n31 q1 q2 q3 q4)
          clear K1 K2 K4 K5 K6 F2
          (
            with_reducible refine ((K7.out) _).mono ?_
            rintro e_ w4 ⟨rfl, h4⟩
            try dsimp only
            replace A3 := hid' (bk_call A3.out h4)
            replace C3 := hid' (bk_call C3.out h4)
            replace F3 := hid' (F3.out.trans (h4.mono F3.out.size)))
          (
            replace M3 := hid' (bk_call M3.out h4)
            replace N3 := hid' (bk_call N3.out h4)
            clear h4
            obtain ⟨a30, a31, _, _⟩ := cells2 A3.out
            obtain ⟨c30, c31, _, _⟩ := cells2 C3.out
            obtain ⟨m30, m31, _, _⟩ := cells2 M3.out
            obtain ⟨n30, n31, _, _⟩ := cells2 N3.out
            have q1 := bk_lt A3.out
            have q2 := bk_lt C3.out
            have q3 := bk_lt M3.out
            have q4 := bk_lt N3.out)
          cases hce : (ce == 0)
          · have hcn : (ce != 0) = true := by simpa [bne] using hce
            clear F4 K7 K3 K8 K9
            go_wp2
            go_ret
            exact ⟨rfl, (F3.out.alloc F3.out.size _).alloc (by have := F3.out.size; simp; omega) _⟩
          · have F5 := hid' (F4.out hce)
            obtain rfl : ce = 0 := by simpa using hce
            clear F4 hce K7
            cases y1 <;> cases y2
            all_goals first
              | (exfalso; have F6 := F5.out; revert F6; clear F5; decide; done)
              | (clear F5; (
                             go_wp2_with fail
                             have U3 := hid' (al2_0 w4 (.cells #[.string u1, .string v1] 23) (.cells #[.string u2, .string v2] 23))
                             have V3 := hid' (al2_1 w4 (.cells #[.string u1, .string v1] 23) (.cells #[.string u2, .string v2] 23))
                             replace A3 := hid' (bk_al (bk_al A3.out (.cells #[.string u1, .string v1] 23)) (.cells #[.string u2, .string v2] 23))
                             have Z3 : w.heap.size ≤ (World.alloc w4 (.cells #[.string u1, .string v1] 23)).heap.size := by have := F3.out.size; simp; omega
                             replace F3 := hid' ((F3.out.alloc F3.out.size (.cells #[.string u1, .string v1] 23)).alloc Z3 (.cells #[.string u2, .string v2] 23))
                             clear Z3 C3 M3 N3
                             (
                               clear a30 a31 c30 c31 m30 m31 n30 n31 q1 q2 q3 q4)
                             generalize hgu : w4.heap.size = gu at U3 V3 ⊢
                             generalize World.alloc (World.alloc w4 _) _ = w7 at A3 U3 V3 F3 ⊢
                             clear hgu
                             obtain ⟨a30, a31, _, _⟩ := cells2 A3.out
                             obtain ⟨u30, u31, _, _⟩ := cells2 U3.out
                             obtain ⟨v30, v31, _, _⟩ := cells2 V3.out
                             have k1 := cell_regrown a30
                             have k2 := cell_regrown a31
                             have k3 := cell_regrown u30
                             have k4 := cell_regrown u31
                             have k5 := cell_regrown v30
                             have k6 := cell_regrown v31
                             have G1 := hid' (rg (w := w7) (fun W _ => K3.out W))
                             have G2 := hid' (rg (w := w7) (fun W _ => K8.out W))
                             have G3 := hid' (rg (w := w7) (fun W _ => K9.out W))
                             clear a30 a31 u30 u31 v30 v31 K3 K8 K9 A3 U3 V3
                             refine wp_region_quiet_below (by kernel_rfl) (by kernel_rfl) ?_
                             repeat (quiet_step (first | with_reducible exact G1.out _ _ | with_reducible exact G2.out _ _ | with_reducible exact G3.out _ _))
                             refine wpQuiet_nil ?_
                             rintro w' ⟨⟨dq, osq⟩, rfl⟩
                             have hq := below_regrown w7 dq osq
                             dsimp only
                             generalize grow (redrawn w7 dq) osq = w8 at hq ⊢
                             have f3 := hid' (F3.out.trans (hq.mono F3.out.size))
                             clear hq F3 G1 G2 G3 k1 k2 k3 k4 k5 k6
                             go_wp2
                             go_ret
                             exact ⟨rfl, f3.out⟩)))
      · obtain ⟨_, hp, hq⟩ := F2.out rfl
        subst hp hq
        go_wp2_with fail
        (
          (
            clear a30 a31 c30 c31 m30 m31 n30 n31 q1 q2 q3 q4)
          clear K1 K2 K4 K5 K6 F2
          (
            with_reducible refine ((K7.out) _).mono ?_
            rintro e_ w4 ⟨rfl, h4⟩
            try dsimp only
            replace A3 := hid' (bk_call A3.out h4)
            replace C3 := hid' (bk_call C3.out h4)
            replace F3 := hid' (F3.out.trans (h4.mono F3.out.size)))
          (
            replace M3 := hid' (bk_call M3.out h4)
            replace N3 := hid' (bk_call N3.out h4)
            clear h4
            obtain ⟨a30, a31, _, _⟩ := cells2 A3.out
            obtain ⟨c30, c31, _, _⟩ := cells2 C3.out
            obtain ⟨m30, m31, _, _⟩ := cells2 M3.out
            obtain ⟨n30, n31, _, _⟩ := cells2 N3.out
            have q1 := bk_lt A3.out
            have q2 := bk_lt C3.out
            have q3 := bk_lt M3.out
            have q4 := bk_lt N3.out)
          cases hce : (ce == 0)
          · have hcn : (ce != 0) = true := by simpa [bne] using hce
            clear F4 K7 K3 K8 K9
            go_wp2
            go_ret
            exact ⟨rfl, (F3.out.alloc F3.out.size _).alloc (by have := F3.out.size; simp; omega) _⟩
          · have F5 := hid' (F4.out hce)
            obtain rfl : ce = 0 := by simpa using hce
            clear F4 hce K7
            cases y1 <;> cases y2
            all_goals first
              | (exfalso; have F6 := F5.out; revert F6; clear F5; decide; done)
              | (clear F5; (
                             go_wp2_with fail
                             have U3 := hid' (al2_0 w4 (.cells #[.string u1, .string v1] 23) (.cells #[.string u2, .string v2] 23))
                             have V3 := hid' (al2_1 w4 (.cells #[.string u1, .string v1] 23) (.cells #[.string u2, .string v2] 23))
                             replace A3 := hid' (bk_al (bk_al A3.out (.cells #[.string u1, .string v1] 23)) (.cells #[.string u2, .string v2] 23))
                             have Z3 : w.heap.size ≤ (World.alloc w4 (.cells #[.string u1, .string v1] 23)).heap.size := by have := F3.out.size; simp; omega
                             replace F3 := hid' ((F3.out.alloc F3.out.size (.cells #[.string u1, .string v1] 23)).alloc Z3 (.cells #[.string u2, .string v2] 23))
                             clear Z3 C3 M3 N3
                             (
                               clear a30 a31 c30 c31 m30 m31 n30 n31 q1 q2 q3 q4)
                             generalize hgu : w4.heap.size = gu at U3 V3 ⊢
                             generalize World.alloc (World.alloc w4 _) _ = w7 at A3 U3 V3 F3 ⊢
                             clear hgu
                             obtain ⟨a30, a31, _, _⟩ := cells2 A3.out
                             obtain ⟨u30, u31, _, _⟩ := cells2 U3.out
                             obtain ⟨v30, v31, _, _⟩ := cells2 V3.out
                             have k1 := cell_regrown a30
                             have k2 := cell_regrown a31
                             have k3 := cell_regrown u30
                             have k4 := cell_regrown u31
                             have k5 := cell_regrown v30
                             have k6 := cell_regrown v31
                             have G1 := hid' (rg (w := w7) (fun W _ => K3.out W))
                             have G2 := hid' (rg (w := w7) (fun W _ => K8.out W))
                             have G3 := hid' (rg (w := w7) (fun W _ => K9.out W))
                             clear a30 a31 u30 u31 v30 v31 K3 K8 K9 A3 U3 V3
                             refine wp_region_quiet_below (by kernel_rfl) (by kernel_rfl) ?_
                             repeat (quiet_step (first | with_reducible exact G1.out _ _ | with_reducible exact G2.out _ _ | with_reducible exact G3.out _ _))
                             refine wpQuiet_nil ?_
                             rintro w' ⟨⟨dq, osq⟩, rfl⟩
                             have hq := below_regrown w7 dq osq
                             dsimp only
                             generalize grow (redrawn w7 dq) osq = w8 at hq ⊢
                             have f3 := hid' (F3.out.trans (hq.mono F3.out.size))
                             clear hq F3 G1 G2 G3 k1 k2 k3 k4 k5 k6
                             go_wp2
                             go_ret
                             exact ⟨rfl, f3.out⟩)))
end Go.Proofs.Ytpinofeknilgfaa
