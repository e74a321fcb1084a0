/-
  The walk of the law SpanWhole.
-/
import Derived.Test.YtpinofeknilgfaaSpanQ
import Derived.Lib.QuietBelow
import Derived.BigQuiet
namespace Go.Proofs.Ytpinofeknilgfaa
open Go.RowKit Go.Sort

/-- Contracts that end in 'Below', met in a region whose order is open. -/
theorem rg {f : FuncId} {args : Array Value} {w : World} {v : Value} (h : ∀ W, Below w.heap.size w W → Calls Try.prog f args W fun e w' => e = .returned v ∧ Below W.heap.size W w') (d : Nat) (os : Array Obj) :
    Calls Try.prog f args (grow (redrawn w d) os) fun e w'' => e = .returned v ∧ ∃ p : Regrown, w'' = grow (redrawn w p.d) p.os := Calls.regrown_of (h _ (below_regrown w d os))

theorem CheckKey_bb (k : ByteArray) {b : Bool} (h : okK k = b) (w : World) : Calls Try.prog 12 #[.string k] w fun e w' => e = .returned (.int .i64 (cond b 0 20)) ∧ Below w.heap.size w w' :=
  (CheckKey_b k h w).mono fun _ _ ⟨he, hw⟩ => ⟨he, hw ▸ Below.refl _ _⟩

theorem cond0 (b : Bool) (x : Int) (hx : x ≠ 0) : ((cond b 0 x : Int) == 0) = b := by
  cases b
  · simpa using hx
  · rfl

theorem covers_all (l h : ByteArray) : coversB ⟨#[]⟩ ⟨#[]⟩ l h = okR l h := bool_ext (coversB_iff ..) (okR_iff ..) (by
  have e : (⟨#[]⟩ : ByteArray).toList = [] := by decide +kernel
  rw [e]; exact M.C_all ..)
theorem has_all (k : ByteArray) : hasB ⟨#[]⟩ ⟨#[]⟩ k = okK k := bool_ext (hasB_iff ..) (okK_iff ..) (by
  have e : (⟨#[]⟩ : ByteArray).toList = [] := by decide +kernel
  rw [e]; exact M.H_all ..)

set_option maxHeartbeats 1000000 in
set_option maxRecDepth 100000 in
theorem W_SpanWhole (a b : ByteArray) (_ : a.size ≤ maxLen) (_ : b.size ≤ maxLen) (c d : ByteArray) (_ : c.size ≤ maxLen) (_ : d.size ≤ maxLen) (e f : ByteArray) (_ : e.size ≤ maxLen) (_ : f.size ≤ maxLen) (k : ByteArray) (_ : k.size ≤ 140737488351232) (w : World) :
    Calls Try.prog 9 #[.agg #[.string a, .string b], .agg #[.string c, .string d], .agg #[.string e, .string f], .string k] w fun e w' => e = .returned (.bool true) ∧ Below w.heap.size w w' := by
  rename_i s1 s2 s3 s4 s5 s6 s7
  clear s1 s2 s3 s4 s5 s6 s7
  obtain ⟨b1, hb1⟩ : ∃ x, okR a b = x := ⟨_, rfl⟩
  obtain ⟨b2, hb2⟩ : ∃ x, okK k = x := ⟨_, rfl⟩
  have t1 := cond0 b1 21 (by decide)
  have t2 := cond0 b2 20 (by decide)
  have t3 : (b1 != b1) = false := by simp
  have t4 : (b2 != b2) = false := by simp
  obtain ⟨p, hp⟩ : ∃ x, coversB a b c d = x := ⟨_, rfl⟩
  obtain ⟨q, hq⟩ : ∃ x, coversB c d e f = x := ⟨_, rfl⟩
  obtain ⟨r, hr⟩ : ∃ x, coversB a b e f = x := ⟨_, rfl⟩
  obtain ⟨s, hs⟩ : ∃ x, coversB c d a b = x := ⟨_, rfl⟩
  have F1 : p = true → q = true → r = true := fun h1 h2 => by
    subst hp hq hr
    exact (coversB_iff ..).2 (M.C_trans ((coversB_iff ..).1 h1) ((coversB_iff ..).1 h2))
  have F2 : p = true → s = true → (a = c ∧ b = d) := fun h1 h2 => by
    subst hp hs
    have := M.C_anti ((coversB_iff ..).1 h1) ((coversB_iff ..).1 h2)
    exact ⟨ext_list this.1, ext_list this.2⟩
  have K1 := hid' (Covers_b _ _ a b ((covers_all a b).trans hb1))
  have K2 := hid' (Check_b a b hb1)
  have K3 := hid' (Has_b _ _ k ((has_all k).trans hb2))
  have K4 := hid' (CheckKey_bb k hb2)
  have K5 := hid' (Covers_b a b c d hp)
  have K6 := hid' (Covers_b c d e f hq)
  have K7 := hid' (Covers_b a b e f hr)
  have K8 := hid' (Covers_b c d a b hs)
  clear hb1 hb2 hp hq hr hs
  replace F1 := hid' F1
  replace F2 := hid' F2
  go_enter Try.func9, Try.ntmps9
  go_wp2_with fail
  refine (live_any _).mono ?_
  rintro e_ w1 ⟨rfl, h1⟩
  have a1 := bk_call (al3_0 w _ _ _) h1
  have c1 := bk_call (al3_1 w _ _ _) h1
  have e1 := bk_call (al3_2 w _ _ _) h1
  have f1 := (al3_below w _ _ _).trans (h1.mono (by simp <;> omega))
  go_wp2_with fail
  have a2 := bk_al a1 (.cells #[.string ⟨#[]⟩, .string ⟨#[]⟩] 23)
  have c2 := bk_al c1 (.cells #[.string ⟨#[]⟩, .string ⟨#[]⟩] 23)
  have e2 := bk_al e1 (.cells #[.string ⟨#[]⟩, .string ⟨#[]⟩] 23)
  have x2 := al_new w1 (.cells #[.string ⟨#[]⟩, .string ⟨#[]⟩] 23)
  have f2 := f1.alloc f1.size (.cells #[.string ⟨#[]⟩, .string ⟨#[]⟩] 23)
  generalize World.alloc w1 _ = w2 at a2 c2 e2 x2 f2 ⊢
  obtain ⟨a20, a21, _, _⟩ := cells2 a2
  obtain ⟨x20, x21, _, _⟩ := cells2 x2
  have k1 := cell_regrown a20
  have k2 := cell_regrown a21
  have k3 := cell_regrown x20
  have k4 := cell_regrown x21
  have g1 := rg (w := w2) (fun W _ => K1.out W)
  have g2 := rg (w := w2) (fun W _ => K2.out W)
  have g3 := rg (w := w2) (fun W _ => K3.out W)
  have g4 := rg (w := w2) (fun W _ => K4.out W)
  have G1 := hid' g1
  have G2 := hid' g2
  have G3 := hid' g3
  have G4 := hid' g4
  clear g1 g2 g3 g4 a1 c1 e1 h1 f1 a20 a21 x20 x21
  have A2 := hid' a2
  have C2 := hid' c2
  have E2 := hid' e2
  have FF := hid' f2
  clear a2 c2 e2 x2 f2
  refine wp_region_quiet_below (by kernel_rfl) (by kernel_rfl) ?_
  repeat (quiet_step (first | exact G1.out _ _ | exact G2.out _ _ | exact G3.out _ _ | exact G4.out _ _))
  refine wpQuiet_nil ?_
  rintro w' ⟨⟨dq, osq⟩, rfl⟩
  have hq := below_regrown w2 dq osq
  dsimp only
  generalize grow (redrawn w2 dq) osq = w3 at hq ⊢
  have a3 := bk_call A2.out hq
  have c3 := bk_call C2.out hq
  have e3 := bk_call E2.out hq
  have f3 := FF.out.trans (hq.mono FF.out.size)
  clear hq A2 C2 E2 FF G1 G2 G3 G4 k1 k2 k3 k4
  have A3 := hid' a3
  have C3 := hid' c3
  have E3 := hid' e3
  have F3 := hid' f3
  clear a3 c3 e3 f3
  clear K1 K2 K3 K4 t1 t2 t3 t4
  (
    obtain ⟨a30, a31, _, _⟩ := cells2 A3.out
    obtain ⟨c30, c31, _, _⟩ := cells2 C3.out
    obtain ⟨e30, e31, _, _⟩ := cells2 E3.out
    have q1 := bk_lt A3.out
    have q2 := bk_lt C3.out
    have q3 := bk_lt E3.out)
  cases p with
  | false =>
    clear F1 F2
    go_wp2_with fail
    (
      clear a30 a31 c30 c31 e30 e31 q1 q2 q3
      first
      | with_reducible refine (K5.out _).mono ?_
      | with_reducible refine (K6.out _).mono ?_
      | with_reducible refine (K7.out _).mono ?_
      | with_reducible refine (K8.out _).mono ?_
      rintro e_ w4 ⟨rfl, h4⟩
      try dsimp only
      replace A3 := hid' (bk_call A3.out h4)
      replace C3 := hid' (bk_call C3.out h4)
      replace E3 := hid' (bk_call E3.out h4)
      replace F3 := hid' (F3.out.trans (h4.mono F3.out.size))
      clear h4
      (
        obtain ⟨a30, a31, _, _⟩ := cells2 A3.out
        obtain ⟨c30, c31, _, _⟩ := cells2 C3.out
        obtain ⟨e30, e31, _, _⟩ := cells2 E3.out
        have q1 := bk_lt A3.out
        have q2 := bk_lt C3.out
        have q3 := bk_lt E3.out))
    go_wp2_with fail
    (
      clear a30 a31 c30 c31 e30 e31 q1 q2 q3
      first
      | with_reducible refine (K5.out _).mono ?_
      | with_reducible refine (K6.out _).mono ?_
      | with_reducible refine (K7.out _).mono ?_
      | with_reducible refine (K8.out _).mono ?_
      rintro e_ w4 ⟨rfl, h4⟩
      try dsimp only
      replace A3 := hid' (bk_call A3.out h4)
      replace C3 := hid' (bk_call C3.out h4)
      replace E3 := hid' (bk_call E3.out h4)
      replace F3 := hid' (F3.out.trans (h4.mono F3.out.size))
      clear h4
      (
        obtain ⟨a30, a31, _, _⟩ := cells2 A3.out
        obtain ⟨c30, c31, _, _⟩ := cells2 C3.out
        obtain ⟨e30, e31, _, _⟩ := cells2 E3.out
        have q1 := bk_lt A3.out
        have q2 := bk_lt C3.out
        have q3 := bk_lt E3.out))
    go_wp2
    go_ret
    exact ⟨rfl, F3.out⟩
  | true =>
    go_wp2_with fail
    (
      clear a30 a31 c30 c31 e30 e31 q1 q2 q3
      first
      | with_reducible refine (K5.out _).mono ?_
      | with_reducible refine (K6.out _).mono ?_
      | with_reducible refine (K7.out _).mono ?_
      | with_reducible refine (K8.out _).mono ?_
      rintro e_ w4 ⟨rfl, h4⟩
      try dsimp only
      replace A3 := hid' (bk_call A3.out h4)
      replace C3 := hid' (bk_call C3.out h4)
      replace E3 := hid' (bk_call E3.out h4)
      replace F3 := hid' (F3.out.trans (h4.mono F3.out.size))
      clear h4
      (
        obtain ⟨a30, a31, _, _⟩ := cells2 A3.out
        obtain ⟨c30, c31, _, _⟩ := cells2 C3.out
        obtain ⟨e30, e31, _, _⟩ := cells2 E3.out
        have q1 := bk_lt A3.out
        have q2 := bk_lt C3.out
        have q3 := bk_lt E3.out))
    go_wp2_with fail
    (
      clear a30 a31 c30 c31 e30 e31 q1 q2 q3
      first
      | with_reducible refine (K5.out _).mono ?_
      | with_reducible refine (K6.out _).mono ?_
      | with_reducible refine (K7.out _).mono ?_
      | with_reducible refine (K8.out _).mono ?_
      rintro e_ w4 ⟨rfl, h4⟩
      try dsimp only
      replace A3 := hid' (bk_call A3.out h4)
      replace C3 := hid' (bk_call C3.out h4)
      replace E3 := hid' (bk_call E3.out h4)
      replace F3 := hid' (F3.out.trans (h4.mono F3.out.size))
      clear h4
      (
        obtain ⟨a30, a31, _, _⟩ := cells2 A3.out
        obtain ⟨c30, c31, _, _⟩ := cells2 C3.out
        obtain ⟨e30, e31, _, _⟩ := cells2 E3.out
        have q1 := bk_lt A3.out
        have q2 := bk_lt C3.out
        have q3 := bk_lt E3.out))
    cases q with
    | true =>
      have hr : r = true := by have := F1.out; revert this; cases r <;> simp
      subst hr
      clear F1
      go_wp2_with fail
      (
        clear a30 a31 c30 c31 e30 e31 q1 q2 q3
        first
        | with_reducible refine (K5.out _).mono ?_
        | with_reducible refine (K6.out _).mono ?_
        | with_reducible refine (K7.out _).mono ?_
        | with_reducible refine (K8.out _).mono ?_
        rintro e_ w4 ⟨rfl, h4⟩
        try dsimp only
        replace A3 := hid' (bk_call A3.out h4)
        replace C3 := hid' (bk_call C3.out h4)
        replace E3 := hid' (bk_call E3.out h4)
        replace F3 := hid' (F3.out.trans (h4.mono F3.out.size))
        clear h4
        (
          obtain ⟨a30, a31, _, _⟩ := cells2 A3.out
          obtain ⟨c30, c31, _, _⟩ := cells2 C3.out
          obtain ⟨e30, e31, _, _⟩ := cells2 E3.out
          have q1 := bk_lt A3.out
          have q2 := bk_lt C3.out
          have q3 := bk_lt E3.out))
      go_wp2_with fail
      (
        clear a30 a31 c30 c31 e30 e31 q1 q2 q3
        first
        | with_reducible refine (K5.out _).mono ?_
        | with_reducible refine (K6.out _).mono ?_
        | with_reducible refine (K7.out _).mono ?_
        | with_reducible refine (K8.out _).mono ?_
        rintro e_ w4 ⟨rfl, h4⟩
        try dsimp only
        replace A3 := hid' (bk_call A3.out h4)
        replace C3 := hid' (bk_call C3.out h4)
        replace E3 := hid' (bk_call E3.out h4)
        replace F3 := hid' (F3.out.trans (h4.mono F3.out.size))
        clear h4
        (
          obtain ⟨a30, a31, _, _⟩ := cells2 A3.out
          obtain ⟨c30, c31, _, _⟩ := cells2 C3.out
          obtain ⟨e30, e31, _, _⟩ := cells2 E3.out
          have q1 := bk_lt A3.out
          have q2 := bk_lt C3.out
          have q3 := bk_lt E3.out))
      go_wp2_with fail
      (
        clear a30 a31 c30 c31 e30 e31 q1 q2 q3
        first
        | with_reducible refine (K5.out _).mono ?_
        | with_reducible refine (K6.out _).mono ?_
        | with_reducible refine (K7.out _).mono ?_
        | with_reducible refine (K8.out _).mono ?_
        rintro e_ w4 ⟨rfl, h4⟩
        try dsimp only
        replace A3 := hid' (bk_call A3.out h4)
        replace C3 := hid' (bk_call C3.out h4)
        replace E3 := hid' (bk_call E3.out h4)
        replace F3 := hid' (F3.out.trans (h4.mono F3.out.size))
        clear h4
        (
          obtain ⟨a30, a31, _, _⟩ := cells2 A3.out
          obtain ⟨c30, c31, _, _⟩ := cells2 C3.out
          obtain ⟨e30, e31, _, _⟩ := cells2 E3.out
          have q1 := bk_lt A3.out
          have q2 := bk_lt C3.out
          have q3 := bk_lt E3.out))
      cases s with
      | true =>
        obtain ⟨hx, hy⟩ : a = c ∧ b = d := by have := F2.out; simpa using this
        subst hx hy
        clear F2 K5 K6 K7 K8
        go_wp2
        go_ret
        exact ⟨rfl, F3.out⟩
      | false =>
        clear F2 K5 K6 K7 K8
        go_wp2
        go_ret
        exact ⟨rfl, F3.out⟩
    | false =>
      clear F1
      go_wp2_with fail
      (
        clear a30 a31 c30 c31 e30 e31 q1 q2 q3
        first
        | with_reducible refine (K5.out _).mono ?_
        | with_reducible refine (K6.out _).mono ?_
        | with_reducible refine (K7.out _).mono ?_
        | with_reducible refine (K8.out _).mono ?_
        rintro e_ w4 ⟨rfl, h4⟩
        try dsimp only
        replace A3 := hid' (bk_call A3.out h4)
        replace C3 := hid' (bk_call C3.out h4)
        replace E3 := hid' (bk_call E3.out h4)
        replace F3 := hid' (F3.out.trans (h4.mono F3.out.size))
        clear h4
        (
          obtain ⟨a30, a31, _, _⟩ := cells2 A3.out
          obtain ⟨c30, c31, _, _⟩ := cells2 C3.out
          obtain ⟨e30, e31, _, _⟩ := cells2 E3.out
          have q1 := bk_lt A3.out
          have q2 := bk_lt C3.out
          have q3 := bk_lt E3.out))
      go_wp2_with fail
      (
        clear a30 a31 c30 c31 e30 e31 q1 q2 q3
        first
        | with_reducible refine (K5.out _).mono ?_
        | with_reducible refine (K6.out _).mono ?_
        | with_reducible refine (K7.out _).mono ?_
        | with_reducible refine (K8.out _).mono ?_
        rintro e_ w4 ⟨rfl, h4⟩
        try dsimp only
        replace A3 := hid' (bk_call A3.out h4)
        replace C3 := hid' (bk_call C3.out h4)
        replace E3 := hid' (bk_call E3.out h4)
        replace F3 := hid' (F3.out.trans (h4.mono F3.out.size))
        clear h4
        (
          obtain ⟨a30, a31, _, _⟩ := cells2 A3.out
          obtain ⟨c30, c31, _, _⟩ := cells2 C3.out
          obtain ⟨e30, e31, _, _⟩ := cells2 E3.out
          have q1 := bk_lt A3.out
          have q2 := bk_lt C3.out
          have q3 := bk_lt E3.out))
      cases s with
      | true =>
        obtain ⟨hx, hy⟩ : a = c ∧ b = d := by have := F2.out; simpa using this
        subst hx hy
        clear F2 K5 K6 K7 K8
        go_wp2
        go_ret
        exact ⟨rfl, F3.out⟩
      | false =>
        clear F2 K5 K6 K7 K8
        go_wp2
        go_ret
        exact ⟨rfl, F3.out⟩
end Go.Proofs.Ytpinofeknilgfaa
