/-
  Contracts of the document's own answers for layer 2: CheckKey, Check, Has; the walk of SpanChecks.
-/
import Derived.Test.YtpinofeknilgfaaSpanR
namespace Go.Proofs.Ytpinofeknilgfaa
open Go.RowKit Go.Sort

theorem rKey_b (k : ByteArray) {b : Bool} (h : okK k = b) (w : World) : Calls Try.prog 13 #[.string k] w fun e w' => e = .returned (.int .i64 (cond b 0 20)) ∧ w = w' := by
  cases b
  · by_cases h1 : k.size < 1
    · clear h
      go_enter Try.func13, Try.ntmps13
      go_wp2
      go_ret
      exact ⟨rfl, rfl⟩
    · have h2 : 12 < k.size := by
        simp [okK] at h; omega
      clear h
      go_enter Try.func13, Try.ntmps13
      go_wp2
      go_ret
      exact ⟨rfl, rfl⟩
  · have h1 : 1 ≤ k.size ∧ k.size ≤ 12 := by simpa [okK] using h
    obtain ⟨h1, h2⟩ := h1
    clear h
    go_enter Try.func13, Try.ntmps13
    go_wp2
    go_ret
    exact ⟨rfl, rfl⟩

theorem rKey_bb (k : ByteArray) {b : Bool} (h : okK k = b) (w : World) : Calls Try.prog 13 #[.string k] w fun e w' => e = .returned (.int .i64 (cond b 0 20)) ∧ Below w.heap.size w w' :=
  (rKey_b k h w).mono fun _ _ ⟨he, hw⟩ => ⟨he, hw ▸ Below.refl _ _⟩

theorem leq_lt {a b : ByteArray} {c : Bool} (h : (lt a b || eqS a b) = c) : Op.bytesLess b.toList a.toList = !c := by
  have e : (lt a b || eqS a b) = !(lt b a) := leq_not a b
  rw [e] at h
  subst h
  simp [lt]

theorem em_size (s : ByteArray) : em s = decide (s.size = 0) := by
  unfold em
  rw [← key_len]
  cases s.toList <;> simp

theorem okR_short (lo hi : ByteArray) : okR lo hi = (decide (lo.size ≤ 12) && decide (hi.size ≤ 12) && (em hi || !(lt hi lo || eqS hi lo))) := by
  have e1 : (em lo || okK lo) = decide (lo.size ≤ 12) := by
    rw [em_size]; unfold okK
    by_cases a : lo.size = 0 <;> by_cases b : lo.size ≤ 12 <;> simp [a, b] <;> omega
  unfold okR
  rw [e1]
  cases hq : (lt hi lo || eqS hi lo)
  · have e2 : (em hi || okK hi) = decide (hi.size ≤ 12) := by
      rw [em_size]; unfold okK
      by_cases a : hi.size = 0 <;> by_cases b : hi.size ≤ 12 <;> simp [a, b] <;> omega
    simp [e2]
  · have : (em hi = true) → decide (hi.size ≤ 12) = true := by
      intro h; rw [em_size] at h; simp at h; simp [h]
    cases hh : em hi
    · simp
    · simp [this hh]

set_option maxHeartbeats 1000000 in
theorem rCheck_b (lo hi : ByteArray) {b : Bool} (h : okR lo hi = b) (w : World) : Calls Try.prog 15 #[.agg #[.string lo, .string hi]] w fun e w' => e = .returned (.int .i64 (cond b 0 21)) ∧ Below w.heap.size w w' := by
  subst h
  rw [okR_short]
  by_cases h1 : 12 < lo.size
  · have e : decide (lo.size ≤ 12) = false := by simp; omega
    rw [e]; clear e
    go_enter Try.func15, Try.ntmps15
    go_wp2
    go_ret
    exact ⟨rfl, below_alloc _ _⟩
  · have e : decide (lo.size ≤ 12) = true := by simp; omega
    rw [e]; clear e
    have h1' : lo.size ≤ 12 := by omega
    by_cases h2 : 12 < hi.size
    · have e : decide (hi.size ≤ 12) = false := by simp; omega
      rw [e]; clear e
      go_enter Try.func15, Try.ntmps15
      go_wp2
      go_ret
      exact ⟨rfl, below_alloc _ _⟩
    · have e : decide (hi.size ≤ 12) = true := by simp; omega
      rw [e]; clear e
      have h2' : hi.size ≤ 12 := by omega
      cases hh : em hi
      · have hh' : hi.toList.isEmpty = false := hh
        clear hh
        cases hq : (lt hi lo || eqS hi lo)
        all_goals
          have hq' := leq_lt hq
          clear hq
          go_enter Try.func15, Try.ntmps15
          go_wp2
          go_ret
          exact ⟨rfl, below_alloc _ _⟩
      · have hh' : hi.toList.isEmpty = true := hh
        clear hh
        go_enter Try.func15, Try.ntmps15
        go_wp2
        go_ret
        exact ⟨rfl, below_alloc _ _⟩

set_option maxHeartbeats 1000000 in
theorem rHas_b (lo hi k : ByteArray) {b : Bool} (h : hasB lo hi k = b) (w : World) : Calls Try.prog 17 #[.agg #[.string lo, .string hi], .string k] w fun e w' => e = .returned (.bool b) ∧ Below w.heap.size w w' := by
  subst h
  cases hr : okR lo hi
  · have e : hasB lo hi k = false := by simp [hasB, hr]
    rw [e]; clear e
    go_enter Try.func17, Try.ntmps17
    go_wp2_with fail
    refine (rCheck_b lo hi hr _).mono ?_
    rintro e w1 ⟨rfl, hb1⟩
    dsimp only [cond]
    go_wp2
    go_ret
    exact ⟨rfl, (below_alloc w _).trans (hb1.mono (by simp))⟩
  · cases hk : okK k
    · have e : hasB lo hi k = false := by simp [hasB, hr, hk]
      rw [e]; clear e
      go_enter Try.func17, Try.ntmps17
      go_wp2_with fail
      refine (rCheck_b lo hi hr _).mono ?_
      rintro e w1 ⟨rfl, hb1⟩
      dsimp only [cond]
      go_wp2_with (go_at_call_of 13 k; refine (rKey_b k hk _).mono ?_; rintro e w' ⟨rfl, rfl⟩; dsimp only [cond])
      go_ret
      exact ⟨rfl, (below_alloc w _).trans (hb1.mono (by simp))⟩
    · have e : hasB lo hi k = ((lt lo k || eqS lo k) && belowB k hi) := by simp only [hasB, hr, hk, Bool.true_and]
      rw [e]; clear e
      unfold belowB
      cases hq : (lt lo k || eqS lo k) <;> cases hh : em hi <;> cases hl : lt k hi
      all_goals
        have hq' := leq_lt hq
        have hh' : hi.toList.isEmpty = _ := hh
        have hl' : Op.bytesLess k.toList hi.toList = _ := hl
        clear hq hh hl
        go_enter Try.func17, Try.ntmps17
        go_wp2_with fail
        refine (rCheck_b lo hi hr _).mono ?_
        rintro e w1 ⟨rfl, hb1⟩
        dsimp only [cond]
        obtain ⟨hc0, hc1⟩ := box2 hb1
        go_wp2_with (go_at_call_of 13 k; refine (rKey_b k hk _).mono ?_; rintro e w' ⟨rfl, rfl⟩; dsimp only [cond])
        go_ret
        exact ⟨rfl, (below_alloc w _).trans (hb1.mono (by simp))⟩

set_option maxHeartbeats 1000000 in
set_option maxRecDepth 100000 in
theorem W_SpanChecks (a b : ByteArray) (_ : a.size ≤ maxLen) (_ : b.size ≤ maxLen) (k : ByteArray) (_ : k.size ≤ 140737488351232) (w : World) :
    Calls Try.prog 3 #[.agg #[.string a, .string b], .string k] w fun e w' => e = .returned (.bool true) ∧ Below w.heap.size w w' := by
  rename_i s1 s2 s3
  clear s1 s2 s3
  obtain ⟨b1, hb1⟩ : ∃ x, okR a b = x := ⟨_, rfl⟩
  obtain ⟨b2, hb2⟩ : ∃ x, okK k = x := ⟨_, rfl⟩
  obtain ⟨b3, hb3⟩ : ∃ x, hasB a b k = x := ⟨_, rfl⟩
  have K1 := hid' (CheckKey_bb k hb2)
  have K2 := hid' (rKey_bb k hb2)
  have K3 := hid' (Check_b a b hb1)
  have K4 := hid' (rCheck_b a b hb1)
  have K5 := hid' (Has_b a b k hb3)
  have K6 := hid' (rHas_b a b k hb3)
  clear hb1 hb2 hb3
  generalize (cond b1 0 21 : Int) = v1 at K3 K4
  generalize (cond b2 0 20 : Int) = v2 at K1 K2
  have t1 : (v1 == v1) = true := by simp
  have t2 : (v2 == v2) = true := by simp
  have t3 : (b3 == b3) = true := by simp
  go_enter Try.func3, Try.ntmps3
  go_wp2_with fail
  refine (live_any _).mono ?_
  rintro e_ w1 ⟨rfl, h1⟩
  have a1 := bk_call (al_new w (.cells #[.string a, .string b] 23)) h1
  have f1 := (below_alloc w _).trans (h1.mono (by simp))
  have FF := hid' f1
  obtain ⟨a20, a21, _, _⟩ := cells2 a1
  have k1 := cell_regrown a20
  have k2 := cell_regrown a21
  have G1 := hid' (rg (w := w1) (fun W _ => K1.out W))
  have G2 := hid' (rg (w := w1) (fun W _ => K2.out W))
  have G3 := hid' (rg (w := w1) (fun W _ => K3.out W))
  have G4 := hid' (rg (w := w1) (fun W _ => K4.out W))
  have G5 := hid' (rg (w := w1) (fun W _ => K5.out W))
  have G6 := hid' (rg (w := w1) (fun W _ => K6.out W))
  clear f1 h1 a1 a20 a21 K1 K2 K3 K4 K5 K6
  go_wp2_with fail
  refine wp_region_quiet_below (by kernel_rfl) (by kernel_rfl) ?_
  repeat (quiet_step (first | with_reducible exact G1.out _ _ | with_reducible exact G2.out _ _ | with_reducible exact G3.out _ _ | with_reducible exact G4.out _ _ | with_reducible exact G5.out _ _ | with_reducible exact G6.out _ _))
  refine wpQuiet_nil ?_
  rintro w' ⟨⟨dq, osq⟩, rfl⟩
  have hq := below_regrown w1 dq osq
  dsimp only
  generalize grow (redrawn w1 dq) osq = w3 at hq ⊢
  have f3 := hid' (FF.out.trans (hq.mono FF.out.size))
  clear hq FF G1 G2 G3 G4 G5 G6 k1 k2
  go_wp2
  go_ret
  exact ⟨rfl, f3.out⟩
end Go.Proofs.Ytpinofeknilgfaa
