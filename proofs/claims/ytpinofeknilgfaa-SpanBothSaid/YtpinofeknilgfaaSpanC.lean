/-
  Contracts of span.Covers, Cut, Point.
-/
import Derived.Test.YtpinofeknilgfaaSpanB
namespace Go.Proofs.Ytpinofeknilgfaa
open Go.RowKit

theorem leq_not (a b : ByteArray) : (Op.bytesLess a.toList b.toList || a.toList == b.toList) = !(lt b a) := by
  unfold lt
  rw [Proofs.bytesLess_eq, Proofs.bytesLess_eq]
  by_cases h1 : a.toList < b.toList
  · have h2 : ¬ b.toList < a.toList := List.lt_asymm h1
    simp [h1, h2]
  · by_cases h2 : b.toList < a.toList
    · have h3 : ¬ a.toList = b.toList := fun e => by rw [e] at h2; exact List.lt_irrefl _ h2
      simp [h1, h2, h3]
    · have h3 : a.toList = b.toList := List.le_antisymm h2 h1
      simp [h3]

def emp : Value := .agg #[.string ⟨#[]⟩, .string ⟨#[]⟩]
def meetV (lo1 hi1 lo2 hi2 : ByteArray) : Value := cond (meetB lo1 hi1 lo2 hi2) (.agg #[.string (mxS lo1 lo2), .string (lesserB hi1 hi2)]) emp

theorem Meet_any (lo1 hi1 lo2 hi2 : ByteArray) (w : World) : Calls Try.prog 18 #[.agg #[.string lo1, .string hi1], .agg #[.string lo2, .string hi2]] w fun e w' =>
    e = .returned (.tuple #[meetV lo1 hi1 lo2 hi2, .bool (meetB lo1 hi1 lo2 hi2)]) ∧ Below w.heap.size w w' := by
  cases h1 : okR lo1 hi1
  · have e : meetB lo1 hi1 lo2 hi2 = false := by simp [meetB, h1]
    unfold meetV; rw [e]
    exact Meet_no lo1 hi1 lo2 hi2 (by simp [h1]) w
  · cases h2 : okR lo2 hi2
    · have e : meetB lo1 hi1 lo2 hi2 = false := by simp [meetB, h2]
      unfold meetV; rw [e]
      exact Meet_no lo1 hi1 lo2 hi2 (by simp [h2]) w
    · have e : meetB lo1 hi1 lo2 hi2 = belowB (mxS lo1 lo2) (lesserB hi1 hi2) := by simp [meetB, h1, h2]
      unfold meetV; rw [e]
      refine (Meet_yes lo1 hi1 lo2 hi2 h1 h2 w).mono ?_
      rintro e w' ⟨rfl, hb⟩
      exact ⟨by cases belowB (mxS lo1 lo2) (lesserB hi1 hi2) <;> rfl, hb⟩

def coversB (lo1 hi1 lo2 hi2 : ByteArray) : Bool := meetB lo1 hi1 lo2 hi2 && (eqS (mxS lo1 lo2) lo2 && eqS (lesserB hi1 hi2) hi2)

set_option maxHeartbeats 1000000 in
theorem Covers_any (lo1 hi1 lo2 hi2 : ByteArray) (w : World) : Calls Try.prog 20 #[.agg #[.string lo1, .string hi1], .agg #[.string lo2, .string hi2]] w fun e w' =>
    e = .returned (.bool (coversB lo1 hi1 lo2 hi2)) ∧ Below w.heap.size w w' := by
  have K := Meet_any lo1 hi1 lo2 hi2
  unfold meetV at K
  unfold coversB
  cases hm : meetB lo1 hi1 lo2 hi2
  · rw [hm] at K
    have K := hid' K
    go_enter Try.func20, Try.ntmps20
    go_wp2_with fail
    refine (K.out _).mono ?_
    rintro e w1 ⟨rfl, hb⟩
    unfold emp
    dsimp only [cond]
    go_wp2
    go_ret
    refine ⟨rfl, ?_⟩
    refine Below.alloc ((al2_below w _ _).trans (hb.mono ?_)) (by have := hb.size; simp at this; omega) _
    simp <;> omega
  · rw [hm] at K
    obtain ⟨m, hm⟩ : ∃ m, mxS lo1 lo2 = m := ⟨_, rfl⟩
    obtain ⟨l, hl⟩ : ∃ l, lesserB hi1 hi2 = l := ⟨_, rfl⟩
    rw [hm, hl] at K ⊢
    have K := hid' K
    go_enter Try.func20, Try.ntmps20
    go_wp2_with fail
    refine (K.out _).mono ?_
    rintro e w1 ⟨rfl, hb⟩
    dsimp only [cond]
    obtain ⟨b0, b1, _, _⟩ := cells2 (blk_carry (al2_1 w _ _) hb (by simp))
    have hs := hb.size
    simp only [World.size_alloc] at hs
    have q1 : w.heap.size + 1 < w1.heap.size := by omega
    have hb := hid' hb
    clear hm hl
    go_wp2
    all_goals go_ret
    all_goals
      refine ⟨ret_b (by simp [eqS, *]), ?_⟩
      refine Below.alloc ((al2_below w _ _).trans (hb.out.mono ?_)) (by omega) _
      simp <;> omega

theorem Covers_b (lo1 hi1 lo2 hi2 : ByteArray) {b : Bool} (h : coversB lo1 hi1 lo2 hi2 = b) (w : World) : Calls Try.prog 20 #[.agg #[.string lo1, .string hi1], .agg #[.string lo2, .string hi2]] w fun e w' =>
    e = .returned (.bool b) ∧ Below w.heap.size w w' := by
  subst h; exact Covers_any lo1 hi1 lo2 hi2 w

/-- What Cut answers: the error, and the two ranges if there is none. -/
def cutE (lo hi at_ : ByteArray) : Int := if okR lo hi = true then (if okK at_ = true then (if (lt lo at_ && belowB at_ hi) = true then 0 else 21) else 20) else 21
def cutV1 (lo hi at_ : ByteArray) : Value := if cutE lo hi at_ = 0 then .agg #[.string lo, .string at_] else emp
def cutV2 (lo hi at_ : ByteArray) : Value := if cutE lo hi at_ = 0 then .agg #[.string at_, .string hi] else emp

set_option maxHeartbeats 1000000 in
theorem Cut_bad (lo hi at_ : ByteArray) (h : okR lo hi = false) (w : World) : Calls Try.prog 24 #[.agg #[.string lo, .string hi], .string at_] w fun e w' =>
    e = .returned (.tuple #[emp, emp, .int .i64 21]) ∧ Below w.heap.size w w' := by
  unfold emp
  go_enter Try.func24, Try.ntmps24
  go_wp2_with fail
  refine (Check_b lo hi h _).mono ?_
  rintro e w1 ⟨rfl, hb1⟩
  dsimp only [cond]
  obtain ⟨c0, c1, f0, f1⟩ := cells2 (blk_carry (al3_1 w _ _ _) hb1 (by simp <;> omega))
  obtain ⟨d0, d1, g0, g1⟩ := cells2 (blk_carry (al3_2 w _ _ _) hb1 (by simp))
  have hbb := hid' ((al3_below w _ _ _).trans (hb1.mono (by simp <;> omega)))
  clear hb1
  go_wp2
  refine bodyPost_ret (v := _) (by simp [results, Try.results24, go_sem, *]) rfl ⟨rfl, ?_⟩
  refine below_set (below_set (below_set (below_set hbb.out ?_ _) ?_ _) ?_ _) ?_ _ <;> omega

set_option maxHeartbeats 1000000 in
theorem Cut_key (lo hi at_ : ByteArray) (h : okR lo hi = true) (hk : okK at_ = false) (w : World) : Calls Try.prog 24 #[.agg #[.string lo, .string hi], .string at_] w fun e w' =>
    e = .returned (.tuple #[emp, emp, .int .i64 20]) ∧ Below w.heap.size w w' := by
  unfold emp
  go_enter Try.func24, Try.ntmps24
  go_wp2_with fail
  refine (Check_b lo hi h _).mono ?_
  rintro e w1 ⟨rfl, hb1⟩
  dsimp only [cond]
  obtain ⟨c0, c1, f0, f1⟩ := cells2 (blk_carry (al3_1 w _ _ _) hb1 (by simp <;> omega))
  obtain ⟨d0, d1, g0, g1⟩ := cells2 (blk_carry (al3_2 w _ _ _) hb1 (by simp))
  have hbb := hid' ((al3_below w _ _ _).trans (hb1.mono (by simp <;> omega)))
  clear hb1
  go_wp2_with (go_at_call 12; refine (CheckKey_b _ hk _).mono ?_; rintro e w' ⟨rfl, rfl⟩; dsimp only [cond])
  refine bodyPost_ret (v := _) (by simp [results, Try.results24, go_sem, *]) rfl ⟨rfl, ?_⟩
  refine below_set (below_set (below_set (below_set hbb.out ?_ _) ?_ _) ?_ _) ?_ _ <;> omega

set_option maxHeartbeats 2000000 in
theorem Cut_rest (lo hi at_ : ByteArray) (h : okR lo hi = true) (hk : okK at_ = true) (hc : (lt lo at_ && belowB at_ hi) = false) (w : World) : Calls Try.prog 24 #[.agg #[.string lo, .string hi], .string at_] w fun e w' =>
    e = .returned (.tuple #[emp, emp, .int .i64 21]) ∧ Below w.heap.size w w' := by
  unfold emp
  obtain ⟨bb, hb0⟩ : ∃ bb, belowB at_ hi = bb := ⟨_, rfl⟩
  rw [hb0] at hc
  have hbe := hid' hb0
  clear hb0
  have hlq : (Op.bytesLess at_.toList lo.toList || at_.toList == lo.toList) = !(lt lo at_) := leq_not at_ lo
  cases hl : lt lo at_ <;> cases bb
  all_goals
    rw [hl] at hlq hc
    try (exact absurd hc (by decide))
  all_goals
    simp only [Bool.not_true, Bool.not_false] at hlq
    clear hl hc
    go_enter Try.func24, Try.ntmps24
    go_wp2_with fail
    refine (Check_b lo hi h _).mono ?_
    rintro e w1 ⟨rfl, hb1⟩
    dsimp only [cond]
    obtain ⟨a0, a1, _, _⟩ := cells2 (blk_carry (al3_0 w _ _ _) hb1 (by simp <;> omega))
    obtain ⟨c0, c1, f0, f1⟩ := cells2 (blk_carry (al3_1 w _ _ _) hb1 (by simp <;> omega))
    obtain ⟨d0, d1, g0, g1⟩ := cells2 (blk_carry (al3_2 w _ _ _) hb1 (by simp))
    have hbb := hid' ((al3_below w _ _ _).trans (hb1.mono (by simp <;> omega)))
    clear hb1
    go_wp2_with (first | (go_at_call 12; refine (CheckKey_b _ hk _).mono ?_; rintro e w' ⟨rfl, rfl⟩; dsimp only [cond]) | (go_at_call 26; refine (below_b _ _ hbe.out _).mono ?_; rintro e w' ⟨rfl, rfl⟩))
    refine bodyPost_ret (v := _) (by simp [results, Try.results24, go_sem, *]) rfl ⟨rfl, ?_⟩
    refine below_set (below_set (below_set (below_set hbb.out ?_ _) ?_ _) ?_ _) ?_ _ <;> omega

set_option maxHeartbeats 2000000 in
theorem Cut_yes (lo hi at_ : ByteArray) (h : okR lo hi = true) (hk : okK at_ = true) (hl : lt lo at_ = true) (hbe : belowB at_ hi = true) (w : World) : Calls Try.prog 24 #[.agg #[.string lo, .string hi], .string at_] w fun e w' =>
    e = .returned (.tuple #[.agg #[.string lo, .string at_], .agg #[.string at_, .string hi], .int .i64 0]) ∧ Below w.heap.size w w' := by
  have hlq : (Op.bytesLess at_.toList lo.toList || at_.toList == lo.toList) = !(lt lo at_) := leq_not at_ lo
  rw [hl] at hlq
  simp only [Bool.not_true] at hlq
  have hbe := hid' hbe
  clear hl
  go_enter Try.func24, Try.ntmps24
  go_wp2_with fail
  refine (Check_b lo hi h _).mono ?_
  rintro e w1 ⟨rfl, hb1⟩
  dsimp only [cond]
  obtain ⟨a0, a1, _, _⟩ := cells2 (blk_carry (al3_0 w _ _ _) hb1 (by simp <;> omega))
  obtain ⟨c0, c1, f0, f1⟩ := cells2 (blk_carry (al3_1 w _ _ _) hb1 (by simp <;> omega))
  obtain ⟨d0, d1, g0, g1⟩ := cells2 (blk_carry (al3_2 w _ _ _) hb1 (by simp))
  have hbb := hid' ((al3_below w _ _ _).trans (hb1.mono (by simp <;> omega)))
  clear hb1
  go_wp2_with (first | (go_at_call 12; refine (CheckKey_b _ hk _).mono ?_; rintro e w' ⟨rfl, rfl⟩; dsimp only [cond]) | (go_at_call 26; refine (below_b _ _ hbe.out _).mono ?_; rintro e w' ⟨rfl, rfl⟩))
  go_region_held3 (fun w' => w'.cell? ⟨w.heap.size, 0, none⟩ = some (.string lo) ∧ w'.cell? ⟨w.heap.size, 1, none⟩ = some (.string hi)) (first | exact ⟨a0, a1⟩ | exact ⟨cell_drew (cell_far (cell_far (cell_far (cell_far a0 (by omega)) (by omega)) (by omega)) (by omega)), cell_drew (cell_far (cell_far (cell_far (cell_far a1 (by omega)) (by omega)) (by omega)) (by omega))⟩ | exact ⟨cell_drew (cell_far (cell_far a0 (by omega)) (by omega)), cell_drew (cell_far (cell_far a1 (by omega)) (by omega))⟩ | go_keep) (first | fail)
  go_goals
  all_goals (try go_wp2)
  all_goals
    refine bodyPost_ret (v := _) (by simp [results, Try.results24, go_sem, *]) rfl ⟨rfl, ?_⟩
    repeat (first | exact hbb.out | refine Below.drew ?_ | refine below_set ?_ ?_ _)
    all_goals omega

theorem Cut_any (lo hi at_ : ByteArray) (w : World) : Calls Try.prog 24 #[.agg #[.string lo, .string hi], .string at_] w fun e w' =>
    e = .returned (.tuple #[cutV1 lo hi at_, cutV2 lo hi at_, .int .i64 (cutE lo hi at_)]) ∧ Below w.heap.size w w' := by
  unfold cutV1 cutV2 cutE
  cases h : okR lo hi
  · exact Cut_bad lo hi at_ h w
  · cases hk : okK at_
    · exact Cut_key lo hi at_ h hk w
    · cases hc : (lt lo at_ && belowB at_ hi)
      · exact Cut_rest lo hi at_ h hk hc w
      · have := hc
        simp only [Bool.and_eq_true] at this
        exact Cut_yes lo hi at_ h hk this.1 this.2 w
end Go.Proofs.Ytpinofeknilgfaa
