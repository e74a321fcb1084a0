/-
  PROVED HERE: what the law OpTurns tells is true.
  Conditions: none beyond the statements' own.
-/
import Derived.Test.YtnakliogbipejaaOTurns
import Derived.Test.YtnakliogbipejaaOpR
namespace Go.Proofs.Ytnakliogbipejaa
set_option linter.unusedVariables false
set_option linter.unusedSimpArgs false
open Go.ChangeShapes
theorem sr_L (l : List ResultT) : ∀ (q : List ResultT) (k : Nat), List.drop k l = q → r04_SameResults_L0 l q k = .inl ()
  | [], _, _ => rfl
  | x :: q, k, h => by
    have hx : l[k]? = some x := by
      have e : (List.drop k l)[0]? = some x := by rw [h]; rfl
      rwa [List.getElem?_drop, Nat.add_zero] at e
    rw [r04_SameResults_L0, bnd_eq, getD_of hx, if_pos rfl, if_neg (fun q => q rfl), bnd_eq, sm_refl, if_pos rfl]
    exact sr_L l q (k + 1) (by rw [← List.drop_drop, h]; rfl)
theorem sr_refl (l : List ResultT) : r04_SameResults l l = true := by
  unfold r04_SameResults
  rw [if_pos rfl, sr_L l l 0 rfl]; rfl
theorem mt_M {r s : RangeD} : (span_Meet r s).2 = true ↔ M.M r.xLo r.xHi s.xLo s.xHi := by
  have hmx : maxL r.xLo s.xLo = M.mx r.xLo s.xLo := rfl
  have hls : span_lesserHi r.xHi s.xHi = M.ls r.xHi s.xHi := by
    unfold span_lesserHi M.ls
    by_cases h1 : r.xHi = []
    · rw [if_pos h1, if_pos h1]
    · rw [if_neg h1, if_neg h1]
      by_cases h2 : s.xHi = []
      · rw [if_neg (fun q => q h2), if_pos h2]
      · rw [if_pos h2, if_neg h2]
  unfold span_Meet span_below
  simp only [bnd_eq, hmx, hls]
  rcases sc_01 (r := r) with e1 | e1
  · rcases sc_01 (r := s) with e2 | e2
    · rw [if_pos e1, if_pos e2]
      have key : M.M r.xLo r.xHi s.xLo s.xHi ↔ M.B (M.mx r.xLo s.xLo) (M.ls r.xHi s.xHi) := ⟨fun h => h.2.2, fun h => ⟨sc_R.1 e1, sc_R.1 e2, h⟩⟩
      rw [key]
      unfold M.B
      by_cases h1 : M.ls r.xHi s.xHi = []
      · rw [if_pos h1, if_pos rfl]; simp [h1]
      · rw [if_neg h1]
        by_cases h2 : M.mx r.xLo s.xLo < M.ls r.xHi s.xHi
        · rw [if_pos (decide_eq_true h2)]; simp [h2]
        · rw [if_neg (by rw [decide_eq_true_eq]; exact h2)]; simp [h1, h2]
    · rw [if_pos e1, if_neg (by rw [e2]; decide)]
      constructor
      · intro h; cases h
      · intro h; have := sc_R.2 h.2.1; rw [e2] at this; cases this
  · rw [if_neg (by rw [e1]; decide)]
    constructor
    · intro h; cases h
    · intro h; have := sc_R.2 h.1; rw [e1] at this; cases this
theorem two_len (a b : ResultT) : ((List.length [a, b] : Nat) : Int) = 2 := rfl
theorem T_OpTurns (l0 : List PairD) (p1 : OpD) (p2 : OpD) : w04_OpTurns l0 p1 p2 = true := by
  unfold w04_OpTurns
  simp only [bnd_eq, live_true]
  by_cases ha : op_CheckOp p1 = 0
  · by_cases hb : op_CheckOp p2 = 0
    · rw [span_ok ha, span_ok hb]
      simp only [↓reduceIte]
      by_cases hc : (span_Meet (spn p1) (spn p2)).2 = true ∧ (op_Writes p1 = true ∨ op_Writes p2 = true)
      · rw [if_pos hc.1]
        by_cases w1 : op_Writes p1 = true
        · rw [if_pos w1]
        · rw [if_neg w1, if_pos (hc.2.resolve_left w1)]
      · have w1 : (span_Meet (spn p1) (spn p2)).2 = true → ¬ op_Writes p1 = true := fun h q => hc ⟨h, .inl q⟩
        have w2 : (span_Meet (spn p1) (spn p2)).2 = true → ¬ op_Writes p2 = true := fun h q => hc ⟨h, .inr q⟩
        have sw : op_CheckMap l0 = 0 → (stp (stp l0 p1).1 p2).1 = (stp (stp l0 p2).1 p1).1 ∧ (stp (stp l0 p1).1 p2).2 = (stp l0 p2).2 ∧ (stp (stp l0 p2).1 p1).2 = (stp l0 p1).2 := fun hm => by
          by_cases mt : (span_Meet (spn p1) (spn p2)).2 = true
          · have r1 := stp_read hm ha (Bool.not_eq_true _ ▸ w1 mt)
            have r2 := stp_read hm hb (Bool.not_eq_true _ ▸ w2 mt)
            rw [r1, r2]; exact ⟨r1.symm, rfl, rfl⟩
          · exact stp_swap hm ha hb fun k hk ta tb => mt (mt_M.2 (meet_of ((tch_H ha hk).1 ta) ((tch_H hb hk).1 tb)))
        have c1 : op_checkEach [p1, p2] = 0 := by rw [ce_cons, if_pos ha, ce_cons, if_pos hb]; rfl
        have c2 : op_checkEach [p2, p1] = 0 := by rw [ce_cons, if_pos hb, ce_cons, if_pos ha]; rfl
        by_cases mt : (span_Meet (spn p1) (spn p2)).2 = true <;> first | rw [if_pos mt, if_neg (w1 mt), if_neg (w2 mt)] | rw [if_neg mt]
        all_goals
          by_cases hm : op_CheckMap l0 = 0
          · obtain ⟨s1, s2, s3⟩ := sw hm
            rw [apply_ok hm c1, apply_ok hm c2]
            have r1 : run l0 [p1, p2] = ((stp (stp l0 p1).1 p2).1, [(stp l0 p1).2, (stp l0 p2).2]) := by
              show ((stp (stp l0 p1).1 p2).1, [(stp l0 p1).2, (stp (stp l0 p1).1 p2).2]) = _
              rw [s2]
            have r2 : run l0 [p2, p1] = ((stp (stp l0 p1).1 p2).1, [(stp l0 p2).2, (stp l0 p1).2]) := by
              show ((stp (stp l0 p2).1 p1).1, [(stp l0 p2).2, (stp (stp l0 p2).1 p1).2]) = _
              rw [s3, s1]
            rw [r1, r2]
            dsimp only
            simp only [sm_refl, ↓reduceIte]
            rw [if_pos (two_len _ _), if_pos (two_len _ _)]
            exact sr_refl [(stp l0 p1).2, (stp l0 p2).2]
          · have e1 := apply_bad (m := l0) (l := [p1, p2]) (fun q => hm q.1)
            have e2 := apply_bad (m := l0) (l := [p2, p1]) (fun q => hm q.1)
            rw [if_neg hm] at e1 e2
            rw [e1.1, e2.1]
            dsimp only
            rw [if_neg hm]
            simp
    · rw [span_bad hb]
      dsimp only
      rw [if_neg hb]
      simp
  · rw [span_bad ha]
    dsimp only
    rw [if_neg ha]
end Go.Proofs.Ytnakliogbipejaa
