/-
  What the document says of ranges is what the program says. Conditions: none beyond each law's own.
-/
import Derived.Test.YtggnajpokhaaiaaLr
import Derived.Test.YtggnajpokhaaiaaSpanM
namespace Go.Proofs.Ytggnajpokhaaiaa
set_option linter.unusedVariables false
set_option linter.unusedSimpArgs false
@[reducible] def Key : Type := List UInt8
theorem k_nlt {a b : Key} : ¬ a < b ↔ b ≤ a := List.not_lt
def kok (k : Key) : Prop := 1 ≤ List.length k ∧ List.length k ≤ 12
theorem ck_ok {k : Key} : span_CheckKey k = 0 ↔ kok k := by
  unfold span_CheckKey kok
  split
  · constructor
    · intro h; cases h
    · intro h; omega
  · split
    · constructor
      · intro h; cases h
      · intro h; omega
    · exact ⟨fun _ => by omega, fun _ => rfl⟩
theorem kne_len {k : Key} : k ≠ [] ↔ 1 ≤ k.length := by cases k <;> simp
theorem kK {k : Key} : kok k ↔ M.K k := Iff.rfl
theorem sc_R {r : RangeD} : span_Check r = 0 ↔ M.R r.xLo r.xHi := by
  have a := ck_ok (k := r.xLo); have b := ck_ok (k := r.xHi)
  have la := kne_len (k := r.xLo); have lb := kne_len (k := r.xHi)
  have nn := @k_nlt r.xLo r.xHi
  unfold span_Check M.R
  rw [← kK, ← kK]
  simp only [bnd]
  by_cases h1 : r.xLo = []
  · by_cases h2 : r.xHi = []
    · simp [h1, h2]
    · by_cases h3 : span_CheckKey r.xHi = 0
      · have z1 := M.nil_lt h2
        have z2 : ¬ r.xHi ≤ [] := fun q => k_nlt.2 q z1
        simp [h1, h2, h3, b.1 h3, z1, z2]
      · have h3' : ¬ kok r.xHi := fun q => h3 (b.2 q)
        simp [h1, h2, h3, h3']
  · by_cases h0 : span_CheckKey r.xLo = 0
    · by_cases h2 : r.xHi = []
      · simp [h1, h2, h0, a.1 h0]
      · by_cases h3 : span_CheckKey r.xHi = 0
        · by_cases h4 : r.xHi ≤ r.xLo
          · simp [h1, h2, h3, h0, h4, a.1 h0, b.1 h3]
          · simp [h1, h2, h3, h0, h4, a.1 h0, b.1 h3]; grind
        · have h3' : ¬ kok r.xHi := fun q => h3 (b.2 q)
          simp [h1, h2, h3, h0, h3']
    · have h0' : ¬ kok r.xLo := fun q => h0 (a.2 q)
      simp [h1, h0, h0']
theorem sc_01 {r : RangeD} : span_Check r = 0 ∨ span_Check r = 21 := by
  unfold span_Check; simp only [bnd]
  repeat' split
  all_goals first | exact .inl rfl | exact .inr rfl
theorem rc_R {r : RangeD} : r02_Check r = 0 ↔ M.R r.xLo r.xHi := by
  have la := kne_len (k := r.xLo); have lb := kne_len (k := r.xHi)
  have nn := @k_nlt r.xLo r.xHi
  have z1 : r.xHi ≠ [] → [] < r.xHi := M.nil_lt
  have z2 : r.xHi ≠ [] → ¬ r.xHi ≤ [] := fun h q => k_nlt.2 q (z1 h)
  unfold r02_Check M.R M.K
  by_cases h1 : r.xLo = [] <;> by_cases h2 : r.xHi = [] <;> by_cases h3 : ((List.length r.xLo : Nat) : Int) > 12 <;> by_cases h4 : ((List.length r.xHi : Nat) : Int) > 12 <;> by_cases h5 : r.xHi ≤ r.xLo <;> simp_all <;> grind
theorem rc_01 {r : RangeD} : r02_Check r = 0 ∨ r02_Check r = 21 := by
  unfold r02_Check
  repeat' split
  all_goals first | exact .inl rfl | exact .inr rfl
theorem sc_eq (r : RangeD) : span_Check r = r02_Check r := by
  have h := (sc_R (r := r)).trans rc_R.symm
  rcases sc_01 (r := r) with a | a <;> rcases rc_01 (r := r) with b | b <;> simp_all
theorem ls_eq (a b : Key) : span_lesserHi a b = M.ls a b := by
  unfold span_lesserHi M.ls
  by_cases h1 : a = []
  · rw [if_pos h1, if_pos h1]
  · rw [if_neg h1, if_neg h1]
    by_cases h2 : b = []
    · rw [if_neg (fun q => q h2), if_pos h2]
    · rw [if_pos h2, if_neg h2]
theorem mxL (a b : Key) : maxL a b = M.mx a b := rfl
theorem sb_B {a b : Key} : span_below a b = true ↔ M.B a b := by
  unfold span_below M.B
  by_cases h1 : b = []
  · rw [if_pos h1]; exact ⟨fun _ => .inl h1, fun _ => rfl⟩
  · rw [if_neg h1, decide_eq_true_eq]; exact ⟨.inr, fun h => h.resolve_left h1⟩
theorem mt_of {r s : RangeD} (h : M.M r.xLo r.xHi s.xLo s.xHi) : span_Meet r s = (RangeD.mk (M.mx r.xLo s.xLo) (M.ls r.xHi s.xHi), true) := by
  unfold span_Meet
  simp only [bnd_eq, ls_eq, mxL]
  rw [if_pos (sc_R.2 h.1), if_pos (sc_R.2 h.2.1), if_pos (sb_B.2 h.2.2)]
theorem mt_no {r s : RangeD} (h : ¬ M.M r.xLo r.xHi s.xLo s.xHi) : span_Meet r s = (RangeD.mk [] [], false) := by
  unfold span_Meet
  simp only [bnd_eq, ls_eq, mxL]
  by_cases h1 : span_Check r = 0
  · by_cases h2 : span_Check s = 0
    · rw [if_pos h1, if_pos h2, if_neg (fun q => h ⟨sc_R.1 h1, sc_R.1 h2, sb_B.1 q⟩)]
    · rw [if_pos h1, if_neg h2]
  · rw [if_neg h1]
theorem cov_C {r s : RangeD} : span_Covers r s = true ↔ M.C r.xLo r.xHi s.xLo s.xHi := by
  unfold span_Covers M.C
  rw [bnd_eq]
  by_cases h : M.M r.xLo r.xHi s.xLo s.xHi
  · rw [mt_of h]
    simp only [↓reduceIte, decide_eq_true_eq]
    exact ⟨fun q => ⟨h, q⟩, fun q => q.2⟩
  · rw [mt_no h]
    exact ⟨fun q => (by cases q), fun q => absurd q.1 h⟩
theorem rcv_C {r s : RangeD} : r02_Covers r s = true ↔ M.C r.xLo r.xHi s.xLo s.xHi := by
  rw [M.C_iff]
  unfold r02_Covers r02_below
  simp only [bnd_eq]
  have a := rc_R (r := r); have b := rc_R (r := s)
  have nn := @k_nlt r.xHi s.xHi
  rw [← a, ← b]
  by_cases h1 : r02_Check r = 0 <;> by_cases h2 : r02_Check s = 0 <;> by_cases h3 : r.xLo ≤ s.xLo <;> by_cases h4 : r.xHi = [] <;> by_cases h5 : s.xHi = [] <;> by_cases h6 : r.xHi < s.xHi <;> simp_all
theorem cov_eq (r s : RangeD) : span_Covers r s = r02_Covers r s := by
  have h := (cov_C (r := r) (s := s)).trans rcv_C.symm
  cases a : span_Covers r s <;> cases b : r02_Covers r s <;> simp_all
theorem rmt {r s : RangeD} (h : M.M r.xLo r.xHi s.xLo s.xHi) : (r02_Meet r s).2 = true := by
  obtain ⟨h1, h2, h3⟩ := h
  have hmx : maxL r.xLo s.xLo = M.mx r.xLo s.xLo := rfl
  have hls : (if r02_below s.xHi r.xHi = true then s.xHi else r.xHi) = M.ls r.xHi s.xHi := by
    unfold r02_below M.ls
    by_cases g1 : s.xHi = []
    · rw [g1]; simp
    · by_cases g2 : r.xHi = []
      · rw [g2]; simp [g1]
      · by_cases g3 : s.xHi < r.xHi <;> simp [g1, g2, g3]
  unfold r02_Meet
  simp only [bnd_eq, hmx]
  rw [if_pos (rc_R.2 h1), if_pos (rc_R.2 h2)]
  have hls' : (if r02_below s.xHi r.xHi = true then s.xHi else r.xHi) = M.ls r.xHi s.xHi := hls
  rw [hls']
  unfold M.B at h3
  by_cases g : M.ls r.xHi s.xHi = []
  · rw [if_neg (by simp [g])]
  · rw [if_pos g]
    have := h3.resolve_left g
    rw [if_neg (fun q => (k_nlt.2 q) this)]
theorem mt_M {r s : RangeD} : (span_Meet r s).2 = true ↔ M.M r.xLo r.xHi s.xLo s.xHi := by
  by_cases h : M.M r.xLo r.xHi s.xLo s.xHi
  · rw [mt_of h]; exact ⟨fun _ => h, fun _ => rfl⟩
  · rw [mt_no h]; exact ⟨fun q => (by cases q), fun q => absurd q h⟩
theorem rmt_no {r s : RangeD} (h : (r02_Meet r s).2 = true) : M.M r.xLo r.xHi s.xLo s.xHi := by
  have hmx : maxL r.xLo s.xLo = M.mx r.xLo s.xLo := rfl
  have hls : (if r02_below s.xHi r.xHi = true then s.xHi else r.xHi) = M.ls r.xHi s.xHi := by
    unfold r02_below M.ls
    by_cases g1 : s.xHi = []
    · rw [g1]; simp
    · by_cases g2 : r.xHi = []
      · rw [g2]; simp [g1]
      · by_cases g3 : s.xHi < r.xHi <;> simp [g1, g2, g3]
  unfold r02_Meet at h
  simp only [bnd_eq, hmx, hls] at h
  by_cases h1 : r02_Check r = 0
  · by_cases h2 : r02_Check s = 0
    · rw [if_pos h1, if_pos h2] at h
      refine ⟨rc_R.1 h1, rc_R.1 h2, ?_⟩
      unfold M.B
      by_cases g : M.ls r.xHi s.xHi = []
      · exact .inl g
      · rw [if_pos g] at h
        by_cases g2 : M.ls r.xHi s.xHi ≤ M.mx r.xLo s.xLo
        · rw [if_pos g2] at h; cases h
        · exact .inr (List.not_le.1 g2)
    · rw [if_pos h1, if_neg h2] at h; cases h
  · rw [if_neg h1] at h; cases h
theorem meet_eq (r s : RangeD) : (r02_Meet r s).2 = (span_Meet r s).2 := by
  have h : (r02_Meet r s).2 = true ↔ (span_Meet r s).2 = true := ⟨fun h => mt_M.2 (rmt_no h), fun h => rmt (mt_M.1 h)⟩
  cases a : (r02_Meet r s).2 <;> cases b : (span_Meet r s).2 <;> simp_all
end Go.Proofs.Ytggnajpokhaaiaa
