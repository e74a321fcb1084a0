/-
  PROVED HERE: what the law OpTwice tells is true.
  Conditions: none beyond the statements' own.
-/
import Derived.Test.YtcognlpfeoabgaaOTwice
import Derived.Test.YtcognlpfeoabgaaOpL
namespace Go.Proofs.Ytcognlpfeoabgaa
set_option linter.unusedVariables false
open Go.ChangeShapes
theorem stp_twice {m : List PairD} {o : OpD} (hm : op_CheckMap m = 0) (ho : op_CheckOp o = 0) (hw : op_Writes o = true) : (stp (stp m o).1 o).1 = (stp m o).1 := by
  have hk := co_kind ho
  have hs := (cm_ok.1 hm).2
  have hs2 := (cm_ok.1 (stp_keep hm ho)).2
  unfold op_Writes at hw
  unfold stp at hs2 ⊢
  by_cases h1 : o.xKind = 1
  · rw [if_pos h1] at hw; cases hw
  rw [if_neg h1] at hw hs2 ⊢
  by_cases h2 : o.xKind = 2
  · rw [if_pos h2] at hs2 ⊢
    rw [if_neg h1, if_pos h2]
    obtain ⟨a, e, d, h, _⟩ := find3 hs o.xKey
    rw [put_of hs h] at hs2 ⊢
    rw [put_of (a := a) (e := [PairD.mk o.xKey o.xValue]) (d := d) hs2 ⟨rfl, h.lo, .inr ⟨_, rfl⟩, h.hi⟩]
  rw [if_neg h2] at hw hs2 ⊢
  by_cases h3 : o.xKind = 3
  · rw [if_pos h3] at hs2 ⊢
    rw [if_neg h1, if_neg h2, if_pos h3]
    obtain ⟨a, e, d, h, _⟩ := find3 hs o.xKey
    rw [del_of hs h] at hs2 ⊢
    rw [del_of (a := a) (e := []) (d := d) hs2 ⟨rfl, h.lo, .inl rfl, h.hi⟩]
  rw [if_neg h3] at hw hs2 ⊢
  by_cases h4 : o.xKind = 4
  · rw [if_pos h4] at hw; cases hw
  rw [if_neg h4] at hs2 ⊢
  rw [if_neg h1, if_neg h2, if_neg h3, if_neg h4]
  have hr := co_range ho (.inr (by omega))
  rw [wipe_of hs hr] at hs2 ⊢
  rw [wipe_of hs2 hr]
  simp only [List.filter_filter, Bool.and_self]
theorem T_OpTwice (l0 : List PairD) (p1 : OpD) : w04_OpTwice l0 p1 = true := by
  unfold w04_OpTwice
  simp only [bnd_eq, live_true]
  by_cases hw : op_Writes p1 = true
  · rw [if_pos hw]
    have c1 : op_checkEach [p1] = op_CheckOp p1 := by rw [ce_cons]; split <;> simp_all [op_checkEach, op_checkEach_L0, lp]
    have c2 : op_checkEach [p1, p1] = op_CheckOp p1 := by rw [ce_cons, c1]; split <;> simp_all
    by_cases h : op_CheckMap l0 = 0 ∧ op_CheckOp p1 = 0
    · rw [apply_ok h.1 (c1.trans h.2), apply_ok h.1 (c2.trans h.2)]
      have e : (run l0 [p1, p1]).1 = (run l0 [p1]).1 := stp_twice h.1 h.2 hw
      simp only [e, sm_refl, run_len, if_true]
      simp
    · obtain ⟨e1, h1⟩ := apply_bad (m := l0) (l := [p1]) (by rw [c1]; exact h)
      obtain ⟨e2, h2⟩ := apply_bad (m := l0) (l := [p1, p1]) (by rw [c2]; exact h)
      rw [e1, e2, c1, c2]
      rw [c1] at h1
      simp only
      rw [if_pos trivial, if_pos trivial, if_neg h1]
  · rw [if_neg hw]
end Go.Proofs.Ytcognlpfeoabgaa
