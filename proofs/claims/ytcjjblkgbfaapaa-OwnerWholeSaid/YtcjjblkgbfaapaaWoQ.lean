/-
  PROVED HERE: op tells of operations what the document's answer tells; what Apply does, one operation after another.
  Conditions: none beyond the statements' own.
-/
import Derived.Test.YtcjjblkgbfaapaaOc
namespace Go.Proofs.Ytcjjblkgbfaapaa
set_option linter.unusedVariables false
set_option linter.unusedSimpArgs false
open Go.ChangeShapes
theorem ce_cons (x : OpD) (l : List OpD) : op_checkEach (x :: l) = if op_CheckOp x = 0 then op_checkEach l else op_CheckOp x := by
  unfold op_checkEach
  show lp (if op_CheckOp x = 0 then op_checkEach_L0 l else .inr (op_CheckOp x)) _ = _
  by_cases h : op_CheckOp x = 0
  · rw [if_pos h, if_pos h]
  · rw [if_neg h, if_neg h]; rfl
theorem ce_0 {l : List OpD} : op_checkEach l = 0 ↔ ∀ o ∈ l, op_CheckOp o = 0 := by
  refine ⟨op_each_ok0, fun h => ?_⟩
  induction l with
  | nil => rfl
  | cons x q ih => rw [ce_cons, if_pos (h x (.head _))]; exact ih fun o ho => h o (.tail _ ho)
theorem co_kind {o : OpD} (h : op_CheckOp o = 0) : 1 ≤ o.xKind ∧ o.xKind ≤ 5 := op_each_kind h
def run : List PairD → List OpD → List PairD × List ResultT
  | m, [] => (m, [])
  | m, o :: l => ((run (stp m o).1 l).1, (stp m o).2 :: (run (stp m o).1 l).2)
theorem apply_L : ∀ (l : List OpD) (m : List PairD) (rs : List ResultT), op_Apply_L0 l m rs = ((run m l).1, rs ++ (run m l).2)
  | [], m, rs => by rw [op_Apply_L0]; show _ = (m, rs ++ []); rw [List.append_nil]
  | x :: q, m, rs => by
    have e : op_Apply_L0 (x :: q) m rs = op_Apply_L0 q (stp m x).1 (rs ++ [(stp m x).2]) := by
      rw [op_Apply_L0]
      unfold stp
      simp only [bnd_eq]
      split
      · rfl
      split
      · rfl
      split
      · rfl
      split <;> rfl
    rw [e, apply_L q, List.append_assoc]; rfl
theorem apply_ok {m : List PairD} {l : List OpD} (hm : op_CheckMap m = 0) (hl : op_checkEach l = 0) : op_Apply m l = ((run m l).1, (run m l).2, 0) := by
  unfold op_Apply
  rw [bnd_eq, if_pos hm, bnd_eq, if_pos hl, bnd_eq, apply_L, List.nil_append]
theorem apply_bad {m : List PairD} {l : List OpD} (h : ¬ (op_CheckMap m = 0 ∧ op_checkEach l = 0)) : op_Apply m l = ([], [], if op_CheckMap m = 0 then op_checkEach l else op_CheckMap m) ∧ ¬ (if op_CheckMap m = 0 then op_checkEach l else op_CheckMap m) = 0 := by
  unfold op_Apply
  rw [bnd_eq]
  by_cases hm : op_CheckMap m = 0
  · have hl : ¬ op_checkEach l = 0 := fun hl => h ⟨hm, hl⟩
    rw [if_pos hm, if_pos hm, bnd_eq, if_neg hl]
    exact ⟨rfl, hl⟩
  · rw [if_neg hm, if_neg hm]
    exact ⟨rfl, hm⟩
theorem stp_keep {m : List PairD} {o : OpD} (hm : op_CheckMap m = 0) (ho : op_CheckOp o = 0) : op_CheckMap (stp m o).1 = 0 := by
  have hk := co_kind ho
  unfold stp
  by_cases h1 : o.xKind = 1
  · rw [if_pos h1]; exact cm_get rfl hm
  rw [if_neg h1]
  by_cases h2 : o.xKind = 2
  · rw [if_pos h2]; exact cm_put rfl hm ho h2
  rw [if_neg h2]
  by_cases h3 : o.xKind = 3
  · rw [if_pos h3]; exact cm_del rfl hm
  rw [if_neg h3]
  by_cases h4 : o.xKind = 4
  · rw [if_pos h4]; exact cm_scan rfl hm ho h4
  rw [if_neg h4]
  exact cm_wipe rfl hm ho (by omega)
theorem run_keep : ∀ {l : List OpD} {m : List PairD}, op_CheckMap m = 0 → (∀ o ∈ l, op_CheckOp o = 0) → op_CheckMap (run m l).1 = 0
  | [], _, hm, _ => hm
  | x :: q, _, hm, h => run_keep (l := q) (stp_keep hm (h x (.head _))) fun o ho => h o (.tail _ ho)
theorem run_len : ∀ (l : List OpD) (m : List PairD), (run m l).2.length = l.length
  | [], _ => rfl
  | x :: q, m => congrArg (· + 1) (run_len q _)
-- a map in three, by what stands in it
theorem flt_all {α : Type} {p : α → Bool} {l : List α} (h : ∀ x ∈ l, p x = true) : l.filter p = l := List.filter_eq_self.2 h
theorem flt_none {α : Type} {p : α → Bool} {l : List α} (h : ∀ x ∈ l, ¬ p x = true) : l.filter p = [] := List.filter_eq_nil_iff.2 h
theorem C3.flt {m a e d : List PairD} {k : Key} (h : C3 m k a e d) : a = m.filter (fun p => decide (p.xKey < k)) ∧ e = m.filter (fun p => decide (p.xKey = k)) ∧ d = m.filter (fun p => decide (k < p.xKey)) := by
  have he : ∀ p ∈ e, p.xKey = k := fun p hp => by
    rcases h.mid with rfl | ⟨v, rfl⟩
    · cases hp
    · rw [List.mem_singleton.1 hp]
  rw [h.app]
  simp only [List.filter_append]
  refine ⟨?_, ?_, ?_⟩
  · rw [flt_all (l := a) fun p hp => decide_eq_true (h.lo p hp), flt_none (l := e) fun p hp hq => k_irr k (by rw [he p hp] at hq; exact of_decide_eq_true hq),
      flt_none (l := d) fun p hp hq => k_irr k (k_tr (h.hi p hp) (of_decide_eq_true hq))]; simp
  · rw [flt_none (l := a) fun p hp hq => k_irr k (by have := h.lo p hp; rwa [of_decide_eq_true hq] at this), flt_all (l := e) fun p hp => decide_eq_true (he p hp),
      flt_none (l := d) fun p hp hq => k_irr k (by have := h.hi p hp; rwa [of_decide_eq_true hq] at this)]; simp
  · rw [flt_none (l := a) fun p hp hq => k_irr k (k_tr (of_decide_eq_true hq) (h.lo p hp)), flt_none (l := e) fun p hp hq => k_irr k (by rw [he p hp] at hq; exact of_decide_eq_true hq),
      flt_all (l := d) fun p hp => decide_eq_true (h.hi p hp)]; simp
theorem C3.uniq {m a e d a' e' d' : List PairD} {k : Key} (h : C3 m k a e d) (h' : C3 m k a' e' d') : a = a' ∧ e = e' ∧ d = d' :=
  ⟨h.flt.1.trans h'.flt.1.symm, h.flt.2.1.trans h'.flt.2.1.symm, h.flt.2.2.trans h'.flt.2.2.symm⟩
theorem get_of {m a e d : List PairD} {o : OpD} (hs : srt m) (h : C3 m o.xKey a e d) : (e = [] ∧ op_get m o = (m, noR)) ∨ (∃ v, e = [PairD.mk o.xKey v] ∧ op_get m o = (m, ResultT.mk true v (Ll.mk []))) := by
  obtain ⟨a', e', d', h', e1, e2⟩ := find3 hs o.xKey
  obtain ⟨rfl, rfl, rfl⟩ := h.uniq h'
  exact get3 h e1 e2
theorem put_of {m a e d : List PairD} {o : OpD} (hs : srt m) (h : C3 m o.xKey a e d) : op_put m o = (a ++ PairD.mk o.xKey o.xValue :: d, noR) := by
  obtain ⟨a', e', d', h', e1, e2⟩ := find3 hs o.xKey
  obtain ⟨rfl, rfl, rfl⟩ := h.uniq h'
  exact put3 h e1 e2
theorem del_of {m a e d : List PairD} {o : OpD} (hs : srt m) (h : C3 m o.xKey a e d) : op_del m o = (a ++ d, noR) := by
  obtain ⟨a', e', d', h', e1, e2⟩ := find3 hs o.xKey
  obtain ⟨rfl, rfl, rfl⟩ := h.uniq h'
  exact del3 h e1 e2
def inR (lo hi k : Key) : Bool := decide (¬ k < lo ∧ (hi = [] ∨ k < hi))
theorem Mid.flt {m a b c : List PairD} {lo hi : Key} (h : Mid m lo hi a b c) (hr : M.R lo hi) : b = m.filter (fun p => inR lo hi p.xKey) ∧ a ++ c = m.filter (fun p => !inR lo hi p.xKey) := by
  have ha : ∀ p ∈ a, inR lo hi p.xKey = false := fun p hp => decide_eq_false fun q => q.1 (h.lo p hp)
  have hb : ∀ p ∈ b, inR lo hi p.xKey = true := fun p hp => decide_eq_true (h.mid p hp)
  have hc : ∀ p ∈ c, inR lo hi p.xKey = false := fun p hp => decide_eq_false fun q => q.2.elim (h.hi p hp).1 (h.hi p hp).2
  rw [h.app]
  simp only [List.filter_append]
  constructor
  · rw [flt_none (l := a) fun p hp => by rw [ha p hp]; simp, flt_all (l := b) hb, flt_none (l := c) fun p hp => by rw [hc p hp]; simp]; simp
  · rw [flt_all (l := a) fun p hp => by rw [ha p hp]; rfl, flt_none (l := b) fun p hp => by rw [hb p hp]; simp, flt_all (l := c) fun p hp => by rw [hc p hp]; rfl]; simp
theorem wipe_of {m : List PairD} {o : OpD} (hs : srt m) (hr : M.R o.xLo o.xHi) : op_wipe m o = (m.filter (fun p => !inR o.xLo o.xHi p.xKey), noR) := by
  obtain ⟨a, b, c, h, e⟩ := bounds3 (r := RangeD.mk o.xLo o.xHi) hs hr
  rw [wipe3 h e, (h.flt hr).2]
theorem scan_of {m : List PairD} {o : OpD} (hs : srt m) (hr : M.R o.xLo o.xHi) (hm : 1 ≤ o.xMost) : op_scan m o = (m, ResultT.mk false [] (Ll.mk (List.take o.xMost.toNat (m.filter (fun p => inR o.xLo o.xHi p.xKey))))) := by
  obtain ⟨a, b, c, h, e⟩ := bounds3 (r := RangeD.mk o.xLo o.xHi) hs hr
  rw [scan3 h e hm, (h.flt hr).1]
end Go.Proofs.Ytcjjblkgbfaapaa
