/-
  PROVED HERE: what the law OpSees tells is true.
  Conditions: none beyond the statements' own.
-/
import Derived.Test.YtcognlpfeoabgaaOSees
import Derived.Test.YtcognlpfeoabgaaOpL
namespace Go.Proofs.Ytcognlpfeoabgaa
set_option linter.unusedVariables false
open Go.ChangeShapes
theorem sh_eq (r : RangeD) (k : Key) : span_Has r k = r02_Has r k := by
  unfold span_Has r02_Has span_below
  simp only [bnd_eq, sc_eq, ck_eq]
theorem find_L {k : Key} : ∀ {a : List PairD} (b : List PairD), (∀ p ∈ a, p.xKey ≠ k) → r04_Find_L0 k (a ++ b) = r04_Find_L0 k b
  | [], b, _ => rfl
  | x :: q, b, h => by
    show (if _ then _ else _) = _
    rw [if_neg (h x (.head _))]
    exact find_L b fun p hp => h p (.tail _ hp)
theorem find_of {m a e d : List PairD} {k : Key} (h : C3 m k a e d) : (e = [] ∧ r04_Find m k = ([], false)) ∨ (∃ v, e = [PairD.mk k v] ∧ r04_Find m k = (v, true)) := by
  have ha : ∀ p ∈ a, p.xKey ≠ k := fun p hp hq => k_irr k (by have := h.lo p hp; rwa [hq] at this)
  have hd : ∀ p ∈ d, p.xKey ≠ k := fun p hp hq => k_irr k (by have := h.hi p hp; rwa [hq] at this)
  rcases h.mid with he | ⟨v, he⟩
  · refine .inl ⟨he, ?_⟩
    unfold r04_Find
    rw [h.app, he, List.nil_append, find_L d ha, ← List.append_nil d, find_L [] hd]; rfl
  · refine .inr ⟨v, he, ?_⟩
    unfold r04_Find
    rw [h.app, he, find_L _ ha]
    show lp (if _ then _ else _) _ = _
    rw [if_pos rfl]; rfl
abbrev gt (k : Key) : OpD := OpD.mk 1 k [] [] [] 0
abbrev sc1 (k : Key) : OpD := OpD.mk 4 [] [] k [] 1
theorem scan1 {m a e d : List PairD} {k : Key} (hs : srt m) (hk : kok k) (h : C3 m k a e d) : op_scan m (sc1 k) = (m, ResultT.mk false [] (Ll.mk (List.take 1 (e ++ d)))) := by
  rw [scan_of hs (show M.R k [] from ⟨.inr hk, .inl rfl⟩) (show (1 : Int) ≤ 1 from by decide)]
  congr 4
  have ha : ∀ p ∈ a, inR k [] p.xKey = false := fun p hp => decide_eq_false fun q => q.1 (h.lo p hp)
  have he : ∀ p ∈ e, inR k [] p.xKey = true := fun p hp => decide_eq_true ⟨by
    rcases h.mid with rfl | ⟨v, rfl⟩
    · cases hp
    · rw [List.mem_singleton.1 hp]; exact k_irr k, .inl rfl⟩
  have hd : ∀ p ∈ d, inR k [] p.xKey = true := fun p hp => decide_eq_true ⟨fun q => k_irr k (k_tr (h.hi p hp) q), .inl rfl⟩
  show m.filter (fun p => inR k [] p.xKey) = _
  rw [h.app]
  simp only [List.filter_append]
  rw [flt_none (l := a) fun p hp => by rw [ha p hp]; simp, flt_all (l := e) he, flt_all (l := d) hd]; rfl
theorem stp_in {m : List PairD} {o : OpD} {k : Key} (hm : op_CheckMap m = 0) (ho : op_CheckOp o = 0) (hh : span_Has (spn o) k = true) :
    (o.xKind = 2 → ∃ a d, C3 (stp m o).1 k a [PairD.mk k o.xValue] d) ∧ (o.xKind = 3 → ∃ a d, C3 (stp m o).1 k a [] d) ∧ (o.xKind = 5 → ∀ p ∈ (stp m o).1, p.xKey ≠ k) := by
  have hs := (cm_ok.1 hm).2
  rw [sh_eq, rh_H] at hh
  unfold stp
  refine ⟨fun h => ?_, fun h => ?_, fun h => ?_⟩
  · rw [if_neg (by omega), if_pos h]
    unfold spn at hh
    rw [if_pos (by omega)] at hh
    obtain rfl := (ph_only (co_key ho (by omega))).1 hh
    obtain ⟨a, e, d, h3, _⟩ := find3 hs o.xKey
    rw [put_of hs h3]
    exact ⟨a, d, rfl, h3.lo, .inr ⟨_, rfl⟩, h3.hi⟩
  · rw [if_neg (by omega), if_neg (by omega), if_pos h]
    unfold spn at hh
    rw [if_pos (by omega)] at hh
    obtain rfl := (ph_only (co_key ho (by omega))).1 hh
    obtain ⟨a, e, d, h3, _⟩ := find3 hs o.xKey
    rw [del_of hs h3]
    exact ⟨a, d, rfl, h3.lo, .inl rfl, h3.hi⟩
  · rw [if_neg (by omega), if_neg (by omega), if_neg (by omega), if_neg (by omega), wipe_of hs (co_range ho (.inr h))]
    unfold spn at hh
    rw [if_neg (by omega)] at hh
    intro p hp hq
    have := (List.mem_filter.1 hp).2
    rw [hq] at this
    have h2 : inR o.xLo o.xHi k = true := decide_eq_true ⟨k_nlt.2 hh.2.2.1, hh.2.2.2⟩
    rw [h2] at this
    cases this
theorem T_OpSees (l0 : List PairD) (p1 : OpD) (p2 : List UInt8) : w04_OpSees l0 p1 p2 = true := by
  unfold w04_OpSees
  simp only [bnd_eq, live_true]
  by_cases h : op_CheckMap l0 = 0 ∧ op_checkEach [p1, gt p2, sc1 p2] = 0
  · rw [apply_ok h.1 h.2]
    have ho := ce_0.1 h.2
    have ho1 : op_CheckOp p1 = 0 := ho p1 (.head _)
    have hk : kok p2 := co_key (o := gt p2) (ho _ (.tail _ (.head _))) (.inl rfl)
    have hm := stp_keep h.1 ho1
    have hs := (cm_ok.1 hm).2
    have hin := stp_in (k := p2) h.1 ho1
    rw [span_ok ho1]
    obtain ⟨m1, hm1⟩ : ∃ m1, (stp l0 p1).1 = m1 := ⟨_, rfl⟩
    rw [hm1] at hm hs hin
    obtain ⟨a, e, d, h3, _⟩ := find3 hs p2
    have hsc := scan1 hs hk h3
    have hrun : run l0 [p1, gt p2, sc1 p2] = ((op_scan (op_get m1 (gt p2)).1 (sc1 p2)).1, [(stp l0 p1).2, (op_get m1 (gt p2)).2, (op_scan (op_get m1 (gt p2)).1 (sc1 p2)).2]) := by
      show ((stp (stp (stp l0 p1).1 (gt p2)).1 (sc1 p2)).1, _) = _
      rw [hm1]; rfl
    rw [hrun]
    obtain ⟨x0, hx0⟩ : ∃ x0, (stp l0 p1).2 = x0 := ⟨_, rfl⟩
    rw [hx0]
    by_cases hh : span_Has (spn p1) p2 = true
    · have hin := hin hh
      rcases get_of (o := gt p2) hs h3 with ⟨he, hg⟩ | ⟨v, he, hg⟩
      · have hf : r04_Find m1 p2 = ([], false) := by
          rcases find_of h3 with ⟨_, hf⟩ | ⟨v, he2, _⟩
          · exact hf
          · rw [he] at he2; cases he2
        have n2 : ¬ p1.xKind = 2 := fun h2 => by
          obtain ⟨a', d', h4⟩ := hin.1 h2
          have := (h3.uniq h4).2.1
          rw [he] at this; cases this
        rw [hg]
        simp only [hsc, hf, he, List.nil_append]
        have hd : ∀ p ∈ d, p.xKey ≠ p2 := fun p hp hq => k_irr p2 (by have := h3.hi p hp; rwa [hq] at this)
        cases d with
        | nil => simp [n2, hh]
        | cons p q =>
          have := hd p (.head _)
          simp [n2, hh, this]
      · have hf : r04_Find m1 p2 = (v, true) := by
          rcases find_of h3 with ⟨he2, _⟩ | ⟨v2, he2, hf⟩
          · rw [he] at he2; cases he2
          · rw [he] at he2; cases he2; exact hf
        have n3 : ¬ p1.xKind = 3 := fun h2 => by
          obtain ⟨a', d', h4⟩ := hin.2.1 h2
          have := (h3.uniq h4).2.1
          rw [he] at this; cases this
        have n5 : ¬ p1.xKind = 5 := fun h2 => by
          have := hin.2.2 h2 (PairD.mk p2 v) (by rw [h3.app, he]; simp)
          exact this rfl
        rw [hg]
        simp only [hsc, hf, he]
        by_cases h2 : p1.xKind = 2
        · obtain ⟨a', d', h4⟩ := hin.1 h2
          have := (h3.uniq h4).2.1
          rw [he] at this
          cases this
          simp [h2, hh]
        · simp [h2, n3, n5, hh]
    · rcases get_of (o := gt p2) hs h3 with ⟨he, hg⟩ | ⟨v, he, hg⟩
      · have hf : r04_Find m1 p2 = ([], false) := by
          rcases find_of h3 with ⟨_, hf⟩ | ⟨v, he2, _⟩
          · exact hf
          · rw [he] at he2; cases he2
        rw [hg]
        simp only [hsc, hf, he, List.nil_append]
        have hd : ∀ p ∈ d, p.xKey ≠ p2 := fun p hp hq => k_irr p2 (by have := h3.hi p hp; rwa [hq] at this)
        cases d with
        | nil => simp [hh]
        | cons p q =>
          have := hd p (.head _)
          simp [hh, this]
      · have hf : r04_Find m1 p2 = (v, true) := by
          rcases find_of h3 with ⟨he2, _⟩ | ⟨v2, he2, hf⟩
          · rw [he] at he2; cases he2
          · rw [he] at he2; cases he2; exact hf
        rw [hg]
        simp only [hsc, hf, he]
        simp [hh]
  · obtain ⟨e, h2⟩ := apply_bad h
    rw [e]
    simp only
    rw [if_neg h2]
end Go.Proofs.Ytcognlpfeoabgaa
