/-
  The document's answer does to a map what op does to it.
  Conditions: none beyond each law's own.
-/
import Derived.Test.YtjcdgofegkngpaaJo
import Derived.Test.YtjcdgofegkngpaaOpQ
namespace Go.Proofs.Ytjcdgofegkngpaa
set_option linter.unusedVariables false
set_option linter.unusedSimpArgs false
open Go.ChangeShapes
theorem find_L {k : Key} : ∀ {a : List PairD} (b : List PairD), (∀ p ∈ a, p.xKey ≠ k) → r04_Find_L0 k (a ++ b) = r04_Find_L0 k b
  | [], b, _ => rfl
  | x :: q, b, h => by
    show (if _ then _ else _) = _
    rw [if_neg (h x (.head _))]
    exact find_L b fun p hp => h p (.tail _ hp)
theorem find_of {m a e d : List PairD} {k : Key} (h : C3 m k a e d) : (e = [] ∧ r04_Find m k = ([], false)) ∨ (∃ v, e = [PairD.mk k v] ∧ r04_Find m k = (v, true)) := by
  have ha : ∀ p ∈ a, p.xKey ≠ k := fun p hp hq => k_irr k (by have := h.lo p hp; rwa [hq] at this)
  have hd : ∀ p ∈ d, p.xKey ≠ k := fun p hp hq => k_irr k (by have := h.hi p hp; rwa [hq] at this)
  rcases h.mid with he | ⟨v, he⟩
  · refine .inl ⟨he, ?_⟩
    unfold r04_Find
    rw [h.app, he, List.nil_append, find_L d ha, ← List.append_nil d, find_L [] hd]; rfl
  · refine .inr ⟨v, he, ?_⟩
    unfold r04_Find
    rw [h.app, he, find_L _ ha]
    show lp (if _ then _ else _) _ = _
    rw [if_pos rfl]; rfl
theorem wo_L (r : RangeD) : ∀ (q l : List PairD), r04_without_L0 r q l = l ++ q.filter (fun p => !r02_Has r p.xKey)
  | [], l => by rw [r04_without_L0]; simp
  | x :: q, l => by
    rw [r04_without_L0, bnd_eq]
    by_cases h : r02_Has r x.xKey = true
    · rw [if_pos h, wo_L r q l, List.filter_cons_of_neg (by rw [h]; decide)]
    · rw [if_neg h, wo_L r q (l ++ [x]), List.filter_cons_of_pos (by rw [Bool.not_eq_true] at h; rw [h]; rfl), List.append_assoc]; rfl
theorem wo_eq (m : List PairD) (r : RangeD) : r04_without m r = m.filter (fun p => !r02_Has r p.xKey) := by
  unfold r04_without
  rw [bnd_eq, wo_L]; rfl
theorem wi_L (r : RangeD) {n : Nat} : ∀ (q l : List PairD), r04_Within_L0 r ((n : Nat) : Int) q l = l ++ List.take (n - l.length) (q.filter (fun p => r02_Has r p.xKey))
  | [], l => by rw [r04_Within_L0]; simp
  | x :: q, l => by
    rw [r04_Within_L0, bnd_eq]
    by_cases h : r02_Has r x.xKey = true
    · rw [if_pos h, if_neg (by omega), List.filter_cons_of_pos (p := fun p : PairD => r02_Has r p.xKey) h]
      by_cases h2 : ((List.length l : Nat) : Int) < ((n : Nat) : Int)
      · rw [if_pos h2, wi_L r q (l ++ [x])]
        obtain ⟨j, hj⟩ : ∃ j, n - l.length = j + 1 := ⟨n - l.length - 1, by omega⟩
        rw [hj, List.take_succ_cons, List.append_assoc, List.length_append, List.length_singleton, show n - (l.length + 1) = j by omega]; rfl
      · rw [if_neg h2, wi_L r q l, show n - l.length = 0 by omega]; rfl
    · rw [if_neg h, wi_L r q l, List.filter_cons_of_neg (p := fun p : PairD => r02_Has r p.xKey) h]
theorem wi_eq (m : List PairD) (r : RangeD) (n : Nat) : r04_Within m r ((n : Nat) : Int) = List.take n (m.filter (fun p => r02_Has r p.xKey)) := by
  unfold r04_Within
  rw [bnd_eq, wi_L]; rfl
theorem pu_hi (p : PairD) : ∀ (q l : List PairD), (∀ x ∈ q, p.xKey < x.xKey) → r04_put_L0 p q l true = (l ++ q, true)
  | [], l, _ => by rw [r04_put_L0]; simp
  | x :: q, l, h => by
    have hx : x.xKey ≠ p.xKey := fun e => k_irr p.xKey (by have := h x (.head _); rwa [e] at this)
    rw [r04_put_L0, if_pos rfl, if_pos hx, pu_hi p q _ fun y hy => h y (.tail _ hy), List.append_assoc]; rfl
theorem pu_lo (p : PairD) (b : List PairD) : ∀ (a l : List PairD), (∀ x ∈ a, x.xKey < p.xKey) → r04_put_L0 p (a ++ b) l false = r04_put_L0 p b (l ++ a) false
  | [], l, _ => by simp
  | x :: a, l, h => by
    have hx := h x (.head _)
    have hn : x.xKey ≠ p.xKey := fun e => k_irr p.xKey (by rwa [e] at hx)
    rw [List.cons_append, r04_put_L0, if_neg (by decide), if_neg (fun q => k_nlt.2 q hx), if_pos hn, pu_lo p b a _ fun y hy => h y (.tail _ hy), List.append_assoc]; rfl
theorem pu_eq {m a e d : List PairD} {p : PairD} (h : C3 m p.xKey a e d) : r04_put m p = a ++ p :: d := by
  unfold r04_put
  rw [bnd_eq, h.app, pu_lo p _ a [] h.lo, List.nil_append]
  have fin : ∀ x : List PairD × Bool, x = (a ++ p :: d, true) ∨ (x = (a, false) ∧ d = []) → (if x.2 = true then x.1 else x.1 ++ [p]) = a ++ p :: d := by
    rintro x (rfl | ⟨rfl, rfl⟩)
    · exact if_pos rfl
    · simp
  refine fin _ ?_
  rcases h.mid with rfl | ⟨v, rfl⟩
  · cases d with
    | nil => exact .inr ⟨rfl, rfl⟩
    | cons y d =>
      have hy := h.hi y (.head _)
      have hn : y.xKey ≠ p.xKey := fun e => k_irr p.xKey (by rwa [e] at hy)
      refine .inl ?_
      show (if false = true then _ else if p.xKey ≤ y.xKey then if y.xKey ≠ p.xKey then r04_put_L0 p d ((a ++ [p]) ++ [y]) true else _ else _) = _
      simp only [Bool.false_eq_true, if_false, if_pos (k_lt_le hy), if_pos hn]
      rw [pu_hi p d _ fun z hz => h.hi z (.tail _ hz)]
      simp
  · refine .inl ?_
    show (if false = true then _ else if p.xKey ≤ p.xKey then if p.xKey ≠ p.xKey then _ else r04_put_L0 p d (a ++ [p]) true else _) = _
    simp only [Bool.false_eq_true, if_false, if_pos (List.le_refl p.xKey), ne_eq, not_true, if_false]
    rw [pu_hi p d _ h.hi]
    simp
theorem has_in {lo hi k : Key} (hr : M.R lo hi) (hk : kok k) : r02_Has (RangeD.mk lo hi) k = inR lo hi k := by
  have h := rh_H (r := RangeD.mk lo hi) (k := k)
  unfold inR
  have e : M.H lo hi k ↔ (¬ k < lo ∧ (hi = [] ∨ k < hi)) := ⟨fun q => ⟨fun z => k_nlt.2 q.2.2.1 z, q.2.2.2⟩, fun q => ⟨hr, hk, k_nlt.1 q.1, q.2⟩⟩
  rw [show (M.H (RangeD.mk lo hi).xLo (RangeD.mk lo hi).xHi k ↔ _) from e] at h
  cases c : r02_Has (RangeD.mk lo hi) k
  · exact (decide_eq_false fun q => by rw [h.2 q] at c; cases c).symm
  · exact (decide_eq_true (h.1 c)).symm
theorem do_eq {m : List PairD} {o : OpD} (hm : op_CheckMap m = 0) (ho : op_CheckOp o = 0) : r04_Do m o = stp m o := by
  obtain ⟨hp, hs⟩ := cm_ok.1 hm
  have hk := co_kind ho
  unfold r04_Do stp
  simp only [bnd_eq]
  by_cases h1 : o.xKind = 1
  · rw [if_pos h1, if_pos h1]
    obtain ⟨a, e, d, h3, _⟩ := find3 hs o.xKey
    rcases find_of h3 with ⟨he, hf⟩ | ⟨v, he, hf⟩
    · rcases get_of hs h3 with ⟨_, hg⟩ | ⟨v, he', _⟩
      · rw [hf, hg]
      · rw [he] at he'; cases he'
    · rcases get_of hs h3 with ⟨he', _⟩ | ⟨v', he', hg⟩
      · rw [he] at he'; cases he'
      · rw [he] at he'; cases he'; rw [hf, hg]
  rw [if_neg h1, if_neg h1]
  by_cases h2 : o.xKind = 2
  · rw [if_pos h2, if_pos h2]
    obtain ⟨a, e, d, h3, _⟩ := find3 hs o.xKey
    rw [put_of hs h3, pu_eq (p := PairD.mk o.xKey o.xValue) h3]
  rw [if_neg h2, if_neg h2]
  by_cases h3 : o.xKind = 3
  · rw [if_pos h3, if_pos h3]
    obtain ⟨a, e, d, hc, _⟩ := find3 hs o.xKey
    have hkk := co_key ho (.inr (.inr h3))
    rw [del_of hs hc, rp_ok hkk, wo_eq]
    have key : ∀ p ∈ m, (!r02_Has (RangeD.mk o.xKey (ph o.xKey)) p.xKey) = !decide (p.xKey = o.xKey) := fun p hp => by
      have h := (rh_H (r := RangeD.mk o.xKey (ph o.xKey)) (k := p.xKey)).trans (ph_only hkk)
      cases c : r02_Has (RangeD.mk o.xKey (ph o.xKey)) p.xKey
      · rw [decide_eq_false fun q => by rw [h.2 q] at c; cases c]
      · rw [decide_eq_true (h.1 c)]
    rw [List.filter_congr key, hc.app]
    simp only [List.filter_append]
    have f1 : a.filter (fun p => !decide (p.xKey = o.xKey)) = a := flt_all fun p hp => by
      rw [decide_eq_false fun q : p.xKey = o.xKey => k_irr o.xKey (by have := hc.lo p hp; rwa [q] at this)]; rfl
    have f2 : d.filter (fun p => !decide (p.xKey = o.xKey)) = d := flt_all fun p hp => by
      rw [decide_eq_false fun q : p.xKey = o.xKey => k_irr o.xKey (by have := hc.hi p hp; rwa [q] at this)]; rfl
    have f3 : e.filter (fun p => !decide (p.xKey = o.xKey)) = [] := flt_none fun p hp => by
      rcases hc.mid with rfl | ⟨v, rfl⟩
      · cases hp
      · rw [List.mem_singleton.1 hp]; simp
    rw [f1, f2, f3, List.nil_append]
  rw [if_neg h3, if_neg h3]
  by_cases h4 : o.xKind = 4
  · rw [if_pos h4, if_pos h4]
    have hr := co_range ho (.inl h4)
    have hmo := op_most ho h4
    rw [scan_of hs hr hmo.1]
    obtain ⟨n, hn⟩ : ∃ n : Nat, o.xMost = n := ⟨o.xMost.toNat, by omega⟩
    rw [hn, wi_eq, Int.toNat_natCast, List.filter_congr fun p hq => has_in hr (hp p hq).1]
  · rw [if_neg h4, if_neg h4]
    have hr := co_range ho (.inr (by omega))
    rw [wipe_of hs hr, wo_eq, List.filter_congr fun p hq => congrArg (! ·) (has_in hr (hp p hq).1)]
theorem rapply_L : ∀ (l : List OpD) (m : List PairD) (rs : List ResultT), op_CheckMap m = 0 → (∀ o ∈ l, op_CheckOp o = 0) → r04_Apply_L0 l m rs = ((run m l).1, rs ++ (run m l).2)
  | [], m, rs, _, _ => by rw [r04_Apply_L0]; simp [run]
  | o :: l, m, rs, hm, ho => by
    rw [r04_Apply_L0, bnd_eq, do_eq hm (ho o (.head _)), rapply_L l _ _ (stp_keep hm (ho o (.head _))) fun x hx => ho x (.tail _ hx)]
    simp [run]
theorem apply_eq (m : List PairD) (l : List OpD) : op_Apply m l = r04_Apply m l := by
  by_cases h : op_CheckMap m = 0 ∧ op_checkEach l = 0
  · rw [apply_ok h.1 h.2]
    unfold r04_Apply
    simp only [bnd_eq, ← cm_eq, ← ce_eq]
    rw [if_pos h.1, if_pos h.2, rapply_L l m [] h.1 (ce_0.1 h.2)]; rfl
  · rw [(apply_bad h).1]
    unfold r04_Apply
    simp only [bnd_eq, ← cm_eq, ← ce_eq]
    by_cases h1 : op_CheckMap m = 0
    · have h2 : ¬ op_checkEach l = 0 := fun q => h ⟨h1, q⟩
      rw [if_pos h1, if_pos h1, if_neg h2]
    · rw [if_neg h1, if_neg h1]
end Go.Proofs.Ytjcdgofegkngpaa
