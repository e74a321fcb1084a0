/-
  PROVED HERE: an operation does nothing to keys that it does not touch, and tells nothing of them; two that touch nothing in common may be turned.
  Conditions: none beyond the statements' own.
-/
import Derived.Test.YtjcdgofegkngpaaOpQ
namespace Go.Proofs.Ytjcdgofegkngpaa
set_option linter.unusedVariables false
set_option linter.unusedSimpArgs false
open Go.ChangeShapes
theorem srt_ext : ∀ {m n : List PairD}, srt m → srt n → (∀ p, p ∈ m ↔ p ∈ n) → m = n
  | [], [], _, _, _ => rfl
  | [], y :: q, _, _, h => by have := (h y).2 (.head _); cases this
  | x :: q, [], _, _, h => by have := (h x).1 (.head _); cases this
  | x :: q, y :: r, hm, hn, h => by
    have h1 := srt_cons.1 hm
    have h2 := srt_cons.1 hn
    have e : x = y := by
      rcases List.mem_cons.1 ((h x).1 (.head _)) with e | e
      · exact e
      rcases List.mem_cons.1 ((h y).2 (.head _)) with e2 | e2
      · exact e2.symm
      exact absurd (k_tr (h1.1 y e2) (h2.1 x e)) (k_irr _)
    subst e
    congr 1
    refine srt_ext h1.2 h2.2 fun p => ⟨fun hp => ?_, fun hp => ?_⟩
    · rcases List.mem_cons.1 ((h p).1 (.tail _ hp)) with e | e
      · subst e; exact absurd (h1.1 _ hp) (k_irr _)
      · exact e
    · rcases List.mem_cons.1 ((h p).2 (.tail _ hp)) with e | e
      · subst e; exact absurd (h2.1 _ hp) (k_irr _)
      · exact e
/-- does an operation touch a key -/
def tch (o : OpD) (k : Key) : Prop := if o.xKind ≤ 3 then k = o.xKey else inR o.xLo o.xHi k = true
theorem C3.mem {m a e d : List PairD} {k : Key} (h : C3 m k a e d) (p : PairD) : p ∈ m ↔ (p ∈ a ∨ p ∈ e ∨ p ∈ d) := by rw [h.app]; simp
theorem C3.key {m a e d : List PairD} {k : Key} (h : C3 m k a e d) {p : PairD} (hk : p.xKey = k) : p ∈ m ↔ p ∈ e := by
  rw [h.mem]
  constructor
  · rintro (hp | hp | hp)
    · exact absurd (by have := h.lo p hp; rwa [hk] at this) (k_irr k)
    · exact hp
    · exact absurd (by have := h.hi p hp; rwa [hk] at this) (k_irr k)
  · exact fun hp => .inr (.inl hp)
theorem C3.off {m a e d : List PairD} {k : Key} (h : C3 m k a e d) {p : PairD} (hk : p.xKey ≠ k) : p ∈ m ↔ (p ∈ a ∨ p ∈ d) := by
  rw [h.mem]
  constructor
  · rintro (hp | hp | hp)
    · exact .inl hp
    · rcases h.mid with rfl | ⟨v, rfl⟩
      · cases hp
      · rw [List.mem_singleton.1 hp] at hk; exact absurd rfl hk
    · exact .inr hp
  · rintro (hp | hp)
    · exact .inl hp
    · exact .inr (.inr hp)
/-- what stands outside stays -/
theorem stp_off {m : List PairD} {o : OpD} (hm : op_CheckMap m = 0) (ho : op_CheckOp o = 0) {p : PairD} (hp : ¬ tch o p.xKey) : p ∈ (stp m o).1 ↔ p ∈ m := by
  have hk := co_kind ho
  have hs := (cm_ok.1 hm).2
  unfold tch at hp
  unfold stp
  by_cases h3 : o.xKind ≤ 3
  · rw [if_pos h3] at hp
    obtain ⟨a, e, d, h, _⟩ := find3 hs o.xKey
    by_cases h1 : o.xKind = 1
    · rw [if_pos h1]
      rcases get_of hs h with ⟨_, e⟩ | ⟨v, _, e⟩ <;> rw [e]
    rw [if_neg h1]
    by_cases h2 : o.xKind = 2
    · rw [if_pos h2, put_of hs h, h.off hp]
      simp only [List.mem_append, List.mem_cons]
      constructor
      · rintro (q | q | q)
        · exact .inl q
        · rw [q] at hp; exact absurd rfl hp
        · exact .inr q
      · rintro (q | q)
        · exact .inl q
        · exact .inr (.inr q)
    rw [if_neg h2, if_pos (by omega), del_of hs h, h.off hp, List.mem_append]
  · rw [if_neg h3] at hp
    rw [if_neg (by omega), if_neg (by omega), if_neg (by omega)]
    have hr := co_range ho (by omega)
    by_cases h4 : o.xKind = 4
    · rw [if_pos h4, scan_of hs hr (op_most ho h4).1]
    · rw [if_neg h4, wipe_of hs hr, List.mem_filter]
      have : inR o.xLo o.xHi p.xKey = false := by cases e : inR o.xLo o.xHi p.xKey; rfl; exact absurd e hp
      rw [this]; simp
/-- what it touches alone counts -/
theorem stp_on {m n : List PairD} {o : OpD} (hm : op_CheckMap m = 0) (hn : op_CheckMap n = 0) (ho : op_CheckOp o = 0) (h : ∀ p : PairD, tch o p.xKey → (p ∈ m ↔ p ∈ n)) :
    (stp m o).2 = (stp n o).2 ∧ ∀ p : PairD, tch o p.xKey → (p ∈ (stp m o).1 ↔ p ∈ (stp n o).1) := by
  have hk := co_kind ho
  have hs := (cm_ok.1 hm).2
  have hs2 := (cm_ok.1 hn).2
  unfold tch at h ⊢
  unfold stp
  by_cases h3 : o.xKind ≤ 3
  · simp only [if_pos h3] at h ⊢
    obtain ⟨a, e, d, c, _⟩ := find3 hs o.xKey
    obtain ⟨a', e', d', c', _⟩ := find3 hs2 o.xKey
    by_cases h1 : o.xKind = 1
    · rw [if_pos h1, if_pos h1]
      rcases get_of hs c with ⟨he, g⟩ | ⟨v, he, g⟩ <;> rcases get_of hs2 c' with ⟨he2, g2⟩ | ⟨v2, he2, g2⟩ <;> rw [g, g2]
      · exact ⟨rfl, h⟩
      · have := (h (PairD.mk o.xKey v2) rfl).2 ((c'.key rfl).2 (by rw [he2]; simp))
        rw [c.key rfl, he] at this; cases this
      · have := (h (PairD.mk o.xKey v) rfl).1 ((c.key rfl).2 (by rw [he]; simp))
        rw [c'.key rfl, he2] at this; cases this
      · have := (h (PairD.mk o.xKey v) rfl).1 ((c.key rfl).2 (by rw [he]; simp))
        rw [c'.key rfl, he2] at this
        have := List.mem_singleton.1 this
        cases this
        exact ⟨rfl, h⟩
    rw [if_neg h1, if_neg h1]
    by_cases h2 : o.xKind = 2
    · rw [if_pos h2, if_pos h2, put_of hs c, put_of hs2 c']
      refine ⟨rfl, fun p hp => ?_⟩
      simp only [List.mem_append, List.mem_cons]
      constructor
      · rintro (q | q | q)
        · exact absurd (by have := c.lo p q; rwa [hp] at this) (k_irr _)
        · exact .inr (.inl q)
        · exact absurd (by have := c.hi p q; rwa [hp] at this) (k_irr _)
      · rintro (q | q | q)
        · exact absurd (by have := c'.lo p q; rwa [hp] at this) (k_irr _)
        · exact .inr (.inl q)
        · exact absurd (by have := c'.hi p q; rwa [hp] at this) (k_irr _)
    rw [if_neg h2, if_neg h2, if_pos (by omega), if_pos (by omega), del_of hs c, del_of hs2 c']
    refine ⟨rfl, fun p hp => ?_⟩
    simp only [List.mem_append]
    constructor
    · rintro (q | q)
      · exact absurd (by have := c.lo p q; rwa [hp] at this) (k_irr _)
      · exact absurd (by have := c.hi p q; rwa [hp] at this) (k_irr _)
    · rintro (q | q)
      · exact absurd (by have := c'.lo p q; rwa [hp] at this) (k_irr _)
      · exact absurd (by have := c'.hi p q; rwa [hp] at this) (k_irr _)
  · simp only [if_neg h3] at h ⊢
    have n1 : ¬ o.xKind = 1 := by omega
    have n2 : ¬ o.xKind = 2 := by omega
    have n3 : ¬ o.xKind = 3 := by omega
    rw [if_neg n1, if_neg n1, if_neg n2, if_neg n2, if_neg n3, if_neg n3]
    have hr := co_range ho (by omega)
    by_cases h4 : o.xKind = 4
    · rw [if_pos h4, if_pos h4, scan_of hs hr (op_most ho h4).1, scan_of hs2 hr (op_most ho h4).1]
      refine ⟨?_, h⟩
      have e : m.filter (fun p => inR o.xLo o.xHi p.xKey) = n.filter (fun p => inR o.xLo o.xHi p.xKey) :=
        srt_ext (srt_sub List.filter_sublist hs) (srt_sub List.filter_sublist hs2) fun p => by
          rw [List.mem_filter, List.mem_filter]
          exact ⟨fun q => ⟨(h p q.2).1 q.1, q.2⟩, fun q => ⟨(h p q.2).2 q.1, q.2⟩⟩
      simp only [e]
    · rw [if_neg h4, if_neg h4, wipe_of hs hr, wipe_of hs2 hr]
      refine ⟨rfl, fun p hp => ?_⟩
      rw [List.mem_filter, List.mem_filter, hp]; simp
/-- Two that touch nothing in common. -/
theorem stp_swap {m : List PairD} {a b : OpD} (hm : op_CheckMap m = 0) (ha : op_CheckOp a = 0) (hb : op_CheckOp b = 0) (hd : ∀ k, kok k → tch a k → ¬ tch b k) :
    (stp (stp m a).1 b).1 = (stp (stp m b).1 a).1 ∧ (stp (stp m a).1 b).2 = (stp m b).2 ∧ (stp (stp m b).1 a).2 = (stp m a).2 := by
  have hA := stp_keep hm ha
  have hB := stp_keep hm hb
  have pk : ∀ {n : List PairD}, op_CheckMap n = 0 → ∀ p ∈ n, kok p.xKey := fun hn p hp => ((cm_ok.1 hn).1 p hp).1
  have o1 : ∀ p : PairD, tch b p.xKey → (p ∈ (stp m a).1 ↔ p ∈ m) := fun p hp => by
    by_cases hk : kok p.xKey
    · exact stp_off hm ha fun q => hd _ hk q hp
    · exact ⟨fun q => absurd (pk hA p q) hk, fun q => absurd (pk hm p q) hk⟩
  have o2 : ∀ p : PairD, tch a p.xKey → (p ∈ (stp m b).1 ↔ p ∈ m) := fun p hp => by
    by_cases hk : kok p.xKey
    · exact stp_off hm hb fun q => hd _ hk hp q
    · exact ⟨fun q => absurd (pk hB p q) hk, fun q => absurd (pk hm p q) hk⟩
  have e1 := stp_on hA hm hb o1
  have e2 := stp_on hB hm ha o2
  have hAB := stp_keep hA hb
  have hBA := stp_keep hB ha
  refine ⟨srt_ext (cm_ok.1 hAB).2 (cm_ok.1 hBA).2 fun p => ?_, e1.1, e2.1⟩
  by_cases hk : kok p.xKey
  · by_cases ta : tch a p.xKey
    · have tb := hd _ hk ta
      rw [stp_off hA hb tb, e2.2 p ta]
    · by_cases tb : tch b p.xKey
      · rw [e1.2 p tb, stp_off hB ha ta]
      · rw [stp_off hA hb tb, stp_off hm ha ta, stp_off hB ha ta, stp_off hm hb tb]
  · exact ⟨fun q => absurd (pk hAB p q) hk, fun q => absurd (pk hBA p q) hk⟩
theorem tch_H {o : OpD} (ho : op_CheckOp o = 0) {k : Key} (hk : kok k) : tch o k ↔ M.H (spn o).xLo (spn o).xHi k := by
  have hkk := co_kind ho
  unfold tch spn
  by_cases h : o.xKind ≤ 3
  · rw [if_pos h, if_pos h]
    exact (ph_only (co_key ho (by omega))).symm
  · rw [if_neg h, if_neg h]
    have hr := co_range ho (by omega)
    unfold inR M.H M.B
    rw [decide_eq_true_eq, k_nlt]
    exact ⟨fun q => ⟨hr, hk, q.1, q.2⟩, fun q => ⟨q.2.2.1, q.2.2.2⟩⟩
theorem meet_of {l1 h1 l2 h2 k : Key} (x : M.H l1 h1 k) (y : M.H l2 h2 k) : M.M l1 h1 l2 h2 := by
  refine ⟨x.1, y.1, ?_⟩
  have hl : M.mx l1 l2 ≤ k := by unfold M.mx; split; exact y.2.2.1; exact x.2.2.1
  have hh : M.B k (M.ls h1 h2) := by
    unfold M.ls
    split
    · exact y.2.2.2
    · split
      · exact x.2.2.2
      · split
        · exact y.2.2.2
        · exact x.2.2.2
  rcases hh with hh | hh
  · exact .inl hh
  · exact .inr (List.lt_of_le_of_lt hl hh)
theorem run_app : ∀ (l r : List OpD) (m : List PairD), run m (l ++ r) = ((run (run m l).1 r).1, (run m l).2 ++ (run (run m l).1 r).2)
  | [], r, m => rfl
  | o :: l, r, m => by
    show ((run (stp m o).1 (l ++ r)).1, (stp m o).2 :: (run (stp m o).1 (l ++ r)).2) = _
    rw [run_app l r]; rfl
end Go.Proofs.Ytjcdgofegkngpaa
