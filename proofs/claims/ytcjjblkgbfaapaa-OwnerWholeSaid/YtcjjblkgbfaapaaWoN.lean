/-
  PROVED HERE: what op's put, del, wipe and scan do to a map whose keys rise, as filters; they keep the map's form.
  Conditions: none beyond the statements' own.
-/
import Derived.Test.YtcjjblkgbfaapaaWoM
namespace Go.Proofs.Ytcjjblkgbfaapaa
set_option linter.unusedVariables false
set_option linter.unusedSimpArgs false
open Go.ChangeShapes
abbrev noR : ResultT := ResultT.mk false [] (Ll.mk [])
structure C3 (m : List PairD) (k : Key) (a e d : List PairD) : Prop where
  app : m = a ++ (e ++ d)
  lo : ∀ p ∈ a, p.xKey < k
  mid : e = [] ∨ ∃ v, e = [PairD.mk k v]
  hi : ∀ p ∈ d, k < p.xKey
theorem srt_app {a b : List PairD} : srt (a ++ b) ↔ srt a ∧ srt b ∧ ∀ x ∈ a, ∀ y ∈ b, x.xKey < y.xKey := List.pairwise_append
theorem srt_cons {x : PairD} {b : List PairD} : srt (x :: b) ↔ (∀ y ∈ b, x.xKey < y.xKey) ∧ srt b := List.pairwise_cons
theorem find3 {m : List PairD} (hs : srt m) (k : Key) : ∃ a e d, C3 m k a e d ∧ (op_find m k).1 = ((a.length : Nat) : Int) ∧ ((op_find m k).2 = true ↔ e ≠ []) := by
  obtain ⟨a, b, hc, h1, h2⟩ := find_cut hs k
  have hb : srt b := by rw [hc.app] at hs; exact (srt_app.1 hs).2.1
  cases b with
  | nil => exact ⟨a, [], [], ⟨by rw [hc.app]; rfl, hc.lo, .inl rfl, fun p hp => by cases hp⟩, h1, by rw [h2]; constructor <;> intro h <;> simp at h⟩
  | cons p q =>
    by_cases hk : p.xKey = k
    · refine ⟨a, [p], q, ⟨by rw [hc.app]; rfl, hc.lo, .inr ⟨p.xValue, by rw [← hk]⟩, fun y hy => by rw [← hk]; exact (srt_cons.1 hb).1 y hy⟩, h1, ?_⟩
      rw [h2]
      exact ⟨fun _ => by simp, fun _ => ⟨p, q, rfl, hk⟩⟩
    · have hp : k < p.xKey := by
        rcases k_tri k p.xKey with h | h | h
        · exact h
        · exact absurd h.symm hk
        · exact absurd h (hc.hi p (.head _))
      refine ⟨a, [], p :: q, ⟨by rw [hc.app]; rfl, hc.lo, .inl rfl, fun y hy => ?_⟩, h1, ?_⟩
      · rcases List.mem_cons.1 hy with rfl | hy
        · exact hp
        · exact k_tr hp ((srt_cons.1 hb).1 y hy)
      · rw [h2]
        constructor
        · rintro ⟨p', q', e, h⟩
          cases e
          exact absurd h hk
        · intro h; exact absurd rfl h
theorem getMid {α : Type} [Inhabited α] (a : List α) (x : α) (d : List α) : List.getD (a ++ x :: d) a.length default = x := by
  rw [List.getD_eq_getElem?_getD, List.getElem?_append_right (Nat.le_refl _), Nat.sub_self]; rfl
theorem setMid {α : Type} (a : List α) (x y : α) (d : List α) : List.set (a ++ x :: d) a.length y = a ++ y :: d := by
  induction a with
  | nil => rfl
  | cons z a ih => exact congrArg (z :: ·) ih
theorem takeMid {α : Type} (a b : List α) : List.take a.length (a ++ b) = a := by simp
theorem dropMid {α : Type} (a b : List α) : List.drop a.length (a ++ b) = b := by simp
theorem put3 {m a e d : List PairD} {o : OpD} (h : C3 m o.xKey a e d) (h1 : (op_find m o.xKey).1 = ((a.length : Nat) : Int)) (h2 : (op_find m o.xKey).2 = true ↔ e ≠ []) :
    op_put m o = (a ++ PairD.mk o.xKey o.xValue :: d, noR) := by
  unfold op_put
  rw [bnd_eq]
  generalize op_find m o.xKey = f at h1 h2 ⊢
  obtain ⟨i, b⟩ := f
  simp only at h1 h2
  subst h1
  simp only [Int.toNat_natCast]
  rcases h.mid with he | ⟨v, he⟩
  · subst he
    have hb : ¬ b = true := fun hb => h2.1 hb rfl
    rw [if_neg hb, bnd_eq, bnd_eq, bnd_eq]
    have e1 : slices_Insert_api_Pair_api_Pair m ((a.length : Nat) : Int) (PairD.mk o.xKey []) = a ++ PairD.mk o.xKey [] :: d := by
      unfold slices_Insert_api_Pair_api_Pair
      rw [h.app, List.nil_append]
      simp only [Int.toNat_natCast]
      by_cases hl : ((a.length : Nat) : Int) = (((a ++ d).length : Nat) : Int)
      · rw [if_pos hl]
        have : d = [] := List.length_eq_zero_iff.1 (by rw [List.length_append] at hl; omega)
        subst this
        simp
      · rw [if_neg hl, takeMid, dropMid]
    rw [e1, getMid, setMid]
  · subst he
    have hb : b = true := h2.2 (by simp)
    rw [if_pos hb, bnd_eq, bnd_eq, h.app]
    show (List.set (a ++ _ :: d) _ (PairD.mk (List.getD (a ++ _ :: d) _ _).xKey _), _) = _
    rw [getMid, setMid]
theorem del3 {m a e d : List PairD} {o : OpD} (h : C3 m o.xKey a e d) (h1 : (op_find m o.xKey).1 = ((a.length : Nat) : Int)) (h2 : (op_find m o.xKey).2 = true ↔ e ≠ []) :
    op_del m o = (a ++ d, noR) := by
  unfold op_del
  rw [bnd_eq]
  generalize op_find m o.xKey = f at h1 h2 ⊢
  obtain ⟨i, b⟩ := f
  simp only at h1 h2
  subst h1
  rcases h.mid with he | ⟨v, he⟩
  · subst he
    have hb : ¬ b = true := fun hb => h2.1 hb rfl
    rw [if_neg hb, h.app]; rfl
  · subst he
    have hb : b = true := h2.2 (by simp)
    rw [if_pos hb, bnd_eq]
    unfold slices_Delete_api_Pair_api_Pair
    rw [if_neg (by omega), show ((a.length : Nat) : Int) + 1 = ((a.length + 1 : Nat) : Int) from rfl]
    simp only [Int.toNat_natCast]
    rw [h.app, takeMid]
    congr 2
    rw [← List.drop_drop, dropMid]; rfl
theorem get3 {m a e d : List PairD} {o : OpD} (h : C3 m o.xKey a e d) (h1 : (op_find m o.xKey).1 = ((a.length : Nat) : Int)) (h2 : (op_find m o.xKey).2 = true ↔ e ≠ []) :
    (e = [] ∧ op_get m o = (m, noR)) ∨ (∃ v, e = [PairD.mk o.xKey v] ∧ op_get m o = (m, ResultT.mk true v (Ll.mk []))) := by
  unfold op_get
  rw [bnd_eq]
  generalize op_find m o.xKey = f at h1 h2 ⊢
  obtain ⟨i, b⟩ := f
  simp only at h1 h2
  subst h1
  simp only [Int.toNat_natCast]
  rcases h.mid with he | ⟨v, he⟩
  · have hb : ¬ b = true := fun hb => h2.1 hb he
    rw [if_neg hb]
    exact .inl ⟨he, rfl⟩
  · have hb : b = true := h2.2 (by rw [he]; simp)
    rw [if_pos hb, bnd_eq]
    refine .inr ⟨v, he, ?_⟩
    have : List.getD m a.length default = PairD.mk o.xKey v := by rw [h.app, he]; exact getMid _ _ _
    rw [this]
structure Mid (m : List PairD) (u v : Key) (a b c : List PairD) : Prop where
  app : m = a ++ (b ++ c)
  lo : ∀ p ∈ a, p.xKey < u
  mid : ∀ p ∈ b, ¬ p.xKey < u ∧ (v = [] ∨ p.xKey < v)
  hi : ∀ p ∈ c, v ≠ [] ∧ ¬ p.xKey < v
theorem bounds3 {m : List PairD} {r : RangeD} (hs : srt m) (hr : M.R r.xLo r.xHi) : ∃ a b c, Mid m r.xLo r.xHi a b c ∧ op_bounds m r = (((a.length : Nat) : Int), ((a.length + b.length : Nat) : Int)) := by
  obtain ⟨a, b, hc, e1, _⟩ := find_cut hs r.xLo
  unfold op_bounds
  rw [bnd_eq, e1]
  by_cases h : r.xHi = []
  · rw [if_pos h]
    refine ⟨a, b, [], ⟨by rw [hc.app, List.append_nil], hc.lo, fun p hp => ⟨hc.hi p hp, .inl h⟩, fun p hp => by cases hp⟩, ?_⟩
    rw [hc.app, List.length_append]
  · rw [if_neg h, bnd_eq]
    obtain ⟨c, d, hc2, e2, _⟩ := find_cut hs r.xHi
    have hlt : r.xLo < r.xHi := (hr.2.resolve_left h).2
    have hl := hc.two hlt hc2
    rw [e2]
    obtain ⟨x, hx, hx2⟩ : ∃ x, c = a ++ x ∧ b = x ++ d := by
      have e : a ++ b = c ++ d := by rw [← hc.app, ← hc2.app]
      rcases List.append_eq_append_iff.1 e with ⟨x, h1, h2⟩ | ⟨x, h1, h2⟩
      · exact ⟨x, h1, h2⟩
      · have : x = [] := List.length_eq_zero_iff.1 (by rw [h1, List.length_append] at hl; omega)
        subst this
        exact ⟨[], by rw [h1]; simp, by rw [h2]; rfl⟩
    refine ⟨a, x, d, ⟨by rw [hc.app, hx2], hc.lo, fun p hp => ⟨hc.hi p (by rw [hx2]; exact List.mem_append_left _ hp), .inr (hc2.lo p (by rw [hx]; exact List.mem_append_right _ hp))⟩, fun p hp => ⟨h, hc2.hi p hp⟩⟩, ?_⟩
    rw [hx, List.length_append]
theorem wipe3 {m a b c : List PairD} {o : OpD} (h : Mid m o.xLo o.xHi a b c) (e : op_bounds m (RangeD.mk o.xLo o.xHi) = (((a.length : Nat) : Int), ((a.length + b.length : Nat) : Int))) :
    op_wipe m o = (a ++ c, noR) := by
  unfold op_wipe
  rw [bnd_eq, show op_spanRange o = RangeD.mk o.xLo o.xHi from rfl, bnd_eq, e, bnd_eq]
  unfold slices_Delete_api_Pair_api_Pair
  simp only [Int.toNat_natCast]
  by_cases hb : ((a.length : Nat) : Int) = ((a.length + b.length : Nat) : Int)
  · rw [if_pos hb]
    have : b = [] := List.length_eq_zero_iff.1 (by omega)
    rw [h.app, this]; rfl
  · rw [if_neg hb, h.app, takeMid, ← List.drop_drop, dropMid, dropMid]
theorem scan3 {m a b c : List PairD} {o : OpD} (h : Mid m o.xLo o.xHi a b c) (e : op_bounds m (RangeD.mk o.xLo o.xHi) = (((a.length : Nat) : Int), ((a.length + b.length : Nat) : Int))) (hm : 1 ≤ o.xMost) :
    op_scan m o = (m, ResultT.mk false [] (Ll.mk (List.take o.xMost.toNat b))) := by
  unfold op_scan
  rw [bnd_eq, show op_spanRange o = RangeD.mk o.xLo o.xHi from rfl, bnd_eq, e]
  simp only [Int.toNat_natCast]
  congr 3
  rw [h.app, dropMid]
  obtain ⟨n, hn⟩ : ∃ n : Nat, o.xMost = n := ⟨o.xMost.toNat, by omega⟩
  rw [hn, show ((a.length : Nat) : Int) + ((n : Nat) : Int) = ((a.length + n : Nat) : Int) from rfl]
  have e3 : (min ((a.length + b.length : Nat) : Int) ((a.length + n : Nat) : Int)).toNat - a.length = min n b.length := by omega
  rw [e3, Int.toNat_natCast]
  rw [List.take_append_of_le_length (Nat.min_le_right _ _)]
  rw [List.take_eq_take_iff]; omega
def stp (m : List PairD) (o : OpD) : List PairD × ResultT :=
  if o.xKind = 1 then op_get m o else if o.xKind = 2 then op_put m o else if o.xKind = 3 then op_del m o else if o.xKind = 4 then op_scan m o else op_wipe m o
theorem srt_sub {a b : List PairD} (h : a.Sublist b) (hs : srt b) : srt a := List.Pairwise.sublist h hs
theorem co_key {o : OpD} (h : op_CheckOp o = 0) (hk : o.xKind = 1 ∨ o.xKind = 2 ∨ o.xKind = 3) : kok o.xKey := by
  rcases hk with hk | hk | hk
  · rw [co1 (.inl hk)] at h
    split at h
    · exact ck_ok.1 h
    · cases h
  · rw [co2 hk] at h
    split at h
    · rw [cp_eq] at h
      by_cases h2 : span_CheckKey o.xKey = 0
      · exact ck_ok.1 h2
      · rw [if_neg h2] at h; exact absurd h h2
    · cases h
  · rw [co1 (.inr hk)] at h
    split at h
    · exact ck_ok.1 h
    · cases h
theorem co_val {o : OpD} (h : op_CheckOp o = 0) (hk : o.xKind = 2) : o.xValue.length ≤ 16 := by
  rw [co2 hk] at h
  split at h
  · rw [cp_eq] at h
    by_cases h2 : span_CheckKey o.xKey = 0
    · rw [if_pos h2] at h
      split at h
      · cases h
      · omega
    · rw [if_neg h2] at h; exact absurd h h2
  · cases h
theorem cm_put {m : List PairD} {o : OpD} {r} (h : op_put m o = r) (hm : op_CheckMap m = 0) (ho : op_CheckOp o = 0) (hk : o.xKind = 2) : op_CheckMap r.1 = 0 := by
  obtain ⟨hp, hs⟩ := cm_ok.1 hm
  obtain ⟨a, e, d, h3, h1, h2⟩ := find3 hs o.xKey
  rw [← h, put3 h3 h1 h2]
  have hma : a.Sublist m := by rw [h3.app]; exact List.sublist_append_left _ _
  have hmd : d.Sublist m := by rw [h3.app]; exact (List.sublist_append_right e d).trans (List.sublist_append_right a _)
  refine cm_ok.2 ⟨fun p hp2 => ?_, srt_app.2 ⟨srt_sub hma hs, srt_cons.2 ⟨h3.hi, srt_sub hmd hs⟩, fun x hx y hy => ?_⟩⟩
  · rcases List.mem_append.1 hp2 with hx | hx
    · exact hp p (hma.subset hx)
    · rcases List.mem_cons.1 hx with rfl | hx
      · exact ⟨co_key ho (.inr (.inl hk)), co_val ho hk⟩
      · exact hp p (hmd.subset hx)
  · rcases List.mem_cons.1 hy with rfl | hy
    · exact h3.lo x hx
    · exact k_tr (h3.lo x hx) (h3.hi y hy)
theorem cm_sub {m n : List PairD} (h : n.Sublist m) (hm : op_CheckMap m = 0) : op_CheckMap n = 0 :=
  cm_ok.2 ⟨fun p hp => (cm_ok.1 hm).1 p (h.subset hp), srt_sub h (cm_ok.1 hm).2⟩
theorem cm_del {m : List PairD} {o : OpD} {r} (h : op_del m o = r) (hm : op_CheckMap m = 0) : op_CheckMap r.1 = 0 := by
  obtain ⟨a, e, d, h3, h1, h2⟩ := find3 (cm_ok.1 hm).2 o.xKey
  rw [← h, del3 h3 h1 h2]
  refine cm_sub ?_ hm
  rw [h3.app]
  exact (List.Sublist.refl a).append (List.sublist_append_right e d)
theorem cm_get {m : List PairD} {o : OpD} {r} (h : op_get m o = r) (hm : op_CheckMap m = 0) : op_CheckMap r.1 = 0 := by
  obtain ⟨a, e, d, h3, h1, h2⟩ := find3 (cm_ok.1 hm).2 o.xKey
  rcases get3 h3 h1 h2 with ⟨_, h4⟩ | ⟨v, _, h4⟩ <;> rw [← h, h4] <;> exact hm
theorem cm_scan {m : List PairD} {o : OpD} {r} (h : op_scan m o = r) (hm : op_CheckMap m = 0) (ho : op_CheckOp o = 0) (hk : o.xKind = 4) : op_CheckMap r.1 = 0 := by
  obtain ⟨a, b, c, h3, h1⟩ := bounds3 (r := RangeD.mk o.xLo o.xHi) (cm_ok.1 hm).2 (co_range ho (.inl hk))
  rw [← h, scan3 h3 h1 (op_most ho hk).1]; exact hm
theorem cm_wipe {m : List PairD} {o : OpD} {r} (h : op_wipe m o = r) (hm : op_CheckMap m = 0) (ho : op_CheckOp o = 0) (hk : o.xKind = 5) : op_CheckMap r.1 = 0 := by
  obtain ⟨a, b, c, h3, h1⟩ := bounds3 (r := RangeD.mk o.xLo o.xHi) (cm_ok.1 hm).2 (co_range ho (.inr hk))
  rw [← h, wipe3 h3 h1]
  refine cm_sub ?_ hm
  rw [h3.app]
  exact (List.Sublist.refl a).append (List.sublist_append_right b c)
end Go.Proofs.Ytcjjblkgbfaapaa
