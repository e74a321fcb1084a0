/-
  The parts of a buffer, each done to its part of a map, are together the whole.
  Conditions: none beyond each law's own.
-/
import Derived.Test.YtblpdbnklopchaaBuY
namespace Go.Proofs.Ytblpdbnklopchaa
set_option linter.unusedVariables false
set_option linter.unusedSimpArgs false
open Go.ChangeShapes
theorem k_lt_of_le {a b c : Key} (h : a ≤ b) (g : b < c) : a < c := by
  rcases k_tri a b with q | q | q
  · exact k_tr q g
  · exact q ▸ g
  · exact absurd q (List.not_lt.2 h)
theorem k_lt_le' {a b c : Key} (h : a < b) (g : b ≤ c) : a < c := by
  rcases k_tri b c with q | q | q
  · exact k_tr h q
  · exact q ▸ h
  · exact absurd q (List.not_lt.2 g)
theorem k_nil (a : Key) : ¬ a < [] := List.not_lt_nil a
theorem mx_iff (a b k : Key) : ¬ k < maxL a b ↔ ¬ k < a ∧ ¬ k < b := by
  unfold maxL
  by_cases h : a < b
  · rw [if_pos h]
    exact ⟨fun q => ⟨fun z => q (k_tr z h), q⟩, fun q => q.2⟩
  · rw [if_neg h]
    exact ⟨fun q => ⟨q, fun z => q (k_lt_le' z (k_nlt.1 h))⟩, fun q => q.1⟩
theorem ls_iff (a b k : Key) : (span_lesserHi a b = [] ∨ k < span_lesserHi a b) ↔ (a = [] ∨ k < a) ∧ (b = [] ∨ k < b) := by
  unfold span_lesserHi
  by_cases h1 : a = []
  · rw [if_pos h1]
    exact ⟨fun q => ⟨.inl h1, q⟩, fun q => q.2⟩
  · rw [if_neg h1]
    by_cases h2 : b = []
    · rw [if_neg (not_not_intro h2)]
      exact ⟨fun q => ⟨q, .inl h2⟩, fun q => q.1⟩
    · rw [if_pos h2]
      by_cases h3 : b < a
      · rw [if_pos h3]
        exact ⟨fun q => ⟨.inr (k_tr (q.resolve_left h2) h3), q⟩, fun q => q.2⟩
      · rw [if_neg h3]
        exact ⟨fun q => ⟨q, .inr (k_lt_le' (q.resolve_left h1) (k_nlt.1 h3))⟩, fun q => q.1⟩
theorem be_iff (a b : Key) : span_below a b = true ↔ (b = [] ∨ a < b) := by
  unfold span_below
  by_cases h : b = []
  · rw [if_pos h]; exact ⟨fun _ => .inl h, fun _ => rfl⟩
  · rw [if_neg h, decide_eq_true_iff]
    exact ⟨.inr, fun q => q.resolve_left h⟩
theorem inR_iff {lo hi k : Key} : inR lo hi k = true ↔ ¬ k < lo ∧ (hi = [] ∨ k < hi) := by unfold inR; rw [decide_eq_true_iff]
theorem mt_eq {a b : RangeD} (ha : M.R a.xLo a.xHi) (hb : M.R b.xLo b.xHi) : span_Meet a b = if span_below (maxL a.xLo b.xLo) (span_lesserHi a.xHi b.xHi) = true then (RangeD.mk (maxL a.xLo b.xLo) (span_lesserHi a.xHi b.xHi), true) else (RangeD.mk [] [], false) := by
  unfold span_Meet
  rw [bnd_eq, if_pos (sc_R.2 ha), bnd_eq, if_pos (sc_R.2 hb)]
  rfl
theorem mt_yes {a b : RangeD} (ha : M.R a.xLo a.xHi) (hb : M.R b.xLo b.xHi) (h : (span_Meet a b).2 = true) : M.R (span_Meet a b).1.xLo (span_Meet a b).1.xHi ∧ ∀ k, inR (span_Meet a b).1.xLo (span_Meet a b).1.xHi k = true ↔ inR a.xLo a.xHi k = true ∧ inR b.xLo b.xHi k = true := by
  rw [mt_eq ha hb] at h ⊢
  by_cases c : span_below (maxL a.xLo b.xLo) (span_lesserHi a.xHi b.xHi) = true
  · rw [if_pos c]
    refine ⟨⟨?_, ?_⟩, fun k => ?_⟩
    · show maxL _ _ = [] ∨ M.K (maxL _ _)
      unfold maxL
      split
      · exact hb.1
      · exact ha.1
    · show span_lesserHi _ _ = [] ∨ _
      rcases (be_iff _ _).1 c with q | q
      · exact .inl q
      · refine .inr ⟨?_, q⟩
        have hne : span_lesserHi a.xHi b.xHi ≠ [] := fun z => by rw [z] at q; exact k_nil _ q
        have e : span_lesserHi a.xHi b.xHi = a.xHi ∨ span_lesserHi a.xHi b.xHi = b.xHi := by
          unfold span_lesserHi
          split
          · exact .inr rfl
          · split
            · split
              · exact .inr rfl
              · exact .inl rfl
            · exact .inl rfl
        rcases e with e | e
        · rw [e] at hne ⊢; exact (ha.2.resolve_left hne).1
        · rw [e] at hne ⊢; exact (hb.2.resolve_left hne).1
    · rw [inR_iff, inR_iff, inR_iff]
      show ¬ k < maxL _ _ ∧ (span_lesserHi _ _ = [] ∨ k < span_lesserHi _ _) ↔ _
      rw [mx_iff, ls_iff]
      exact ⟨fun q => ⟨⟨q.1.1, q.2.1⟩, q.1.2, q.2.2⟩, fun q => ⟨⟨q.1.1, q.2.1⟩, q.1.2, q.2.2⟩⟩
  · rw [if_neg c] at h; cases h
theorem mt_no {a b : RangeD} (ha : M.R a.xLo a.xHi) (hb : M.R b.xLo b.xHi) (h : ¬ (span_Meet a b).2 = true) (k : Key) : ¬ (inR a.xLo a.xHi k = true ∧ inR b.xLo b.xHi k = true) := by
  rw [mt_eq ha hb] at h
  by_cases c : span_below (maxL a.xLo b.xLo) (span_lesserHi a.xHi b.xHi) = true
  · rw [if_pos c] at h; exact absurd rfl h
  · intro q
    rw [inR_iff, inR_iff] at q
    have q1 := (mx_iff _ _ _).2 ⟨q.1.1, q.2.1⟩
    have q2 := (ls_iff _ _ _).2 ⟨q.1.2, q.2.2⟩
    refine c ((be_iff _ _).2 ?_)
    rcases q2 with q2 | q2
    · exact .inl q2
    · exact .inr (k_lt_of_le (k_nlt.1 q1) q2)
def pvs (pv : List Key) : Prop := (∀ x ∈ pv, kok x) ∧ asc pv
theorem lo_pos {pv : List Key} {i : Nat} {p : Key} (h0 : 0 < i) (h : pv[i - 1]? = some p) : (prg pv i).xLo = p := by
  unfold prg
  rw [if_pos h0, getD_of h]
theorem lo_zero (pv : List Key) : (prg pv 0).xLo = [] := rfl
theorem hi_at {pv : List Key} {i : Nat} {p : Key} (h : pv[i]? = some p) : (prg pv i).xHi = p := by
  have := (List.getElem?_eq_some_iff.1 h).1
  unfold prg
  rw [if_pos this, getD_of h]
theorem hi_end {pv : List Key} {i : Nat} (h : ¬ i < pv.length) : (prg pv i).xHi = [] := by
  unfold prg
  rw [if_neg h]
theorem kok_ne {k : Key} (h : kok k) : k ≠ [] := fun q => by have := h.1; rw [q] at this; simp at this
theorem prg_R {pv : List Key} (h : pvs pv) {i : Nat} (hi : i ≤ pv.length) : M.R (prg pv i).xLo (prg pv i).xHi := by
  have hlo : (prg pv i).xLo = [] ∨ M.K (prg pv i).xLo := by
    by_cases h0 : 0 < i
    · obtain ⟨p, hp⟩ : ∃ p, pv[i - 1]? = some p := ⟨_, List.getElem?_eq_getElem (by omega)⟩
      rw [lo_pos h0 hp]
      exact .inr (h.1 p (List.mem_of_getElem? hp))
    · have : i = 0 := by omega
      subst this
      exact .inl rfl
  refine ⟨hlo, ?_⟩
  by_cases h1 : i < pv.length
  · obtain ⟨q, hq⟩ : ∃ q, pv[i]? = some q := ⟨_, List.getElem?_eq_getElem h1⟩
    have kq := h.1 q (List.mem_of_getElem? hq)
    rw [hi_at hq]
    refine .inr ⟨kq, ?_⟩
    by_cases h0 : 0 < i
    · obtain ⟨p, hp⟩ : ∃ p, pv[i - 1]? = some p := ⟨_, List.getElem?_eq_getElem (by omega)⟩
      rw [lo_pos h0 hp]
      exact asc_at h.2 hp hq (by omega)
    · have : i = 0 := by omega
      subst this
      exact M.nil_lt (kok_ne kq)
  · exact .inl (hi_end h1)
theorem se_iff {pv : List Key} (h : pvs pv) (x : EntryD) {i : Nat} (hi : i ≤ pv.length) : sort_Search ((pv.length : Nat) : Int) pv x = ((i : Nat) : Int) ↔ inR (prg pv i).xLo (prg pv i).xHi x.xOp.xKey = true := by
  obtain ⟨r, h0, h1, h2, h3⟩ := se_ok h.2 x
  rw [h0, inR_iff]
  constructor
  · intro e
    have : r = i := by omega
    subst this
    constructor
    · by_cases h0 : 0 < r
      · obtain ⟨p, hp⟩ : ∃ p, pv[r - 1]? = some p := ⟨_, List.getElem?_eq_getElem (by omega)⟩
        rw [lo_pos h0 hp]
        exact h2 _ _ hp (by omega)
      · have : r = 0 := by omega
        subst this
        exact k_nil _
    · by_cases h4 : r < pv.length
      · obtain ⟨q, hq⟩ : ∃ q, pv[r]? = some q := ⟨_, List.getElem?_eq_getElem h4⟩
        rw [hi_at hq]
        exact .inr (h3 _ _ hq (Nat.le_refl _))
      · exact .inl (hi_end h4)
  · rintro ⟨a, b⟩
    rcases Nat.lt_trichotomy r i with e | e | e
    · exfalso
      obtain ⟨p, hp⟩ : ∃ p, pv[i - 1]? = some p := ⟨_, List.getElem?_eq_getElem (by omega)⟩
      rw [lo_pos (by omega) hp] at a
      exact a (h3 _ _ hp (by omega))
    · rw [e]
    · exfalso
      obtain ⟨q, hq⟩ : ∃ q, pv[i]? = some q := ⟨_, List.getElem?_eq_getElem (by omega)⟩
      rw [hi_at hq] at b
      exact h2 _ _ hq e (b.resolve_left (kok_ne (h.1 q (List.mem_of_getElem? hq))))
def okw (x : EntryD) : Prop := op_CheckOp x.xOp = 0 ∧ op_Writes x.xOp = true
theorem pc_ok {pv : List Key} (h : pvs pv) {i : Nat} (hi : i ≤ pv.length) {x : EntryD} (hx : okw x) : ∀ y ∈ piece pv i x, okw y ∧ y.xSeq = x.xSeq := by
  intro y hy
  unfold piece at hy
  by_cases h5 : x.xOp.xKind = 5
  · rw [if_pos h5] at hy
    by_cases hm : (span_Meet (buffer_rangeOf x.xOp) (prg pv i)).2 = true
    · rw [if_pos hm] at hy
      rw [List.mem_singleton.1 hy]
      refine ⟨⟨?_, rfl⟩, rfl⟩
      have := (mt_yes (a := buffer_rangeOf x.xOp) (co_range hx.1 (.inr h5)) (prg_R h hi) hm).1
      show op_CheckOp (OpD.mk 5 [] [] _ _ 0) = 0
      rw [co5 rfl, if_pos ⟨rfl, rfl, rfl⟩, cr_eq]
      exact sc_R.2 this
    · rw [if_neg hm] at hy; cases hy
  · rw [if_neg h5] at hy
    split at hy
    · rw [List.mem_singleton.1 hy]; exact ⟨hx, rfl⟩
    · cases hy
theorem pc_one (pv : List Key) (i : Nat) (x : EntryD) (R : EntryD → EntryD → Prop) : (piece pv i x).Pairwise R := by
  unfold piece
  split
  · split
    · exact List.pairwise_singleton _ _
    · exact .nil
  · split
    · exact List.pairwise_singleton _ _
    · exact .nil
theorem effs_app (k : Key) (b : List OpD) : ∀ (a : List OpD) (v : Option (List UInt8)), effs k (a ++ b) v = effs k b (effs k a v)
  | [], _ => rfl
  | x :: a, v => effs_app k b a _
theorem pc_eff {pv : List Key} (h : pvs pv) {i : Nat} (hi : i ≤ pv.length) {x : EntryD} (hx : okw x) {k : Key} (hk : inR (prg pv i).xLo (prg pv i).xHi k = true) (v : Option (List UInt8)) : effs k ((piece pv i x).map fun x => x.xOp) v = eff x.xOp k v := by
  unfold piece
  by_cases h5 : x.xOp.xKind = 5
  · rw [if_pos h5]
    have hR : M.R (buffer_rangeOf x.xOp).xLo (buffer_rangeOf x.xOp).xHi := co_range hx.1 (.inr h5)
    have e5 : eff x.xOp k v = if inR x.xOp.xLo x.xOp.xHi k = true then none else v := by
      unfold eff tch
      rw [if_pos h5]
      split
      · rw [if_neg (by omega)]
      · rfl
    by_cases hm : (span_Meet (buffer_rangeOf x.xOp) (prg pv i)).2 = true
    · rw [if_pos hm, e5]
      have m := (mt_yes hR (prg_R h hi) hm).2 k
      show eff (OpD.mk 5 [] [] _ _ 0) k v = _
      unfold eff tch
      rw [if_pos rfl]
      by_cases c : inR x.xOp.xLo x.xOp.xHi k = true
      · rw [if_pos c]
        show (if inR _ _ k = true then _ else v) = _
        rw [if_pos (m.2 ⟨c, hk⟩)]; rfl
      · rw [if_neg c]
        show (if inR _ _ k = true then _ else v) = _
        rw [if_neg fun q => c (m.1 q).1]
    · have c : ¬ inR x.xOp.xLo x.xOp.xHi k = true := fun c => mt_no hR (prg_R h hi) hm k ⟨c, hk⟩
      rw [if_neg hm, e5, if_neg c]; rfl
  · rw [if_neg h5]
    by_cases hs : sort_Search ((pv.length : Nat) : Int) pv x = ((i : Nat) : Int)
    · rw [if_pos hs]; rfl
    · rw [if_neg hs]
      unfold eff tch
      rw [if_neg h5, decide_eq_false fun q => hs ((se_iff h x hi).2 (by rw [q]; exact hk))]; rfl
theorem pc_out {pv : List Key} (h : pvs pv) {i : Nat} (hi : i ≤ pv.length) {x : EntryD} {k : Key} (hk : ¬ inR (prg pv i).xLo (prg pv i).xHi k = true) : effs k ((piece pv i x).map fun x => x.xOp) none = none := by
  unfold piece
  by_cases h5 : x.xOp.xKind = 5
  · rw [if_pos h5]
    split
    · show eff (OpD.mk 5 [] [] _ _ 0) k none = none
      unfold eff
      split
      · rfl
      · rfl
    · rfl
  · rw [if_neg h5]
    by_cases hs : sort_Search ((pv.length : Nat) : Int) pv x = ((i : Nat) : Int)
    · rw [if_pos hs]
      show eff x.xOp k none = none
      unfold eff tch
      rw [if_neg h5, decide_eq_false fun q => hk (by rw [← q]; exact (se_iff h x hi).1 hs)]; rfl
    · rw [if_neg hs]; rfl
theorem fm_eff {pv : List Key} (h : pvs pv) {i : Nat} (hi : i ≤ pv.length) {k : Key} (hk : inR (prg pv i).xLo (prg pv i).xHi k = true) : ∀ (l : List EntryD) (v : Option (List UInt8)), (∀ x ∈ l, okw x) → effs k ((l.flatMap (piece pv i)).map fun x => x.xOp) v = effs k (l.map fun x => x.xOp) v
  | [], _, _ => rfl
  | x :: l, v, hl => by
    rw [List.flatMap_cons, List.map_append, effs_app, pc_eff h hi (hl x (.head _)) hk, fm_eff h hi hk l _ fun y hy => hl y (.tail _ hy)]; rfl
theorem fm_out {pv : List Key} (h : pvs pv) {i : Nat} (hi : i ≤ pv.length) {k : Key} (hk : ¬ inR (prg pv i).xLo (prg pv i).xHi k = true) : ∀ l : List EntryD, effs k ((l.flatMap (piece pv i)).map fun x => x.xOp) none = none
  | [] => rfl
  | x :: l => by
    rw [List.flatMap_cons, List.map_append, effs_app, pc_out h hi hk, fm_out h hi hk l]
theorem bk_ofL {l : List EntryD} (h : ∀ x ∈ l, op_CheckOp x.xOp = 0 ∧ op_Writes x.xOp = true) (hp : l.Pairwise fun a b => a.xSeq < b.xSeq) : ∀ (q : List EntryD) (k : Nat), List.drop k l = q → buffer_Check_L0 l q k = .inl ()
  | [], _, _ => rfl
  | z :: q, k, hd => by
    have hz : l[k]? = some z := by
      have e : (List.drop k l)[0]? = some z := by rw [hd]; rfl
      rwa [List.getElem?_drop, Nat.add_zero] at e
    have hd2 : List.drop (k + 1) l = q := by rw [← List.drop_drop, hd]; rfl
    obtain ⟨h1, h2⟩ := h z (List.mem_of_getElem? hz)
    obtain ⟨hk, rfl⟩ := List.getElem?_eq_some_iff.1 hz
    rw [buffer_Check_L0, bnd_eq, if_pos h1, bnd_eq, if_pos h2]
    by_cases h0 : ((k : Nat) : Int) > 0
    · have h3 : l[k - 1].xSeq < l[k].xSeq := List.pairwise_iff_getElem.1 hp (k - 1) k (by omega) hk (by omega)
      have e : List.getD l (k - 1) default = l[k - 1] := getD_of (List.getElem?_eq_getElem (by omega))
      rw [if_pos h0, bnd_eq, e, if_neg (by omega)]
      exact bk_ofL h hp q (k + 1) hd2
    · rw [if_neg h0]
      exact bk_ofL h hp q (k + 1) hd2
theorem fm_chk {pv : List Key} (h : pvs pv) {i : Nat} (hi : i ≤ pv.length) {l : List EntryD} (hl : buffer_Check l = 0) : buffer_Check (l.flatMap (piece pv i)) = 0 := by
  obtain ⟨h1, h2⟩ := bk_ok hl
  have a : ∀ y ∈ l.flatMap (piece pv i), op_CheckOp y.xOp = 0 ∧ op_Writes y.xOp = true := fun y hy => by
    obtain ⟨x, hx, hy⟩ := List.mem_flatMap.1 hy
    exact (pc_ok h hi (h1 x hx) y hy).1
  have b : (l.flatMap (piece pv i)).Pairwise fun a b => a.xSeq < b.xSeq := by
    refine List.pairwise_flatMap.2 ⟨fun x _ => pc_one pv i x _, ?_⟩
    refine List.Pairwise.imp_of_mem ?_ h2
    intro x z hx hz hxz a ha b hb
    rw [(pc_ok h hi (h1 x hx) a ha).2, (pc_ok h hi (h1 z hz) b hb).2]
    exact hxz
  have e := bk_ofL a b (l.flatMap (piece pv i)) 0 rfl
  unfold buffer_Check
  rw [e]; rfl
theorem wi_all (r : RangeD) : ∀ (q l : List PairD), r04_Within_L0 r (-1) q l = l ++ q.filter fun p => r02_Has r p.xKey
  | [], l => by rw [r04_Within_L0, List.filter_nil, List.append_nil]
  | x :: q, l => by
    rw [r04_Within_L0, bnd_eq]
    by_cases h : r02_Has r x.xKey = true
    · rw [if_pos h, if_pos (by decide), wi_all r q, List.filter_cons_of_pos (by exact h), List.append_assoc]; rfl
    · rw [if_neg h, wi_all r q, List.filter_cons_of_neg (by exact h)]
theorem wi_in {m : List PairD} (hm : op_CheckMap m = 0) {r : RangeD} (hr : M.R r.xLo r.xHi) : r04_Within m r (-1) = m.filter fun p => inR r.xLo r.xHi p.xKey := by
  unfold r04_Within
  rw [bnd_eq, wi_all, List.nil_append]
  refine List.filter_congr fun p hp => ?_
  exact has_in hr ((cm_ok.1 hm).1 p hp).1
/-- A part done to its part of the map is the whole's part. -/
theorem part_at {pv : List Key} (h : pvs pv) {i : Nat} (hi : i ≤ pv.length) {m : List PairD} {l : List EntryD} (hm : op_CheckMap m = 0) (hl : buffer_Check l = 0) : buffer_Apply (r04_Within m (prg pv i) (-1)) (l.flatMap (piece pv i)) = ((buffer_Apply m l).1.filter fun p => inR (prg pv i).xLo (prg pv i).xHi p.xKey, 0) := by
  have hf := cm_sub (n := m.filter fun p => inR (prg pv i).xLo (prg pv i).xHi p.xKey) List.filter_sublist hm
  have hc := fm_chk h hi hl
  have srt_of : ∀ {m : List PairD} {l : List EntryD}, op_CheckMap m = 0 → buffer_Check l = 0 → srt (buffer_Apply m l).1 := fun {m l} hm hl => by
    rw [ap_ok hm hl]
    exact (cm_ok.1 (run_keep hm fun o ho => by
      obtain ⟨x, hx, rfl⟩ := List.mem_map.1 ho
      exact ((bk_ok hl).1 x hx).1)).2
  rw [wi_in hm (prg_R h hi)]
  have e2 : (buffer_Apply (m.filter fun p => inR (prg pv i).xLo (prg pv i).xHi p.xKey) (l.flatMap (piece pv i))).2 = 0 := by rw [ap_ok hf hc]
  refine Prod.ext ?_ e2
  refine lkp_ext (srt_of hf hc) (srt_sub List.filter_sublist (srt_of hm hl)) fun k => ?_
  rw [ap_lkp hf hc, lkp_flt (fun q => inR (prg pv i).xLo (prg pv i).xHi q), lkp_flt (fun q => inR (prg pv i).xLo (prg pv i).xHi q), ap_lkp hm hl]
  by_cases hk : inR (prg pv i).xLo (prg pv i).xHi k = true
  · rw [if_pos hk, if_pos hk, fm_eff h hi hk l _ (bk_ok hl).1]
  · rw [if_neg hk, if_neg hk, fm_out h hi hk l]
theorem flt_split (p q : Key → Bool) (h : ∀ a b, p a = true → q b = true → a < b) : ∀ {w : List PairD}, srt w → (w.filter fun x => p x.xKey) ++ (w.filter fun x => q x.xKey) = w.filter fun x => p x.xKey || q x.xKey
  | [], _ => rfl
  | x :: w, hs => by
    obtain ⟨h1, h2⟩ := srt_cons.1 hs
    have ih := flt_split p q h h2
    by_cases hp : p x.xKey = true
    · have hq : ¬ q x.xKey = true := fun hq => k_irr _ (h _ _ hp hq)
      rw [List.filter_cons_of_pos (by exact hp), List.filter_cons_of_neg (by exact hq), List.filter_cons_of_pos (by rw [hp]; rfl), List.cons_append, ih]
    · by_cases hq : q x.xKey = true
      · have none : (w.filter fun x => p x.xKey) = [] := List.filter_eq_nil_iff.2 fun y hy hpy => k_irr _ (k_tr (h _ _ hpy hq) (h1 y hy))
        rw [none, List.nil_append] at ih
        rw [List.filter_cons_of_neg (by exact hp), none, List.nil_append, List.filter_cons_of_pos (by exact hq), List.filter_cons_of_pos (by rw [hq]; simp), ih]
      · rw [List.filter_cons_of_neg (by exact hp), List.filter_cons_of_neg (by exact hq), List.filter_cons_of_neg (by simp [hp, hq]), ih]
theorem parts_from {pv : List Key} (h : pvs pv) {w : List PairD} (hs : srt w) : ∀ (n k : Nat), k + n = pv.length → (List.range' k (n + 1)).flatMap (fun i => w.filter fun p => inR (prg pv i).xLo (prg pv i).xHi p.xKey) = w.filter fun p => decide (¬ p.xKey < (prg pv k).xLo)
  | 0, k, hk => by
    rw [List.range'_succ, List.range'_zero, List.flatMap_cons, List.flatMap_nil, List.append_nil]
    refine List.filter_congr fun p _ => ?_
    unfold inR
    rw [hi_end (by omega)]
    simp
  | n + 1, k, hk => by
    obtain ⟨q, hq⟩ : ∃ q, pv[k]? = some q := ⟨_, List.getElem?_eq_getElem (by omega)⟩
    have hR := prg_R h (i := k) (by omega)
    have hlo : (prg pv (k + 1)).xLo = q := lo_pos (by omega) hq
    have hne := kok_ne (h.1 q (List.mem_of_getElem? hq))
    rw [List.range'_succ, List.flatMap_cons, parts_from h hs n (k + 1) (by omega), hlo,
      flt_split (fun z => inR (prg pv k).xLo (prg pv k).xHi z) (fun z => decide (¬ z < q)) (fun a b ha hb => by
        rw [inR_iff, hi_at hq] at ha
        exact k_lt_le' (ha.2.resolve_left hne) (k_nlt.1 (of_decide_eq_true hb))) hs]
    refine List.filter_congr fun p _ => ?_
    have hlt : (prg pv k).xLo < q := by
      have := hR.2
      rw [hi_at hq] at this
      exact (this.resolve_left hne).2
    have e : (inR (prg pv k).xLo (prg pv k).xHi p.xKey || decide (¬ p.xKey < q)) = true ↔ ¬ p.xKey < (prg pv k).xLo := by
      rw [Bool.or_eq_true, inR_iff, decide_eq_true_iff, hi_at hq]
      constructor
      · rintro (a | a)
        · exact a.1
        · exact fun z => a (k_tr z hlt)
      · intro a
        by_cases b : p.xKey < q
        · exact .inl ⟨a, .inr b⟩
        · exact .inr b
    by_cases c : p.xKey < (prg pv k).xLo
    · rw [decide_eq_false (not_not_intro c), Bool.eq_false_iff]
      exact fun z => e.1 z c
    · rw [decide_eq_true c]
      exact e.2 c
end Go.Proofs.Ytblpdbnklopchaa
