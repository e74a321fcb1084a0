/-
  The checks of buffers, what entries say of a key, and what is there behind them.
  Conditions: none beyond each law's own.
-/
import Derived.Test.YtblpdbnklopchaaBuL
namespace Go.Proofs.Ytblpdbnklopchaa
set_option linter.unusedVariables false
set_option linter.unusedSimpArgs false
open Go.ChangeShapes
theorem wr_eq2 (o : OpD) : op_Writes o = r04_Writes o := by
  unfold op_Writes r04_Writes
  by_cases h1 : o.xKind = 1
  · simp [h1]
  · by_cases h2 : o.xKind = 2
    · simp [h2]
    · by_cases h3 : o.xKind = 3
      · simp [h3]
      · by_cases h4 : o.xKind = 4
        · simp [h4]
        · by_cases h5 : o.xKind = 5
          · simp [h5]
          · simp [h1, h2, h3, h4, h5]
theorem bc_L (l : List EntryD) : ∀ (q : List EntryD) (k : Nat), buffer_Check_L0 l q k = r12_Check_L0 l q k
  | [], _ => rfl
  | x :: q, k => by
    unfold buffer_Check_L0 r12_Check_L0
    simp only [bnd_eq, co_eq, wr_eq2, bc_L l q, ge_iff_le]
theorem bc_eq (l : List EntryD) : buffer_Check l = r12_Check l := by
  unfold buffer_Check r12_Check
  rw [bc_L]
theorem sh_eq (r : RangeD) (k : Key) : span_Has r k = r02_Has r k := by
  unfold span_Has r02_Has span_below
  simp only [bnd_eq, sc_eq, ck_eq]
theorem to_eq (o : OpD) (k : Key) : buffer_touches o k = r12_Touches o k := by
  unfold buffer_touches r12_Touches
  simp only [bnd_eq, sh_eq, buffer_rangeOf]
  by_cases h2 : o.xKind = 2
  · simp [h2]
  · by_cases h3 : o.xKind = 3
    · simp [h3]
    · by_cases h5 : o.xKind = 5
      · simp [h5]
      · simp [h2, h3, h5]
/-- What one entry says. -/
def says (x : EntryD) : List UInt8 × Bool × Bool := if x.xOp.xKind = 2 then (x.xOp.xValue, true, true) else ([], false, true)
theorem bf_one (k : Key) (x : EntryD) (q : List EntryD) : buffer_Find_L0 k (x :: q) = if r12_Touches x.xOp k = true then .inr (says x) else buffer_Find_L0 k q := by
  rw [buffer_Find_L0, bnd_eq, to_eq]
  unfold says
  by_cases h : r12_Touches x.xOp k = true
  · rw [if_pos h, if_pos h]
    by_cases h2 : x.xOp.xKind = 2
    · rw [if_pos h2, if_pos h2]
    · rw [if_neg h2, if_neg h2]
  · rw [if_neg h, if_neg h]
theorem bf_app (k : Key) (x : EntryD) : ∀ a : List EntryD, buffer_Find_L0 k (a ++ [x]) = match buffer_Find_L0 k a with
    | .inl _ => buffer_Find_L0 k [x]
    | .inr r => .inr r
  | [] => rfl
  | y :: a => by
    rw [List.cons_append, bf_one, bf_one]
    by_cases h : r12_Touches y.xOp k = true
    · rw [if_pos h, if_pos h]
    · rw [if_neg h, if_neg h]; exact bf_app k x a
theorem rf_one (k : Key) (x : EntryD) (q : List EntryD) (s : List UInt8) (b c : Bool) : r12_Find_L0 k (x :: q) s b c = if r12_Touches x.xOp k = true then r12_Find_L0 k q (says x).1 (says x).2.1 (says x).2.2 else r12_Find_L0 k q s b c := by
  rw [r12_Find_L0, bnd_eq]
  unfold says
  by_cases h : r12_Touches x.xOp k = true
  · rw [if_pos h, if_pos h]
    by_cases h2 : x.xOp.xKind = 2
    · rw [if_pos h2, if_pos h2, decide_eq_true h2]
    · rw [if_neg h2, if_neg h2, decide_eq_false h2]
  · rw [if_neg h, if_neg h]
theorem rf_L (k : Key) : ∀ (l : List EntryD) (s : List UInt8) (b c : Bool), r12_Find_L0 k l s b c = match buffer_Find_L0 k l.reverse with
    | .inl _ => (s, b, c)
    | .inr r => r
  | [], _, _, _ => rfl
  | x :: q, s, b, c => by
    rw [List.reverse_cons, bf_app, rf_one]
    by_cases h : r12_Touches x.xOp k = true
    · rw [if_pos h, rf_L k q, bf_one, if_pos h]
      cases buffer_Find_L0 k q.reverse <;> rfl
    · rw [if_neg h, rf_L k q, bf_one, if_neg h]
      cases buffer_Find_L0 k q.reverse <;> rfl
theorem fi_eq (l : List EntryD) (k : Key) : buffer_Find l k = r12_Find l k := by
  unfold buffer_Find r12_Find
  rw [bnd_eq, rf_L]
  cases buffer_Find_L0 k l.reverse <;> rfl
theorem has_in {lo hi k : Key} (hr : M.R lo hi) (hk : kok k) : r02_Has (RangeD.mk lo hi) k = inR lo hi k := by
  have h := rh_H (r := RangeD.mk lo hi) (k := k)
  unfold inR
  have e : M.H lo hi k ↔ (¬ k < lo ∧ (hi = [] ∨ k < hi)) := ⟨fun q => ⟨fun z => k_nlt.2 q.2.2.1 z, q.2.2.2⟩, fun q => ⟨hr, hk, k_nlt.1 q.1, q.2⟩⟩
  rw [show (M.H (RangeD.mk lo hi).xLo (RangeD.mk lo hi).xHi k ↔ _) from e] at h
  cases c : r02_Has (RangeD.mk lo hi) k
  · exact (decide_eq_false fun q => by rw [h.2 q] at c; cases c).symm
  · exact (decide_eq_true (h.1 c)).symm
theorem to_tch {o : OpD} {k : Key} (ho : op_CheckOp o = 0) (hw : op_Writes o = true) (hk : kok k) : r12_Touches o k = tch o k := by
  unfold r12_Touches tch
  simp only [bnd_eq]
  have hw' : o.xKind = 2 ∨ o.xKind = 3 ∨ o.xKind = 5 := wk hw
  by_cases h5 : o.xKind = 5
  · rw [if_pos h5, if_pos h5, has_in (co_range ho (.inr h5)) hk]
  · rw [if_neg h5, if_neg h5]
    by_cases h2 : o.xKind = 2
    · rw [if_pos h2]
    · rw [if_neg h2, if_pos (by omega)]
/-- What is told and what is there. -/
def tells (r : List UInt8 × Bool × Bool) (v v0 : Option (List UInt8)) : Prop := if r.2.2 = true then v = (if r.2.1 = true then some r.1 else none) ∧ (r.2.1 = false → r.1 = []) else v = v0
theorem rf_effs (k : Key) (hk : kok k) (v0 : Option (List UInt8)) : ∀ (l : List EntryD) (s : List UInt8) (b c : Bool) (v : Option (List UInt8)), (∀ x ∈ l, op_CheckOp x.xOp = 0 ∧ op_Writes x.xOp = true) → tells (s, b, c) v v0 → tells (r12_Find_L0 k l s b c) (effs k (l.map fun x => x.xOp) v) v0
  | [], s, b, c, v, _, h => h
  | x :: q, s, b, c, v, hl, h => by
    obtain ⟨h1, h2⟩ := hl x (.head _)
    rw [rf_one, List.map_cons, effs, to_tch h1 h2 hk]
    unfold eff
    by_cases ht : tch x.xOp k = true
    · rw [if_pos ht, if_pos ht]
      refine rf_effs k hk v0 q _ _ _ _ (fun y hy => hl y (.tail _ hy)) ?_
      unfold tells says
      by_cases h2 : x.xOp.xKind = 2 <;> simp [h2]
    · rw [if_neg ht, if_neg ht]
      exact rf_effs k hk v0 q _ _ _ _ (fun y hy => hl y (.tail _ hy)) h
theorem ap_L (m : List PairD) : ∀ (q p : List EntryD) (r : List OpD), r.length = q.length → buffer_Apply_L0 m q p.length (p.map (fun x => x.xOp) ++ r) = (p ++ q).map fun x => x.xOp
  | [], p, r, h => by
    cases r with
    | nil => simp [buffer_Apply_L0]
    | cons y r => cases h
  | x :: q, p, r, h => by
    cases r with
    | nil => cases h
    | cons y r =>
      have e : List.set (p.map (fun x => x.xOp) ++ y :: r) p.length x.xOp = (p ++ [x]).map (fun x => x.xOp) ++ r := by
        rw [List.set_append_right _ _ (by rw [List.length_map]; exact Nat.le_refl _), List.length_map, Nat.sub_self, List.map_append, List.append_assoc]; rfl
      have := ap_L m q (p ++ [x]) r (by simpa using h)
      rw [List.length_append, List.length_singleton, List.append_assoc] at this
      rw [buffer_Apply_L0]
      show buffer_Apply_L0 m q (p.length + 1) (List.set (p.map (fun x => x.xOp) ++ y :: r) p.length x.xOp) = _
      rw [e, this]; rfl
theorem ap_ops (m : List PairD) (l : List EntryD) (z : OpD) : buffer_Apply_L0 m l 0 (List.replicate l.length z) = l.map fun x => x.xOp := by
  have := ap_L m l [] (List.replicate l.length z) List.length_replicate
  simpa using this
/-- What entries make of a map. -/
theorem ap_ok {m : List PairD} {l : List EntryD} (hm : op_CheckMap m = 0) (hl : buffer_Check l = 0) : buffer_Apply m l = ((run m (l.map fun x => x.xOp)).1, 0) := by
  unfold buffer_Apply
  have h := (bk_ok hl).1
  have hc : op_checkEach (l.map fun x => x.xOp) = 0 := ce_0.2 fun o ho => by
    obtain ⟨x, hx, rfl⟩ := List.mem_map.1 ho
    exact (h x hx).1
  rw [bnd_eq, if_pos hm, bnd_eq, if_pos hl, bnd_eq, ap_ops, bnd_eq, apply_ok hm hc]
theorem ap_0 {m : List PairD} {l : List EntryD} (h : (buffer_Apply m l).2 = 0) : op_CheckMap m = 0 ∧ buffer_Check l = 0 := by
  unfold buffer_Apply at h
  rw [bnd_eq] at h
  by_cases hm : op_CheckMap m = 0
  · rw [if_pos hm, bnd_eq] at h
    by_cases hl : buffer_Check l = 0
    · exact ⟨hm, hl⟩
    · rw [if_neg hl] at h; exact absurd h hl
  · rw [if_neg hm] at h; exact absurd h hm
theorem ap_lkp {m : List PairD} {l : List EntryD} (hm : op_CheckMap m = 0) (hl : buffer_Check l = 0) (k : Key) : lkp (buffer_Apply m l).1 k = effs k (l.map fun x => x.xOp) (lkp m k) := by
  rw [ap_ok hm hl]
  exact run_lkp k hm fun o ho => by
    obtain ⟨x, hx, rfl⟩ := List.mem_map.1 ho
    exact (bk_ok hl).1 x hx
end Go.Proofs.Ytblpdbnklopchaa
