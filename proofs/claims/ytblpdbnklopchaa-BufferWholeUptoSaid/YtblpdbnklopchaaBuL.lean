/-
  What a map has of a key; what entries that are a buffer make of it; maps that rise are told by what they have.
  Conditions: none beyond each law's own.
-/
import Derived.Test.YtblpdbnklopchaaBuQ
namespace Go.Proofs.Ytblpdbnklopchaa
set_option linter.unusedVariables false
set_option linter.unusedSimpArgs false
open Go.ChangeShapes
/-- What a map has of a key. -/
def lkp : List PairD → Key → Option (List UInt8)
  | [], _ => none
  | x :: m, k => if x.xKey = k then some x.xValue else lkp m k
theorem lkp_none {k : Key} : ∀ {m : List PairD}, (∀ p ∈ m, p.xKey ≠ k) → lkp m k = none
  | [], _ => rfl
  | x :: m, h => by
    rw [lkp, if_neg (h x (.head _))]
    exact lkp_none fun p hp => h p (.tail _ hp)
theorem lkp_app {k : Key} {b : List PairD} : ∀ a : List PairD, lkp (a ++ b) k = match lkp a k with | some v => some v | none => lkp b k
  | [] => rfl
  | x :: a => by
    rw [List.cons_append, lkp, lkp]
    by_cases h : x.xKey = k
    · rw [if_pos h, if_pos h]
    · rw [if_neg h, if_neg h]; exact lkp_app a
theorem lkp_flt (f : Key → Bool) (k : Key) : ∀ m : List PairD, lkp (m.filter fun p => f p.xKey) k = if f k = true then lkp m k else none
  | [] => by simp [lkp]
  | x :: m => by
    by_cases h : f x.xKey = true
    · rw [List.filter_cons_of_pos (by exact h), lkp, lkp]
      by_cases hk : x.xKey = k
      · rw [if_pos hk, if_pos hk, if_pos (by rw [← hk]; exact h)]
      · rw [if_neg hk, if_neg hk]; exact lkp_flt f k m
    · rw [List.filter_cons_of_neg (by exact h), lkp_flt f k m, lkp]
      by_cases hk : x.xKey = k
      · rw [if_neg (by rw [← hk]; exact h), if_neg (by rw [← hk]; exact h)]
      · rw [if_neg hk]
theorem lkp_mem {k : Key} {v : List UInt8} : ∀ {m : List PairD}, lkp m k = some v → PairD.mk k v ∈ m
  | [], h => by cases h
  | x :: m, h => by
    rw [lkp] at h
    by_cases hk : x.xKey = k
    · rw [if_pos hk] at h; cases h; subst hk; exact .head _
    · rw [if_neg hk] at h; exact .tail _ (lkp_mem h)
theorem lkp_at {k : Key} {v : List UInt8} {m : List PairD} (hs : srt m) (h : PairD.mk k v ∈ m) : lkp m k = some v := by
  induction m with
  | nil => cases h
  | cons x m ih =>
    rw [lkp]
    obtain ⟨h1, h2⟩ := srt_cons.1 hs
    rcases List.mem_cons.1 h with rfl | h
    · rw [if_pos rfl]
    · rw [if_neg fun e => k_irr k (by have := h1 _ h; rwa [e] at this)]
      exact ih h2 h
/-- Maps that rise and have the same are the same. -/
theorem lkp_ext : ∀ {m n : List PairD}, srt m → srt n → (∀ k, lkp m k = lkp n k) → m = n
  | [], [], _, _, _ => rfl
  | [], y :: n, _, _, h => by have := h y.xKey; rw [lkp, lkp, if_pos rfl] at this; cases this
  | x :: m, [], _, _, h => by have := h x.xKey; rw [lkp, lkp, if_pos rfl] at this; cases this
  | x :: m, y :: n, hm, hn, h => by
    obtain ⟨hm1, hm2⟩ := srt_cons.1 hm
    obtain ⟨hn1, hn2⟩ := srt_cons.1 hn
    have e : x = y := by
      have hx : PairD.mk x.xKey x.xValue ∈ y :: n := lkp_mem (by rw [← h, lkp, if_pos rfl])
      have hy : PairD.mk y.xKey y.xValue ∈ x :: m := lkp_mem (by rw [h, lkp, if_pos rfl])
      rcases List.mem_cons.1 hx with e | hx
      · exact e
      rcases List.mem_cons.1 hy with e | hy
      · exact e.symm
      exact absurd (k_tr (hn1 _ hx) (hm1 _ hy)) (k_irr _)
    subst e
    congr 1
    refine lkp_ext hm2 hn2 fun k => ?_
    have hk := h k
    rw [lkp, lkp] at hk
    by_cases e : x.xKey = k
    · subst e
      rw [lkp_none fun p hp q => k_irr _ (by have := hm1 p hp; rwa [q] at this), lkp_none fun p hp q => k_irr _ (by have := hn1 p hp; rwa [q] at this)]
    · rwa [if_neg e, if_neg e] at hk
theorem fd_lkp (m : List PairD) (k : Key) : r04_Find m k = match lkp m k with | some v => (v, true) | none => ([], false) := by
  have key : ∀ m : List PairD, r04_Find_L0 k m = match lkp m k with | some v => .inr (v, true) | none => .inl () := by
    intro m
    induction m with
    | nil => rfl
    | cons x q ih =>
      show (if _ then _ else _) = _
      rw [lkp]
      by_cases h : x.xKey = k
      · rw [if_pos h, if_pos h]
      · rw [if_neg h, if_neg h]; exact ih
  unfold r04_Find
  rw [key]
  cases lkp m k <;> rfl
/-- Does an operation touch a key. -/
def tch (o : OpD) (k : Key) : Bool := if o.xKind = 5 then inR o.xLo o.xHi k else decide (o.xKey = k)
/-- What is there behind an operation. -/
def eff (o : OpD) (k : Key) (v : Option (List UInt8)) : Option (List UInt8) := if tch o k = true then (if o.xKind = 2 then some o.xValue else none) else v
theorem wk {o : OpD} (hw : op_Writes o = true) : o.xKind = 2 ∨ o.xKind = 3 ∨ o.xKind = 5 := by
  unfold op_Writes at hw
  by_cases h1 : o.xKind = 1
  · rw [if_pos h1] at hw; cases hw
  by_cases h2 : o.xKind = 2
  · exact .inl h2
  by_cases h3 : o.xKind = 3
  · exact .inr (.inl h3)
  by_cases h4 : o.xKind = 4
  · rw [h4] at hw; simp at hw
  by_cases h5 : o.xKind = 5
  · exact .inr (.inr h5)
  rw [if_neg h1, if_neg h2, if_neg h3, if_neg h4, if_neg h5] at hw; cases hw
theorem stp_lkp {m : List PairD} {o : OpD} (hm : op_CheckMap m = 0) (ho : op_CheckOp o = 0) (hw : op_Writes o = true) (k : Key) : lkp (stp m o).1 k = eff o k (lkp m k) := by
  obtain ⟨hp, hs⟩ := cm_ok.1 hm
  have hk := co_kind ho
  have hw' := wk hw
  rcases hw' with h | h | h
  · have e1 : stp m o = op_put m o := by unfold stp; rw [if_neg (by omega), if_pos h]
    have e2 : eff o k (lkp m k) = if o.xKey = k then some o.xValue else lkp m k := by unfold eff tch; simp [h]
    rw [e1, e2]
    obtain ⟨a, e, d, hc, -, -⟩ := find3 hs o.xKey
    rw [put_of hs hc, hc.flt.1, hc.flt.2.2]
    show lkp (_ ++ _ :: _) k = _
    rw [lkp_app, lkp_flt (fun q => decide (q < o.xKey)), lkp, lkp_flt (fun q => decide (o.xKey < q))]
    by_cases hkk : o.xKey = k
    · subst hkk
      simp [k_irr]
    · rcases k_tri k o.xKey with q | q | q
      · have : ¬ o.xKey < k := fun z => k_irr k (k_tr q z)
        simp only [q, hkk, this, decide_true, decide_false, if_true, if_false, Bool.false_eq_true]
        cases lkp m k <;> rfl
      · exact absurd q.symm hkk
      · have : ¬ k < o.xKey := fun z => k_irr k (k_tr z q)
        simp only [q, hkk, this, decide_true, decide_false, if_true, if_false, Bool.false_eq_true]
  · have e1 : stp m o = op_del m o := by unfold stp; rw [if_neg (by omega), if_neg (by omega), if_pos h]
    have e2 : eff o k (lkp m k) = if o.xKey = k then none else lkp m k := by unfold eff tch; simp [h]
    rw [e1, e2]
    obtain ⟨a, e, d, hc, -, -⟩ := find3 hs o.xKey
    rw [del_of hs hc, hc.flt.1, hc.flt.2.2]
    show lkp (_ ++ _) k = _
    rw [lkp_app, lkp_flt (fun q => decide (q < o.xKey)), lkp_flt (fun q => decide (o.xKey < q))]
    by_cases hkk : o.xKey = k
    · subst hkk
      simp [k_irr]
    · rcases k_tri k o.xKey with q | q | q
      · have : ¬ o.xKey < k := fun z => k_irr k (k_tr q z)
        simp only [q, hkk, this, decide_true, decide_false, if_true, if_false, Bool.false_eq_true]
        cases lkp m k <;> rfl
      · exact absurd q.symm hkk
      · have : ¬ k < o.xKey := fun z => k_irr k (k_tr z q)
        simp only [q, hkk, this, decide_true, decide_false, if_true, if_false, Bool.false_eq_true]
  · have e1 : stp m o = op_wipe m o := by unfold stp; rw [if_neg (by omega), if_neg (by omega), if_neg (by omega), if_neg (by omega)]
    have e2 : eff o k (lkp m k) = if inR o.xLo o.xHi k = true then none else lkp m k := by unfold eff tch; simp [h]
    rw [e1, e2, wipe_of hs (co_range ho (.inr h))]
    show lkp (m.filter _) k = _
    rw [lkp_flt (fun q => !inR o.xLo o.xHi q)]
    cases inR o.xLo o.xHi k <;> simp
/-- What is there behind operations. -/
def effs (k : Key) : List OpD → Option (List UInt8) → Option (List UInt8)
  | [], v => v
  | o :: l, v => effs k l (eff o k v)
theorem run_lkp (k : Key) : ∀ {l : List OpD} {m : List PairD}, op_CheckMap m = 0 → (∀ o ∈ l, op_CheckOp o = 0 ∧ op_Writes o = true) → lkp (run m l).1 k = effs k l (lkp m k)
  | [], m, _, _ => rfl
  | o :: l, m, hm, h => by
    obtain ⟨h1, h2⟩ := h o (.head _)
    rw [effs, ← stp_lkp hm h1 h2]
    exact run_lkp k (stp_keep hm h1) fun x hx => h x (.tail _ hx)
theorem lp_inl {ρ : Type} {x : Unit ⊕ ρ} {f : Unit → ρ} {P : ρ → Prop} (h : P (lp x f)) (hx : ∀ r, x = .inr r → ¬ P r) : x = .inl () := by
  cases x with
  | inl u => rfl
  | inr r => exact absurd h (hx r rfl)
theorem bk_bad (l : List EntryD) : ∀ (q : List EntryD) (k : Nat) (r : Int), buffer_Check_L0 l q k = .inr r → ¬ r = 0
  | [], k, r, h => by cases h
  | x :: q, k, r, h => by
    rw [buffer_Check_L0] at h
    simp only [bnd_eq] at h
    split at h
    · split at h
      · split at h
        · split at h
          · cases h; decide
          · exact bk_bad l q _ r h
        · exact bk_bad l q _ r h
      · cases h; decide
    · next h0 => cases h; exact h0
theorem bk_L (l : List EntryD) : ∀ (q : List EntryD) (k : Nat), List.drop k l = q → buffer_Check_L0 l q k = .inl () → (∀ x ∈ q, op_CheckOp x.xOp = 0 ∧ op_Writes x.xOp = true) ∧ ∀ (i : Nat) (x y : EntryD), k ≤ i + 1 → l[i]? = some x → l[i + 1]? = some y → x.xSeq < y.xSeq
  | [], k, hd, _ => by
    refine ⟨fun x hx => (by cases hx), fun i x y hi _ hy => ?_⟩
    have hl : l.length ≤ k := by
      have := congrArg List.length hd
      rw [List.length_drop] at this
      simp only [List.length_nil] at this
      omega
    have := (List.getElem?_eq_some_iff.1 hy).1; omega
  | z :: q, k, hd, h => by
    have hz : l[k]? = some z := by
      have e : (List.drop k l)[0]? = some z := by rw [hd]; rfl
      rwa [List.getElem?_drop, Nat.add_zero] at e
    have hd2 : List.drop (k + 1) l = q := by rw [← List.drop_drop, hd]; rfl
    rw [buffer_Check_L0] at h
    simp only [bnd_eq] at h
    by_cases h1 : op_CheckOp z.xOp = 0
    · rw [if_pos h1] at h
      by_cases h0 : op_Writes z.xOp = true
      · rw [if_pos h0] at h
        have one : ∀ x ∈ z :: q, (∀ x ∈ q, op_CheckOp x.xOp = 0 ∧ op_Writes x.xOp = true) → op_CheckOp x.xOp = 0 ∧ op_Writes x.xOp = true := fun x hx hq => by
          rcases List.mem_cons.1 hx with rfl | hx
          · exact ⟨h1, h0⟩
          · exact hq x hx
        by_cases h2 : ((k : Nat) : Int) > 0
        · rw [if_pos h2] at h
          by_cases h3 : ((z.xSeq : Nat) : Int) ≤ (((List.getD l (k - 1) default).xSeq : Nat) : Int)
          · rw [if_pos h3] at h; cases h
          · rw [if_neg h3] at h
            obtain ⟨a, b⟩ := bk_L l q (k + 1) hd2 h
            refine ⟨fun x hx => one x hx a, fun i x y hi hx hy => ?_⟩
            by_cases hik : i + 1 = k
            · subst hik
              rw [Nat.add_sub_cancel, getD_of hx] at h3
              rw [hz] at hy; cases hy
              omega
            · exact b i x y (by omega) hx hy
        · rw [if_neg h2] at h
          obtain ⟨a, b⟩ := bk_L l q (k + 1) hd2 h
          exact ⟨fun x hx => one x hx a, fun i x y hi hx hy => b i x y (by omega) hx hy⟩
      · rw [if_neg h0] at h; cases h
    · rw [if_neg h1] at h; cases h
theorem rise_pw : ∀ {l : List EntryD}, (∀ (i : Nat) (x y : EntryD), l[i]? = some x → l[i + 1]? = some y → x.xSeq < y.xSeq) → l.Pairwise fun a b => a.xSeq < b.xSeq
  | [], _ => .nil
  | x :: q, h => by
    have hq := rise_pw (l := q) fun i a b ha hb => h (i + 1) a b ha hb
    refine List.Pairwise.cons (fun y hy => ?_) hq
    cases q with
    | nil => cases hy
    | cons z q =>
      have hz := h 0 x z rfl rfl
      rcases List.mem_cons.1 hy with rfl | hy
      · exact hz
      · have := (List.pairwise_cons.1 hq).1 y hy
        omega
theorem bk_ok {l : List EntryD} (h : buffer_Check l = 0) : (∀ x ∈ l, op_CheckOp x.xOp = 0 ∧ op_Writes x.xOp = true) ∧ l.Pairwise fun a b => a.xSeq < b.xSeq := by
  obtain ⟨a, b⟩ := bk_L l l 0 rfl (lp_inl (P := fun r => r = 0) h (bk_bad l l 0))
  exact ⟨a, rise_pw fun i x y hx hy => b i x y (by omega) hx hy⟩
end Go.Proofs.Ytblpdbnklopchaa
