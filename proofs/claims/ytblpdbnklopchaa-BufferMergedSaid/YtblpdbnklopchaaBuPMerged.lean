/-
  Two buffers merged are what they were dealt out of.
  Conditions: none beyond each law's own.
-/
import Derived.Test.YtblpdbnklopchaaBMerged
import Derived.Test.YtblpdbnklopchaaBuX
namespace Go.Proofs.Ytblpdbnklopchaa
set_option linter.unusedVariables false
set_option maxRecDepth 100000 in
theorem live_true : w12_live = true := by decide +kernel
/-- A list dealt out in two. -/
inductive Spl : List EntryD → List EntryD → List EntryD → Prop
  | nil : Spl [] [] []
  | left {a b l : List EntryD} (x : EntryD) : Spl a b l → Spl (x :: a) b (x :: l)
  | right {a b l : List EntryD} (x : EntryD) : Spl a b l → Spl a (x :: b) (x :: l)
theorem Spl.symm {a b l : List EntryD} (h : Spl a b l) : Spl b a l := by
  induction h with
  | nil => exact .nil
  | left x _ ih => exact .right x ih
  | right x _ ih => exact .left x ih
theorem Spl.sub {a b l : List EntryD} (h : Spl a b l) : a.Sublist l := by
  induction h with
  | nil => exact .slnil
  | left x _ ih => exact ih.cons_cons x
  | right x _ ih => exact ih.cons x
theorem Spl.nilL {a b l : List EntryD} (h : Spl a b l) : a = [] → b = l := by
  induction h with
  | nil => intro _; rfl
  | left x _ ih => intro e; cases e
  | right x _ ih => intro e; rw [ih e]
theorem deal (m : List PairD) (l1 : List EntryD) (w : List Bool) (r : Bool) : ∀ (q a b : List EntryD) (k : Nat), ∃ a' b', w12_BufferMerged_L0 m l1 w r q a b k = (a ++ a', b ++ b') ∧ Spl a' b' q
  | [], a, b, k => ⟨[], [], by rw [w12_BufferMerged_L0, List.append_nil, List.append_nil], .nil⟩
  | x :: q, a, b, k => by
    rw [w12_BufferMerged_L0, bnd_eq]
    by_cases h : List.getD w (k % w.length) default = true
    · rw [if_pos h]
      obtain ⟨a', b', e, s⟩ := deal m l1 w r q (a ++ [x]) b (k + 1)
      exact ⟨x :: a', b', by rw [e, List.append_assoc]; rfl, .left x s⟩
    · rw [if_neg h]
      obtain ⟨a', b', e, s⟩ := deal m l1 w r q a (b ++ [x]) (k + 1)
      exact ⟨a', x :: b', by rw [e, List.append_assoc]; rfl, .right x s⟩
theorem bk_ofL {l : List EntryD} (h : ∀ x ∈ l, op_CheckOp x.xOp = 0 ∧ op_Writes x.xOp = true) (hp : l.Pairwise fun a b => a.xSeq < b.xSeq) : ∀ (q : List EntryD) (k : Nat), List.drop k l = q → buffer_Check_L0 l q k = .inl ()
  | [], _, _ => rfl
  | z :: q, k, hd => by
    have hz : l[k]? = some z := by
      have e : (List.drop k l)[0]? = some z := by rw [hd]; rfl
      rwa [List.getElem?_drop, Nat.add_zero] at e
    have hd2 : List.drop (k + 1) l = q := by rw [← List.drop_drop, hd]; rfl
    obtain ⟨h1, h2⟩ := h z (List.mem_of_getElem? hz)
    obtain ⟨hk, rfl⟩ := List.getElem?_eq_some_iff.1 hz
    rw [buffer_Check_L0, bnd_eq, if_pos h1, bnd_eq, if_pos h2]
    by_cases h0 : ((k : Nat) : Int) > 0
    · have h3 : l[k - 1].xSeq < l[k].xSeq := List.pairwise_iff_getElem.1 hp (k - 1) k (by omega) hk (by omega)
      have e : List.getD l (k - 1) default = l[k - 1] := getD_of (List.getElem?_eq_getElem (by omega))
      rw [if_pos h0, bnd_eq, e, if_neg (by omega)]
      exact bk_ofL h hp q (k + 1) hd2
    · rw [if_neg h0]
      exact bk_ofL h hp q (k + 1) hd2
theorem bk_of {l : List EntryD} (h : ∀ x ∈ l, op_CheckOp x.xOp = 0 ∧ op_Writes x.xOp = true) (hp : l.Pairwise fun a b => a.xSeq < b.xSeq) : buffer_Check l = 0 := by
  unfold buffer_Check
  rw [bk_ofL h hp l 0 rfl]; rfl
theorem bk_sub {a l : List EntryD} (h : a.Sublist l) (hl : buffer_Check l = 0) : buffer_Check a = 0 :=
  bk_of (fun x hx => (bk_ok hl).1 x (h.subset hx)) ((bk_ok hl).2.sublist h)
theorem mg_L : ∀ (f : Nat) (a b l o : List EntryD), Spl a b l → (l.Pairwise fun a b => a.xSeq < b.xSeq) → a.length + b.length < f → ∃ a' b' o', buffer_Merge_L0 f a b o = .inl (a', b', o') ∧ (o' ++ a') ++ b' = o ++ l
  | 0, _, _, _, _, _, _, h => absurd h (Nat.not_lt_zero _)
  | f + 1, [], b, l, o, s, _, _ => by
    refine ⟨[], b, o, ?_, by rw [s.nilL rfl, List.append_nil]⟩
    rw [buffer_Merge_L0, if_neg (by simp)]
  | f + 1, x :: a, [], l, o, s, _, _ => by
    refine ⟨x :: a, [], o, ?_, by rw [s.symm.nilL rfl, List.append_nil]⟩
    rw [buffer_Merge_L0, if_pos (by simp only [List.length_cons]; omega), if_neg (by simp)]
  | f + 1, x :: a, y :: b, l, o, s, hp, hf => by
    have e : buffer_Merge_L0 (f + 1) (x :: a) (y :: b) o = if ((x.xSeq : Nat) : Int) = ((y.xSeq : Nat) : Int) then Sum.inr ([], 1) else if ((x.xSeq : Nat) : Int) < ((y.xSeq : Nat) : Int) then buffer_Merge_L0 f a (y :: b) (o ++ [x]) else buffer_Merge_L0 f (x :: a) b (o ++ [y]) := by
      rw [buffer_Merge_L0, if_pos (by simp only [List.length_cons]; omega), if_pos (by simp only [List.length_cons]; omega)]; rfl
    rw [e]
    simp only [List.length_cons] at hf
    cases s with
    | left _ s' =>
      have hy := (List.pairwise_cons.1 hp).1 y (s'.symm.sub.subset (.head _))
      rw [if_neg (by omega), if_pos (by omega)]
      obtain ⟨a', b', o', e1, e2⟩ := mg_L f a (y :: b) _ (o ++ [x]) s' (List.pairwise_cons.1 hp).2 (by simp only [List.length_cons]; omega)
      exact ⟨a', b', o', e1, by rw [e2, List.append_assoc]; rfl⟩
    | right _ s' =>
      have hx := (List.pairwise_cons.1 hp).1 x (s'.sub.subset (.head _))
      rw [if_neg (by omega), if_neg (by omega)]
      obtain ⟨a', b', o', e1, e2⟩ := mg_L f (x :: a) b _ (o ++ [y]) s' (List.pairwise_cons.1 hp).2 (by simp only [List.length_cons]; omega)
      exact ⟨a', b', o', e1, by rw [e2, List.append_assoc]; rfl⟩
theorem mg_ok {a b l : List EntryD} (s : Spl a b l) (hl : buffer_Check l = 0) : buffer_Merge a b = (l, 0) := by
  unfold buffer_Merge
  rw [bnd_eq, if_pos (bk_sub s.sub hl), bnd_eq, if_pos (bk_sub s.symm.sub hl)]
  obtain ⟨a', b', o', e1, e2⟩ := mg_L ((a.length + b.length) + 1) a b l [] s (bk_ok hl).2 (Nat.lt_succ_self _)
  rw [e1]
  show ((o' ++ a') ++ b', (0 : Int)) = _
  rw [e2]; rfl
theorem se_L (l : List EntryD) : ∀ (q : List EntryD) (k : Nat), List.drop k l = q → r12_Same_L0 l q k = .inl ()
  | [], _, _ => rfl
  | x :: q, k, h => by
    have hx : l[k]? = some x := by
      have e : (List.drop k l)[0]? = some x := by rw [h]; rfl
      rwa [List.getElem?_drop, Nat.add_zero] at e
    rw [r12_Same_L0, bnd_eq, getD_of hx, if_pos ⟨rfl, rfl, rfl, rfl, rfl, rfl, rfl⟩]
    exact se_L l q (k + 1) (by rw [← List.drop_drop, h]; rfl)
theorem se_refl (l : List EntryD) : r12_Same l l = true := by
  unfold r12_Same
  rw [if_pos rfl, se_L l l 0 rfl]; rfl
theorem T_BufferMerged (l0 : List PairD) (l1 : List EntryD) (l2 : List Bool) : w12_BufferMerged l0 l1 l2 = true := by
  unfold w12_BufferMerged
  rw [live_true, bnd_eq]
  by_cases h0 : ((l2.length : Nat) : Int) = 0
  · rw [if_pos h0]
  rw [if_neg h0, bnd_eq]
  obtain ⟨a, b, e, s⟩ := deal l0 l1 l2 true l1 [] [] 0
  rw [e, bnd_eq, bnd_eq]
  by_cases h : (buffer_Apply l0 l1).2 = 0
  · obtain ⟨hm, hl⟩ := ap_0 h
    rw [if_pos h]
    simp only [List.nil_append, mg_ok s hl, mg_ok s.symm hl, bnd_eq, h, if_true, sm_refl, se_refl]
  · rw [if_neg h]
end Go.Proofs.Ytblpdbnklopchaa
