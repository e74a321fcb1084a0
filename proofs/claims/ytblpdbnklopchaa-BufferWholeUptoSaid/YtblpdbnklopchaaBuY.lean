/-
  A buffer parted at pivots: which entry goes where, in whole or in pieces.
  Conditions: none beyond each law's own.
-/
import Derived.Test.YtblpdbnklopchaaBuX
namespace Go.Proofs.Ytblpdbnklopchaa
set_option linter.unusedVariables false
set_option linter.unusedSimpArgs false
open Go.ChangeShapes
/-- The range of the i-th part. -/
def prg (pv : List Key) (i : Nat) : RangeD := RangeD.mk (if 0 < i then List.getD pv (i - 1) default else []) (if i < pv.length then List.getD pv i default else [])
theorem pr_eq (pv : List Key) (i : Nat) : buffer_partRange pv ((i : Nat) : Int) = prg pv i := by
  unfold buffer_partRange prg
  simp only [bnd_eq]
  rw [show Int.toNat (((i : Nat) : Int) - 1) = i - 1 by omega, show Int.toNat ((i : Nat) : Int) = i from rfl]
  by_cases h0 : 0 < i
  · have h0' : ((i : Nat) : Int) > 0 := by omega
    by_cases h1 : i < pv.length
    · have h1' : ((i : Nat) : Int) < ((pv.length : Nat) : Int) := by omega
      rw [if_pos h0, if_pos h1, if_pos h0', if_pos h1']
    · have h1' : ¬ ((i : Nat) : Int) < ((pv.length : Nat) : Int) := by omega
      rw [if_pos h0, if_neg h1, if_pos h0', if_neg h1']
  · have h0' : ¬ ((i : Nat) : Int) > 0 := by omega
    by_cases h1 : i < pv.length
    · have h1' : ((i : Nat) : Int) < ((pv.length : Nat) : Int) := by omega
      rw [if_neg h0, if_pos h1, if_neg h0', if_pos h1']
    · have h1' : ¬ ((i : Nat) : Int) < ((pv.length : Nat) : Int) := by omega
      rw [if_neg h0, if_neg h1, if_neg h0', if_neg h1']
theorem rr_eq (pv : List Key) (i : Nat) : r12_Range pv ((i : Nat) : Int) = prg pv i := pr_eq pv i
def asc (pv : List Key) : Prop := pv.Pairwise fun a b => a < b
theorem asc_at {pv : List Key} (hs : asc pv) {i j : Nat} {a b : Key} (ha : pv[i]? = some a) (hb : pv[j]? = some b) (h : i < j) : a < b := by
  obtain ⟨hi, rfl⟩ := List.getElem?_eq_some_iff.1 ha
  obtain ⟨hj, rfl⟩ := List.getElem?_eq_some_iff.1 hb
  exact List.pairwise_iff_getElem.1 hs i j hi hj h
theorem se_loop {pv : List Key} (hs : asc pv) (x : EntryD) : ∀ (f i j : Nat), j - i < f → i ≤ j → j ≤ pv.length → (∀ q p, pv[q]? = some p → q < i → ¬ x.xOp.xKey < p) → (∀ q p, pv[q]? = some p → j ≤ q → x.xOp.xKey < p) →
    ∃ r, sort_Search_L0 pv x f i ((j : Nat) : Int) = r ∧ r ≤ pv.length ∧ (∀ q p, pv[q]? = some p → q < r → ¬ x.xOp.xKey < p) ∧ (∀ q p, pv[q]? = some p → r ≤ q → x.xOp.xKey < p)
  | 0, i, j, h, _, _, _, _ => by omega
  | f + 1, i, j, h, hij, hj, hl, hg => by
    rw [sort_Search_L0, show Int.toNat (((i : Nat) : Int) + ((j : Nat) : Int)) = i + j by omega]
    by_cases h1 : ((i : Nat) : Int) < ((j : Nat) : Int)
    · obtain ⟨y, hy⟩ : ∃ y, pv[(i + j) / 2]? = some y := ⟨_, List.getElem?_eq_getElem (by omega)⟩
      rw [if_pos h1, bnd_eq, getD_of hy]
      by_cases h2 : x.xOp.xKey < y
      · rw [if_pos h2]
        refine se_loop hs x f i _ (by omega) (by omega) (by omega) hl (fun q p hq hge => ?_)
        rcases Nat.lt_or_ge ((i + j) / 2) q with e | e
        · exact k_tr h2 (asc_at hs hy hq e)
        · have : q = (i + j) / 2 := by omega
          subst this
          rw [hy] at hq; cases hq
          exact h2
      · rw [if_neg h2]
        refine se_loop hs x f _ j (by omega) (by omega) hj (fun q p hq hlt z => ?_) hg
        rcases Nat.lt_or_ge q ((i + j) / 2) with e | e
        · exact h2 (k_tr z (asc_at hs hq hy e))
        · have : q = (i + j) / 2 := by omega
          subst this
          rw [hy] at hq; cases hq
          exact h2 z
    · rw [if_neg h1]
      have : i = j := by omega
      subst this
      exact ⟨i, rfl, hj, hl, hg⟩
theorem se_ok {pv : List Key} (hs : asc pv) (x : EntryD) : ∃ r, sort_Search ((pv.length : Nat) : Int) pv x = ((r : Nat) : Int) ∧ r ≤ pv.length ∧ (∀ q p, pv[q]? = some p → q < r → ¬ x.xOp.xKey < p) ∧ (∀ q p, pv[q]? = some p → r ≤ q → x.xOp.xKey < p) := by
  obtain ⟨r, h0, h1, h2, h3⟩ := se_loop hs x ((Int.toNat (((pv.length : Nat) : Int) - ((0 : Nat) : Int))) + 1) 0 pv.length (by omega) (by omega) (Nat.le_refl _) (fun q p _ h => by omega) (fun q p hq h => by have := (List.getElem?_eq_some_iff.1 hq).1; omega)
  exact ⟨r, by unfold sort_Search; rw [h0]; rfl, h1, h2, h3⟩
theorem cp_bad (l : List Key) : ∀ (q : List Key) (k : Nat) (r : Int), buffer_checkPivots_L0 l q k = .inr r → ¬ r = 0
  | [], k, r, h => by cases h
  | x :: q, k, r, h => by
    rw [buffer_checkPivots_L0] at h
    simp only [bnd_eq] at h
    split at h
    · split at h
      · split at h
        · cases h; decide
        · exact cp_bad l q _ r h
      · exact cp_bad l q _ r h
    · cases h; decide
theorem cp_L (l : List Key) : ∀ (q : List Key) (k : Nat), List.drop k l = q → buffer_checkPivots_L0 l q k = .inl () → (∀ x ∈ q, kok x) ∧ ∀ (i : Nat) (x y : Key), k ≤ i + 1 → l[i]? = some x → l[i + 1]? = some y → x < y
  | [], k, hd, _ => by
    refine ⟨fun x hx => (by cases hx), fun i x y hi _ hy => ?_⟩
    have hl : l.length ≤ k := by
      have := congrArg List.length hd
      rw [List.length_drop] at this
      simp only [List.length_nil] at this
      omega
    have := (List.getElem?_eq_some_iff.1 hy).1; omega
  | z :: q, k, hd, h => by
    have hz : l[k]? = some z := by
      have e : (List.drop k l)[0]? = some z := by rw [hd]; rfl
      rwa [List.getElem?_drop, Nat.add_zero] at e
    have hd2 : List.drop (k + 1) l = q := by rw [← List.drop_drop, hd]; rfl
    rw [buffer_checkPivots_L0] at h
    simp only [bnd_eq] at h
    by_cases h1 : span_CheckKey z = 0
    · rw [if_pos h1] at h
      have one : ∀ x ∈ z :: q, (∀ x ∈ q, kok x) → kok x := fun x hx hq => by
        rcases List.mem_cons.1 hx with rfl | hx
        · exact ck_ok.1 h1
        · exact hq x hx
      by_cases h2 : ((k : Nat) : Int) > 0
      · rw [if_pos h2] at h
        by_cases h3 : z ≤ List.getD l (k - 1) default
        · rw [if_pos h3] at h; cases h
        · rw [if_neg h3] at h
          obtain ⟨a, b⟩ := cp_L l q (k + 1) hd2 h
          refine ⟨fun x hx => one x hx a, fun i x y hi hx hy => ?_⟩
          by_cases hik : i + 1 = k
          · subst hik
            rw [Nat.add_sub_cancel, getD_of hx] at h3
            rw [hz] at hy; cases hy
            exact List.not_le.1 h3
          · exact b i x y (by omega) hx hy
      · rw [if_neg h2] at h
        obtain ⟨a, b⟩ := cp_L l q (k + 1) hd2 h
        exact ⟨fun x hx => one x hx a, fun i x y hi hx hy => b i x y (by omega) hx hy⟩
    · rw [if_neg h1] at h; cases h
theorem asc_of : ∀ {l : List Key}, (∀ (i : Nat) (x y : Key), l[i]? = some x → l[i + 1]? = some y → x < y) → asc l
  | [], _ => .nil
  | x :: q, h => by
    have hq := asc_of (l := q) fun i a b ha hb => h (i + 1) a b ha hb
    refine List.Pairwise.cons (fun y hy => ?_) hq
    cases q with
    | nil => cases hy
    | cons z q =>
      have hz := h 0 x z rfl rfl
      rcases List.mem_cons.1 hy with rfl | hy
      · exact hz
      · exact k_tr hz ((List.pairwise_cons.1 hq).1 y hy)
theorem cp_ok {l : List Key} (h : buffer_checkPivots l = 0) : (∀ x ∈ l, kok x) ∧ asc l := by
  obtain ⟨a, b⟩ := cp_L l l 0 rfl (lp_inl (P := fun r => r = 0) h (cp_bad l l 0))
  exact ⟨a, asc_of fun i x y hx hy => b i x y (by omega) hx hy⟩
/-- What an entry is in the i-th part. -/
def piece (pv : List Key) (i : Nat) (x : EntryD) : List EntryD :=
  if x.xOp.xKind = 5 then (if (span_Meet (buffer_rangeOf x.xOp) (prg pv i)).2 = true then [EntryD.mk x.xSeq (OpD.mk 5 [] [] (span_Meet (buffer_rangeOf x.xOp) (prg pv i)).1.xLo (span_Meet (buffer_rangeOf x.xOp) (prg pv i)).1.xHi 0)] else [])
  else if sort_Search ((pv.length : Nat) : Int) pv x = ((i : Nat) : Int) then [x] else []
theorem p1_len (pv : List Key) (x : EntryD) : ∀ (n k : Nat) (rows : List (Ll EntryD)), (buffer_Part_L1 pv x n k rows).length = rows.length
  | 0, k, rows => rfl
  | n + 1, k, rows => by
    rw [buffer_Part_L1]
    simp only [bnd_eq]
    split
    · rw [p1_len pv x n, List.length_set]
    · rw [p1_len pv x n]
theorem p1_L (pv : List Key) (x : EntryD) (hx : x.xOp.xKind = 5) : ∀ (n k : Nat) (rows : List (Ll EntryD)) (i : Nat), k + n ≤ rows.length → (buffer_Part_L1 pv x n k rows)[i]? = (rows[i]?).map fun y => if k ≤ i ∧ i < k + n then Ll.mk (y.ls ++ piece pv i x) else y
  | 0, k, rows, i, _ => by
    rw [buffer_Part_L1]
    cases rows[i]? with
    | none => rfl
    | some y => rw [Option.map_some, if_neg (by omega)]
  | n + 1, k, rows, i, h => by
    rw [buffer_Part_L1]
    simp only [bnd_eq, pr_eq]
    by_cases hm : (span_Meet (buffer_rangeOf x.xOp) (prg pv k)).2 = true
    · rw [if_pos hm, p1_L pv x hx n (k + 1) _ i (by rw [List.length_set]; omega)]
      by_cases hik : k = i
      · subst hik
        obtain ⟨y, hy⟩ : ∃ y, rows[k]? = some y := ⟨_, List.getElem?_eq_getElem (by omega)⟩
        rw [List.getElem?_set_self (by omega), hy, Option.map_some, Option.map_some, if_neg (by omega), if_pos (by omega), getD_of hy]
        unfold piece
        rw [if_pos hx, if_pos hm]
      · rw [List.getElem?_set_ne hik]
        cases rows[i]? with
        | none => rfl
        | some y =>
          rw [Option.map_some, Option.map_some]
          by_cases h1 : k + 1 ≤ i ∧ i < k + 1 + n
          · rw [if_pos h1, if_pos (by omega)]
          · rw [if_neg h1, if_neg (by omega)]
    · rw [if_neg hm, p1_L pv x hx n (k + 1) _ i (by omega)]
      cases hy : rows[i]? with
      | none => rfl
      | some y =>
        rw [Option.map_some, Option.map_some]
        by_cases hik : k = i
        · subst hik
          rw [if_neg (by omega), if_pos (by omega)]
          unfold piece
          rw [if_pos hx, if_neg hm, List.append_nil]
        · by_cases h1 : k + 1 ≤ i ∧ i < k + 1 + n
          · rw [if_pos h1, if_pos (by omega)]
          · rw [if_neg h1, if_neg (by omega)]
theorem p0_L {pv : List Key} (hs : asc pv) : ∀ (q : List EntryD) (rows : List (Ll EntryD)) (i : Nat), rows.length = pv.length + 1 → (buffer_Part_L0 pv q rows)[i]? = (rows[i]?).map fun y => Ll.mk (y.ls ++ q.flatMap (piece pv i))
  | [], rows, i, _ => by
    rw [buffer_Part_L0]
    cases rows[i]? with
    | none => rfl
    | some y => rw [Option.map_some, List.flatMap_nil, List.append_nil]
  | x :: q, rows, i, hl => by
    rw [buffer_Part_L0]
    by_cases h5 : x.xOp.xKind = 5
    · rw [if_pos h5, bnd_eq, p0_L hs q _ i (by rw [p1_len]; exact hl), p1_L pv x h5 _ _ _ i (by omega)]
      cases hy : rows[i]? with
      | none => rfl
      | some y =>
        have := (List.getElem?_eq_some_iff.1 hy).1
        rw [Option.map_some, Option.map_some, Option.map_some, if_pos (by omega), List.flatMap_cons, List.append_assoc]
    · obtain ⟨r, h0, h1, h2, h3⟩ := se_ok hs x
      rw [if_neg h5, bnd_eq, h0, bnd_eq, show Int.toNat ((r : Nat) : Int) = r from rfl, p0_L hs q _ i (by rw [List.length_set]; exact hl)]
      by_cases hri : r = i
      · subst hri
        obtain ⟨y, hy⟩ : ∃ y, rows[r]? = some y := ⟨_, List.getElem?_eq_getElem (by omega)⟩
        rw [List.getElem?_set_self (by omega), hy, Option.map_some, Option.map_some, getD_of hy, List.flatMap_cons]
        have e : piece pv r x = [x] := by unfold piece; rw [if_neg h5, if_pos h0]
        rw [e, List.append_assoc]
      · rw [List.getElem?_set_ne hri]
        have e : piece pv i x = [] := by unfold piece; rw [if_neg h5, if_neg (by rw [h0]; omega)]
        rw [List.flatMap_cons, e, List.nil_append]
theorem pt_ok {l : List EntryD} {pv : List Key} (hl : buffer_Check l = 0) (hp : buffer_checkPivots pv = 0) : buffer_Part l pv = ((List.range (pv.length + 1)).map fun i => Ll.mk (l.flatMap (piece pv i)), 0) := by
  unfold buffer_Part
  rw [bnd_eq, if_pos hl, bnd_eq, if_pos hp, bnd_eq]
  congr 1
  apply List.ext_getElem?
  intro i
  rw [p0_L (cp_ok hp).2 l _ i List.length_replicate, List.getElem?_map]
  by_cases h : i < pv.length + 1
  · rw [List.getElem?_replicate, if_pos h, List.getElem?_range h, Option.map_some, Option.map_some]; rfl
  · rw [List.getElem?_eq_none (by rw [List.length_replicate]; omega), List.getElem?_eq_none (by rw [List.length_range]; omega)]; rfl
theorem pt_0 {l : List EntryD} {pv : List Key} (h : (buffer_Part l pv).2 = 0) : buffer_Check l = 0 ∧ buffer_checkPivots pv = 0 := by
  unfold buffer_Part at h
  rw [bnd_eq] at h
  by_cases hl : buffer_Check l = 0
  · rw [if_pos hl, bnd_eq] at h
    by_cases hp : buffer_checkPivots pv = 0
    · exact ⟨hl, hp⟩
    · rw [if_neg hp] at h; exact absurd h hp
  · rw [if_neg hl] at h; exact absurd h hl
end Go.Proofs.Ytblpdbnklopchaa
