/-
  PROVED HERE: owners split, and given.
  Conditions: none beyond the statements' own.
-/
import Derived.Test.YtcjjblkgbfaapaaOwM
namespace Go.Proofs.Ytcjjblkgbfaapaa
set_option linter.unusedVariables false
set_option linter.unusedSimpArgs false
open Go.ChangeShapes
/-- owners with one more behind the place j -/
def ins (l : List OwnerD) (j : Nat) (y : OwnerD) : List OwnerD := List.take (j + 1) l ++ (y :: List.drop (j + 1) l)
theorem ins_len {l : List OwnerD} {j : Nat} {y : OwnerD} (hj : j < l.length) : (ins l j y).length = l.length + 1 := by
  unfold ins
  simp only [List.length_append, List.length_take, List.length_cons, List.length_drop]; omega
theorem ins_lo {l : List OwnerD} {j i : Nat} {y : OwnerD} (hj : j < l.length) (hi : i ≤ j) : (ins l j y)[i]? = l[i]? := by
  unfold ins
  rw [List.getElem?_append_left (by rw [List.length_take]; omega), List.getElem?_take_of_lt (by omega)]
theorem ins_at {l : List OwnerD} {j : Nat} {y : OwnerD} (hj : j < l.length) : (ins l j y)[j + 1]? = some y := by
  unfold ins
  rw [List.getElem?_append_right (by rw [List.length_take]; omega), List.length_take, show j + 1 - min (j + 1) l.length = 0 by omega]; rfl
theorem ins_hi {l : List OwnerD} {j i : Nat} {y : OwnerD} (hj : j < l.length) (hi : j < i) : (ins l j y)[i + 1]? = l[i]? := by
  unfold ins
  rw [List.getElem?_append_right (by rw [List.length_take]; omega), List.length_take, show i + 1 - min (j + 1) l.length = (i - (j + 1)) + 1 by omega, List.getElem?_cons_succ, List.getElem?_drop, show j + 1 + (i - (j + 1)) = i by omega]
theorem ins_mem {l : List OwnerD} {j : Nat} {y x : OwnerD} (h : x ∈ ins l j y) : x = y ∨ x ∈ l := by
  unfold ins at h
  rcases List.mem_append.1 h with h | h
  · exact .inr (List.mem_of_mem_take h)
  · rcases List.mem_cons.1 h with h | h
    · exact .inl h
    · exact .inr (List.mem_of_mem_drop h)
theorem ins_Ows {l : List OwnerD} (h : Ows l) {k : Key} {j : Nat} {x : OwnerD} (hk : kok k) (hp : Pos l k j) (hx : l[j]? = some x) (hne : ¬ x.xLo = k) (h6 : l.length ≤ 5) {s : Int} (hs : 1 ≤ s ∧ s ≤ 4) : Ows (ins l j (OwnerD.mk k s)) := by
  have hj := hp.lt
  have hxk : x.xLo < k := by
    have h1 := (hp.iff j x hx).2 (Nat.le_refl _)
    by_cases h2 : x.xLo < k
    · exact h2
    · exact absurd (List.le_antisymm h1 (k_nlt.1 h2)) hne
  refine ⟨by rw [ins_len hj]; omega, ?_, ?_, ?_, ?_⟩
  · intro y hy
    rw [ins_lo hj (Nat.zero_le _)] at hy; exact h.first y hy
  · intro y hy
    rcases ins_mem hy with rfl | hy
    · exact hs
    · exact h.shard y hy
  · intro i y hy
    by_cases h1 : i + 1 ≤ j
    · rw [ins_lo hj h1] at hy; exact h.key i y hy
    · by_cases h2 : i = j
      · subst h2; rw [ins_at hj] at hy; cases hy; exact hk
      · rw [ins_hi hj (by omega)] at hy
        obtain ⟨i, rfl⟩ : ∃ q, i = q + 1 := ⟨i - 1, by omega⟩
        exact h.key i y hy
  · intro i y z hy hz
    by_cases h1 : i + 1 ≤ j
    · rw [ins_lo hj h1] at hz; rw [ins_lo hj (by omega)] at hy; exact h.rise i y z hy hz
    · by_cases h2 : i = j
      · subst h2; rw [ins_at hj] at hz; rw [ins_lo hj (Nat.le_refl _), hx] at hy; cases hz; cases hy; exact hxk
      · rw [ins_hi hj (by omega)] at hz
        by_cases h3 : i = j + 1
        · subst h3; rw [ins_at hj] at hy; cases hy
          exact k_nle.1 fun q => absurd ((hp.iff (j + 1) z hz).1 q) (by omega)
        · obtain ⟨i, rfl⟩ : ∃ q, i = q + 1 := ⟨i - 1, by omega⟩
          rw [ins_hi hj (by omega)] at hy; exact h.rise i y z hy hz
theorem ins_eq {l : List OwnerD} {j : Nat} (hj : j < l.length) (y : OwnerD) : slices_Insert_api_Owner_api_Owner l (((j : Nat) : Int) + 1) y = ins l j y := by
  unfold slices_Insert_api_Owner_api_Owner ins
  rw [show Int.toNat (((j : Nat) : Int) + 1) = j + 1 by omega]
  by_cases h : ((j + 1 : Nat) : Int) = ((List.length l : Nat) : Int)
  · rw [if_pos h, List.take_of_length_le (by omega), List.drop_of_length_le (by omega)]
  · rw [if_neg h]
/-- What a split tells. -/
theorem split_ok {l : List OwnerD} {k : Key} {j : Nat} {x : OwnerD} (h : Ows l) (hk : kok k) (hp : Pos l k j) (hx : l[j]? = some x) (hne : ¬ x.xLo = k) (h6 : l.length ≤ 5) : owner_Split l k = (ins l j (OwnerD.mk k x.xShard), 0) := by
  unfold owner_Split
  simp only [bnd_eq]
  rw [find_ok h hk hp]
  simp only [↓reduceIte]
  rw [show Int.toNat ((j : Nat) : Int) = j from rfl, getD_of hx, if_neg hne, if_neg (by omega), ins_eq hp.lt]
theorem split_inv {l : List OwnerD} {k : Key} (he : (owner_Split l k).2 = 0) : Ows l ∧ kok k ∧ l.length ≤ 5 ∧ ∃ j x, Pos l k j ∧ l[j]? = some x ∧ ¬ x.xLo = k ∧ owner_Split l k = (ins l j (OwnerD.mk k x.xShard), 0) := by
  by_cases h0 : Ows l ∧ kok k
  · obtain ⟨h, hk⟩ := h0
    obtain ⟨j, hp⟩ := h.pos k
    obtain ⟨x, hx⟩ : ∃ x, l[j]? = some x := ⟨_, List.getElem?_eq_getElem hp.lt⟩
    have hu : owner_Split l k = if x.xLo = k then ([], 6) else if ((List.length l : Nat) : Int) = 6 then ([], 3) else (ins l j (OwnerD.mk k x.xShard), 0) := by
      unfold owner_Split
      simp only [bnd_eq]
      rw [find_ok h hk hp]
      simp only [↓reduceIte]
      rw [show Int.toNat ((j : Nat) : Int) = j from rfl, getD_of hx, ins_eq hp.lt]
    rw [hu] at he ⊢
    by_cases h1 : x.xLo = k
    · rw [if_pos h1] at he; cases he
    · rw [if_neg h1] at he ⊢
      by_cases h2 : ((List.length l : Nat) : Int) = 6
      · rw [if_pos h2] at he; cases he
      · rw [if_neg h2]
        have := h.len
        exact ⟨h, hk, by omega, j, x, hp, hx, h1, rfl⟩
  · obtain ⟨e, h1, h2⟩ := find_no h0
    unfold owner_Split at he
    simp only [bnd_eq] at he
    rw [h2] at he
    simp only [if_neg h1] at he
    exact absurd he h1
theorem set_Ows {l : List OwnerD} (h : Ows l) {i : Nat} {x : OwnerD} (hx : l[i]? = some x) {s : Int} (hs : 1 ≤ s ∧ s ≤ 4) : Ows (List.set l i (OwnerD.mk x.xLo s)) := by
  have hl := (List.getElem?_eq_some_iff.1 hx).1
  have lo : ∀ (q : Nat) (y : OwnerD), (List.set l i (OwnerD.mk x.xLo s))[q]? = some y → ∃ z, l[q]? = some z ∧ z.xLo = y.xLo := by
    intro q y hy
    by_cases e : i = q
    · subst e; rw [List.getElem?_set_self hl] at hy; cases hy; exact ⟨x, hx, rfl⟩
    · rw [List.getElem?_set_ne e] at hy; exact ⟨y, hy, rfl⟩
  refine ⟨by rw [List.length_set]; exact h.len, ?_, ?_, ?_, ?_⟩
  · intro y hy; obtain ⟨z, hz, e⟩ := lo 0 y hy; rw [← e]; exact h.first z hz
  · intro y hy
    rcases List.mem_or_eq_of_mem_set hy with hy | rfl
    · exact h.shard y hy
    · exact hs
  · intro q y hy; obtain ⟨z, hz, e⟩ := lo _ y hy; rw [← e]; exact h.key q z hz
  · intro q y y' hy hy'; obtain ⟨z, hz, e⟩ := lo _ y hy; obtain ⟨z', hz', e'⟩ := lo _ y' hy'; rw [← e, ← e']; exact h.rise q z z' hz hz'
theorem rof_inv {l : List OwnerD} {i : Int} (he : (owner_RangeOf l i).2 = 0) : Ows l ∧ ∃ (q : Nat) (x : OwnerD), i = ((q : Nat) : Int) ∧ l[q]? = some x := by
  unfold owner_RangeOf at he
  simp only [bnd_eq] at he
  by_cases h : owner_Check l = 0
  · rw [if_pos h] at he
    by_cases h1 : i < 0
    · rw [if_pos h1] at he; cases he
    · rw [if_neg h1] at he
      by_cases h2 : i ≥ ((List.length l : Nat) : Int)
      · rw [if_pos h2] at he; cases he
      · exact ⟨chk_ok.1 h, Int.toNat i, _, by omega, List.getElem?_eq_getElem (by omega)⟩
  · rw [if_neg h] at he; exact absurd he h
theorem give_ok {l : List OwnerD} {i : Nat} {x : OwnerD} (h : Ows l) (hx : l[i]? = some x) {s : Int} (hs : 1 ≤ s ∧ s ≤ 4) : owner_Give l ((i : Nat) : Int) s = (List.set l i (OwnerD.mk x.xLo s), 0) := by
  unfold owner_Give
  simp only [bnd_eq]
  rw [rof_at h hx, if_pos rfl, if_pos (sh_iff.2 hs), show Int.toNat ((i : Nat) : Int) = i from rfl, getD_of hx]
theorem give_no {l : List OwnerD} {i : Int} {s : Int} (hs : ¬ (1 ≤ s ∧ s ≤ 4)) : (owner_Give l i s).2 ≠ 0 := by
  unfold owner_Give
  simp only [bnd_eq]
  by_cases h : (owner_RangeOf l i).2 = 0
  · rw [if_pos h, if_neg (fun q => hs (sh_iff.1 q))]; exact fun q => by cases q
  · rw [if_neg h]; exact h
theorem give_inv {l : List OwnerD} {i s : Int} (he : (owner_Give l i s).2 = 0) : Ows l ∧ (1 ≤ s ∧ s ≤ 4) ∧ ∃ (q : Nat) (x : OwnerD), i = ((q : Nat) : Int) ∧ l[q]? = some x ∧ owner_Give l i s = (List.set l q (OwnerD.mk x.xLo s), 0) := by
  by_cases hs : 1 ≤ s ∧ s ≤ 4
  · have : (owner_RangeOf l i).2 = 0 := by
      unfold owner_Give at he
      simp only [bnd_eq] at he
      by_cases h : (owner_RangeOf l i).2 = 0
      · exact h
      · rw [if_neg h] at he; exact he
    obtain ⟨h, q, x, rfl, hx⟩ := rof_inv this
    exact ⟨h, hs, q, x, rfl, hx, give_ok h hx hs⟩
  · exact absurd he (give_no hs)
theorem split_eq (l : List OwnerD) (k : Key) : owner_Split l k = r17_Split l k := by
  by_cases h0 : Ows l ∧ kok k
  · obtain ⟨h, hk⟩ := h0
    obtain ⟨j, hp⟩ := h.pos k
    unfold owner_Split r17_Split
    simp only [bnd_eq, ← find_eq]
    rw [find_ok h hk hp]
    simp only [↓reduceIte]
    rw [ins_eq hp.lt, show Int.toNat (((j : Nat) : Int) + 1) = j + 1 by omega, List.append_assoc]
    rfl
  · obtain ⟨e, h1, h2⟩ := find_no h0
    unfold owner_Split r17_Split
    simp only [bnd_eq, ← find_eq]
    rw [h2]
    simp only [if_neg h1]
theorem give_eq (l : List OwnerD) (i s : Int) : owner_Give l i s = r17_Give l i s := by
  unfold owner_Give r17_Give owner_RangeOf
  simp only [bnd_eq, ← chk_eq]
  by_cases h : owner_Check l = 0
  · simp only [if_pos h]
    by_cases h1 : i < 0
    · simp only [if_pos h1, show ¬ ((5 : Int) = 0) by decide, if_false]
    · simp only [if_neg h1]
      by_cases h2 : i ≥ ((List.length l : Nat) : Int)
      · simp only [if_pos h2, show ¬ ((5 : Int) = 0) by decide, if_false]
      · simp only [if_neg h2, if_true]
        by_cases h3 : owner_isShard s = true
        · have := sh_iff.1 h3
          rw [if_pos h3, if_neg (show ¬ s < 1 by omega), if_neg (show ¬ s > 4 by omega)]
        · have : ¬ (1 ≤ s ∧ s ≤ 4) := fun q => h3 (sh_iff.2 q)
          rw [if_neg h3]
          by_cases h4 : s < 1
          · rw [if_pos h4]
          · rw [if_neg h4, if_pos (show s > 4 by omega)]
  · simp only [if_neg h]
theorem same_L (l : List OwnerD) : ∀ (q : List OwnerD) (i : Nat), List.drop i l = q → r17_Same_L0 l q i = .inl ()
  | [], _, _ => rfl
  | x :: q, i, h => by
    have hx : l[i]? = some x := by
      have e : (List.drop i l)[0]? = some x := by rw [h]; rfl
      rwa [List.getElem?_drop, Nat.add_zero] at e
    rw [r17_Same_L0, bnd_eq, getD_of hx, if_pos ⟨rfl, rfl⟩]
    exact same_L l q (i + 1) (by rw [← List.drop_drop, h]; rfl)
theorem same_refl (l : List OwnerD) : r17_Same l l = true := by
  unfold r17_Same
  rw [if_pos rfl, same_L l l 0 rfl]; rfl
end Go.Proofs.Ytcjjblkgbfaapaa
