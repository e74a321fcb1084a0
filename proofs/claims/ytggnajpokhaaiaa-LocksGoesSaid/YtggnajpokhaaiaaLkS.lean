/-
  The chapter's examples; tables in which nobody waits. Conditions: none beyond each law's own.
-/
import Derived.Test.YtggnajpokhaaiaaLf
namespace Go.Proofs.Ytggnajpokhaaiaa
set_option linter.unusedVariables false
set_option linter.unusedSimpArgs false
theorem Waiting_told (m : List rowT) : locks_Table_Waiting (TableT.mk (Ll.mk m)) = List.map (fun r : rowT => AskD.mk r.xtxn r.xwant) (m.filter fun r => r.xwaits) := by
  have go : ∀ (l : List rowT) (a : List AskD), locks_Table_Waiting_L0 l a = a ++ List.map (fun r : rowT => AskD.mk r.xtxn r.xwant) (l.filter fun r => r.xwaits) := by
    intro l
    induction l with
    | nil => intro a; simp [locks_Table_Waiting_L0]
    | cons r l ih =>
      intro a
      rw [locks_Table_Waiting_L0]
      by_cases h : r.xwaits = true
      · rw [if_pos h, ih, List.filter_cons_of_pos h]; simp
      · rw [if_neg h, ih, List.filter_cons_of_neg h]
  unfold locks_Table_Waiting
  rw [bnd_eq]
  exact (go m []).trans (List.nil_append _)
theorem Txns_told (m : List rowT) : locks_Table_Txns (TableT.mk (Ll.mk m)) = List.map (fun r : rowT => r.xtxn) m := by
  have go : ∀ (l : List rowT) (a : List Nat), locks_Table_Txns_L0 l a = a ++ List.map (fun r : rowT => r.xtxn) l := by
    intro l
    induction l with
    | nil => intro a; simp [locks_Table_Txns_L0]
    | cons r l ih => intro a; rw [locks_Table_Txns_L0, ih]; simp
  unfold locks_Table_Txns
  rw [bnd_eq]
  exact (go m []).trans (List.nil_append _)
theorem Holds_told {m : List rowT} (hs : Up m) (t : Nat) : locks_Table_Holds (TableT.mk (Ll.mk m)) t = old m t := by
  have fa : ∀ {l : List rowT} {f : rowT → Bool}, (∀ r ∈ l, f r = false) → l.filter f = [] := fun {l f} h => List.filter_eq_nil_iff.2 fun r hr => by rw [h r hr]; decide
  unfold locks_Table_Holds old
  rw [bnd_eq]
  rcases find_two hs t with ⟨a, p, q, rfl, hp, ha, hq, hf⟩ | ⟨a, q, rfl, ha, hq, hf⟩
  · rw [hf, if_pos rfl, bnd_eq, List.filter_append, List.filter_cons_of_pos (by simp [hp]), fa (l := a) (fun r hr => decide_eq_false (by have := ha r hr; omega)), fa (l := q) (fun r hr => decide_eq_false (by have := hq r hr; omega))]
    simp only [Int.toNat_natCast, gd]
    simp
  · rw [hf, if_neg (by simp), List.filter_append, fa (l := a) (fun r hr => decide_eq_false (by have := ha r hr; omega)), fa (l := q) (fun r hr => decide_eq_false (by have := hq r hr; omega))]
    rfl
def clash (x y : LockD) : Bool := (span_Meet x.xRange y.xRange).2 && (x.xWrite || y.xWrite)
def inw (t : Nat) (x : LockD) (r : rowT) : Bool := decide (r.xtxn ≠ t) && r.xheld.ls.any (clash x)
theorem contains_told (x : LockD) (t : Nat) (r : rowT) : slices_ContainsFunc_api_Lock_api_Lockx r.xheld.ls x t (rowT.mk r.xtxn (Ll.mk r.xheld.ls) r.xwaits r.xwant) = inw t x r := by
  have go : ∀ (l : List LockD) (k : Nat), (slices_IndexFunc_api_Lock_api_Lockx_L0 x t (rowT.mk r.xtxn (Ll.mk r.xheld.ls) r.xwaits r.xwant) l k = Sum.inl () ∧ (decide (r.xtxn ≠ t) && l.any (clash x)) = false) ∨ (∃ j : Nat, slices_IndexFunc_api_Lock_api_Lockx_L0 x t (rowT.mk r.xtxn (Ll.mk r.xheld.ls) r.xwaits r.xwant) l k = Sum.inr (j : Int) ∧ (decide (r.xtxn ≠ t) && l.any (clash x)) = true) := by
    intro l
    induction l with
    | nil => intro k; exact .inl ⟨rfl, by simp⟩
    | cons y l ih =>
      intro k
      rw [slices_IndexFunc_api_Lock_api_Lockx_L0, bnd_eq]
      by_cases c1 : r.xtxn = t
      · rw [if_pos (show ((r.xtxn : Nat) : Int) = (t : Int) from congrArg _ c1)]
        rcases ih (k + 1) with ⟨e, _⟩ | ⟨j, e, f⟩
        · exact .inl ⟨e, by rw [decide_eq_false (fun h => h c1)]; rfl⟩
        · rw [decide_eq_false (fun h => h c1)] at f; cases f
      · rw [if_neg (show ¬ ((r.xtxn : Nat) : Int) = (t : Int) from fun h => c1 (Int.ofNat.inj h))]
        have hn : decide (r.xtxn ≠ t) = true := decide_eq_true c1
        have rest : clash x y = false → ((slices_IndexFunc_api_Lock_api_Lockx_L0 x t (rowT.mk r.xtxn (Ll.mk r.xheld.ls) r.xwaits r.xwant) l (k + 1) = Sum.inl () ∧ (decide (r.xtxn ≠ t) && (y :: l).any (clash x)) = false) ∨ (∃ j : Nat, slices_IndexFunc_api_Lock_api_Lockx_L0 x t (rowT.mk r.xtxn (Ll.mk r.xheld.ls) r.xwaits r.xwant) l (k + 1) = Sum.inr (j : Int) ∧ (decide (r.xtxn ≠ t) && (y :: l).any (clash x)) = true)) := fun hc => by
          rw [List.any_cons, hc, Bool.false_or]; exact ih (k + 1)
        have hit : clash x y = true → (decide (r.xtxn ≠ t) && (y :: l).any (clash x)) = true := fun hc => by rw [List.any_cons, hc, hn]; rfl
        by_cases c2 : (span_Meet x.xRange y.xRange).2 = true
        · rw [if_pos c2]
          by_cases c3 : x.xWrite = true
          · rw [if_pos c3]; exact .inr ⟨k, rfl, hit (by unfold clash; rw [c2, c3]; rfl)⟩
          · rw [if_neg c3]
            by_cases c4 : y.xWrite = true
            · rw [if_pos c4]; exact .inr ⟨k, rfl, hit (by unfold clash; rw [c2, c4, Bool.or_true]; rfl)⟩
            · rw [if_neg c4]; exact rest (by unfold clash; rw [Bool.eq_false_iff.2 c3, Bool.eq_false_iff.2 c4]; simp)
        · rw [if_neg c2]; exact rest (by unfold clash; rw [Bool.eq_false_iff.2 c2]; rfl)
  unfold slices_ContainsFunc_api_Lock_api_Lockx slices_IndexFunc_api_Lock_api_Lockx inw
  rw [bnd_eq]
  rcases go r.xheld.ls 0 with ⟨e, f⟩ | ⟨j, e, f⟩
  · rw [e, f]; rfl
  · rw [e, f]; exact decide_eq_true (show ((j : Nat) : Int) ≥ 0 by omega)
theorem holders_told (m : List rowT) (t : Nat) (x : LockD) : locks_Table_holders (TableT.mk (Ll.mk m)) t x = List.map (fun r : rowT => r.xtxn) (m.filter (inw t x)) := by
  have go : ∀ (l : List rowT) (a : List Nat), locks_Table_holders_L0 t x l a = a ++ List.map (fun r : rowT => r.xtxn) (l.filter (inw t x)) := by
    intro l
    induction l with
    | nil => intro a; simp [locks_Table_holders_L0]
    | cons r l ih =>
      intro a
      rw [locks_Table_holders_L0, bnd_eq, contains_told]
      by_cases h : inw t x r = true
      · rw [if_pos h, ih, List.filter_cons_of_pos h]; simp
      · rw [if_neg h, ih, List.filter_cons_of_neg h]
  unfold locks_Table_holders
  rw [bnd_eq]
  exact (go m []).trans (List.nil_append _)
end Go.Proofs.Ytggnajpokhaaiaa
