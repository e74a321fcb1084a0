/-
  Whatever is asked for and released, a table answers, and has, what the document says; clones are other ones.
  Conditions: none beyond each law's own.
-/
import Derived.Test.YtggnajpokhaaiaaLkC
import Derived.Test.YtggnajpokhaaiaaLkH
import Derived.Test.YtggnajpokhaaiaaLGoes
namespace Go.Proofs.Ytggnajpokhaaiaa
set_option linter.unusedVariables false
set_option linter.unusedSimpArgs false
theorem getD_set {α : Type} [Inhabited α] (l : List α) (k j : Nat) (v : α) (h : j ≠ k) : List.getD (List.set l k v) j default = List.getD l j default := by
  rw [List.getD_eq_getElem?_getD, List.getD_eq_getElem?_getD, List.getElem?_set_ne (Ne.symm h)]
theorem numbers_true {a b : List Nat} (h : a = b) : (w16_numbers a b).1 = true := by
  subst h
  have go : ∀ (q k : Nat) (l : List Nat), (∀ j, k ≤ j → List.getD l j default = List.getD a j default) → ∃ l', w16_numbers_L0 a q k l = .inl l' := by
    intro q
    induction q with
    | zero => intro k l _; exact ⟨l, rfl⟩
    | succ q ih =>
      intro k l h
      rw [w16_numbers_L0, bnd_eq, bnd_eq, h k (Nat.le_refl _), if_pos rfl]
      exact ih (k + 1) _ fun j hj => by rw [getD_set _ _ _ _ (by omega)]; exact h j (by omega)
  unfold w16_numbers
  rw [if_pos rfl]
  obtain ⟨l', e⟩ := go a.length 0 a fun _ _ => rfl
  rw [e]; rfl
theorem rholds {x : TableDT} (t : Nat) : r16_Table_Holds x t = (x.xH.ls.filter (isx t)).map fun y => y.xLock := by
  have go : ∀ (l : List HeldD) (a : List LockD), r16_Table_Holds_L0 t l a = a ++ (l.filter (isx t)).map fun y => y.xLock := by
    intro l
    induction l with
    | nil => intro a; rw [r16_Table_Holds_L0]; simp
    | cons y q ih =>
      intro a
      rw [r16_Table_Holds_L0]
      by_cases h : y.xTxn = t
      · rw [if_pos (by omega), ih, List.filter_cons_of_pos (by simp [isx, h])]; simp
      · rw [if_neg (by omega), ih, List.filter_cons_of_neg (by simp [isx, h])]
  unfold r16_Table_Holds
  rw [bnd_eq]
  exact (go _ []).trans (List.nil_append _)
theorem rtxns (x : TableDT) : Ris (r16_Table_Txns x) ∧ ∀ t, t ∈ r16_Table_Txns x ↔ (∃ y ∈ x.xH.ls, y.xTxn = t) ∨ ∃ y ∈ x.xW.ls, y.xTxn = t := by
  have g0 : ∀ (l : List HeldD) (a : List Nat), Ris a → Ris (r16_Table_Txns_L0 x l a) ∧ ∀ t, t ∈ r16_Table_Txns_L0 x l a ↔ t ∈ a ∨ ∃ y ∈ l, y.xTxn = t := by
    intro l
    induction l with
    | nil => intro a h; rw [r16_Table_Txns_L0]; exact ⟨h, fun t => ⟨.inl, fun q => q.resolve_right fun ⟨y, hy, _⟩ => by cases hy⟩⟩
    | cons y q ih =>
      intro a h
      rw [r16_Table_Txns_L0, bnd_eq]
      obtain ⟨h1, h2⟩ := ih _ (add_ris h y.xTxn)
      refine ⟨h1, fun t => ?_⟩
      rw [h2, add_mem]
      constructor
      · rintro ((e | e) | ⟨z, hz, e⟩)
        · exact .inr ⟨y, .head _, e.symm⟩
        · exact .inl e
        · exact .inr ⟨z, .tail _ hz, e⟩
      · rintro (e | ⟨z, hz, e⟩)
        · exact .inl (.inr e)
        · rcases List.mem_cons.1 hz with k | k
          · exact .inl (.inl (by rw [← e, k]))
          · exact .inr ⟨z, k, e⟩
  have g1 : ∀ (l : List HeldD) (a : List Nat), Ris a → Ris (r16_Table_Txns_L1 l a) ∧ ∀ t, t ∈ r16_Table_Txns_L1 l a ↔ t ∈ a ∨ ∃ y ∈ l, y.xTxn = t := by
    intro l
    induction l with
    | nil => intro a h; rw [r16_Table_Txns_L1]; exact ⟨h, fun t => ⟨.inl, fun q => q.resolve_right fun ⟨y, hy, _⟩ => by cases hy⟩⟩
    | cons y q ih =>
      intro a h
      rw [r16_Table_Txns_L1, bnd_eq]
      obtain ⟨h1, h2⟩ := ih _ (add_ris h y.xTxn)
      refine ⟨h1, fun t => ?_⟩
      rw [h2, add_mem]
      constructor
      · rintro ((e | e) | ⟨z, hz, e⟩)
        · exact .inr ⟨y, .head _, e.symm⟩
        · exact .inl e
        · exact .inr ⟨z, .tail _ hz, e⟩
      · rintro (e | ⟨z, hz, e⟩)
        · exact .inl (.inr e)
        · rcases List.mem_cons.1 hz with k | k
          · exact .inl (.inl (by rw [← e, k]))
          · exact .inr ⟨z, k, e⟩
  unfold r16_Table_Txns
  rw [bnd_eq, bnd_eq]
  obtain ⟨a1, a2⟩ := g0 x.xH.ls [] List.Pairwise.nil
  obtain ⟨b1, b2⟩ := g1 x.xW.ls _ a1
  refine ⟨b1, fun t => ?_⟩
  rw [b2, a2]
  constructor
  · rintro ((e | e) | e)
    · cases e
    · exact .inl e
    · exact .inr e
  · rintro (e | e)
    · exact .inl (.inr e)
    · exact .inr e
theorem txns_mt {m : List rowT} {h w : List HeldD} (hs : Sound m) (hM : Mt m h w) : r16_Table_Txns (TableDT.mk (Ll.mk h) (Ll.mk w)) = List.map (fun r : rowT => r.xtxn) m := by
  obtain ⟨h1, h2⟩ := rtxns (TableDT.mk (Ll.mk h) (Ll.mk w))
  refine ris_ext h1 (List.pairwise_map.2 hs.up) fun t => ?_
  rw [h2, List.mem_map]
  constructor
  · rintro (⟨y, hy, e⟩ | ⟨y, hy, e⟩)
    · obtain ⟨r, hr, ht, _⟩ := hM.mem.1 hy
      exact ⟨r, hr, ht.trans e⟩
    · replace hy : y ∈ w := hy
      rw [hM.W] at hy
      obtain ⟨r, hr, _, e2⟩ := mem_wl.1 hy
      exact ⟨r, hr, by rw [← e, ← e2]⟩
  · rintro ⟨r, hr, e⟩
    have hn := hs.ne r hr
    by_cases c : r.xwaits = true
    · exact .inr ⟨HeldD.mk r.xtxn r.xwant, by show _ ∈ w; rw [hM.W]; exact mem_wl.2 ⟨r, hr, c, rfl⟩, e⟩
    · unfold wt1 at hn
      rw [if_neg c] at hn
      cases hh : r.xheld.ls with
      | nil => rw [hh] at hn; simp only [List.length_nil] at hn; omega
      | cons l q => exact .inl ⟨HeldD.mk r.xtxn l, hM.mem.2 ⟨r, hr, rfl, by show l ∈ r.xheld.ls; rw [hh]; exact .head _⟩, e⟩
theorem same_true {m : List rowT} {h w : List HeldD} (hs : Sound m) (hM : Mt m h w) : w16_same (TableT.mk (Ll.mk m)) (TableDT.mk (Ll.mk h) (Ll.mk w)) = true := by
  have hw : w = (locks_Table_Waiting (TableT.mk (Ll.mk m))).map fun a => HeldD.mk a.xTxn a.xLock := by rw [hM.W, Waiting_told, List.map_map]; rfl
  have g0 : ∀ (q k : Nat) (l : List AskD), (∀ j, k ≤ j → j < k + q → (List.getD l j default).xTxn = (List.getD w j default).xTxn ∧ (List.getD l j default).xLock = (List.getD w j default).xLock) → w16_same_L0 (TableT.mk (Ll.mk m)) (TableDT.mk (Ll.mk h) (Ll.mk w)) q k l = .inl () := by
    intro q
    induction q with
    | zero => intro k l _; rfl
    | succ q ih =>
      intro k l h
      obtain ⟨e1, e2⟩ := h k (Nat.le_refl _) (by omega)
      rw [w16_same_L0, bnd_eq, bnd_eq]
      rw [if_pos (show (((List.getD l k default).xTxn : Nat) : Int) = (((List.getD w k default).xTxn : Nat) : Int) by rw [e1])]
      rw [if_pos (show (((List.getD l k default).xLock.xRange.xLo = (List.getD w k default).xLock.xRange.xLo) ∧ ((List.getD l k default).xLock.xRange.xHi = (List.getD w k default).xLock.xRange.xHi)) ∧ ((List.getD l k default).xLock.xWrite = (List.getD w k default).xLock.xWrite) by rw [e2]; exact ⟨⟨rfl, rfl⟩, rfl⟩)]
      exact ih (k + 1) _ fun j hj hj2 => by rw [getD_set _ _ _ _ (by omega)]; exact h j (by omega) (by omega)
  have g2 : ∀ (r : List LockD) (q k : Nat) (l : List LockD), (∀ j, k ≤ j → List.getD l j default = List.getD r j default) → w16_same_L2 r q k l = .inl () := by
    intro r q
    induction q with
    | zero => intro k l _; rfl
    | succ q ih =>
      intro k l h
      rw [w16_same_L2, bnd_eq, bnd_eq, h k (Nat.le_refl _), if_pos ⟨⟨rfl, rfl⟩, rfl⟩]
      exact ih (k + 1) _ fun j hj => by rw [getD_set _ _ _ _ (by omega)]; exact h j (by omega)
  have g1 : ∀ l : List Nat, w16_same_L1 (TableT.mk (Ll.mk m)) (TableDT.mk (Ll.mk h) (Ll.mk w)) l = .inl () := by
    intro l
    induction l with
    | nil => rfl
    | cons n q ih =>
      have e : r16_Table_Holds (TableDT.mk (Ll.mk h) (Ll.mk w)) n = locks_Table_Holds (TableT.mk (Ll.mk m)) n := by
        rw [rholds, Holds_told hs.up]
        show (h.filter (isx n)).map _ = _
        rw [hM.H, List.map_map]
        exact List.map_id _
      rw [w16_same_L1, bnd_eq, bnd_eq, e, if_pos rfl, g2 _ _ _ _ fun _ _ => rfl]
      exact ih
  unfold w16_same
  simp only [bnd_eq]
  have hl : w.length = (locks_Table_Waiting (TableT.mk (Ll.mk m))).length := by rw [hw, List.length_map]
  rw [if_pos (by rw [hl]), g0 _ _ _ fun j _ hj => ?_, lp_inl, g1, lp_inl, Txns_told, txns_mt hs hM]
  · exact numbers_true rfl
  · have hj2 : j < (locks_Table_Waiting (TableT.mk (Ll.mk m))).length := by omega
    have e : List.getD w j default = HeldD.mk (List.getD (locks_Table_Waiting (TableT.mk (Ll.mk m))) j default).xTxn (List.getD (locks_Table_Waiting (TableT.mk (Ll.mk m))) j default).xLock := by
      rw [List.getD_eq_getElem?_getD, List.getD_eq_getElem?_getD, hw, List.getElem?_map, List.getElem?_eq_getElem hj2]; rfl
    rw [e]; exact ⟨rfl, rfl⟩
theorem goes_loop (r : Bool) : ∀ (l : List OpD) (m : List rowT) (h w : List HeldD), Sound m → Mt m h w → w16_LocksGoes_L0 r l m h w = .inl ()
  | [], _, _, _, _, _ => by rw [w16_LocksGoes_L0]
  | o :: l, m, h, w, hs, hM => by
    rw [w16_LocksGoes_L0]
    by_cases c : o.xDo = 0
    · rw [if_pos c, bnd_eq, bnd_eq]
      obtain ⟨h', w', e, hM'⟩ := ask_mt hs hM o.xTxn o.xLock
      have hs' := askM_sound hs o.xTxn o.xLock
      rw [ask_told hs, e]
      simp only [bnd_eq]
      rw [if_pos trivial, if_pos (numbers_true rfl), if_pos (numbers_true rfl), if_pos trivial, if_pos (same_true hs' hM')]
      split
      · exact goes_loop r l _ _ _ hs' hM'
      · exact goes_loop r l _ _ _ hs' hM'
    · rw [if_neg c, bnd_eq, bnd_eq]
      obtain ⟨g, d, m', h', w', e1, e2, hM', hs'⟩ := release_mt hs hM o.xTxn
      rw [e1, e2]
      simp only [bnd_eq]
      rw [if_pos (numbers_true rfl), if_pos (numbers_true rfl), if_pos (same_true hs' hM')]
      split
      · exact goes_loop r l _ _ _ hs' hM'
      · exact goes_loop r l _ _ _ hs' hM'
theorem T_LocksGoes (l : List OpD) : w16_LocksGoes l = true := by
  unfold w16_LocksGoes
  rw [bnd_eq, live_true]
  by_cases c : ((l.length : Nat) : Int) > 200
  · rw [if_pos c]; rfl
  · rw [if_neg c, goes_loop true l [] [] [] sound_nil ⟨fun t => rfl, rfl⟩]; rfl
end Go.Proofs.Ytggnajpokhaaiaa
