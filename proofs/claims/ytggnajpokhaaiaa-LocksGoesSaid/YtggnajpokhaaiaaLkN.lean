/-
  What a grant does, as mathematics. Conditions: none beyond each law's own.
-/
import Derived.Test.YtggnajpokhaaiaaLkM
namespace Go.Proofs.Ytggnajpokhaaiaa
set_option linter.unusedVariables false
set_option linter.unusedSimpArgs false
theorem gd {α : Type} [Inhabited α] (a q : List α) (p : α) : List.getD (a ++ p :: q) a.length default = p := by simp
theorem stt {α : Type} (a q : List α) (p y : α) : List.set (a ++ p :: q) a.length y = a ++ y :: q := by simp
theorem dies_step (t : Nat) (x : LockD) (e : rowT) (acc : List Nat) (r : List rowT) {b : Bool} (hb : dies t x e = b) :
    acc ++ List.map (fun q : rowT => q.xtxn) (List.filter (dies t x) (e :: r)) = (if b = true then acc ++ [e.xtxn] else acc) ++ List.map (fun q : rowT => q.xtxn) (List.filter (dies t x) r) := by
  cases b with
  | true => rw [List.filter_cons_of_pos hb, if_pos rfl, List.map_cons, List.append_assoc]; rfl
  | false => rw [List.filter_cons_of_neg (by rw [hb]; decide), if_neg (by decide)]
theorem dl0 (p0 : TableT) (t : Nat) (x : LockD) (p3 : changeT) (i : Int) (a b c : rowT) (LA : List rowT)
    (hLA : (List.set (List.set (List.set p0.xrows.ls (Int.toNat i) (rowT.mk a.xtxn (Ll.mk (a.xheld.ls ++ [x])) a.xwaits a.xwant)) (Int.toNat i) (rowT.mk b.xtxn (Ll.mk b.xheld.ls) false b.xwant)) (Int.toNat i) (rowT.mk c.xtxn (Ll.mk c.xheld.ls) c.xwaits (LockD.mk (RangeD.mk ([]) ([])) false))) = LA) :
    ∀ (q : Nat) (acc : List Nat) (k : Nat), q = LA.length - k → locks_Table_grant_L0 p0 t x p3 i a b c q acc k = acc ++ List.map (fun q : rowT => q.xtxn) (List.filter (dies t x) (List.drop k LA)) := by
  intro q
  induction q with
  | zero => intro acc k h; rw [locks_Table_grant_L0, List.drop_eq_nil_of_le (by omega)]; simp
  | succ q ih =>
    intro acc k h
    obtain ⟨e, he⟩ : ∃ e, LA[k]? = some e := ⟨_, List.getElem?_eq_getElem (by omega)⟩
    rw [locks_Table_grant_L0, hLA, bnd_eq, getD_of he, drop_at he]
    simp only [bnd_eq]
    have g := ih (acc ++ [e.xtxn]) (k + 1) (by omega)
    have n := ih acc (k + 1) (by omega)
    by_cases h1 : e.xwaits = true
    · rw [if_pos h1]
      by_cases h2 : t < e.xtxn
      · rw [if_pos (by omega)]
        by_cases h3 : (span_Meet x.xRange e.xwant.xRange).2 = true
        · rw [if_pos h3]
          by_cases h4 : x.xWrite = true
          · rw [if_pos h4, dies_step t x e acc _ (b := true) (by unfold dies; rw [h1, h3, h4, decide_eq_true h2]; rfl), if_pos rfl]; exact g
          · rw [if_neg h4]
            by_cases h5 : e.xwant.xWrite = true
            · rw [if_pos h5, dies_step t x e acc _ (b := true) (by unfold dies; rw [h1, h3, h5, decide_eq_true h2, Bool.or_true]; rfl), if_pos rfl]; exact g
            · rw [if_neg h5, dies_step t x e acc _ (b := false) (by unfold dies; rw [Bool.eq_false_iff.2 h4, Bool.eq_false_iff.2 h5]; simp), if_neg (by decide)]; exact n
        · rw [if_neg h3, dies_step t x e acc _ (b := false) (by unfold dies; rw [Bool.eq_false_iff.2 h3]; simp), if_neg (by decide)]; exact n
      · rw [if_neg (by omega), dies_step t x e acc _ (b := false) (by unfold dies; rw [decide_eq_false h2]; simp), if_neg (by decide)]; exact n
    · rw [if_neg h1, dies_step t x e acc _ (b := false) (by unfold dies; rw [Bool.eq_false_iff.2 h1]; rfl), if_neg (by decide)]; exact n
theorem dl2 (p0 : TableT) (t : Nat) (x : LockD) (p3 : changeT) (i : Int) (a b c : rowT) (LA : List rowT)
    (hLA : (List.set (List.set (List.set (List.take (Int.toNat i) p0.xrows.ls ++ ((rowT.mk t (Ll.mk ([])) false (LockD.mk (RangeD.mk ([]) ([])) false)) :: List.drop (Int.toNat i) p0.xrows.ls)) (Int.toNat i) (rowT.mk a.xtxn (Ll.mk (a.xheld.ls ++ [x])) a.xwaits a.xwant)) (Int.toNat i) (rowT.mk b.xtxn (Ll.mk b.xheld.ls) false b.xwant)) (Int.toNat i) (rowT.mk c.xtxn (Ll.mk c.xheld.ls) c.xwaits (LockD.mk (RangeD.mk ([]) ([])) false))) = LA) :
    ∀ (q : Nat) (acc : List Nat) (k : Nat), q = LA.length - k → locks_Table_grant_L2 p0 t x p3 i a b c q acc k = acc ++ List.map (fun q : rowT => q.xtxn) (List.filter (dies t x) (List.drop k LA)) := by
  intro q
  induction q with
  | zero => intro acc k h; rw [locks_Table_grant_L2, List.drop_eq_nil_of_le (by omega)]; simp
  | succ q ih =>
    intro acc k h
    obtain ⟨e, he⟩ : ∃ e, LA[k]? = some e := ⟨_, List.getElem?_eq_getElem (by omega)⟩
    rw [locks_Table_grant_L2, hLA, bnd_eq, getD_of he, drop_at he]
    simp only [bnd_eq]
    have g := ih (acc ++ [e.xtxn]) (k + 1) (by omega)
    have n := ih acc (k + 1) (by omega)
    by_cases h1 : e.xwaits = true
    · rw [if_pos h1]
      by_cases h2 : t < e.xtxn
      · rw [if_pos (by omega)]
        by_cases h3 : (span_Meet x.xRange e.xwant.xRange).2 = true
        · rw [if_pos h3]
          by_cases h4 : x.xWrite = true
          · rw [if_pos h4, dies_step t x e acc _ (b := true) (by unfold dies; rw [h1, h3, h4, decide_eq_true h2]; rfl), if_pos rfl]; exact g
          · rw [if_neg h4]
            by_cases h5 : e.xwant.xWrite = true
            · rw [if_pos h5, dies_step t x e acc _ (b := true) (by unfold dies; rw [h1, h3, h5, decide_eq_true h2, Bool.or_true]; rfl), if_pos rfl]; exact g
            · rw [if_neg h5, dies_step t x e acc _ (b := false) (by unfold dies; rw [Bool.eq_false_iff.2 h4, Bool.eq_false_iff.2 h5]; simp), if_neg (by decide)]; exact n
        · rw [if_neg h3, dies_step t x e acc _ (b := false) (by unfold dies; rw [Bool.eq_false_iff.2 h3]; simp), if_neg (by decide)]; exact n
      · rw [if_neg (by omega), dies_step t x e acc _ (b := false) (by unfold dies; rw [decide_eq_false h2]; simp), if_neg (by decide)]; exact n
    · rw [if_neg h1, dies_step t x e acc _ (b := false) (by unfold dies; rw [Bool.eq_false_iff.2 h1]; rfl), if_neg (by decide)]; exact n
theorem grant_told {m : List rowT} (hs : Up m) (t : Nat) (x : LockD) (c : changeT) : locks_Table_grant (TableT.mk (Ll.mk m)) t x c =
    (TableT.mk (Ll.mk ((putR m t x).filter fun r => !dies t x r)), changeT.mk (Ll.mk c.xgranted.ls) (Ll.mk (c.xdead.ls ++ List.map (fun q : rowT => q.xtxn) ((putR m t x).filter (dies t x))))) := by
  have hu := up_put hs t x
  unfold locks_Table_grant
  rw [bnd_eq]
  rcases find_two hs t with ⟨a, p, q, rfl, hp, ha, hq, hf⟩ | ⟨a, q, rfl, ha, hq, hf⟩
  · rw [hf, if_pos rfl]
    rw [put_a x hp ha hq] at hu ⊢
    simp only [bnd_eq, Int.toNat_natCast, gd, stt]
    rw [dl0 _ t x c _ _ _ _ (a ++ rowT.mk t (Ll.mk (p.xheld.ls ++ [x])) false zl :: q) (by simp only [Int.toNat_natCast, stt, ← hp]; rfl) _ [] 0 (by simp)]
    rw [List.drop_zero, List.nil_append]
    have e : (a ++ { xtxn := p.xtxn, xheld := { ls := p.xheld.ls ++ [x] }, xwaits := false, xwant := { xRange := { xLo := [], xHi := [] }, xWrite := false } } :: q) = (a ++ rowT.mk t (Ll.mk (p.xheld.ls ++ [x])) false zl :: q) := by rw [← hp]; rfl
    rw [e, drops1 _ hu, filt_die hu]
  · rw [hf, if_neg (by simp)]
    rw [put_b x ha hq] at hu ⊢
    have e2 : List.drop a.length (a ++ q) = q := List.drop_left' rfl
    have e3 : List.take a.length (a ++ q) = a := List.take_left' rfl
    simp only [bnd_eq, Int.toNat_natCast, e2, e3, gd, stt]
    rw [dl2 _ t x c _ _ _ _ (a ++ rowT.mk t (Ll.mk ([] ++ [x])) false zl :: q) (by simp only [Int.toNat_natCast, e2, e3, stt]; rfl) _ [] 0 (by simp)]
    rw [List.drop_zero, List.nil_append]
    have e : (a ++ { xtxn := t, xheld := { ls := [] ++ [x] }, xwaits := false, xwant := { xRange := { xLo := [], xHi := [] }, xWrite := false } } :: q) = (a ++ rowT.mk t (Ll.mk ([] ++ [x])) false zl :: q) := rfl
    rw [e, drops3 _ hu, filt_die hu]
end Go.Proofs.Ytggnajpokhaaiaa
