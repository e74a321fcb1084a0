/-
  The document's answers as mathematics: who is left out, who is next. Conditions: none beyond each law's own.
-/
import Derived.Test.YtggnajpokhaaiaaLkX
namespace Go.Proofs.Ytggnajpokhaaiaa
set_option linter.unusedVariables false
set_option linter.unusedSimpArgs false
def notx (t : Nat) (h : HeldD) : Bool := decide (h.xTxn ≠ t)
theorem wo_eq (l : List HeldD) (t : Nat) : r16_without l t = l.filter (notx t) := by
  have go : ∀ (l a : List HeldD), r16_without_L0 t l a = a ++ l.filter (notx t) := by
    intro l
    induction l with
    | nil => intro a; rw [r16_without_L0]; simp
    | cons x q ih =>
      intro a
      rw [r16_without_L0]
      by_cases h : x.xTxn = t
      · rw [if_pos (show ((x.xTxn : Nat) : Int) = (t : Int) from congrArg _ h), ih, List.filter_cons_of_neg (by simp [notx, h])]
      · rw [if_neg (show ¬ ((x.xTxn : Nat) : Int) = (t : Int) from fun e => h (Int.ofNat.inj e)), ih, List.filter_cons_of_pos (by simp [notx, h])]; simp
  unfold r16_without
  rw [bnd_eq]
  exact (go l []).trans (List.nil_append _)
theorem rnext_of {x : TableDT} {a : HeldD} {b : Bool} (h : r16_Table_next x = (a, b)) (hb : b = true) : a ∈ x.xW.ls ∧ r16_Table_free x a = true := by
  subst hb
  have go : ∀ l : List HeldD, lp (r16_Table_next_L0 x l) (fun _ => (HeldD.mk 0 (LockD.mk (RangeD.mk ([]) ([])) false), false)) = (a, true) → a ∈ l ∧ r16_Table_free x a = true := by
    intro l
    induction l with
    | nil => intro h; exact Bool.noConfusion (show false = true from congrArg Prod.snd h)
    | cons y q ih =>
      intro h
      rw [r16_Table_next_L0, bnd_eq] at h
      by_cases h1 : r16_Table_free x y = true
      · rw [if_pos h1] at h
        have e : y = a := congrArg Prod.fst h
        exact ⟨e ▸ .head _, e ▸ h1⟩
      · rw [if_neg h1] at h
        exact ⟨.tail _ (ih h).1, (ih h).2⟩
  exact go _ h
theorem filt_lt {α : Type} {p : α → Bool} {a : α} : ∀ {l : List α}, a ∈ l → p a = false → (l.filter p).length + 1 ≤ l.length
  | x :: l, h, hp => by
    rcases List.mem_cons.1 h with e | e
    · rw [← e, List.filter_cons_of_neg (by rw [hp]; decide)]
      have := List.length_filter_le p l
      simp only [List.length_cons]; omega
    · have ih := filt_lt e hp
      by_cases q : p x = true
      · rw [List.filter_cons_of_pos q]; simp only [List.length_cons]; omega
      · rw [List.filter_cons_of_neg q]; simp only [List.length_cons]; omega
theorem wo_lt {x : TableDT} {a : HeldD} {b : Bool} {r : List HeldD} (h : r16_Table_next x = (a, b)) (hb : b = true) (hw : r16_without x.xW.ls a.xTxn = r) : List.length r + 1 ≤ List.length x.xW.ls := by
  rw [← hw, wo_eq]
  exact filt_lt (rnext_of h hb).1 (by simp [notx])
end Go.Proofs.Ytggnajpokhaaiaa
