/-
  tuple: keys there and back, and their order.
-/
import Derived.Test.YticaheijlapllaaTe
import Derived.Test.YticaheijlapllaaKs
namespace Go.Proofs.Yticaheijlapllaa
open Go.RowKit
set_option linter.unusedVariables false
set_option linter.unusedSectionVars false

theorem jn_cons (p : List UInt8) (ps : List (List UInt8)) : jn (p :: ps) = esp p ++ 0 :: 1 :: jn ps := by simp [jn]
theorem esp_cons (b : UInt8) (p : List UInt8) : esp (b :: p) = esc b ++ esp p := by simp [esp]
theorem rp_part : ∀ (p acc : List UInt8) (out : List (List UInt8)) (r : List UInt8), rp acc out (esp p ++ 0 :: 1 :: r) = rp [] (out ++ [acc ++ p]) r
  | [], acc, out, r => by
    show rp acc out (0 :: 1 :: r) = _
    rw [rp_cons, if_neg (by simp)]
    simp
  | b :: p, acc, out, r => by
    rw [esp_cons]
    by_cases hb : b = 0
    · subst hb
      show rp acc out (0 :: 255 :: (esp p ++ 0 :: 1 :: r)) = _
      rw [rp_cons, if_neg (by simp)]
      show (if (255 : UInt8) = 255 then _ else _) = _
      rw [if_pos rfl, rp_part p]; simp
    · have e : esc b = [b] := by unfold esc; rw [if_neg hb]
      rw [e]
      show rp acc out (b :: (esp p ++ 0 :: 1 :: r)) = _
      rw [rp_cons, if_pos hb, rp_part p]; simp
theorem rp_jn : ∀ (ps out : List (List UInt8)), rp [] out (jn ps) = some (out ++ ps)
  | [], out => by simp [jn, rp]
  | p :: ps, out => by rw [jn_cons, rp_part, rp_jn ps]; simp
theorem jn_inj {a b : List (List UInt8)} (h : jn a = jn b) : a = b := by
  have h1 := rp_jn a []
  rw [h, rp_jn b []] at h1
  simpa using h1.symm
theorem cp_part : ∀ (p acc r : List UInt8), cp acc (esp p ++ 0 :: 1 :: r) = (acc ++ p, r, true)
  | [], acc, r => by
    show cp acc (0 :: 1 :: r) = _
    rw [cp_cons, if_neg (by simp)]
    simp
  | b :: p, acc, r => by
    rw [esp_cons]
    by_cases hb : b = 0
    · subst hb
      show cp acc (0 :: 255 :: (esp p ++ 0 :: 1 :: r)) = _
      rw [cp_cons, if_neg (by simp)]
      show (if (255 : UInt8) = 1 then _ else if (255 : UInt8) = 255 then _ else _) = _
      rw [if_neg (by decide), if_pos rfl, cp_part p]; simp
    · have e : esc b = [b] := by unfold esc; rw [if_neg hb]
      rw [e]
      show cp acc (b :: (esp p ++ 0 :: 1 :: r)) = _
      rw [cp_cons, if_pos hb, cp_part p]; simp
theorem rdl_jn : ∀ (ps : List (List UInt8)) (n : Nat), ps.length ≤ n → rdl n (jn ps) = ps.map fun p => (p, true)
  | [], n, _ => by simp [jn, rdl_nil]
  | p :: ps, 0, h => by simp at h
  | p :: ps, n + 1, h => by
    have hne : jn (p :: ps) ≠ [] := by rw [jn_cons]; simp
    rw [rdl_cons hne, jn_cons, cp_part]
    simp only [List.nil_append, if_true, List.map_cons, List.cons.injEq, true_and]
    exact rdl_jn ps n (by simp at h; omega)
theorem jn_len (ps : List (List UInt8)) : 2 * ps.length ≤ (jn ps).length := by
  induction ps with
  | nil => simp
  | cons p ps ih => rw [jn_cons]; simp only [List.length_append, List.length_cons]; omega
theorem cp_ok : ∀ (n : Nat) (acc key : List UInt8), key.length ≤ n → (cp acc key).2.2 = true → ∃ p, (cp acc key).1 = acc ++ p ∧ key = esp p ++ 0 :: 1 :: (cp acc key).2.1
  | _, acc, [], _, h => by simp [cp] at h
  | 0, acc, b :: r, h, _ => by simp at h
  | n + 1, acc, b :: r, h, hok => by
    rw [cp_cons] at hok ⊢
    by_cases hb : b ≠ 0
    · rw [if_pos hb] at hok ⊢
      obtain ⟨p, h1, h2⟩ := cp_ok n (acc ++ [b]) r (by simp at h; omega) hok
      refine ⟨b :: p, by rw [h1]; simp, ?_⟩
      have e : esc b = [b] := by unfold esc; rw [if_neg hb]
      rw [esp_cons, e, List.singleton_append, List.cons_append, ← h2]
    · rw [if_neg hb] at hok ⊢
      have hb : b = 0 := Classical.not_not.1 hb
      subst hb
      match r, h with
      | [], _ => simp at hok
      | c :: r', h =>
        simp only at hok ⊢
        by_cases h1 : c = 1
        · rw [if_pos h1]; subst h1; exact ⟨[], by simp, rfl⟩
        · rw [if_neg h1] at hok ⊢
          by_cases h2 : c = 255
          · rw [if_pos h2] at hok ⊢
            subst h2
            obtain ⟨p, q1, q2⟩ := cp_ok n (acc ++ [0]) r' (by simp at h; omega) hok
            refine ⟨0 :: p, by rw [q1]; simp, ?_⟩
            rw [esp_cons]
            show _ = 0 :: 255 :: (esp p ++ _)
            rw [← q2]
          · rw [if_neg h2] at hok; simp at hok
theorem rdl_ok : ∀ (n : Nat) (key : List UInt8), key.length ≤ n → (∀ y ∈ rdl n key, y.2 = true) → jn (fsts (rdl n key)) = key
  | 0, key, h, _ => by
    have : key = [] := List.eq_nil_of_length_eq_zero (by omega)
    subst this; rfl
  | n + 1, key, h, hall => by
    by_cases hk : key = []
    · subst hk; rw [rdl_nil]; rfl
    · rw [rdl_cons hk] at hall ⊢
      have h1 : (cp [] key).2.2 = true := hall ((cp [] key).1, (cp [] key).2.2) (List.mem_cons_self ..)
      rw [if_pos h1] at hall ⊢
      obtain ⟨p, q1, q2⟩ := cp_ok _ [] key (Nat.le_refl _) h1
      have hr := cp_rest _ [] key (Nat.le_refl _)
      have hl : 0 < key.length := List.length_pos_iff.2 hk
      have ih := rdl_ok n (cp [] key).2.1 (by omega) fun y hy => hall y (List.mem_cons_of_mem _ hy)
      show jn ((cp [] key).1 :: fsts (rdl n (cp [] key).2.1)) = key
      rw [jn_cons, ih, q1, List.nil_append, ← q2]
def Is (key : List UInt8) (ps : List (List UInt8)) : Prop := jn ps = key ∧ 1 ≤ ps.length ∧ ps.length ≤ 4
theorem pOk_is {key : List UInt8} (hk : 1 ≤ key.length) (h : pOk key) : Is key (pps key) := by
  have h1 := rdl_ok _ key (Nat.le_refl _) h.1
  refine ⟨h1, ?_, by unfold pps; rw [fsts_len]; exact h.2⟩
  rcases Nat.eq_zero_or_pos (pps key).length with e | e
  · have : pps key = [] := List.eq_nil_of_length_eq_zero e
    have h2 : jn (pps key) = key := h1
    rw [this] at h2
    rw [← h2] at hk; simp [jn] at hk
  · exact e
theorem is_pOk {key : List UInt8} {ps : List (List UInt8)} (h : Is key ps) : pOk key := by
  obtain ⟨rfl, h1, h2⟩ := h
  have hl := jn_len ps
  have e := rdl_jn ps (jn ps).length (by omega)
  unfold pOk
  rw [e]
  exact ⟨fun y hy => by obtain ⟨p, _, rfl⟩ := List.mem_map.1 hy; rfl, by simpa using h2⟩
theorem rOk_is {key : List UInt8} {ps : List (List UInt8)} (h : rOk key ps) : Is key ps := by
  obtain ⟨_, h2, h3⟩ := h
  have := jE_ok (congrArg Prod.snd h2)
  exact ⟨h3, this.2.2.1, this.2.2.2⟩
theorem is_rOk {key : List UInt8} {ps : List (List UInt8)} (hk : key.length ≤ 12) (h : Is key ps) : rOk key ps := by
  obtain ⟨rfl, h1, h2⟩ := h
  refine ⟨by rw [rp_jn]; rfl, ?_, rfl⟩
  unfold jE; rw [if_neg (by omega), if_neg (by omega)]
/-! ### order -/
theorem cmpS_cons (a b : UInt8) (x y : List UInt8) : cmpS (a :: x) (b :: y) = if a < b then -1 else if b < a then 1 else cmpS x y := by
  unfold cmpS
  by_cases h1 : a < b
  · rw [if_pos (List.cons_lt_cons_iff.2 (.inl h1)), if_pos h1]
  · by_cases h2 : b < a
    · rw [if_neg (fun h => by exact (List.cons_lt_cons_iff.1 h).elim h1 fun h => by rw [h.1] at h2; exact absurd h2 (by simp)), if_pos (List.cons_lt_cons_iff.2 (.inl h2)), if_neg h1, if_pos h2]
    · have e : a = b := by
        have h1' : b ≤ a := by simpa using h1
        have h2' : a ≤ b := by simpa using h2
        exact UInt8.le_antisymm h2' h1'
      subst e
      rw [if_neg h1, if_neg h1]
      simp [List.cons_lt_cons_iff]
theorem cmpS_same (a : UInt8) (x y : List UInt8) : cmpS (a :: x) (a :: y) = cmpS x y := by rw [cmpS_cons, if_neg (by simp), if_neg (by simp)]
theorem cmpS_nil_cons (b : UInt8) (y : List UInt8) : cmpS [] (b :: y) = -1 := by unfold cmpS; rw [if_pos (by simp)]
theorem cmpS_cons_nil (b : UInt8) (y : List UInt8) : cmpS (b :: y) [] = 1 := by unfold cmpS; rw [if_neg (by simp), if_pos (by simp)]
theorem cmpS_self (x : List UInt8) : cmpS x x = 0 := by unfold cmpS; rw [if_neg (by grind), if_neg (by grind)]
theorem cmpS_pre (s x y : List UInt8) : cmpS (s ++ x) (s ++ y) = cmpS x y := by
  induction s with
  | nil => rfl
  | cons a s ih => rw [List.cons_append, List.cons_append, cmpS_same, ih]
theorem pos_of_ne {c : UInt8} (h : c ≠ 0) : (0 : UInt8) < c := by
  have h1 : c.toNat ≠ 0 := fun e => h (UInt8.toNat_inj.1 (by simpa using e))
  exact UInt8.lt_iff_toNat_lt.2 (by simpa using Nat.pos_of_ne_zero h1)
theorem esp_cmp : ∀ (p q x y : List UInt8), cmpS (esp p ++ 0 :: 1 :: x) (esp q ++ 0 :: 1 :: y) = if cmpS p q ≠ 0 then cmpS p q else cmpS x y
  | [], [], x, y => by
    show cmpS (0 :: 1 :: x) (0 :: 1 :: y) = _
    rw [cmpS_same, cmpS_same, if_neg (by rw [cmpS_self]; simp)]
  | [], c :: q, x, y => by
    rw [if_pos (by rw [cmpS_nil_cons]; decide), cmpS_nil_cons, esp_cons]
    show cmpS (0 :: 1 :: x) _ = _
    by_cases hc : c = 0
    · subst hc
      show cmpS (0 :: 1 :: x) (0 :: 255 :: _) = _
      rw [cmpS_same, cmpS_cons, if_pos (by decide)]
    · have e : esc c = [c] := by unfold esc; rw [if_neg hc]
      rw [e]
      show cmpS (0 :: 1 :: x) (c :: _) = _
      rw [cmpS_cons, if_pos (pos_of_ne hc)]
  | c :: p, [], x, y => by
    rw [if_pos (by rw [cmpS_cons_nil]; decide), cmpS_cons_nil, esp_cons]
    show cmpS _ (0 :: 1 :: y) = _
    by_cases hc : c = 0
    · subst hc
      show cmpS (0 :: 255 :: _) (0 :: 1 :: y) = _
      rw [cmpS_same, cmpS_cons, if_neg (by decide), if_pos (by decide)]
    · have e : esc c = [c] := by unfold esc; rw [if_neg hc]
      rw [e]
      show cmpS (c :: _) (0 :: 1 :: y) = _
      rw [cmpS_cons, if_neg (by have := pos_of_ne hc; exact fun h => absurd (UInt8.lt_trans this h) (by simp)), if_pos (pos_of_ne hc)]
  | b :: p, c :: q, x, y => by
    rw [esp_cons, esp_cons]
    by_cases hbc : b = c
    · subst hbc
      rw [cmpS_same, List.append_assoc, List.append_assoc, cmpS_pre, esp_cmp p q]
    · have key : ∀ s t : List UInt8, cmpS (esc b ++ s) (esc c ++ t) = cmpS (b :: p) (c :: q) := fun s t => by
        have hb : ∃ s', esc b ++ s = b :: s' := by unfold esc; split <;> exact ⟨_, rfl⟩
        have hc : ∃ t', esc c ++ t = c :: t' := by unfold esc; split <;> exact ⟨_, rfl⟩
        obtain ⟨s', hs⟩ := hb
        obtain ⟨t', ht⟩ := hc
        rw [hs, ht, cmpS_cons, cmpS_cons]
        by_cases h1 : b < c
        · rw [if_pos h1, if_pos h1]
        · by_cases h2 : c < b
          · rw [if_neg h1, if_pos h2, if_neg h1, if_pos h2]
          · exact absurd (UInt8.le_antisymm (by simpa using h2) (by simpa using h1)) hbc
      have hne : cmpS (b :: p) (c :: q) ≠ 0 := by
        rw [cmpS_cons]
        by_cases h1 : b < c
        · rw [if_pos h1]; decide
        · by_cases h2 : c < b
          · rw [if_neg h1, if_pos h2]; decide
          · exact absurd (UInt8.le_antisymm (by simpa using h2) (by simpa using h1)) hbc
      rw [if_pos hne, List.append_assoc, List.append_assoc, key]
theorem jn_cmp : ∀ (a b : List (List UInt8)), cmpS (jn a) (jn b) = lcmp a b
  | [], [] => cmpS_self _
  | [], q :: b => by
    obtain ⟨c, s, h⟩ : ∃ c s, jn (q :: b) = c :: s := by
      cases h : jn (q :: b) with
      | nil => rw [jn_cons] at h; simp at h
      | cons c s => exact ⟨c, s, rfl⟩
    rw [h]; exact cmpS_nil_cons _ _
  | p :: a, [] => by
    obtain ⟨c, s, h⟩ : ∃ c s, jn (p :: a) = c :: s := by
      cases h : jn (p :: a) with
      | nil => rw [jn_cons] at h; simp at h
      | cons c s => exact ⟨c, s, rfl⟩
    rw [h]; exact cmpS_cons_nil _ _
  | p :: a, q :: b => by rw [jn_cons, jn_cons, esp_cmp, jn_cmp a b]; rfl
theorem cmpS_anti (x y : List UInt8) : cmpS y x = - cmpS x y := by
  unfold cmpS
  by_cases h1 : x < y
  · have : ¬ y < x := by grind
    rw [if_neg this, if_pos h1, if_pos h1]; rfl
  · by_cases h2 : y < x
    · rw [if_pos h2, if_neg h1, if_pos h2]
    · rw [if_neg h2, if_neg h1, if_neg h1, if_neg h2]; rfl
theorem cmpS_zero (x y : List UInt8) : cmpS x y = 0 ↔ x = y := by
  unfold cmpS
  constructor
  · intro h
    by_cases h1 : x < y
    · rw [if_pos h1] at h; exact absurd h (by decide)
    · by_cases h2 : y < x
      · rw [if_neg h1, if_pos h2] at h; exact absurd h (by decide)
      · grind
  · rintro rfl
    rw [if_neg (by grind), if_neg (by grind)]
theorem cmpS_range (x y : List UInt8) : -1 ≤ cmpS x y ∧ cmpS x y ≤ 1 := by unfold cmpS; split <;> (try split) <;> omega
theorem cmpS_trans {x y z : List UInt8} (h : cmpS x y = cmpS y z) : cmpS x z = cmpS x y := by
  unfold cmpS at h ⊢
  by_cases h1 : x < y
  · rw [if_pos h1] at h ⊢
    by_cases h2 : y < z
    · rw [if_pos (by grind)]
    · rw [if_neg h2] at h; split at h <;> exact absurd h (by decide)
  · by_cases h2 : y < x
    · rw [if_neg h1, if_pos h2] at h ⊢
      by_cases h3 : y < z
      · rw [if_pos h3] at h; exact absurd h (by decide)
      · by_cases h4 : z < y
        · rw [if_neg (by grind), if_pos (by grind)]
        · rw [if_neg h3, if_neg h4] at h; exact absurd h (by decide)
    · have e : x = y := by grind
      subst e
      rw [h]
end Go.Proofs.Yticaheijlapllaa
