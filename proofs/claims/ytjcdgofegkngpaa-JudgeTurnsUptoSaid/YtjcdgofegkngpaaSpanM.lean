/-
  The mathematics of ranges of keys: lists of bytes in their order.
  Conditions: none.
-/
import Derived.Lib.Hide
namespace Go.Proofs.Ytjcdgofegkngpaa.M
set_option linter.unusedVariables false
set_option linter.unusedSimpArgs false

abbrev L := List UInt8
def K (k : L) : Prop := 1 ≤ k.length ∧ k.length ≤ 12
def R (l h : L) : Prop := (l = [] ∨ K l) ∧ (h = [] ∨ (K h ∧ l < h))
def B (k h : L) : Prop := h = [] ∨ k < h
def H (l h k : L) : Prop := R l h ∧ K k ∧ l ≤ k ∧ B k h
def mx (a b : L) : L := if a < b then b else a
def ls (a b : L) : L := if a = [] then b else if b = [] then a else if b < a then b else a
def M (l1 h1 l2 h2 : L) : Prop := R l1 h1 ∧ R l2 h2 ∧ B (mx l1 l2) (ls h1 h2)

theorem nil_le (a : L) : [] ≤ a := List.nil_le a
theorem not_lt_nil (a : L) : ¬ a < [] := List.not_lt_nil a
theorem nil_lt {a : L} (h : a ≠ []) : [] < a := by
  cases a with
  | nil => exact absurd rfl h
  | cons x xs => exact List.nil_lt_cons x xs
theorem K_ne {k : L} (h : K k) : k ≠ [] := by rintro rfl; simp [K] at h

theorem mx_comm (a b : L) : mx a b = mx b a := by unfold mx; grind
theorem ls_comm (a b : L) : ls a b = ls b a := by unfold ls; grind
theorem M_comm (a b c d : L) : M a b c d ↔ M c d a b := by unfold M; rw [mx_comm, ls_comm]; constructor <;> (rintro ⟨h1, h2, h3⟩; exact ⟨h2, h1, h3⟩)

theorem B_ls (k a b : L) : B k (ls a b) ↔ B k a ∧ B k b := by
  have := not_lt_nil k
  unfold B ls; grind
theorem le_mx (k a b : L) : mx a b ≤ k ↔ a ≤ k ∧ b ≤ k := by unfold mx; grind
theorem R_meet {l1 h1 l2 h2 : L} (h : M l1 h1 l2 h2) : R (mx l1 l2) (ls h1 h2) := by
  obtain ⟨⟨a1, a2⟩, ⟨b1, b2⟩, c⟩ := h
  refine ⟨?_, ?_⟩
  · unfold mx; split <;> assumption
  · rcases c with c | c
    · exact .inl c
    · by_cases e : ls h1 h2 = []
      · exact .inl e
      · refine .inr ⟨?_, c⟩
        unfold ls at e ⊢
        grind

theorem both (l1 h1 l2 h2 k : L) : (H l1 h1 k ∧ H l2 h2 k) ↔ (M l1 h1 l2 h2 ∧ H (mx l1 l2) (ls h1 h2) k) := by
  constructor
  · rintro ⟨⟨r1, k1, a1, b1⟩, ⟨r2, _, a2, b2⟩⟩
    have hb := (B_ls k h1 h2).2 ⟨b1, b2⟩
    have ha := (le_mx k l1 l2).2 ⟨a1, a2⟩
    have hm : M l1 h1 l2 h2 := ⟨r1, r2, by
      rcases hb with hb | hb
      · exact .inl hb
      · exact .inr (List.lt_of_le_of_lt ha hb)⟩
    exact ⟨hm, R_meet hm, k1, ha, hb⟩
  · rintro ⟨⟨r1, r2, _⟩, _, k1, a, b⟩
    have hb := (B_ls k h1 h2).1 b
    have ha := (le_mx k l1 l2).1 a
    exact ⟨⟨r1, k1, ha.1, hb.1⟩, ⟨r2, k1, ha.2, hb.2⟩⟩

theorem mx_assoc (a b c : L) : mx (mx a b) c = mx a (mx b c) := by unfold mx; grind
theorem ls_assoc (a b c : L) : ls (ls a b) c = ls a (ls b c) := by unfold ls; grind
theorem parts {a b c d e f : L} (h1 : M a b c d) (h2 : M c d e f) : (M (mx a c) (ls b d) e f ↔ M a b (mx c e) (ls d f)) := by
  have r1 := R_meet h1
  have r2 := R_meet h2
  unfold M
  rw [mx_assoc, ls_assoc]
  exact ⟨fun ⟨_, _, h⟩ => ⟨h1.1, r2, h⟩, fun ⟨_, _, h⟩ => ⟨r1, h2.2.1, h⟩⟩

def C (l1 h1 l2 h2 : L) : Prop := M l1 h1 l2 h2 ∧ mx l1 l2 = l2 ∧ ls h1 h2 = h2

theorem mx_eq (a b : L) : mx a b = b ↔ a ≤ b := by unfold mx; grind
theorem ls_eq (a b : L) : ls a b = b ↔ (a = [] ∨ (b ≠ [] ∧ b ≤ a)) := by
  have := nil_le a
  have := not_lt_nil a
  unfold ls; grind
theorem C_iff (l1 h1 l2 h2 : L) : C l1 h1 l2 h2 ↔ R l1 h1 ∧ R l2 h2 ∧ l1 ≤ l2 ∧ (h1 = [] ∨ (h2 ≠ [] ∧ h2 ≤ h1)) := by
  unfold C
  rw [mx_eq, ls_eq]
  constructor
  · rintro ⟨⟨r1, r2, _⟩, a, b⟩; exact ⟨r1, r2, a, b⟩
  · rintro ⟨r1, r2, a, b⟩
    refine ⟨⟨r1, r2, ?_⟩, a, b⟩
    rw [(mx_eq l1 l2).2 a, (ls_eq h1 h2).2 b]
    rcases r2.2 with h | ⟨_, h⟩
    · exact .inl h
    · exact .inr h

theorem all_R : R [] [] := ⟨.inl rfl, .inl rfl⟩
theorem C_all (l h : L) : C [] [] l h ↔ R l h := by
  rw [C_iff]
  exact ⟨fun h => h.2.1, fun h => ⟨all_R, h, nil_le l, .inl rfl⟩⟩
theorem H_all (k : L) : H [] [] k ↔ K k := ⟨fun h => h.2.1, fun h => ⟨all_R, h, nil_le k, .inl rfl⟩⟩
theorem C_trans {a b c d e f : L} (h1 : C a b c d) (h2 : C c d e f) : C a b e f := by
  rw [C_iff] at *
  obtain ⟨r1, _, x1, y1⟩ := h1
  obtain ⟨_, r3, x2, y2⟩ := h2
  refine ⟨r1, r3, List.le_trans x1 x2, ?_⟩
  grind
theorem C_anti {a b c d : L} (h1 : C a b c d) (h2 : C c d a b) : a = c ∧ b = d := by
  rw [C_iff] at *
  obtain ⟨_, _, x1, y1⟩ := h1
  obtain ⟨_, _, x2, y2⟩ := h2
  refine ⟨List.le_antisymm x1 x2, ?_⟩
  grind

theorem cut {l h at_ k : L} (r : R l h) (ka : K at_) (hl : l < at_) (hb : B at_ h) : (H l h k ↔ (H l at_ k ∨ H at_ h k)) ∧ ¬ (H l at_ k ∧ H at_ h k) := by
  have r1 : R l at_ := ⟨r.1, .inr ⟨ka, hl⟩⟩
  have r2 : R at_ h := ⟨.inr ka, by
    rcases r.2 with e | ⟨e, _⟩
    · exact .inl e
    · rcases hb with e' | e'
      · exact .inl e'
      · exact .inr ⟨e, e'⟩⟩
  have hne := K_ne ka
  unfold H B at *
  refine ⟨⟨?_, ?_⟩, ?_⟩
  · rintro ⟨_, kk, a, b⟩
    by_cases hk : k < at_
    · exact .inl ⟨r1, kk, a, .inr hk⟩
    · exact .inr ⟨r2, kk, List.not_lt.1 hk, b⟩
  · rintro (⟨_, kk, a, b⟩ | ⟨_, kk, a, b⟩)
    · refine ⟨r, kk, a, ?_⟩; grind
    · refine ⟨r, kk, ?_, b⟩; grind
  · rintro ⟨⟨_, _, _, b⟩, ⟨_, _, a, _⟩⟩; grind

/-! ### the range of one key -/

theorem lt_snoc0 : ∀ (o k : L), o < k ++ [0] ↔ o ≤ k
  | [], [] => by simp [nil_lt]
  | [], y :: ys => by simp [nil_le]
  | x :: xs, [] => by
    simp only [List.nil_append]
    constructor
    · intro h
      rcases List.cons_lt_cons_iff.1 h with h | ⟨_, h⟩
      · exact absurd h (by simp)
      · exact absurd h (not_lt_nil _)
    · intro h; exact absurd (List.le_antisymm h (nil_le _)) (by simp)
  | x :: xs, y :: ys => by
    rw [List.cons_append, List.cons_lt_cons_iff, List.cons_le_cons_iff, lt_snoc0 xs ys]

def nx : L → L
  | [] => []
  | a :: k => if nx k = [] then (if a.toNat = 255 then [] else [a + 1]) else a :: nx k

theorem succ_le {a b : UInt8} (ha : a.toNat ≠ 255) (h : b < a + 1) : b ≤ a := by
  have := a.toNat_lt
  have e : (a + 1).toNat = a.toNat + 1 := by rw [UInt8.toNat_add]; show (a.toNat + 1) % 256 = _; omega
  rw [UInt8.lt_iff_toNat_lt, e] at h
  rw [UInt8.le_iff_toNat_le]; omega

theorem nx_only : ∀ (k o : L), o.length ≤ k.length → k ≤ o → (nx k = [] ∨ o < nx k) → o = k
  | [], o, hl, _, _ => List.eq_nil_of_length_eq_zero (by simpa using hl)
  | a :: k, [], _, h, _ => by exact absurd (List.le_antisymm h (nil_le _)) (by simp)
  | a :: k, b :: o, hl, h, hn => by
    have hl' : o.length ≤ k.length := by simpa using hl
    rw [List.cons_le_cons_iff] at h
    unfold nx at hn
    by_cases e : nx k = []
    · rw [if_pos e] at hn
      by_cases ea : a.toNat = 255
      · rcases h with h | ⟨rfl, h⟩
        · exfalso
          have := b.toNat_lt
          rw [UInt8.lt_iff_toNat_lt] at h; omega
        · rw [nx_only k o hl' h (.inl e)]
      · rw [if_neg ea] at hn
        rcases hn with hn | hn
        · simp at hn
        · rcases h with h | ⟨rfl, h⟩
          · exfalso
            rcases List.cons_lt_cons_iff.1 hn with hn | ⟨_, hn⟩
            · have := succ_le ea hn
              rw [UInt8.lt_iff_toNat_lt] at h
              rw [UInt8.le_iff_toNat_le] at this; omega
            · exact not_lt_nil _ hn
          · rw [nx_only k o hl' h (.inl e)]
    · rw [if_neg e] at hn
      rcases hn with hn | hn
      · simp at hn
      · rcases List.cons_lt_cons_iff.1 hn with hn1 | ⟨rfl, hn1⟩
        · exfalso
          rcases h with h | ⟨rfl, h⟩
          · exact absurd hn1 (UInt8.lt_asymm h)
          · exact UInt8.lt_irrefl _ hn1
        · rcases h with h | ⟨_, h⟩
          · exact absurd h (UInt8.lt_irrefl _)
          · rw [nx_only k o hl' h (.inr hn1)]

theorem nx_gt : ∀ (k : L), nx k = [] ∨ k < nx k
  | [] => .inl rfl
  | a :: k => by
    unfold nx
    by_cases e : nx k = []
    · rw [if_pos e]
      by_cases ea : a.toNat = 255
      · rw [if_pos ea]; exact .inl rfl
      · rw [if_neg ea]
        right
        rw [List.cons_lt_cons_iff]
        left
        have := a.toNat_lt
        have e : (a + 1).toNat = a.toNat + 1 := by rw [UInt8.toNat_add]; show (a.toNat + 1) % 256 = _; omega
        rw [UInt8.lt_iff_toNat_lt, e]; omega
    · rw [if_neg e]
      right
      rw [List.cons_lt_cons_iff]
      exact .inr ⟨rfl, (nx_gt k).resolve_left e⟩

theorem nx_len : ∀ (k : L), (nx k).length ≤ k.length
  | [] => Nat.le_refl _
  | a :: k => by
    have := nx_len k
    unfold nx
    split
    · split <;> simp
    · simp; omega
end Go.Proofs.Ytjcdgofegkngpaa.M
