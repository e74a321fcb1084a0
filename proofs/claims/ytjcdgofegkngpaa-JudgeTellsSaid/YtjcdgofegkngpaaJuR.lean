/-
  The document's answer of what was seen: which one of the same request was first; what may be replayed.
  Conditions: none.
-/
import Derived.Test.YtjcdgofegkngpaaJr
import Derived.Test.YtjcdgofegkngpaaJuL
namespace Go.Proofs.Ytjcdgofegkngpaa
set_option linter.unusedVariables false
set_option linter.unusedSimpArgs false
open Go.RowKit
theorem jkey_iff {x y : SeenT} : jkey y = jkey x ↔ y.xClient = x.xClient ∧ ((y.xReq : Nat) : Int) = ((x.xReq : Nat) : Int) := by
  unfold jkey
  constructor
  · intro h
    injection h with h1 h2
    exact ⟨h1, by rw [h2]⟩
  · intro h
    rw [h.1, Int.ofNat.inj h.2]
def isAt (l : List SeenT) (kind : Int) (r : requestD) (j : Nat) : Prop := ∃ y, l[j]? = some y ∧ y.xKind = kind ∧ jkey y = r
theorem getD_q {α : Type} [Inhabited α] {l : List α} {i : Nat} {x : α} (h : l[i]? = some x) : List.getD l i default = x := getD_of h
theorem bef_L (l : List SeenT) (i : Nat) (kind : Int) {x : SeenT} (hx : l[i]? = some x) : ∀ (f k : Nat), i - k < f → k ≤ i → (∀ j, j < k → ¬ isAt l kind (jkey x) j) →
    (r23_before_L0 l ((i : Nat) : Int) kind f k = .inl () ∧ ∀ j, j < i → ¬ isAt l kind (jkey x) j) ∨ ∃ j, r23_before_L0 l ((i : Nat) : Int) kind f k = .inr ((j : Nat) : Int) ∧ j < i ∧ isAt l kind (jkey x) j
  | 0, k, h, _, _ => by omega
  | f + 1, k, h, hk, hno => by
    unfold r23_before_L0
    simp only [bnd_eq]
    by_cases hlt : ((k : Nat) : Int) < ((i : Nat) : Int)
    · rw [if_pos hlt]
      have hki : k < i := by omega
      have hil : i < l.length := (List.getElem?_eq_some_iff.1 hx).1
      obtain ⟨y, hy⟩ : ∃ y, l[k]? = some y := ⟨l[k], List.getElem?_eq_getElem (by omega)⟩
      rw [getD_q hy, show Int.toNat ((i : Nat) : Int) = i from rfl, getD_q hx]
      have next : ¬ isAt l kind (jkey x) k → ∀ j, j < k + 1 → ¬ isAt l kind (jkey x) j := fun hn j hj => by
        rcases Nat.lt_or_ge j k with g | g
        · exact hno j g
        · rw [show j = k by omega]; exact hn
      have off : (y.xKind = kind → y.xClient = x.xClient → ¬ ((y.xReq : Nat) : Int) = ((x.xReq : Nat) : Int)) → ¬ isAt l kind (jkey x) k := fun q ⟨z, z1, z2, z3⟩ => by
        rw [hy] at z1
        have := Option.some.inj z1
        subst this
        have e := jkey_iff.1 z3
        exact q z2 e.1 e.2
      by_cases h1 : y.xKind = kind
      · rw [if_pos h1]
        by_cases h2 : y.xClient = x.xClient
        · rw [if_pos h2]
          by_cases h3 : ((y.xReq : Nat) : Int) = ((x.xReq : Nat) : Int)
          · rw [if_pos h3]
            exact .inr ⟨k, rfl, hki, y, hy, h1, jkey_iff.2 ⟨h2, h3⟩⟩
          · rw [if_neg h3]
            exact bef_L l i kind hx f (k + 1) (by omega) (by omega) (next (off fun _ _ => h3))
        · rw [if_neg h2]
          exact bef_L l i kind hx f (k + 1) (by omega) (by omega) (next (off fun _ q => absurd q h2))
      · rw [if_neg h1]
        exact bef_L l i kind hx f (k + 1) (by omega) (by omega) (next (off fun q => absurd q h1))
    · rw [if_neg hlt]
      refine .inl ⟨rfl, fun j hj => hno j (by omega)⟩
theorem bef_of (l : List SeenT) (i : Nat) (kind : Int) {x : SeenT} (hx : l[i]? = some x) : (r23_before l ((i : Nat) : Int) kind = -1 ∧ ∀ j, j < i → ¬ isAt l kind (jkey x) j) ∨ ∃ j, r23_before l ((i : Nat) : Int) kind = ((j : Nat) : Int) ∧ j < i ∧ isAt l kind (jkey x) j := by
  unfold r23_before
  rcases bef_L l i kind hx (Int.toNat (((i : Nat) : Int) - ((0 : Nat) : Int)) + 1) 0 (by omega) (Nat.zero_le _) (fun j hj => by omega) with ⟨h1, h2⟩ | ⟨j, h1, h2⟩
  · rw [h1]; exact .inl ⟨rfl, h2⟩
  · rw [h1]; exact .inr ⟨j, rfl, h2⟩
theorem bef_takeL (l : List SeenT) (n i : Nat) (kind : Int) (hi : i < n) : ∀ (f k : Nat), r23_before_L0 (List.take n l) ((i : Nat) : Int) kind f k = r23_before_L0 l ((i : Nat) : Int) kind f k
  | 0, k => rfl
  | f + 1, k => by
    unfold r23_before_L0
    simp only [bnd_eq, bef_takeL l n i kind hi f]
    by_cases hlt : ((k : Nat) : Int) < ((i : Nat) : Int)
    · rw [if_pos hlt, if_pos hlt]
      have e : ∀ j, j < n → List.getD (List.take n l) j default = List.getD l j default := fun j hj => by
        simp only [List.getD_eq_getElem?_getD, List.getElem?_take, if_pos hj]
      rw [e k (by omega), show Int.toNat ((i : Nat) : Int) = i from rfl, e i hi]
    · rw [if_neg hlt, if_neg hlt]
theorem bef_take (l : List SeenT) {n i : Nat} (kind : Int) (hi : i < n) : r23_before (List.take n l) ((i : Nat) : Int) kind = r23_before l ((i : Nat) : Int) kind := by
  unfold r23_before
  rw [bef_takeL l n i kind hi]
def RpAll (k : Nat) (l : List SeenT) : Prop := ∀ j, j < k → j < List.length l → r23_wrong l ((j : Nat) : Int) = 0
theorem rp_zero {l : List SeenT} : RpAll 0 l := fun j hj => by omega
theorem rp_next {k : Nat} {l : List SeenT} {r : Int} (h : RpAll k l) (hw : r23_wrong l ((k : Nat) : Int) = r) (hr : r = 0) : RpAll (k + 1) l := fun j hj hl => by
  rcases Nat.lt_or_ge j k with g | g
  · exact h j g hl
  · rw [show j = k by omega, hw, hr]
theorem wrong_dec {l : List SeenT} {i : Nat} {x : SeenT} (hx : l[i]? = some x) (hk : x.xKind = 2) (h : r23_wrong l ((i : Nat) : Int) = 0) : 0 ≤ r23_before l ((i : Nat) : Int) 1 := by
  unfold r23_wrong at h
  simp only [bnd_eq, show Int.toNat ((i : Nat) : Int) = i from rfl, getD_q hx] at h
  rw [if_neg (show ¬ x.xKind = 1 by omega), if_pos hk, if_neg (show ¬ x.xKind = 1 by omega), if_pos hk] at h
  by_cases h1 : x.xClient ≥ 1
  · rw [if_pos h1] at h
    by_cases h2 : x.xClient ≤ 4
    · rw [if_pos h2] at h
      by_cases h3 : r23_before l ((i : Nat) : Int) 2 ≥ 0
      · rw [if_pos h3] at h; cases h
      rw [if_neg h3] at h
      by_cases h4 : r23_before l ((i : Nat) : Int) 1 < 0
      · rw [if_pos h4] at h; cases h
      · omega
    · rw [if_neg h2] at h; cases h
  · rw [if_neg h1] at h; cases h
theorem wrong_ask {l : List SeenT} {i : Nat} {x : SeenT} (hx : l[i]? = some x) (hk : x.xKind = 1) (h : r23_wrong l ((i : Nat) : Int) = 0) : r04_Check x.xOps.ls = 0 := by
  unfold r23_wrong at h
  simp only [bnd_eq, show Int.toNat ((i : Nat) : Int) = i from rfl, getD_q hx] at h
  rw [if_pos hk, if_pos hk] at h
  by_cases h1 : x.xClient ≥ 1
  · rw [if_pos h1] at h
    by_cases h2 : x.xClient ≤ 4
    · rw [if_pos h2] at h
      by_cases h3 : r04_Check x.xOps.ls = 0
      · exact h3
      · rw [if_neg h3] at h; cases h
    · rw [if_neg h2] at h; cases h
  · rw [if_neg h1] at h; cases h
theorem rchk_len {l : List OpD} (h : r04_Check l = 0) : List.length l ≤ 24 := by
  unfold r04_Check at h
  by_cases h1 : ((List.length l : Nat) : Int) < 1
  · rw [if_pos h1] at h; cases h
  rw [if_neg h1] at h
  by_cases h2 : ((List.length l : Nat) : Int) > 4
  · rw [if_pos h2] at h; cases h
  · omega
theorem rp_all {k : Nat} {l : List SeenT} (h : RpAll k l) : ∀ n : Nat, ((n : Nat) : Int) ≤ ((k : Nat) : Int) → RpOk (List.take n l) := fun n hn i x hx hk => by
  rw [List.getElem?_take] at hx
  split at hx
  · rename_i hi
    have hil : i < l.length := (List.getElem?_eq_some_iff.1 hx).1
    have hw := h i (by omega) hil
    have h0 := wrong_dec hx hk hw
    rw [bef_take l 1 hi]
    refine ⟨h0, fun y hy => ?_⟩
    rcases bef_of l i 1 hx with ⟨g, _⟩ | ⟨j, g1, g2, z, g3, g4, g5⟩
    · rw [g] at h0; omega
    · rw [g1, show Int.toNat ((j : Nat) : Int) = j from rfl, List.getElem?_take] at hy
      split at hy
      · rw [g3] at hy
        have := Option.some.inj hy
        subst this
        exact rchk_len (wrong_ask g3 g4 (h j (by omega) (by omega)))
      · cases hy
  · cases hx
end Go.Proofs.Ytjcdgofegkngpaa
