/-
  The contracts' truth values, as facts on lists of bytes.
-/
import Derived.Test.YtpinofeknilgfaaSpanE
import Derived.Test.YtpinofeknilgfaaSpanM
namespace Go.Proofs.Ytpinofeknilgfaa
open Go.RowKit

theorem em_iff (a : ByteArray) : em a = true ↔ a.toList = [] := by unfold em; simp
theorem lt_iff (a b : ByteArray) : lt a b = true ↔ a.toList < b.toList := by unfold lt; rw [Proofs.bytesLess_eq]; simp
theorem eqS_iff (a b : ByteArray) : eqS a b = true ↔ a.toList = b.toList := by unfold eqS; simp
theorem ext_list {a b : ByteArray} (h : a.toList = b.toList) : a = b := by
  rw [ByteArray.toList_eq, ByteArray.toList_eq] at h
  exact ByteArray.ext (Array.ext' h)
theorem okK_iff (k : ByteArray) : okK k = true ↔ M.K k.toList := by unfold okK M.K; rw [key_len]; simp
theorem okR_iff (l h : ByteArray) : okR l h = true ↔ M.R l.toList h.toList := by
  unfold okR M.R
  rw [← okK_iff, ← okK_iff, ← em_iff, ← em_iff]
  have : (!(lt h l || eqS h l)) = lt l h := by rw [show (lt h l || eqS h l) = !(lt l h) from leq_not h l, Bool.not_not]
  rw [this, ← lt_iff]
  simp
theorem belowB_iff (k h : ByteArray) : belowB k h = true ↔ M.B k.toList h.toList := by unfold belowB M.B; rw [← em_iff, ← lt_iff]; simp
theorem hasB_iff (l h k : ByteArray) : hasB l h k = true ↔ M.H l.toList h.toList k.toList := by
  unfold hasB M.H
  rw [← okR_iff, ← okK_iff, ← belowB_iff, show (lt l k || eqS l k) = !(lt k l) from leq_not l k]
  have : (l.toList ≤ k.toList) ↔ (!(lt k l)) = true := by rw [← List.not_lt, ← lt_iff]; simp
  rw [this]
  simp [and_assoc]
theorem mxS_list (a b : ByteArray) : (mxS a b).toList = M.mx a.toList b.toList := by
  unfold mxS Go.Lib.maxS M.mx
  rw [← ByteArray.toList_eq, ← ByteArray.toList_eq]
  split <;> rfl
theorem lesserB_list (a b : ByteArray) : (lesserB a b).toList = M.ls a.toList b.toList := by
  unfold lesserB M.ls
  simp only [em_iff, lt_iff]
  split
  · rfl
  · split
    · rfl
    · split <;> rfl
theorem meetB_iff (a b c d : ByteArray) : meetB a b c d = true ↔ M.M a.toList b.toList c.toList d.toList := by
  unfold meetB M.M
  rw [← okR_iff, ← okR_iff, ← mxS_list, ← lesserB_list, ← belowB_iff]
  simp [and_assoc]
theorem coversB_iff (a b c d : ByteArray) : coversB a b c d = true ↔ M.C a.toList b.toList c.toList d.toList := by
  unfold coversB M.C
  rw [← meetB_iff, ← mxS_list, ← lesserB_list, ← eqS_iff, ← eqS_iff]
  simp
theorem bool_ext {a b : Bool} {p q : Prop} (ha : a = true ↔ p) (hb : b = true ↔ q) (h : p ↔ q) : a = b := by
  rw [Bool.eq_iff_iff, ha, hb, h]

theorem mxS_comm (a b : ByteArray) : mxS a b = mxS b a := ext_list (by rw [mxS_list, mxS_list, M.mx_comm])
theorem lesserB_comm (a b : ByteArray) : lesserB a b = lesserB b a := ext_list (by rw [lesserB_list, lesserB_list, M.ls_comm])
theorem meetB_comm (a b c d : ByteArray) : meetB a b c d = meetB c d a b := bool_ext (meetB_iff ..) (meetB_iff ..) (M.M_comm ..)

theorem bump_snoc (l : List UInt8) (a : UInt8) : bump (l ++ [a]) = if bump l = [] then bump [a] else bump l ++ [a] := by
  induction l with
  | nil => simp [bump]
  | cons x r ih =>
    rw [List.cons_append, bump, bump]
    by_cases h : x.toNat = 255
    · rw [if_pos h, if_pos h, ih]
    · rw [if_neg h, if_neg h]; simp

theorem bump_nx : ∀ (k : List UInt8), (bump k.reverse).reverse = M.nx k
  | [] => rfl
  | a :: k => by
    have ih := bump_nx k
    rw [List.reverse_cons, bump_snoc, M.nx]
    have e : M.nx k = [] ↔ bump k.reverse = [] := by rw [← ih]; simp
    by_cases h : bump k.reverse = []
    · rw [if_pos h, if_pos (e.2 h)]
      unfold bump
      split <;> simp [bump]
    · rw [if_neg h, if_neg (fun h' => h (e.1 h')), List.reverse_append, ih]
      rfl

theorem hi12_list (k : ByteArray) : (hi12 k).toList = M.nx k.toList := by
  unfold hi12
  rw [ByteArray.toList_eq, ← bump_nx]

theorem app0_list (k : ByteArray) : (k ++ ⟨#[0]⟩ : ByteArray).toList = k.toList ++ [0] := by
  rw [ByteArray.toList_eq, ByteArray.toList_eq, ByteArray.data_append]
  simp

/-- The range of a key has that key, and no other one. -/
theorem point_has (k o : ByteArray) (hk : okK k = true) : hasB k (pHi k) o = decide (o.toList = k.toList) ∧ okR k (pHi k) = true := by
  have hK := (okK_iff k).1 hk
  have hl : k.toList.length = k.size := key_len
  have hlt : (pHi k).toList = [] ∨ k.toList < (pHi k).toList := by
    unfold pHi
    split
    · rw [app0_list]; right; rw [M.lt_snoc0]; exact List.le_refl _
    · rw [hi12_list]; exact M.nx_gt _
  have hlen : (pHi k).toList = [] ∨ M.K (pHi k).toList := by
    rcases hlt with h | h
    · exact .inl h
    · right
      have hne : (pHi k).toList ≠ [] := fun e => M.not_lt_nil _ (e ▸ h)
      have h1 : 1 ≤ (pHi k).toList.length := by
        rcases Nat.eq_zero_or_pos (pHi k).toList.length with h0 | h0
        · exact absurd (List.eq_nil_of_length_eq_zero h0) hne
        · exact h0
      refine ⟨h1, ?_⟩
      unfold pHi
      unfold M.K at hK
      split
      · rw [app0_list]; simp; omega
      · rw [hi12_list]
        have := M.nx_len k.toList
        omega
  have hR : M.R k.toList (pHi k).toList := ⟨.inr hK, by
    rcases hlen with h | h
    · exact .inl h
    · rcases hlt with h' | h'
      · exact .inl h'
      · exact .inr ⟨h, h'⟩⟩
  refine ⟨?_, (okR_iff _ _).2 hR⟩
  rw [Bool.eq_iff_iff, hasB_iff, decide_eq_true_iff]
  constructor
  · rintro ⟨_, ho, h1, h2⟩
    unfold M.K at hK ho
    unfold pHi at h2
    split at h2
    · rw [app0_list] at h2
      rcases h2 with h2 | h2
      · simp at h2
      · exact List.le_antisymm ((M.lt_snoc0 _ _).1 h2) h1
    · rw [hi12_list] at h2
      exact M.nx_only k.toList o.toList (by omega) h1 h2
  · intro e
    rw [e]
    exact ⟨hR, hK, List.le_refl _, hlt⟩
end Go.Proofs.Ytpinofeknilgfaa
