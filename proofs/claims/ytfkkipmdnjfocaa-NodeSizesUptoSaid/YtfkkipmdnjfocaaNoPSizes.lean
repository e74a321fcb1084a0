/-
  PROVED HERE: what the law NodeSizes tells is true.
  Conditions: none beyond the statements' own.
-/
import Derived.Test.YtfkkipmdnjfocaaDSizes
import Derived.Test.YtfkkipmdnjfocaaNoM
import Derived.Test.YtfkkipmdnjfocaaKu
namespace Go.Proofs.Ytfkkipmdnjfocaa
set_option linter.unusedVariables false
set_option linter.unusedSimpArgs false
open Go.ChangeShapes
theorem small_of {w : World} {a : NodeD} (h : NodeD.Ok w a) (hb : bk a ≤ 1048576) : (List.length (NodeD.abs a).xPairs.ls ≤ 1048576 ∧ ∀ x ∈ (NodeD.abs a).xPairs.ls, List.length x.xKey ≤ 1048576 ∧ List.length x.xValue ≤ 1048576) ∧ (∀ x ∈ (NodeD.abs a).xPivots.ls, List.length x ≤ 1048576) ∧ ∀ b ∈ (NodeD.abs a).xBuffers.ls, List.length b.ls ≤ 1048576 ∧ ∀ x ∈ b.ls, x.xSeq ≤ 18446744073709551615 ∧ List.length x.xOp.xKey ≤ 1048576 ∧ List.length x.xOp.xValue ≤ 1048576 ∧ List.length x.xOp.xLo ≤ 1048576 ∧ List.length x.xOp.xHi ≤ 1048576 := by
  have e : bk a = bk a.xLeaf + (bk a.xPairs + (bk a.xKids + (bk a.xPivots + (bk a.xBuffers + 0)))) := rfl
  refine ⟨⟨?_, fun x hx => ?_⟩, fun x hx => ?_, fun b hm => ?_⟩
  · have := Sv.bk_len (s := a.xPairs) fun y => Nat.le_trans (bk_pos_str y.xKey) (Nat.le_add_right _ _)
    show List.length a.xPairs.ls ≤ _
    omega
  · have h1 : bk x ≤ bk a.xPairs := Sv.bk_mem hx
    have h2 : bk x = (List.length x.xKey + 1) + ((List.length x.xValue + 1) + 0) := rfl
    omega
  · have h1 : bk x ≤ bk a.xPivots := Sv.bk_mem hx
    have h2 : bk x = List.length x + 1 := rfl
    omega
  · obtain ⟨s, hs, rfl⟩ := List.mem_map.1 hm
    have h1 : bk s ≤ bk a.xBuffers := Sv.bk_mem hs
    have h2 := Sv.bk_len (s := s) fun y => Nat.le_trans (Nat.le_refl 1) (Nat.le_add_right (bk y.xSeq) _)
    refine ⟨by show List.length s.ls ≤ _; omega, fun x hx => ?_⟩
    have h3 : bk x ≤ bk s := Sv.bk_mem hx
    have h4 : bk x = 1 + (bk x.xOp + 0) := rfl
    have h5 : bk x.xOp = bk x.xOp.xKind + ((List.length x.xOp.xKey + 1) + ((List.length x.xOp.xValue + 1) + ((List.length x.xOp.xLo + 1) + ((List.length x.xOp.xHi + 1) + (bk x.xOp.xMost + 0))))) := rfl
    have hk := ((h.2.2.2.2.2.2.2 s hs).2.2.2 x hx).1
    exact ⟨hk, by omega, by omega, by omega, by omega⟩
theorem node_sizes (p0 : NodeT) : (node_Check p0 = 0 ∧ ∃ b, node_Size p0 = (((List.length b : Nat) : Int), 0) ∧ node_Encode p0 = if ((List.length b : Nat) : Int) > 480 then ([], 2) else (b, 0)) ∨ (¬ node_Check p0 = 0 ∧ node_Size p0 = (0, node_Check p0) ∧ node_Encode p0 = ([], node_Check p0)) := by
  unfold node_Check node_Size node_Encode
  simp only [bnd_eq]
  by_cases hl : p0.xLeaf = true
  · simp only [if_pos hl]
    by_cases hw : IntKind.i64.wrap ((IntKind.i64.wrap (((List.length p0.xKids.ls : Nat) : Int) + ((List.length p0.xPivots.ls : Nat) : Int))) + ((List.length p0.xBuffers.ls : Nat) : Int)) = 0
    · simp only [if_pos hw]
      by_cases hc : op_CheckMap p0.xPairs.ls = 0
      · exact Or.inl ⟨hc, _, if_pos hc, if_pos hc⟩
      · exact Or.inr ⟨hc, if_neg hc, if_neg hc⟩
    · simp only [if_neg hw]
      exact Or.inr ⟨by decide, trivial, trivial⟩
  · simp only [if_neg hl]
    by_cases hw : ((List.length p0.xPairs.ls : Nat) : Int) = 0
    · simp only [if_pos hw]
      by_cases hc : node_stem_check (stemT.mk (Ll.mk p0.xKids.ls) (Ll.mk p0.xPivots.ls) (Ll.mk p0.xBuffers.ls)) = 0
      · exact Or.inl ⟨hc, _, if_pos hc, if_pos hc⟩
      · exact Or.inr ⟨hc, if_neg hc, if_neg hc⟩
    · simp only [if_neg hw]
      exact Or.inr ⟨by decide, trivial, trivial⟩
theorem T_NodeSizes (p0 : NodeT) : w13_NodeSizes p0 = true := by
  unfold w13_NodeSizes
  rw [live_true]
  simp only [bnd_eq]
  rcases node_sizes p0 with ⟨hc, b, h1, h2⟩ | ⟨hc, h1, h2⟩
  · rw [if_pos hc, h1, h2]
    by_cases hb : ((List.length b : Nat) : Int) > 480
    · rw [if_pos hb]
      simp only [if_pos hb, ↓reduceIte]
      rfl
    · rw [if_neg hb]
      simp only [if_neg hb, ↓reduceIte]
      exact decide_eq_true trivial
  · rw [if_neg hc, h1, h2]
    simp only [↓reduceIte]
    rfl
end Go.Proofs.Ytfkkipmdnjfocaa
