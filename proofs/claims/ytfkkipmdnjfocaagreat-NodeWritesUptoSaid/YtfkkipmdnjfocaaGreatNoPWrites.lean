/-
  PROVED HERE: what the law NodeWrites tells is true.
  Conditions: none beyond the statements' own.
-/
import Derived.Test.YtfkkipmdnjfocaaGreatDWrites
import Derived.Test.YtfkkipmdnjfocaaGreatNoY
import Derived.Test.YtfkkipmdnjfocaaGreatKu
namespace Go.Proofs.YtfkkipmdnjfocaaGreat
set_option linter.unusedVariables false
set_option linter.unusedSimpArgs false
open Go.ChangeShapes
theorem small_of {w : World} {a : NodeD} (h : NodeD.Ok w a) (hb : bk a ≤ 1048576) : (List.length (NodeD.abs a).xPairs.ls ≤ 1048576 ∧ ∀ x ∈ (NodeD.abs a).xPairs.ls, List.length x.xKey ≤ 1048576 ∧ List.length x.xValue ≤ 1048576) ∧ (∀ x ∈ (NodeD.abs a).xPivots.ls, List.length x ≤ 1048576) ∧ ∀ b ∈ (NodeD.abs a).xBuffers.ls, List.length b.ls ≤ 1048576 ∧ ∀ x ∈ b.ls, x.xSeq ≤ 18446744073709551615 ∧ List.length x.xOp.xKey ≤ 1048576 ∧ List.length x.xOp.xValue ≤ 1048576 ∧ List.length x.xOp.xLo ≤ 1048576 ∧ List.length x.xOp.xHi ≤ 1048576 := by
  have e : bk a = bk a.xLeaf + (bk a.xPairs + (bk a.xKids + (bk a.xPivots + (bk a.xBuffers + 0)))) := rfl
  refine ⟨⟨?_, fun x hx => ?_⟩, fun x hx => ?_, fun b hm => ?_⟩
  · have := Sv.bk_len (s := a.xPairs) fun y => Nat.le_trans (bk_pos_str y.xKey) (Nat.le_add_right _ _)
    show List.length a.xPairs.ls ≤ _
    omega
  · have h1 : bk x ≤ bk a.xPairs := Sv.bk_mem hx
    have h2 : bk x = (List.length x.xKey + 1) + ((List.length x.xValue + 1) + 0) := rfl
    omega
  · have h1 : bk x ≤ bk a.xPivots := Sv.bk_mem hx
    have h2 : bk x = List.length x + 1 := rfl
    omega
  · obtain ⟨s, hs, rfl⟩ := List.mem_map.1 hm
    have h1 : bk s ≤ bk a.xBuffers := Sv.bk_mem hs
    have h2 := Sv.bk_len (s := s) fun y => Nat.le_trans (Nat.le_refl 1) (Nat.le_add_right (bk y.xSeq) _)
    refine ⟨by show List.length s.ls ≤ _; omega, fun x hx => ?_⟩
    have h3 : bk x ≤ bk s := Sv.bk_mem hx
    have h4 : bk x = 1 + (bk x.xOp + 0) := rfl
    have h5 : bk x.xOp = bk x.xOp.xKind + ((List.length x.xOp.xKey + 1) + ((List.length x.xOp.xValue + 1) + ((List.length x.xOp.xLo + 1) + ((List.length x.xOp.xHi + 1) + (bk x.xOp.xMost + 0))))) := rfl
    have hk := ((h.2.2.2.2.2.2.2 s hs).2.2.2 x hx).1
    exact ⟨hk, by omega, by omega, by omega, by omega⟩
theorem lens_of {a : NodeD} (hb : bk a ≤ 1048576) : List.length (NodeD.abs a).xKids.ls + List.length (NodeD.abs a).xPivots.ls + List.length (NodeD.abs a).xBuffers.ls ≤ 4611686018427387904 := by
  have e : bk a = bk a.xLeaf + (bk a.xPairs + (bk a.xKids + (bk a.xPivots + (bk a.xBuffers + 0)))) := rfl
  have h1 := Sv.bk_len (s := a.xKids) fun y => Nat.le_refl _
  have h2 := Sv.bk_len (s := a.xPivots) fun y => bk_pos_str y
  have h3 := Sv.bk_len (s := a.xBuffers) fun y => Sv.bk_pos
  show List.length a.xKids.ls + List.length a.xPivots.ls + List.length (List.map Row46D.abs a.xBuffers.ls) ≤ _
  rw [List.length_map]
  omega
theorem node_bytes (p : NodeT) : (node_Check p = 0 ∧ node_Size p = (((List.length (r13_whole p) : Nat) : Int), 0) ∧ node_Encode p = if ((List.length (r13_whole p) : Nat) : Int) > 480 then ([], 2) else (r13_whole p, 0)) ∨ (¬ node_Check p = 0 ∧ node_Size p = (0, node_Check p) ∧ node_Encode p = ([], node_Check p)) := by
  unfold node_Check node_Size node_Encode
  simp only [bnd_eq]
  by_cases hl : p.xLeaf = true
  · simp only [if_pos hl, leaf_whole hl]
    by_cases hw : IntKind.i64.wrap ((IntKind.i64.wrap (((List.length p.xKids.ls : Nat) : Int) + ((List.length p.xPivots.ls : Nat) : Int))) + ((List.length p.xBuffers.ls : Nat) : Int)) = 0
    · simp only [if_pos hw]
      by_cases hc : op_CheckMap p.xPairs.ls = 0
      · exact Or.inl ⟨hc, if_pos hc, if_pos hc⟩
      · exact Or.inr ⟨hc, if_neg hc, if_neg hc⟩
    · simp only [if_neg hw]
      exact Or.inr ⟨by decide, trivial, trivial⟩
  · simp only [if_neg hl, stem_whole hl]
    by_cases hw : ((List.length p.xPairs.ls : Nat) : Int) = 0
    · simp only [if_pos hw]
      by_cases hc : node_stem_check (stemT.mk (Ll.mk p.xKids.ls) (Ll.mk p.xPivots.ls) (Ll.mk p.xBuffers.ls)) = 0
      · exact Or.inl ⟨hc, if_pos hc, if_pos hc⟩
      · exact Or.inr ⟨hc, if_neg hc, if_neg hc⟩
    · simp only [if_neg hw]
      exact Or.inr ⟨by decide, trivial, trivial⟩
theorem ch_L {p : NodeT} (k : List UInt8) (hl : ¬ p.xLeaf = true) : ∀ (q : List (List UInt8)) (n : Nat), n + List.length q ≤ 4611686018427387904 → ((node_Child_L0 k q n : Nat) : Int) = r13_Child_L0 p k q ((n : Nat) : Int)
  | [], n, h => rfl
  | x :: q, n, h => by
    rw [List.length_cons] at h
    unfold node_Child_L0 r13_Child_L0
    rw [if_neg hl]
    by_cases c : x ≤ k
    · rw [if_pos c, if_pos c, IntWalk.i64_in _ (by omega)]
      exact ch_L k hl q (n + 1) (by omega)
    · rw [if_neg c, if_neg c]
      exact ch_L k hl q n (by omega)
theorem ch_Z {p : NodeT} (k : List UInt8) (hl : p.xLeaf = true) : ∀ (q : List (List UInt8)) (z : Int), r13_Child_L0 p k q z = z
  | [], z => rfl
  | x :: q, z => by
    unfold r13_Child_L0
    rw [if_pos hl]
    exact ch_Z k hl q z
theorem ch_eq {p : NodeT} (k : List UInt8) (h : List.length p.xPivots.ls ≤ 4611686018427387904) : node_Child p k = r13_Child p k := by
  unfold node_Child r13_Child
  by_cases hl : p.xLeaf = true
  · rw [if_pos hl, bnd_eq, ch_Z k hl]
  · rw [if_neg hl, bnd_eq, bnd_eq, ch_L k hl _ 0 (by omega)]
    rfl
theorem enc_eq {p : NodeT} (hw : node_Check p = r13_Check p) : node_Encode p = r13_Encode p ∧ node_Size p = r13_Size p := by
  unfold r13_Encode r13_Size
  simp only [bnd_eq, ← hw]
  rcases node_bytes p with ⟨h, h1, h2⟩ | ⟨h, h1, h2⟩
  · rw [if_pos h, h1, h2]
    exact ⟨rfl, rfl⟩
  · rw [if_neg h, h1, h2, if_neg h]
    exact ⟨rfl, rfl⟩
theorem wr_L {p : NodeT} (k : List UInt8) (r : Bool) (hc : node_Check p = r13_Check p) (hk : node_Child p k = r13_Child p k) : ∀ n : Nat, w13_NodeWrites_L0 p k r n = .inl ()
  | 0 => rfl
  | n + 1 => by
    unfold w13_NodeWrites_L0
    obtain ⟨h1, h2⟩ := enc_eq hc
    simp only [bnd_eq, h1, h2, hc, hk, ne_eq, not_true_eq_false, ↓reduceIte]
    exact wr_L k r hc hk n
theorem T_NodeWrites {a0 : NodeD} {a1 : List UInt8} (hb : bk a0 + bk a1 ≤ 1048576) : w13_NodeWrites (NodeD.abs a0) a1 = true := by
  have hl := lens_of (a := a0) (by omega)
  unfold w13_NodeWrites
  rw [live_true, bnd_eq, wr_L a1 true (check_eq hl) (ch_eq a1 (by omega))]
  rfl
end Go.Proofs.YtfkkipmdnjfocaaGreat
