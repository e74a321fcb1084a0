/-
  The bytes of nodes: the program's are the reference's.
  Conditions: none beyond each law's own.
-/
import Derived.Test.YtfkkipmdnjfocaaGreatNoW
namespace Go.Proofs.YtfkkipmdnjfocaaGreat
set_option linter.unusedVariables false
set_option linter.unusedSimpArgs false
theorem b_or128 (n : Nat) : (UInt8.ofNat n ||| (128 : UInt8)) = UInt8.ofNat (n % 128) + (128 : UInt8) := by
  have h : ∀ x : _root_.Fin 256, (UInt8.ofNat x.val ||| (128 : UInt8)) = UInt8.ofNat (x.val % 128) + (128 : UInt8) := by decide +kernel
  have e : UInt8.ofNat n = UInt8.ofNat (n % 256) := by
    apply UInt8.toNat_inj.1
    simp only [UInt8.toNat_ofNat']
    omega
  have h2 := h ⟨n % 256, Nat.mod_lt _ (by decide)⟩
  rw [e, h2]
  show UInt8.ofNat (n % 256 % 128) + _ = _
  rw [show n % 256 % 128 = n % 128 by omega]
theorem num_L : ∀ (f n : Nat) (l : List UInt8), n < f → (octet_Num_L0 f n l).2 ++ [UInt8.ofNat (octet_Num_L0 f n l).1] = l ++ r01_Num n
  | 0, n, l, h => absurd h (Nat.not_lt_zero _)
  | f + 1, n, l, h => by
    unfold octet_Num_L0
    by_cases c : ((n : Nat) : Int) ≥ 128
    · rw [if_pos c, num_L f (n / 128) _ (by omega), r01_Num_eq n, if_neg (by omega), bnd_eq, b_or128, List.append_assoc]
    · rw [if_neg c, r01_Num_eq n, if_pos (by omega)]
theorem num_eq (n : Nat) : octet_Num n = r01_Num n := by
  unfold octet_Num
  rw [bnd_eq, num_L (n + 1) n [] (by omega), List.nil_append]
theorem text_eq (s : List UInt8) : octet_Text s = r01_Text s := by
  unfold octet_Text r01_Text
  rw [num_eq]
theorem pnum_eq (l : List UInt8) (n : Int) : node_putNum l n = r13_num l n := by
  unfold node_putNum r13_num
  rw [num_eq]
theorem ptext_eq (l s : List UInt8) : node_putText l s = r13_text l s := by
  unfold node_putText r13_text
  rw [text_eq]
theorem leafw_L : ∀ (q : List PairD) (l : List UInt8), node_leaf_write_L0 q l = r13_whole_L0 q l
  | [], l => rfl
  | x :: q, l => by
    unfold node_leaf_write_L0 r13_whole_L0
    simp only [bnd_eq, ptext_eq]
    exact leafw_L q _
theorem stem0_L (p : stemT) (p0 : NodeT) : ∀ (q : List Int) (l : List UInt8), node_stem_write_L0 p q l = r13_whole_L1 p0 q l
  | [], l => rfl
  | x :: q, l => by
    unfold node_stem_write_L0 r13_whole_L1
    simp only [bnd_eq, pnum_eq]
    exact stem0_L p p0 q _
theorem stem1_L (p : stemT) (p0 : NodeT) : ∀ (q : List (List UInt8)) (l : List UInt8), node_stem_write_L1 p q l = r13_whole_L2 p0 q l
  | [], l => rfl
  | x :: q, l => by
    unfold node_stem_write_L1 r13_whole_L2
    simp only [bnd_eq, ptext_eq]
    exact stem1_L p p0 q _
theorem stem3_L : ∀ (q : List EntryD) (l : List UInt8), node_stem_write_L3 q l = r13_whole_L4 q l
  | [], l => rfl
  | x :: q, l => by
    unfold node_stem_write_L3 r13_whole_L4 node_putOp
    simp only [bnd_eq, num_eq]
    by_cases h2 : x.xOp.xKind = 2
    · rw [if_pos h2, if_pos h2]
      simp only [ptext_eq]
      exact stem3_L q _
    · rw [if_neg h2, if_neg h2]
      by_cases h3 : x.xOp.xKind = 3
      · rw [if_pos h3, if_pos h3]
        simp only [ptext_eq]
        exact stem3_L q _
      · rw [if_neg h3, if_neg h3]
        simp only [ptext_eq]
        exact stem3_L q _
theorem stem2_L : ∀ (q : List (Ll EntryD)) (l : List UInt8), node_stem_write_L2 q l = r13_whole_L3 q l
  | [], l => rfl
  | x :: q, l => by
    unfold node_stem_write_L2 r13_whole_L3
    simp only [bnd_eq, pnum_eq, stem3_L]
    exact stem2_L q _
theorem leaf_whole {p : NodeT} (h : p.xLeaf = true) : node_leaf_write (leafT.mk (Ll.mk p.xPairs.ls)) = r13_whole p := by
  unfold node_leaf_write r13_whole
  rw [if_pos h]
  simp only [bnd_eq, pnum_eq, leafw_L]
theorem stem_whole {p : NodeT} (h : ¬ p.xLeaf = true) : node_stem_write (stemT.mk (Ll.mk p.xKids.ls) (Ll.mk p.xPivots.ls) (Ll.mk p.xBuffers.ls)) = r13_whole p := by
  unfold node_stem_write r13_whole
  rw [if_neg h]
  simp only [bnd_eq, pnum_eq, stem0_L _ p, stem1_L _ p, stem2_L]
/-! ### checks -/
theorem wr_eq2 (o : OpD) : op_Writes o = r04_Writes o := by
  unfold op_Writes r04_Writes
  by_cases h1 : o.xKind = 1
  · simp [h1]
  · by_cases h2 : o.xKind = 2
    · simp [h2]
    · by_cases h3 : o.xKind = 3
      · simp [h3]
      · by_cases h4 : o.xKind = 4
        · simp [h4]
        · by_cases h5 : o.xKind = 5
          · simp [h5]
          · simp [h1, h2, h3, h4, h5]
theorem bc_L (l : List EntryD) : ∀ (q : List EntryD) (k : Nat), buffer_Check_L0 l q k = r12_Check_L0 l q k
  | [], _ => rfl
  | x :: q, k => by
    unfold buffer_Check_L0 r12_Check_L0
    simp only [bnd_eq, co_eq, wr_eq2, bc_L l q, ge_iff_le]
theorem bc_eq (l : List EntryD) : buffer_Check l = r12_Check l := by
  unfold buffer_Check r12_Check
  rw [bc_L]
theorem rg_eq (p : stemT) (i : Int) : node_stem_rangeOf p i = r12_Range p.xpivots.ls i := rfl
end Go.Proofs.YtfkkipmdnjfocaaGreat
