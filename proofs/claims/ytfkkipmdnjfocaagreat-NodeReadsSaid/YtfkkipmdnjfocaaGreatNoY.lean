/-
  Which nodes may be: the program's checks are the reference's.
  Conditions: none beyond each law's own.
-/
import Derived.Test.YtfkkipmdnjfocaaGreatNoZ
namespace Go.Proofs.YtfkkipmdnjfocaaGreat
set_option linter.unusedVariables false
set_option linter.unusedSimpArgs false
theorem has_eq (r : RangeD) (k : Key) : span_Has r k = r02_Has r k := by
  unfold span_Has r02_Has span_below
  simp only [bnd_eq, sc_eq, ck_eq]
theorem cov_eq (r s : RangeD) : span_Covers r s = r02_Covers r s := by
  unfold span_Covers span_Meet r02_Covers
  simp only [bnd_eq, sc_eq]
  by_cases h1 : r02_Check r = 0
  · by_cases h2 : r02_Check s = 0
    · have hs := rc_R.1 h2
      unfold M.R at hs
      rw [if_pos h1, if_pos h2, if_pos h1, if_pos h2]
      unfold span_lesserHi span_below r02_below maxL
      have a1 := @k_nlt r.xLo s.xLo
      have a2 := @k_nlt s.xHi r.xHi
      have a3 := @k_nlt r.xHi s.xHi
      have a4 := @k_nle r.xLo s.xLo
      by_cases c1 : r.xLo ≤ s.xLo <;> by_cases c2 : r.xHi = [] <;> by_cases c3 : s.xHi = [] <;> by_cases c4 : s.xHi < r.xHi <;> by_cases c5 : r.xLo = s.xLo <;> simp_all <;> grind
    · rw [if_pos h1, if_neg h2, if_pos h1, if_neg h2]
      rfl
  · rw [if_neg h1, if_neg h1]
    rfl
theorem c0_L (p : stemT) (p0 : NodeT) : ∀ q : List Int, node_stem_check_L0 p q = r13_Check_L0 p0 q
  | [] => rfl
  | x :: q => by
    unfold node_stem_check_L0 r13_Check_L0
    rw [c0_L p p0 q]
theorem c1_L (p : stemT) : ∀ (q : List (List UInt8)) (k : Nat), (node_stem_check_L1 p q k = .inl () ∧ r12_Pivots_L0 p.xpivots.ls q k = .inl ()) ∨ (node_stem_check_L1 p q k = .inr 130 ∧ r12_Pivots_L0 p.xpivots.ls q k = .inr 20)
  | [], k => .inl ⟨rfl, rfl⟩
  | x :: q, k => by
    unfold node_stem_check_L1 r12_Pivots_L0
    simp only [bnd_eq, ck_eq]
    by_cases h : r02_CheckKey x = 0
    · rw [if_pos h, if_pos h]
      by_cases hk : ((k : Nat) : Int) > 0
      · rw [if_pos hk, if_pos hk]
        by_cases hx : x ≤ List.getD p.xpivots.ls (k - 1) default
        · rw [if_pos hx, if_pos hx]
          exact .inr ⟨rfl, rfl⟩
        · rw [if_neg hx, if_neg hx]
          exact c1_L p q (k + 1)
      · rw [if_neg hk, if_neg hk]
        exact c1_L p q (k + 1)
    · rw [if_neg h, if_neg h]
      exact .inr ⟨rfl, rfl⟩
theorem c2_L (p : stemT) (p0 : NodeT) : ∀ q : List (Ll EntryD), node_stem_check_L2 p q = r13_Check_L1 p0 q
  | [] => rfl
  | x :: q => by
    unfold node_stem_check_L2 r13_Check_L1
    simp only [bnd_eq, bc_eq]
    rw [c2_L p p0 q]
theorem c4_L (p : stemT) (k : Nat) : ∀ q : List EntryD, node_stem_check_L4 p k q = r13_Check_L3 k (r12_Range p.xpivots.ls ((k : Nat) : Int)) q
  | [] => rfl
  | x :: q => by
    unfold node_stem_check_L4 r13_Check_L3 node_within
    simp only [bnd_eq, rg_eq]
    rw [c4_L p k q]
    by_cases h : x.xOp.xKind = 5
    · rw [if_pos h, if_pos h, cov_eq]
    · rw [if_neg h, if_neg h, has_eq]
theorem c3_L (p : stemT) (p0 : NodeT) (he : p.xpivots.ls = p0.xPivots.ls) : ∀ (q : List (Ll EntryD)) (k : Nat), node_stem_check_L3 p q k = r13_Check_L2 p0 q k
  | [], k => rfl
  | x :: q, k => by
    unfold node_stem_check_L3 r13_Check_L2
    simp only [bnd_eq]
    rw [c4_L p k x.ls, ← he, c3_L p p0 he q (k + 1)]
theorem check_eq {p : NodeT} (hw : List.length p.xKids.ls + List.length p.xPivots.ls + List.length p.xBuffers.ls ≤ 4611686018427387904) : node_Check p = r13_Check p := by
  unfold node_Check r13_Check
  simp only [bnd_eq]
  by_cases hl : p.xLeaf = true
  · rw [if_pos hl, if_pos hl, IntWalk.i64_in (((List.length p.xKids.ls : Nat) : Int) + ((List.length p.xPivots.ls : Nat) : Int)) (by omega), IntWalk.i64_in _ (by omega)]
    by_cases h0 : ((List.length p.xKids.ls : Nat) : Int) + ((List.length p.xPivots.ls : Nat) : Int) + ((List.length p.xBuffers.ls : Nat) : Int) = 0
    · rw [if_pos h0, if_neg (by omega), cm_eq]
    · rw [if_neg h0, if_pos (by omega)]
  · rw [if_neg hl, if_neg hl]
    by_cases h0 : ((List.length p.xPairs.ls : Nat) : Int) = 0
    · rw [if_pos h0, if_neg (by omega)]
      unfold node_stem_check
      show (if ((List.length p.xKids.ls : Nat) : Int) < 2 then _ else _) = _
      by_cases a1 : ((List.length p.xKids.ls : Nat) : Int) < 2
      · rw [if_pos a1, if_pos a1]
      rw [if_neg a1, if_neg a1]
      by_cases a2 : ((List.length p.xKids.ls : Nat) : Int) > 8
      · rw [if_pos a2, if_pos a2]
      rw [if_neg a2, if_neg a2]
      by_cases a3 : ((List.length p.xPivots.ls : Nat) : Int) = (((List.length p.xKids.ls) - 1 : Nat) : Int)
      · rw [if_pos a3, if_pos a3]
        by_cases a4 : ((List.length p.xBuffers.ls : Nat) : Int) = ((List.length p.xKids.ls : Nat) : Int)
        · rw [if_pos a4, if_pos a4, c0_L _ p, c2_L _ p, c3_L _ p rfl]
          rcases c1_L (stemT.mk (Ll.mk p.xKids.ls) (Ll.mk p.xPivots.ls) (Ll.mk p.xBuffers.ls)) p.xPivots.ls 0 with ⟨b1, b2⟩ | ⟨b1, b2⟩
          · have b3 : r12_Pivots p.xPivots.ls = 0 := by
              unfold r12_Pivots
              rw [b2]
              rfl
            rw [b1, b3, if_pos rfl]
            rfl
          · have b3 : r12_Pivots p.xPivots.ls = 20 := by
              unfold r12_Pivots
              rw [b2]
              rfl
            rw [b1, b3, if_neg (by decide)]
            rfl
        · rw [if_neg a4, if_neg a4]
      · rw [if_neg a3, if_neg a3]
    · rw [if_neg h0, if_pos (by omega)]
end Go.Proofs.YtfkkipmdnjfocaaGreat
