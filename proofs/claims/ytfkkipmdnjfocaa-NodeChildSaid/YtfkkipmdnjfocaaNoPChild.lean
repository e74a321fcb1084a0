/-
  PROVED HERE: what the law NodeChild tells is true.
  Conditions: none beyond the statements' own.
-/
import Derived.Test.YtfkkipmdnjfocaaDChild
import Derived.Test.YtfkkipmdnjfocaaNoM
namespace Go.Proofs.Ytfkkipmdnjfocaa
set_option linter.unusedVariables false
set_option linter.unusedSimpArgs false
open Go.ChangeShapes
theorem T_NodeChild (p0 : NodeT) (p1 : List UInt8) : w13_NodeChild p0 p1 = true := by
  unfold w13_NodeChild
  rw [live_true]
  simp only [bnd_eq]
  by_cases h : node_Check p0 = 0
  · rw [if_pos h]
    by_cases hl : p0.xLeaf = true
    · rw [if_pos hl]
    · rw [if_neg hl]
      have hs : node_stem_check (stemT.mk (Ll.mk p0.xKids.ls) (Ll.mk p0.xPivots.ls) (Ll.mk p0.xBuffers.ls)) = 0 := by
        unfold node_Check at h
        simp only [bnd_eq] at h
        rw [if_neg hl] at h
        split at h
        · exact h
        · cases h
      obtain ⟨h2, hp, hr⟩ := stem_ok hs
      replace h2 : 2 ≤ p0.xKids.ls.length := h2
      replace hp : p0.xPivots.ls.length + 1 = p0.xKids.ls.length := hp
      obtain ⟨c, hc, he, hx⟩ := child_L p1 p0.xPivots.ls 0 (rise_pw hr)
      have e : node_Child p0 p1 = ((c : Nat) : Int) := by
        unfold node_Child
        rw [if_neg hl, bnd_eq, he, Nat.zero_add]
      rw [e]
      simp only [↓reduceIte]
      rw [if_pos (by omega)]
      have hi : (if ((c : Nat) : Int) = ((List.length p0.xPivots.ls : Nat) : Int) then true else decide (p1 < List.getD p0.xPivots.ls (Int.toNat ((c : Nat) : Int)) default)) = true := by
        by_cases h3 : ((c : Nat) : Int) = ((List.length p0.xPivots.ls : Nat) : Int)
        · rw [if_pos h3]
        · rw [if_neg h3]
          obtain ⟨x, hx2⟩ : ∃ x, p0.xPivots.ls[c]? = some x := ⟨_, List.getElem?_eq_getElem (by omega)⟩
          rw [show Int.toNat ((c : Nat) : Int) = c from rfl, getD_of hx2]
          exact decide_eq_true (k_nle.1 fun q => absurd ((hx c x hx2).1 q) (by omega))
      by_cases h0 : ((c : Nat) : Int) = 0
      · rw [if_pos h0]; exact hi
      · rw [if_neg h0]
        obtain ⟨x, hx2⟩ : ∃ x, p0.xPivots.ls[c - 1]? = some x := ⟨_, List.getElem?_eq_getElem (by omega)⟩
        rw [show Int.toNat (((c : Nat) : Int) - 1) = c - 1 by omega, getD_of hx2, if_pos ((hx (c - 1) x hx2).2 (by omega))]
        exact hi
  · rw [if_neg h]
end Go.Proofs.Ytfkkipmdnjfocaa
