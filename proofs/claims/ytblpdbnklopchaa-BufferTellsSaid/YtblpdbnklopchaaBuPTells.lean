/-
  What Find tells of a key is what is there behind Apply.
  Conditions: none beyond each law's own.
-/
import Derived.Test.YtblpdbnklopchaaBTells
import Derived.Test.YtblpdbnklopchaaBuX
namespace Go.Proofs.Ytblpdbnklopchaa
set_option linter.unusedVariables false
set_option maxRecDepth 100000 in
theorem live_true : w12_live = true := by decide +kernel
theorem T_BufferTells (l0 : List PairD) (l1 : List EntryD) (p2 : List UInt8) : w12_BufferTells l0 l1 p2 = true := by
  unfold w12_BufferTells
  rw [live_true]
  simp only [bnd_eq]
  by_cases h : (buffer_Apply l0 l1).2 = 0
  · rw [if_pos h]
    obtain ⟨hm, hl⟩ := ap_0 h
    by_cases hk : r02_CheckKey p2 = 0
    · rw [if_pos hk, if_pos hm]
      have hk' : kok p2 := ck_ok.1 (by rw [ck_eq]; exact hk)
      have ht := rf_effs p2 hk' (lkp l0 p2) l1 [] false false (lkp l0 p2) (bk_ok hl).1 (by unfold tells; simp)
      rw [← ap_lkp hm hl] at ht
      rw [fi_eq]
      have e : r12_Find l1 p2 = r12_Find_L0 p2 l1 [] false false := rfl
      rw [e]
      generalize r12_Find_L0 p2 l1 [] false false = r at ht ⊢
      obtain ⟨s, b, c⟩ := r
      rw [fd_lkp, fd_lkp]
      unfold tells at ht
      cases c
      · replace ht : lkp (buffer_Apply l0 l1).1 p2 = lkp l0 p2 := ht
        rw [ht]
        cases lkp l0 p2 <;> simp
      · replace ht : lkp (buffer_Apply l0 l1).1 p2 = (if b = true then some s else none) ∧ (b = false → s = []) := ht
        obtain ⟨h1, h2⟩ := ht
        rw [h1]
        cases b
        · simp [h2 rfl]
        · simp
    · rw [if_neg hk]
  · rw [if_neg h]
end Go.Proofs.Ytblpdbnklopchaa
