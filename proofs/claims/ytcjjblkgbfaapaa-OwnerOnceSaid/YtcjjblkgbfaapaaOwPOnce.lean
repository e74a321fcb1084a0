/-
  PROVED HERE: what the law OwnerOnce tells is true.
  Conditions: none beyond the statements' own.
-/
import Derived.Test.YtcjjblkgbfaapaaNOnce
import Derived.Test.YtcjjblkgbfaapaaOwN
namespace Go.Proofs.Ytcjjblkgbfaapaa
set_option linter.unusedVariables false
set_option linter.unusedSimpArgs false
open Go.ChangeShapes
theorem once_L {l : List OwnerD} {k : Key} {j : Nat} (h : Ows l) (hk : kok k) (hp : Pos l k j) (p2 p3 : Int) (b : Bool) : ∀ (q i : Nat), i + q = l.length → w17_OwnerOnce_L0 l k p2 p3 b ((j : Nat) : Int) q ((i : Nat) : Int) i = .inl ((l.length : Nat) : Int)
  | 0, i, hd => by rw [w17_OwnerOnce_L0, show i = l.length by omega]
  | q + 1, i, hd => by
    have := h.len
    obtain ⟨x, hx⟩ : ∃ x, l[i]? = some x := ⟨_, List.getElem?_eq_getElem (by omega)⟩
    rw [w17_OwnerOnce_L0]
    simp only [bnd_eq]
    rw [rof_at h hx, if_pos rfl, if_pos (sc_R.2 (h.R hx)), sh_eq]
    have e : r02_Has (RangeD.mk x.xLo (nxt l i)) k = decide (((i : Nat) : Int) = ((j : Nat) : Int)) := by
      have h1 := (rh_H (r := RangeD.mk x.xLo (nxt l i)) (k := k)).trans (h.has hk hp hx)
      by_cases hij : i = j
      · rw [h1.2 hij, decide_eq_true (by omega)]
      · rw [decide_eq_false (by omega)]
        cases c : r02_Has (RangeD.mk x.xLo (nxt l i)) k
        · rfl
        · exact absurd (h1.1 c) hij
    rw [if_pos e, show IntKind.i64.wrap (((i : Nat) : Int) + 1) = ((i + 1 : Nat) : Int) by rw [IntWalk.i64_in _ (by omega)]; omega]
    exact once_L h hk hp p2 p3 b q (i + 1) (by omega)
theorem T_OwnerOnce (l0 : List OwnerD) (p1 : List UInt8) (p2 : Int) (p3 : Int) : w17_OwnerOnce l0 p1 p2 p3 = true := by
  unfold w17_OwnerOnce
  rw [live_true]
  simp only [bnd_eq]
  by_cases h0 : Ows l0 ∧ kok p1
  · obtain ⟨h, hk⟩ := h0
    obtain ⟨j, hp⟩ := h.pos p1
    rw [find_ok h hk hp, if_pos rfl, show w17_OwnerOnce_L0 l0 p1 p2 p3 true ((j : Nat) : Int) l0.length 0 0 = .inl ((l0.length : Nat) : Int) from once_L h hk hp p2 p3 true l0.length 0 (by omega)]
    show (if true = true then _ else false) = true
    simp only [↓reduceIte]
    have give : (if (owner_Give l0 p2 p3).2 = 0 then if owner_Check (owner_Give l0 p2 p3).1 = 0 then decide (((List.length (owner_Give l0 p2 p3).1 : Nat) : Int) = ((l0.length : Nat) : Int)) else false else true) = true := by
      by_cases hg : (owner_Give l0 p2 p3).2 = 0
      · obtain ⟨_, hs, q, x, rfl, hx, e⟩ := give_inv hg
        rw [if_pos hg, e, if_pos (chk_ok.2 (set_Ows h hx hs)), List.length_set]
        exact decide_eq_true rfl
      · rw [if_neg hg]
    by_cases hs : (owner_Split l0 p1).2 = 0
    · obtain ⟨_, _, h5, j2, x, hp2, hx, hne, e⟩ := split_inv hs
      rw [if_pos hs, e, if_pos (chk_ok.2 (ins_Ows h hk hp2 hx hne h5 (h.shard x (List.mem_of_getElem? hx)))), if_pos (show (((ins l0 j2 (OwnerD.mk p1 x.xShard)).length : Nat) : Int) = ((l0.length : Nat) : Int) + 1 by rw [ins_len hp2.lt]; omega)]
      exact give
    · rw [if_neg hs]; exact give
  · obtain ⟨e, h1, h2⟩ := find_no h0
    rw [h2, if_neg h1]
end Go.Proofs.Ytcjjblkgbfaapaa
