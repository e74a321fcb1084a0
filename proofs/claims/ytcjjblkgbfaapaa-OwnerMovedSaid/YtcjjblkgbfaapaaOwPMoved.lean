/-
  PROVED HERE: what the law OwnerMoved tells is true.
  Conditions: none beyond the statements' own.
-/
import Derived.Test.YtcjjblkgbfaapaaNMoved
import Derived.Test.YtcjjblkgbfaapaaOwN
namespace Go.Proofs.Ytcjjblkgbfaapaa
set_option linter.unusedVariables false
set_option linter.unusedSimpArgs false
open Go.ChangeShapes
theorem ins_pos {l : List OwnerD} {k : Key} {j : Nat} {x : OwnerD} {s : Int} (h : Ows l) (hp : Pos l k j) : Pos (ins l j (OwnerD.mk k s)) k (j + 1) := by
  have hj := hp.lt
  refine ⟨by rw [ins_len hj]; omega, fun i y hy => ?_⟩
  by_cases h1 : i ≤ j
  · rw [ins_lo hj h1] at hy; have := hp.iff i y hy; rw [this]; omega
  · by_cases h2 : i = j + 1
    · subst h2; rw [ins_at hj] at hy; cases hy; exact ⟨fun _ => Nat.le_refl _, fun _ => List.le_refl _⟩
    · obtain ⟨i, rfl⟩ : ∃ q, i = q + 1 := ⟨i - 1, by omega⟩
      rw [ins_hi hj (by omega)] at hy; have := hp.iff i y hy; rw [this]; omega
theorem pos_back {l : List OwnerD} {o : Key} {j n : Nat} {y : OwnerD} (hj : j < l.length) (hp : Pos (ins l j y) o n) (hn : n ≠ j + 1) : Pos l o (if n ≤ j then n else n - 1) := by
  have hl := hp.lt
  rw [ins_len hj] at hl
  refine ⟨by split <;> omega, fun i x hx => ?_⟩
  by_cases h1 : i ≤ j
  · rw [← ins_lo (y := y) hj h1] at hx
    rw [hp.iff i x hx]; split <;> omega
  · rw [← ins_hi (y := y) hj (by omega)] at hx
    rw [hp.iff (i + 1) x hx]; split <;> omega
theorem set_pos {l : List OwnerD} {o : Key} {i n : Nat} {x : OwnerD} {s : Int} (hx : l[i]? = some x) (hp : Pos l o n) : Pos (List.set l i (OwnerD.mk x.xLo s)) o n := by
  have hl := (List.getElem?_eq_some_iff.1 hx).1
  refine ⟨by rw [List.length_set]; exact hp.lt, fun q y hy => ?_⟩
  by_cases e : i = q
  · subst e; rw [List.getElem?_set_self hl] at hy; cases hy; exact hp.iff i x hx
  · rw [List.getElem?_set_ne e] at hy; exact hp.iff q y hy
theorem T_OwnerMoved (l0 : List OwnerD) (p1 : List UInt8) (p2 : Int) (p3 : List UInt8) : w17_OwnerMoved l0 p1 p2 p3 = true := by
  unfold w17_OwnerMoved
  rw [live_true]
  simp only [bnd_eq]
  by_cases hs : (owner_Split l0 p1).2 = 0
  · obtain ⟨h, hk, h5, j, x, hp, hx, hne, e⟩ := split_inv hs
    have hxs := h.shard x (List.mem_of_getElem? hx)
    have ha := ins_Ows h hk hp hx hne h5 hxs
    have hq := ins_pos (x := x) (s := x.xShard) h hp
    have hat := ins_at (y := OwnerD.mk p1 x.xShard) hp.lt
    rw [if_pos hs, e]
    obtain ⟨a, haa⟩ : ∃ a, a = ins l0 j (OwnerD.mk p1 x.xShard) := ⟨_, rfl⟩
    rw [← haa] at ha hq hat ⊢
    simp only
    rw [find_ok ha hk hq]
    simp only [↓reduceIte]
    have hro := rof_at ha hat
    have fin : ∀ c : Prop, ∀ _ : Decidable c, (if c then (if (owner_RangeOf a ((j + 1 : Nat) : Int)).2 = 0 then true else false) else true) = true := by
      intro c _; rw [hro]; split <;> rfl
    by_cases h1 : p2 ≥ 1
    · rw [if_pos h1]
      by_cases h4 : p2 ≤ 4
      · have hg := give_ok ha hat ⟨h1, h4⟩
        rw [hg, hro, if_pos (by rw [decide_eq_true h4]; rfl)]
        simp only [↓reduceIte]
        by_cases hc : span_CheckKey p3 = 0
        · rw [if_pos hc]
          have hk3 := ck_ok.1 hc
          obtain ⟨jw, hw⟩ := h.pos p3
          obtain ⟨jn, hn⟩ := ha.pos p3
          obtain ⟨y, hy⟩ : ∃ y, l0[jw]? = some y := ⟨_, List.getElem?_eq_getElem hw.lt⟩
          have hb := set_Ows ha hat ⟨h1, h4⟩
          have hnb := set_pos (s := p2) hat hn
          rw [find_ok h hk3 hw, find_ok hb hk3 hnb]
          simp only [↓reduceIte]
          rw [show Int.toNat ((jw : Nat) : Int) = jw from rfl, show Int.toNat ((jn : Nat) : Int) = jn from rfl, getD_of hy, sh_eq]
          have hh := (rh_H (r := RangeD.mk p1 (nxt a (j + 1))) (k := p3)).trans (ha.has hk3 hn hat)
          by_cases hj : jn = j + 1
          · rw [if_pos (hh.2 hj.symm)]
            subst hj
            rw [getD_of (List.getElem?_set_self (List.getElem?_eq_some_iff.1 hat).1)]
            exact decide_eq_true rfl
          · rw [if_neg (fun q => hj (hh.1 q).symm)]
            rw [haa] at hn
            have hwn := hw.uniq (pos_back hp.lt hn hj)
            have hay : a[jn]? = some y := by
              rw [haa, ← hy, hwn]
              by_cases h2 : jn ≤ j
              · rw [if_pos h2, ins_lo hp.lt h2]
              · rw [if_neg h2]
                obtain ⟨i, rfl⟩ : ∃ q, jn = q + 1 := ⟨jn - 1, by omega⟩
                rw [ins_hi hp.lt (by omega)]; rfl
            rw [getD_of (show (List.set a (j + 1) _)[jn]? = some y by rw [List.getElem?_set_ne (fun q => hj q.symm)]; exact hay)]
            exact decide_eq_true rfl
        · rw [if_neg hc]; rfl
      · have hg := give_no (l := a) (i := ((j + 1 : Nat) : Int)) (s := p2) (by omega)
        rw [if_pos (by rw [decide_eq_false hg, decide_eq_false h4]), if_neg hg, hro]; rfl
    · have hg := give_no (l := a) (i := ((j + 1 : Nat) : Int)) (s := p2) (by omega)
      rw [if_neg h1, if_pos (decide_eq_false hg), if_neg hg, hro]; rfl
  · rw [if_neg hs]
end Go.Proofs.Ytcjjblkgbfaapaa
