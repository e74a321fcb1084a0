/-
  PROVED HERE: owners whose keys rise: where a key is, which range each has, what a split and a gift make.
  Conditions: none beyond the statements' own.
-/
import Derived.Test.YtcjjblkgbfaapaaGe
import Derived.Test.YtcjjblkgbfaapaaWoQ
namespace Go.Proofs.Ytcjjblkgbfaapaa
set_option linter.unusedVariables false
set_option linter.unusedSimpArgs false
open Go.ChangeShapes
theorem k_nle {a b : Key} : ¬ a ≤ b ↔ b < a := List.not_le
theorem k_nil {a : Key} : [] ≤ a := List.nil_le a
theorem sh_iff {n : Int} : owner_isShard n = true ↔ 1 ≤ n ∧ n ≤ 4 := by
  unfold owner_isShard
  by_cases h : n ≥ 1
  · rw [if_pos h, decide_eq_true_eq]; omega
  · rw [if_neg h]; constructor
    · intro q; cases q
    · intro q; omega
structure Ows (l : List OwnerD) : Prop where
  len : 1 ≤ l.length ∧ l.length ≤ 6
  first : ∀ x, l[0]? = some x → x.xLo = []
  shard : ∀ x ∈ l, 1 ≤ x.xShard ∧ x.xShard ≤ 4
  key : ∀ (i : Nat) (x : OwnerD), l[i + 1]? = some x → kok x.xLo
  rise : ∀ (i : Nat) (x y : OwnerD), l[i]? = some x → l[i + 1]? = some y → x.xLo < y.xLo
theorem chk_L (l : List OwnerD) : ∀ (q : List OwnerD) (k : Nat), List.drop k l = q → (owner_Check_L0 l q k = .inl () ∨ owner_Check_L0 l q k = .inr 170) ∧ (owner_Check_L0 l q k = .inl () ↔
    (∀ x ∈ q, 1 ≤ x.xShard ∧ x.xShard ≤ 4) ∧ (∀ (i : Nat) (x : OwnerD), k ≤ i + 1 → l[i + 1]? = some x → kok x.xLo) ∧ (∀ (i : Nat) (x y : OwnerD), k ≤ i + 1 → l[i]? = some x → l[i + 1]? = some y → x.xLo < y.xLo))
  | [], k, h => by
    have hl : l.length ≤ k := by
      have := congrArg List.length h
      rw [List.length_drop] at this
      simp only [List.length_nil] at this
      omega
    refine ⟨.inl rfl, fun _ => ⟨fun x hx => (by cases hx), fun i x hi hx => ?_, fun i x y hi hx hy => ?_⟩, fun _ => rfl⟩
    · have := (List.getElem?_eq_some_iff.1 hx).1; omega
    · have := (List.getElem?_eq_some_iff.1 hy).1; omega
  | x :: q, k, h => by
    have hx : l[k]? = some x := by
      have e : (List.drop k l)[0]? = some x := by rw [h]; rfl
      rwa [List.getElem?_drop, Nat.add_zero] at e
    have ih := chk_L l q (k + 1) (by rw [← List.drop_drop, h]; rfl)
    rw [owner_Check_L0]
    simp only [bnd_eq]
    by_cases h1 : owner_isShard x.xShard = true
    · rw [if_pos h1]
      have hs := sh_iff.1 h1
      by_cases h2 : ((k : Nat) : Int) > 0
      · rw [if_pos h2]
        obtain ⟨j, rfl⟩ : ∃ j, k = j + 1 := ⟨k - 1, by omega⟩
        obtain ⟨y, hy⟩ : ∃ y, l[j]? = some y := ⟨_, List.getElem?_eq_getElem (by have := (List.getElem?_eq_some_iff.1 hx).1; omega)⟩
        have hd : List.getD l (j + 1 - 1) default = y := by rw [Nat.add_sub_cancel, getD_of hy]
        rw [hd]
        rcases ck_20 (k := x.xLo) with e | e
        · rw [if_pos e]
          by_cases h3 : x.xLo ≤ y.xLo
          · rw [if_pos h3]
            refine ⟨.inr rfl, fun q => (by cases q), fun q => ?_⟩
            exact absurd (q.2.2 j y x (by omega) hy hx) (k_nlt.2 h3)
          · rw [if_neg h3]
            refine ⟨ih.1, ih.2.trans ⟨fun q => ⟨fun z hz => ?_, fun i z hi hz => ?_, fun i a b hi ha hb => ?_⟩, fun q => ⟨fun z hz => q.1 z (.tail _ hz), fun i z hi hz => q.2.1 i z (by omega) hz, fun i a b hi ha hb => q.2.2 i a b (by omega) ha hb⟩⟩⟩
            · rcases List.mem_cons.1 hz with rfl | hz
              · exact hs
              · exact q.1 z hz
            · by_cases hij : i = j
              · subst hij; rw [hx] at hz; cases hz; exact ck_ok.1 e
              · exact q.2.1 i z (by omega) hz
            · by_cases hij : i = j
              · subst hij; rw [hx] at hb; cases hb; rw [hy] at ha; cases ha; exact k_nle.1 h3
              · exact q.2.2 i a b (by omega) ha hb
        · rw [if_neg (by rw [e]; decide)]
          refine ⟨.inr rfl, fun q => (by cases q), fun q => ?_⟩
          have := ck_ok.2 (q.2.1 j x (by omega) hx)
          rw [e] at this; cases this
      · rw [if_neg h2]
        obtain rfl : k = 0 := by omega
        refine ⟨ih.1, ih.2.trans ⟨fun q => ⟨fun z hz => ?_, fun i z hi hz => q.2.1 i z (by omega) hz, fun i a b hi ha hb => q.2.2 i a b (by omega) ha hb⟩, fun q => ⟨fun z hz => q.1 z (.tail _ hz), fun i z hi hz => q.2.1 i z (by omega) hz, fun i a b hi ha hb => q.2.2 i a b (by omega) ha hb⟩⟩⟩
        rcases List.mem_cons.1 hz with rfl | hz
        · exact hs
        · exact q.1 z hz
    · rw [if_neg h1]
      exact ⟨.inr rfl, fun q => (by cases q), fun q => absurd (sh_iff.2 (q.1 x (.head _))) h1⟩
theorem chk_ok {l : List OwnerD} : owner_Check l = 0 ↔ Ows l := by
  unfold owner_Check
  by_cases h1 : ((List.length l : Nat) : Int) < 1
  · rw [if_pos h1]; exact ⟨fun q => (by cases q), fun q => by have := q.len; omega⟩
  rw [if_neg h1]
  by_cases h2 : ((List.length l : Nat) : Int) > 6
  · rw [if_pos h2]; exact ⟨fun q => (by cases q), fun q => by have := q.len; omega⟩
  rw [if_neg h2, bnd_eq]
  obtain ⟨x, hx⟩ : ∃ x, l[0]? = some x := ⟨_, List.getElem?_eq_getElem (by omega)⟩
  rw [getD_of hx]
  by_cases h3 : x.xLo ≠ []
  · rw [if_pos h3]; exact ⟨fun q => (by cases q), fun q => absurd (q.first x hx) h3⟩
  rw [if_neg h3]
  obtain ⟨hb, hL⟩ := chk_L l l 0 rfl
  have h4 : lp (owner_Check_L0 l l 0) (fun _ => 0) = 0 ↔ owner_Check_L0 l l 0 = .inl () := by
    rcases hb with e | e <;> rw [e]
    · exact ⟨fun _ => rfl, fun _ => rfl⟩
    · exact ⟨fun q => (by cases q), fun q => (by cases q)⟩
  rw [h4, hL]
  constructor
  · rintro ⟨a, b, c⟩
    exact ⟨by omega, fun y hy => (by rw [hx] at hy; cases hy; exact Decidable.not_not.1 h3), a, fun i y hy => b i y (by omega) hy, fun i y z hy hz => c i y z (by omega) hy hz⟩
  · intro q
    exact ⟨q.shard, fun i y _ hy => q.key i y hy, fun i y z _ hy hz => q.rise i y z hy hz⟩
structure Pos (l : List OwnerD) (k : Key) (j : Nat) : Prop where
  lt : j < l.length
  iff : ∀ (i : Nat) (x : OwnerD), l[i]? = some x → (x.xLo ≤ k ↔ i ≤ j)
theorem Ows.mono {l : List OwnerD} (h : Ows l) : ∀ (d i : Nat) (x y : OwnerD), l[i]? = some x → l[i + d + 1]? = some y → x.xLo < y.xLo
  | 0, i, x, y, hx, hy => h.rise i x y hx hy
  | d + 1, i, x, y, hx, hy => by
    obtain ⟨z, hz⟩ : ∃ z, l[i + d + 1]? = some z := ⟨_, List.getElem?_eq_getElem (by have := (List.getElem?_eq_some_iff.1 hy).1; omega)⟩
    exact k_tr (h.mono d i x z hx hz) (h.rise (i + d + 1) z y hz hy)
theorem Ows.lt {l : List OwnerD} (h : Ows l) {i j : Nat} {x y : OwnerD} (hx : l[i]? = some x) (hy : l[j]? = some y) (hij : i < j) : x.xLo < y.xLo :=
  h.mono (j - i - 1) i x y hx (by rw [show i + (j - i - 1) + 1 = j by omega]; exact hy)
theorem k_lel {a b c : Key} (h1 : a < b) (h2 : b ≤ c) : a ≤ c := List.le_trans (List.le_of_lt h1) h2
theorem Ows.pos {l : List OwnerD} (h : Ows l) (k : Key) : ∃ j, Pos l k j := by
  have key : ∀ n, n ≤ l.length → 1 ≤ n → ∃ j, j < n ∧ ∀ (i : Nat) (x : OwnerD), i < n → l[i]? = some x → (x.xLo ≤ k ↔ i ≤ j) := by
    intro n
    induction n with
    | zero => intro _ h0; omega
    | succ n ih =>
      intro hn _
      by_cases h0 : n = 0
      · subst h0
        refine ⟨0, by omega, fun i x hi hx => ?_⟩
        obtain rfl : i = 0 := by omega
        rw [h.first x hx]
        exact ⟨fun _ => Nat.le_refl _, fun _ => k_nil⟩
      · obtain ⟨j, hj, hh⟩ := ih (by omega) (by omega)
        obtain ⟨y, hy⟩ : ∃ y, l[n]? = some y := ⟨_, List.getElem?_eq_getElem (by omega)⟩
        by_cases hk : y.xLo ≤ k
        · refine ⟨n, by omega, fun i x hi hx => ⟨fun _ => by omega, fun _ => ?_⟩⟩
          by_cases hin : i = n
          · subst hin; rw [hy] at hx; cases hx; exact hk
          · exact k_lel (h.lt hx hy (by omega)) hk
        · refine ⟨j, by omega, fun i x hi hx => ?_⟩
          by_cases hin : i = n
          · subst hin; rw [hy] at hx; cases hx
            exact ⟨fun q => absurd q hk, fun q => by omega⟩
          · exact hh i x (by omega) hx
  obtain ⟨j, hj, hh⟩ := key l.length (Nat.le_refl _) h.len.1
  exact ⟨j, hj, fun i x hx => hh i x (List.getElem?_eq_some_iff.1 hx).1 hx⟩
theorem Pos.uniq {l : List OwnerD} {k : Key} {i j : Nat} (h : Pos l k i) (h' : Pos l k j) : i = j := by
  obtain ⟨x, hx⟩ : ∃ x, l[i]? = some x := ⟨_, List.getElem?_eq_getElem h.lt⟩
  obtain ⟨y, hy⟩ : ∃ y, l[j]? = some y := ⟨_, List.getElem?_eq_getElem h'.lt⟩
  have h1 := (h'.iff i x hx).1 ((h.iff i x hx).2 (Nat.le_refl _))
  have h2 := (h.iff j y hy).1 ((h'.iff j y hy).2 (Nat.le_refl _))
  omega
theorem place_L {l : List OwnerD} {k : Key} {j : Nat} (h : Pos l k j) : ∀ (q : List OwnerD) (i a : Nat), List.drop i l = q → owner_place_L0 k q a i = if i ≤ j then j else a
  | [], i, a, hd => by
    have hl : l.length ≤ i := by
      have := congrArg List.length hd
      rw [List.length_drop] at this
      simp only [List.length_nil] at this
      omega
    rw [if_neg (by have := h.lt; omega)]; rfl
  | x :: q, i, a, hd => by
    have hx : l[i]? = some x := by
      have e : (List.drop i l)[0]? = some x := by rw [hd]; rfl
      rwa [List.getElem?_drop, Nat.add_zero] at e
    have hd2 : List.drop (i + 1) l = q := by rw [← List.drop_drop, hd]; rfl
    rw [owner_place_L0]
    by_cases hk : x.xLo ≤ k
    · have := (h.iff i x hx).1 hk
      rw [if_pos hk, place_L h q (i + 1) i hd2, if_pos this]
      by_cases h2 : i + 1 ≤ j
      · rw [if_pos h2]
      · rw [if_neg h2]; omega
    · have h2 : ¬ i ≤ j := fun q => hk ((h.iff i x hx).2 q)
      rw [if_neg hk, place_L h q (i + 1) a hd2, if_neg h2, if_neg (by omega)]
theorem place_of {l : List OwnerD} {k : Key} {j : Nat} (h : Pos l k j) : owner_place l k = ((j : Nat) : Int) := by
  unfold owner_place
  rw [bnd_eq, place_L h l 0 0 rfl, if_pos (Nat.zero_le _)]
theorem ls_eq (a b : Key) : span_lesserHi a b = M.ls a b := by
  unfold span_lesserHi M.ls
  by_cases h1 : a = []
  · rw [if_pos h1, if_pos h1]
  · rw [if_neg h1, if_neg h1]
    by_cases h2 : b = []
    · rw [if_neg (fun q => q h2), if_pos h2]
    · rw [if_pos h2, if_neg h2]
theorem mxL (a b : Key) : maxL a b = M.mx a b := rfl
theorem sb_B {a b : Key} : span_below a b = true ↔ M.B a b := by
  unfold span_below M.B
  by_cases h1 : b = []
  · rw [if_pos h1]; exact ⟨fun _ => .inl h1, fun _ => rfl⟩
  · rw [if_neg h1, decide_eq_true_eq]; exact ⟨.inr, fun h => h.resolve_left h1⟩
theorem mt_of {r s : RangeD} (h : M.M r.xLo r.xHi s.xLo s.xHi) : span_Meet r s = (RangeD.mk (M.mx r.xLo s.xLo) (M.ls r.xHi s.xHi), true) := by
  unfold span_Meet
  simp only [bnd_eq, ls_eq, mxL]
  rw [if_pos (sc_R.2 h.1), if_pos (sc_R.2 h.2.1), if_pos (sb_B.2 h.2.2)]
theorem mt_no {r s : RangeD} (h : ¬ M.M r.xLo r.xHi s.xLo s.xHi) : span_Meet r s = (RangeD.mk [] [], false) := by
  unfold span_Meet
  simp only [bnd_eq, ls_eq, mxL]
  by_cases h1 : span_Check r = 0
  · by_cases h2 : span_Check s = 0
    · rw [if_pos h1, if_pos h2, if_neg (fun q => h ⟨sc_R.1 h1, sc_R.1 h2, sb_B.1 q⟩)]
    · rw [if_pos h1, if_neg h2]
  · rw [if_neg h1]
def nxt (l : List OwnerD) (i : Nat) : Key := match l[i + 1]? with
  | some y => y.xLo
  | none => []
theorem range_at {l : List OwnerD} {i : Nat} {x : OwnerD} (hx : l[i]? = some x) : owner_rangeOf l ((i : Nat) : Int) = RangeD.mk x.xLo (nxt l i) := by
  unfold owner_rangeOf nxt
  simp only [bnd_eq]
  rw [show Int.toNat ((i : Nat) : Int) = i from rfl, getD_of hx]
  by_cases h : ((i : Nat) : Int) + 1 < ((List.length l : Nat) : Int)
  · obtain ⟨y, hy⟩ : ∃ y, l[i + 1]? = some y := ⟨_, List.getElem?_eq_getElem (by omega)⟩
    rw [if_pos h, show Int.toNat (((i : Nat) : Int) + 1) = i + 1 by omega, getD_of hy, hy]
  · rw [if_neg h, List.getElem?_eq_none (by omega)]
theorem Ows.R {l : List OwnerD} (h : Ows l) {i : Nat} {x : OwnerD} (hx : l[i]? = some x) : M.R x.xLo (nxt l i) := by
  unfold nxt
  refine ⟨?_, ?_⟩
  · cases i with
    | zero => exact .inl (h.first x hx)
    | succ i => exact .inr (h.key i x hx)
  · cases e : l[i + 1]? with
    | none => exact .inl rfl
    | some y => exact .inr ⟨h.key i y e, h.rise i x y hx e⟩
theorem Ows.has {l : List OwnerD} (h : Ows l) {k : Key} {i j : Nat} {x : OwnerD} (hk : kok k) (hp : Pos l k j) (hx : l[i]? = some x) : M.H x.xLo (nxt l i) k ↔ i = j := by
  have h1 := hp.iff i x hx
  unfold M.H M.B
  constructor
  · rintro ⟨_, _, a, b⟩
    have := h1.1 a
    unfold nxt at b
    cases e : l[i + 1]? with
    | none => have := hp.lt; have := List.getElem?_eq_none_iff.1 e; omega
    | some y =>
      rw [e] at b
      have h2 := hp.iff (i + 1) y e
      rcases b with b | b
      · have := h.key i y e; rw [show y.xLo = [] from b] at this; exact absurd this.1 (by simp)
      · have : ¬ i + 1 ≤ j := fun q => k_nlt.2 (h2.2 q) b
        omega
  · rintro rfl
    refine ⟨h.R hx, hk, h1.2 (Nat.le_refl _), ?_⟩
    unfold nxt
    cases e : l[i + 1]? with
    | none => exact .inl rfl
    | some y => exact .inr (k_nle.1 fun q => absurd ((hp.iff (i + 1) y e).1 q) (by omega))
theorem find_ok {l : List OwnerD} {k : Key} {j : Nat} (h : Ows l) (hk : kok k) (hp : Pos l k j) : owner_Find l k = (((j : Nat) : Int), 0) := by
  unfold owner_Find
  simp only [bnd_eq]
  rw [if_pos (chk_ok.2 h), if_pos (ck_ok.2 hk), place_of hp]
end Go.Proofs.Ytcjjblkgbfaapaa
