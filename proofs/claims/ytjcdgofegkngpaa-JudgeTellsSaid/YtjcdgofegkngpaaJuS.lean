/-
  What was seen, judged: as the document judges it.
  Conditions: none.
-/
import Derived.Test.YtjcdgofegkngpaaJuB
import Derived.Test.YtjcdgofegkngpaaJuF
import Derived.Test.YtjcdgofegkngpaaJt
namespace Go.Proofs.Ytjcdgofegkngpaa
set_option linter.unusedVariables false
set_option linter.unusedSimpArgs false
open Go.RowKit
theorem smL_iff (l : List PairD) : ∀ (q : List PairD) (k : Nat), k + q.length = l.length → (r04_SameMap_L0 l q k = .inl () ∧ q = List.drop k l) ∨ (r04_SameMap_L0 l q k = .inr false ∧ q ≠ List.drop k l)
  | [], k, h => .inl ⟨rfl, by rw [List.drop_eq_nil_of_le (by simpa using Nat.le_of_eq h.symm)]⟩
  | x :: q, k, h => by
    have hk : k < l.length := by simp only [List.length_cons] at h; omega
    have hd : List.drop k l = l[k] :: List.drop (k + 1) l := List.drop_eq_getElem_cons hk
    unfold r04_SameMap_L0
    rw [bnd_eq, getD_of (List.getElem?_eq_getElem hk), hd]
    by_cases e : x.xKey = l[k].xKey ∧ x.xValue = l[k].xValue
    · rw [if_pos e]
      have ex : x = l[k] := by
        generalize l[k] = z at e
        cases x; cases z; obtain ⟨e1, e2⟩ := e; simp only at e1 e2; subst e1; subst e2; rfl
      rcases smL_iff l q (k + 1) (by simp only [List.length_cons] at h; omega) with ⟨g1, g2⟩ | ⟨g1, g2⟩
      · exact .inl ⟨g1, by rw [ex, g2]⟩
      · exact .inr ⟨g1, fun c => g2 (List.cons.inj c).2⟩
    · rw [if_neg e]
      exact .inr ⟨rfl, fun c => e (by rw [(List.cons.inj c).1]; exact ⟨rfl, rfl⟩)⟩
theorem sm_iff {a b : List PairD} : r04_SameMap a b = true ↔ a = b := by
  unfold r04_SameMap
  by_cases h : ((a.length : Nat) : Int) = ((b.length : Nat) : Int)
  · rw [if_pos h]
    rcases smL_iff b a 0 (by omega) with ⟨g1, g2⟩ | ⟨g1, g2⟩
    · rw [g1]; exact ⟨fun _ => g2, fun _ => rfl⟩
    · rw [g1]; exact ⟨fun c => (by cases c), fun c => absurd c g2⟩
  · rw [if_neg h]
    exact ⟨fun c => (by cases c), fun c => absurd (by rw [c]) h⟩
theorem eqL_iff (l : List PairD) : ∀ (q : List PairD) (k : Nat), slices_Equal_api_Pair_api_Pair_L0 l q k = r04_SameMap_L0 l q k
  | [], k => rfl
  | x :: q, k => by
    unfold slices_Equal_api_Pair_api_Pair_L0 r04_SameMap_L0
    simp only [bnd_eq, eqL_iff l q]
theorem eq_iff {a b : List PairD} : slices_Equal_api_Pair_api_Pair a b = true ↔ a = b := by
  rw [← sm_iff]
  unfold slices_Equal_api_Pair_api_Pair r04_SameMap
  rw [eqL_iff]
theorem same_iff {a b : ResultT} : judge_same a b = true ↔ a = b := by
  unfold judge_same
  simp only [bnd_eq]
  obtain ⟨a1, a2, ⟨a3⟩⟩ := a
  obtain ⟨b1, b2, ⟨b3⟩⟩ := b
  simp only
  by_cases h1 : a1 = b1
  · rw [if_pos h1]
    by_cases h2 : a2 = b2
    · rw [if_pos h2, eq_iff]
      subst h1; subst h2
      constructor
      · intro h; rw [h]
      · intro h; injection h with _ _ h; injection h
    · rw [if_neg h2]
      exact ⟨fun c => (by cases c), fun c => absurd (by injection c) h2⟩
  · rw [if_neg h1]
    exact ⟨fun c => (by cases c), fun c => absurd (by injection c) h1⟩
theorem srL_iff (l : List ResultT) : ∀ (q : List ResultT) (k : Nat), k + q.length = l.length → (r04_SameResults_L0 l q k = .inl () ∧ q = List.drop k l) ∨ (r04_SameResults_L0 l q k = .inr false ∧ q ≠ List.drop k l)
  | [], k, h => .inl ⟨rfl, by rw [List.drop_eq_nil_of_le (by simpa using Nat.le_of_eq h.symm)]⟩
  | x :: q, k, h => by
    have hk : k < l.length := by simp only [List.length_cons] at h; omega
    have hd : List.drop k l = l[k] :: List.drop (k + 1) l := List.drop_eq_getElem_cons hk
    unfold r04_SameResults_L0
    rw [bnd_eq, getD_of (List.getElem?_eq_getElem hk), hd]
    generalize l[k] = z
    obtain ⟨x1, x2, ⟨x3⟩⟩ := x
    obtain ⟨z1, z2, ⟨z3⟩⟩ := z
    simp only [bnd_eq]
    by_cases h1 : x1 = z1
    · rw [if_pos h1]
      by_cases h2 : x2 = z2
      · rw [if_neg (fun c => c h2)]
        by_cases h3 : r04_SameMap x3 z3 = true
        · rw [if_pos h3]
          have h4 := sm_iff.1 h3
          subst h1; subst h2; subst h4
          rcases srL_iff l q (k + 1) (by simp only [List.length_cons] at h; omega) with ⟨g1, g2⟩ | ⟨g1, g2⟩
          · exact .inl ⟨g1, by rw [g2]⟩
          · exact .inr ⟨g1, fun c => g2 (List.cons.inj c).2⟩
        · rw [if_neg h3]
          exact .inr ⟨rfl, fun c => h3 (sm_iff.2 (by have := (List.cons.inj c).1; injection this with _ _ e; injection e))⟩
      · rw [if_pos h2]
        exact .inr ⟨rfl, fun c => h2 (by have := (List.cons.inj c).1; injection this)⟩
    · rw [if_neg h1]
      exact .inr ⟨rfl, fun c => h1 (by have := (List.cons.inj c).1; injection this)⟩
theorem sr_iff {a b : List ResultT} : r04_SameResults a b = true ↔ a = b := by
  unfold r04_SameResults
  by_cases h : ((a.length : Nat) : Int) = ((b.length : Nat) : Int)
  · rw [if_pos h]
    rcases srL_iff b a 0 (by omega) with ⟨g1, g2⟩ | ⟨g1, g2⟩
    · rw [g1]; exact ⟨fun _ => g2, fun _ => rfl⟩
    · rw [g1]; exact ⟨fun c => (by cases c), fun c => absurd c g2⟩
  · rw [if_neg h]
    exact ⟨fun c => (by cases c), fun c => absurd (by rw [c]) h⟩
theorem eqR_iff (x : SeenT) (y : fateT) (hl : x.xResults.ls.length = y.xresults.ls.length) : ∀ (n k : Nat), k + n = x.xResults.ls.length → (eqR x y n k = true ↔ List.drop k x.xResults.ls = List.drop k y.xresults.ls)
  | 0, k, h => by
    rw [List.drop_eq_nil_of_le (by omega), List.drop_eq_nil_of_le (by omega)]
    exact ⟨fun _ => rfl, fun _ => rfl⟩
  | n + 1, k, h => by
    have h1 : k < x.xResults.ls.length := by omega
    have h2 : k < y.xresults.ls.length := by omega
    unfold eqR
    rw [getD_of (List.getElem?_eq_getElem h1), getD_of (List.getElem?_eq_getElem h2), List.drop_eq_getElem_cons h1, List.drop_eq_getElem_cons h2]
    by_cases e : judge_same x.xResults.ls[k] y.xresults.ls[k] = true
    · rw [if_pos e, eqR_iff x y hl n (k + 1) (by omega), same_iff.1 e]
      exact ⟨fun q => by rw [q], fun q => (List.cons.inj q).2⟩
    · rw [if_neg e]
      exact ⟨fun q => (by cases q), fun q => absurd (same_iff.2 (List.cons.inj q).1) e⟩
theorem jsame_iff {x : SeenT} {y : fateT} : jsame x y = true ↔ x.xResults.ls = y.xresults.ls := by
  unfold jsame
  by_cases h : ((x.xResults.ls.length : Nat) : Int) = ((y.xresults.ls.length : Nat) : Int)
  · rw [if_pos h, eqR_iff x y (by omega) _ 0 (by omega), List.drop_zero, List.drop_zero]
  · rw [if_neg h]
    exact ⟨fun c => (by cases c), fun c => absurd (by rw [c]) h⟩
def rp (l : List SeenT) : Nat → List PairD × List ResultT
  | 0 => ([], [])
  | k + 1 => match l[k]? with
    | some x => if x.xKind = 2 then ((r04_Apply (rp l k).1 (List.getD l (Int.toNat (r23_before l ((k : Nat) : Int) 1)) default).xOps.ls).1, (r04_Apply (rp l k).1 (List.getD l (Int.toNat (r23_before l ((k : Nat) : Int) 1)) default).xOps.ls).2.1) else rp l k
    | none => rp l k
theorem rp_at {l : List SeenT} {k : Nat} {x : SeenT} (hx : l[k]? = some x) : rp l (k + 1) = if x.xKind = 2 then ((r04_Apply (rp l k).1 (List.getD l (Int.toNat (r23_before l ((k : Nat) : Int) 1)) default).xOps.ls).1, (r04_Apply (rp l k).1 (List.getD l (Int.toNat (r23_before l ((k : Nat) : Int) 1)) default).xOps.ls).2.1) else rp l k := by
  show (match l[k]? with | some x => _ | none => _) = _
  rw [hx]
theorem rp_L (l : List SeenT) (n : Nat) (hn : n ≤ l.length) : ∀ (q : List SeenT) (k : Nat), List.drop k (List.take n l) = q → k ≤ n → r23_replay_L0 (List.take n l) q (rp l k).1 (rp l k).2 k = rp l n
  | [], k, h, hk => by
    have hl : (List.drop k (List.take n l)).length = 0 := by rw [h]; rfl
    rw [List.length_drop, List.length_take] at hl
    have : k = n := by omega
    subst this
    rfl
  | x :: q, k, h, hk => by
    have hx0 : (List.take n l)[k]? = some x := by
      have e : (List.drop k (List.take n l))[0]? = some x := by rw [h]; rfl
      rwa [List.getElem?_drop, Nat.add_zero] at e
    have hkn : k < n := by
      rw [List.getElem?_take] at hx0
      split at hx0
      · assumption
      · cases hx0
    have hx : l[k]? = some x := by rwa [List.getElem?_take, if_pos hkn] at hx0
    have ht : List.drop (k + 1) (List.take n l) = q := by rw [← List.drop_drop, h]; rfl
    have ih := rp_L l n hn q (k + 1) ht hkn
    rw [rp_at hx] at ih
    unfold r23_replay_L0
    simp only [bnd_eq]
    by_cases h2 : x.xKind = 2
    · rw [if_pos h2] at ih ⊢
      have hb : Int.toNat (r23_before l ((k : Nat) : Int) 1) < n := by
        rcases bef_of l k 1 hx with ⟨g, _⟩ | ⟨j, g, g2, _⟩
        · rw [g]; show 0 < n; omega
        · rw [g]; show j < n; omega
      have e : List.getD (List.take n l) (Int.toNat (r23_before l ((k : Nat) : Int) 1)) default = List.getD l (Int.toNat (r23_before l ((k : Nat) : Int) 1)) default := by
        simp only [List.getD_eq_getElem?_getD, List.getElem?_take, if_pos hb]
      rw [bef_take l 1 hkn, e]
      exact ih
    · rw [if_neg h2] at ih ⊢
      exact ih
theorem replay_take {l : List SeenT} {n : Nat} (hn : n ≤ l.length) : r23_replay (List.take n l) = rp l n := by
  have := rp_L l n hn (List.take n l) 0 rfl (Nat.zero_le _)
  unfold r23_replay
  rw [bnd_eq]
  show ((r23_replay_L0 (List.take n l) (List.take n l) [] [] 0).1, (r23_replay_L0 (List.take n l) (List.take n l) [] [] 0).2) = _
  exact this
theorem chk_eq (l : List OpD) : op_Check l = r04_Check l := by
  unfold op_Check r04_Check; rw [ce_eq]
theorem chk01 (x : SeenT) : judge_check x = 0 ∨ judge_check x = 1 := by
  unfold judge_check
  simp only [bnd_eq]
  repeat' (first | exact .inl rfl | exact .inr rfl | split)
theorem wrong_eq {l : List SeenT} {k : Nat} {x : SeenT} (hx : l[k]? = some x) : r23_wrong l ((k : Nat) : Int) =
    if judge_check x = 0 then
      (if x.xKind = 1 then (if r23_before l ((k : Nat) : Int) 1 ≥ 0 then 6 else 0)
      else if x.xKind = 2 then (if r23_before l ((k : Nat) : Int) 2 ≥ 0 then 6 else if r23_before l ((k : Nat) : Int) 1 < 0 then 5 else if r23_before l ((k : Nat) : Int) 3 ≥ 0 then 4 else 0)
      else (if r23_before l ((k : Nat) : Int) 3 ≥ 0 then 6 else if r23_before l ((k : Nat) : Int) 1 < 0 then 5 else if (decide (x.xCode = 1)) = (decide (r23_before l ((k : Nat) : Int) 2 ≥ 0)) then
        (if x.xCode = 1 then (if r04_SameResults (r23_replay (List.take (Int.toNat (r23_before l ((k : Nat) : Int) 2 + 1)) l)).2 x.xResults.ls = true then 0 else 11) else (if ((List.length x.xResults.ls : Nat) : Int) > 0 then 11 else 0)) else 4))
    else 1 := by
  unfold r23_wrong judge_check
  simp only [bnd_eq, show Int.toNat ((k : Nat) : Int) = k from rfl, getD_q hx, chk_eq]
  by_cases h1 : x.xKind = 1
  · simp only [if_pos h1]
    by_cases c1 : x.xClient ≥ 1
    · rw [if_pos c1, if_neg (show ¬ x.xClient < 1 by omega)]
      by_cases c2 : x.xClient ≤ 4
      · rw [if_pos c2, if_neg (show ¬ x.xClient > 4 by omega)]
        by_cases c3 : r04_Check x.xOps.ls = 0
        · rw [if_pos c3, if_pos c3, if_pos rfl]
        · rw [if_neg c3, if_neg c3, if_neg (by decide)]
      · rw [if_neg c2, if_pos (show x.xClient > 4 by omega), if_neg (by decide)]
    · rw [if_neg c1, if_pos (show x.xClient < 1 by omega), if_neg (by decide)]
  simp only [if_neg h1]
  by_cases h2 : x.xKind = 2
  · simp only [if_pos h2]
    by_cases c1 : x.xClient ≥ 1
    · rw [if_pos c1, if_neg (show ¬ x.xClient < 1 by omega)]
      by_cases c2 : x.xClient ≤ 4
      · rw [if_pos c2, if_neg (show ¬ x.xClient > 4 by omega), if_pos rfl]
      · rw [if_neg c2, if_pos (show x.xClient > 4 by omega), if_neg (by decide)]
    · rw [if_neg c1, if_pos (show x.xClient < 1 by omega), if_neg (by decide)]
  simp only [if_neg h2]
  by_cases h3 : x.xKind = 3
  · simp only [if_pos h3]
    by_cases c1 : x.xClient ≥ 1
    · rw [if_pos c1, if_neg (show ¬ x.xClient < 1 by omega)]
      by_cases c2 : x.xClient ≤ 4
      · rw [if_pos c2, if_neg (show ¬ x.xClient > 4 by omega)]
        by_cases c3 : x.xCode = 1
        · simp only [if_pos c3, if_true]
        · simp only [if_neg c3]
          by_cases c4 : x.xCode = 2
          · simp only [if_pos c4, if_true]
          · simp only [if_neg c4]; rw [if_neg (by decide)]
      · rw [if_neg c2, if_pos (show x.xClient > 4 by omega), if_neg (by decide)]
    · rw [if_neg c1, if_pos (show x.xClient < 1 by omega), if_neg (by decide)]
  · simp only [if_neg h3]
    rw [if_neg (show ¬ (1 : Int) = 0 by decide)]
    split <;> rfl
structure Fate (l : List SeenT) (k : Nat) (r : requestD) (v : fateT) : Prop where
  asked : ∃ j, j < k ∧ isAt l 1 r j
  ops : ∀ j y, j < k → l[j]? = some y → y.xKind = 1 → jkey y = r → v.xops.ls = y.xOps.ls
  ok : ∀ o ∈ v.xops.ls, op_CheckOp o = 0
  dec : v.xdecided = true ↔ ∃ j, j < k ∧ isAt l 2 r j
  told : v.xtold = true ↔ ∃ j, j < k ∧ isAt l 3 r j
  res : ∀ j, j < k → isAt l 2 r j → v.xresults.ls = (rp l (j + 1)).2
  nores : (∀ j, j < k → ¬ isAt l 2 r j) → v.xresults.ls = []
structure Inv (l : List SeenT) (k : Nat) (p : List PairD) (m : JM) : Prop where
  pairs : p = (rp l k).1
  map : op_CheckMap p = 0
  no : ∀ r, mget m r = none → ∀ j, j < k → ∀ c : Int, c = 1 ∨ c = 2 ∨ c = 3 → ¬ isAt l c r j
  at_ : ∀ r v, mget m r = some v → Fate l k r v
theorem isAt_k {l : List SeenT} {k : Nat} {x : SeenT} {c : Int} {r : requestD} (hx : l[k]? = some x) : isAt l c r k ↔ x.xKind = c ∧ jkey x = r := by
  constructor
  · rintro ⟨y, h1, h2, h3⟩
    rw [hx] at h1
    have := Option.some.inj h1
    subst this
    exact ⟨h2, h3⟩
  · intro h
    exact ⟨x, hx, h.1, h.2⟩
theorem ex_succ {k : Nat} {P : Nat → Prop} : (∃ j, j < k + 1 ∧ P j) ↔ (∃ j, j < k ∧ P j) ∨ P k := by
  constructor
  · rintro ⟨j, h1, h2⟩
    rcases Nat.lt_or_ge j k with g | g
    · exact .inl ⟨j, g, h2⟩
    · rw [show j = k by omega] at h2; exact .inr h2
  · rintro (⟨j, h1, h2⟩ | h)
    · exact ⟨j, by omega, h2⟩
    · exact ⟨k, by omega, h⟩
theorem Fate.off {l : List SeenT} {k : Nat} {r : requestD} {v : fateT} {x : SeenT} (F : Fate l k r v) (hx : l[k]? = some x) (hr : jkey x ≠ r) : Fate l (k + 1) r v where
  asked := ex_succ.2 (.inl F.asked)
  ops := fun j y hj h1 h2 h3 => by
    rcases Nat.lt_or_ge j k with g | g
    · exact F.ops j y g h1 h2 h3
    · rw [show j = k by omega, hx] at h1
      have := Option.some.inj h1
      subst this
      exact absurd h3 hr
  ok := F.ok
  dec := by rw [ex_succ, isAt_k hx]; exact F.dec.trans ⟨.inl, fun h => h.elim id fun q => absurd q.2 hr⟩
  told := by rw [ex_succ, isAt_k hx]; exact F.told.trans ⟨.inl, fun h => h.elim id fun q => absurd q.2 hr⟩
  res := fun j hj h => by
    rcases Nat.lt_or_ge j k with g | g
    · exact F.res j g h
    · rw [show j = k by omega, isAt_k hx] at h; exact absurd h.2 hr
  nores := fun h => F.nores fun j hj => h j (by omega)
theorem bef_ge {l : List SeenT} {k : Nat} {x : SeenT} (c : Int) (hx : l[k]? = some x) : r23_before l ((k : Nat) : Int) c ≥ 0 ↔ ∃ j, j < k ∧ isAt l c (jkey x) j := by
  rcases bef_of l k c hx with ⟨g1, g2⟩ | ⟨j, g1, g2, g3⟩
  · rw [g1]
    exact ⟨fun h => (by omega), fun ⟨j, h1, h2⟩ => absurd h2 (g2 j h1)⟩
  · rw [g1]
    exact ⟨fun _ => ⟨j, g2, g3⟩, fun _ => by omega⟩
theorem Inv.next {l : List SeenT} {k : Nat} {p p' : List PairD} {m : JM} {x : SeenT} {v : fateT} (I : Inv l k p m) (hx : l[k]? = some x) (h1 : p' = (rp l (k + 1)).1) (h2 : op_CheckMap p' = 0) (h3 : Fate l (k + 1) (jkey x) v) : Inv l (k + 1) p' (mput m (jkey x) v) where
  pairs := h1
  map := h2
  no := fun r hr j hj c hc h => by
    rw [mget_put] at hr
    by_cases e : jkey x = r
    · rw [if_pos e] at hr; cases hr
    · rw [if_neg e] at hr
      rcases Nat.lt_or_ge j k with g | g
      · exact I.no r hr j g c hc h
      · rw [show j = k by omega, isAt_k hx] at h; exact e h.2
  at_ := fun r u hr => by
    rw [mget_put] at hr
    by_cases e : jkey x = r
    · rw [if_pos e] at hr
      rw [← Option.some.inj hr, ← e]
      exact h3
    · rw [if_neg e] at hr
      exact (I.at_ r u hr).off hx e
theorem step_inv {l : List SeenT} {k : Nat} {p : List PairD} {m : JM} {x : SeenT} (I : Inv l k p m) (hx : l[k]? = some x) : match jv x p (mget m (jkey x)) with
    | .inl s => r23_wrong l ((k : Nat) : Int) = 0 ∧ Inv l (k + 1) s.1 (mput m (jkey x) s.2)
    | .inr e => r23_wrong l ((k : Nat) : Int) = e := by
  have hkl : k < l.length := (List.getElem?_eq_some_iff.1 hx).1
  rw [wrong_eq hx]
  by_cases hc : judge_check x = 0
  · rw [if_pos hc]
    have hkind : x.xKind = 1 ∨ x.xKind = 2 ∨ x.xKind = 3 := by
      unfold judge_check at hc
      by_cases h1 : x.xKind = 1
      · exact .inl h1
      · rw [if_neg h1] at hc
        by_cases h2 : x.xKind = 2
        · exact .inr (.inl h2)
        · rw [if_neg h2] at hc
          by_cases h3 : x.xKind = 3
          · exact .inr (.inr h3)
          · rw [if_neg h3] at hc; cases hc
    cases hm : mget m (jkey x) with
    | none =>
      have no : ∀ c : Int, c = 1 ∨ c = 2 ∨ c = 3 → ¬ r23_before l ((k : Nat) : Int) c ≥ 0 := fun c hc h => by
        obtain ⟨j, g1, g2⟩ := (bef_ge c hx).1 h
        exact I.no _ hm j g1 c hc g2
      have n1 := no 1 (.inl rfl)
      have n2 := no 2 (.inr (.inl rfl))
      have n3 := no 3 (.inr (.inr rfl))
      simp only [jv]
      rw [if_pos hc]
      by_cases h1 : x.xKind = 1
      · rw [if_pos h1, if_pos h1, if_neg n1]
        refine ⟨rfl, I.next hx ?_ I.map ?_⟩
        · rw [rp_at hx, if_neg (by omega)]; exact I.pairs
        · have hck : r04_Check x.xOps.ls = 0 := by
            unfold judge_check at hc
            rw [if_pos h1] at hc
            by_cases a1 : x.xClient < 1
            · rw [if_pos a1] at hc; cases hc
            rw [if_neg a1] at hc
            by_cases a2 : x.xClient > 4
            · rw [if_pos a2] at hc; cases hc
            rw [if_neg a2, bnd_eq] at hc
            by_cases a3 : op_Check x.xOps.ls = 0
            · rw [← chk_eq]; exact a3
            · rw [if_neg a3] at hc; cases hc
          refine ⟨⟨k, by omega, (isAt_k hx).2 ⟨h1, rfl⟩⟩, fun j y hj g1 g2 g3 => ?_, fun o ho => ?_, ?_, ?_, fun j hj g => ?_, fun _ => rfl⟩
          · rcases Nat.lt_or_ge j k with g | g
            · exact absurd ⟨y, g1, g2, g3⟩ (I.no _ hm j g 1 (.inl rfl))
            · rw [show j = k by omega, hx] at g1
              have := Option.some.inj g1
              subst this
              rfl
          · have : r04_All x.xOps.ls = 0 := by
              unfold r04_Check at hck
              by_cases b1 : ((List.length x.xOps.ls : Nat) : Int) < 1
              · rw [if_pos b1] at hck; cases hck
              rw [if_neg b1] at hck
              by_cases b2 : ((List.length x.xOps.ls : Nat) : Int) > 4
              · rw [if_pos b2] at hck; cases hck
              rw [if_neg b2] at hck
              exact hck
            rw [← ce_eq] at this
            exact ce_0.1 this o ho
          · rw [ex_succ, isAt_k hx]
            exact ⟨fun h => (by cases h), fun h => h.elim (fun ⟨j, g1, g2⟩ => absurd g2 (I.no _ hm j g1 2 (.inr (.inl rfl)))) fun q => (by omega)⟩
          · rw [ex_succ, isAt_k hx]
            exact ⟨fun h => (by cases h), fun h => h.elim (fun ⟨j, g1, g2⟩ => absurd g2 (I.no _ hm j g1 3 (.inr (.inr rfl)))) fun q => (by omega)⟩
          · rcases Nat.lt_or_ge j k with q | q
            · exact absurd g (I.no _ hm j q 2 (.inr (.inl rfl)))
            · rw [show j = k by omega, isAt_k hx] at g; omega
      · rw [if_neg h1, if_neg h1]
        show _ = (5 : Int)
        by_cases h2 : x.xKind = 2
        · rw [if_pos h2, if_neg n2, if_pos (by omega)]
        · rw [if_neg h2, if_neg n3, if_pos (by omega)]
    | some v =>
      have F := I.at_ _ v hm
      have y1 : r23_before l ((k : Nat) : Int) 1 ≥ 0 := (bef_ge 1 hx).2 F.asked
      have y2 : v.xdecided = true ↔ r23_before l ((k : Nat) : Int) 2 ≥ 0 := F.dec.trans (bef_ge 2 hx).symm
      have y3 : v.xtold = true ↔ r23_before l ((k : Nat) : Int) 3 ≥ 0 := F.told.trans (bef_ge 3 hx).symm
      simp only [jv]
      rw [if_pos hc]
      by_cases h1 : x.xKind = 1
      · rw [if_pos h1, if_pos h1, if_pos y1]
      rw [if_neg h1, if_neg h1]
      by_cases h2 : x.xKind = 2
      · rw [if_pos h2, if_pos h2]
        by_cases d : v.xdecided = true
        · rw [if_pos d, if_pos (y2.1 d)]
        rw [if_neg d, if_neg (fun q => d (y2.2 q)), if_neg (show ¬ r23_before l ((k : Nat) : Int) 1 < 0 by omega)]
        by_cases t : v.xtold = true
        · rw [if_pos t, if_pos (y3.1 t)]
        rw [if_neg t, if_neg (fun q => t (y3.2 q))]
        have ha := apply_ok I.map (ce_0.2 F.ok)
        have h0 : (op_Apply p v.xops.ls).2.2 = 0 := by rw [ha]
        rw [if_pos h0]
        obtain ⟨j, g1, g2⟩ := F.asked
        have hops : (List.getD l (Int.toNat (r23_before l ((k : Nat) : Int) 1)) default).xOps.ls = v.xops.ls := by
          rcases bef_of l k 1 hx with ⟨b, _⟩ | ⟨i, b, b2, z, b3, b4, b5⟩
          · omega
          · rw [b, show Int.toNat ((i : Nat) : Int) = i from rfl, getD_q b3, F.ops i z b2 b3 b4 b5]
        have hrp : rp l (k + 1) = ((op_Apply p v.xops.ls).1, (op_Apply p v.xops.ls).2.1) := by
          rw [rp_at hx, if_pos h2, hops, ← I.pairs, ← apply_eq]
        refine ⟨rfl, I.next hx (by rw [hrp]) (by rw [ha]; exact run_keep I.map F.ok) ?_⟩
        refine ⟨ex_succ.2 (.inl F.asked), fun i y hi q1 q2 q3 => ?_, F.ok, ?_, ?_, fun i hi g => ?_, fun h => absurd ((isAt_k hx).2 ⟨h2, rfl⟩) (h k (by omega))⟩
        · rcases Nat.lt_or_ge i k with g | g
          · exact F.ops i y g q1 q2 q3
          · rw [show i = k by omega, hx] at q1
            have := Option.some.inj q1
            subst this
            omega
        · exact ⟨fun _ => ⟨k, by omega, (isAt_k hx).2 ⟨h2, rfl⟩⟩, fun _ => rfl⟩
        · rw [ex_succ, isAt_k hx]
          exact F.told.trans ⟨.inl, fun h => h.elim id fun q => (by omega)⟩
        · rcases Nat.lt_or_ge i k with q | q
          · exact absurd (F.dec.2 ⟨i, q, g⟩) d
          · rw [show i = k by omega, hrp]
      rw [if_neg h2, if_neg h2]
      have h3 : x.xKind = 3 := by omega
      rw [if_pos h3]
      by_cases t : v.xtold = true
      · rw [if_pos t, if_pos (y3.1 t)]
      rw [if_neg t, if_neg (fun q => t (y3.2 q)), if_neg (show ¬ r23_before l ((k : Nat) : Int) 1 < 0 by omega)]
      have hd : v.xdecided = decide (r23_before l ((k : Nat) : Int) 2 ≥ 0) := by
        by_cases q : v.xdecided = true
        · rw [q, decide_eq_true (y2.1 q)]
        · rw [decide_eq_false (fun z => q (y2.2 z))]; exact Bool.eq_false_iff.2 q
      by_cases e : v.xdecided = decide (x.xCode = 1)
      · rw [if_pos e, if_pos (show (decide (x.xCode = 1)) = (decide (r23_before l ((k : Nat) : Int) 2 ≥ 0)) from by rw [← hd, e])]
        have good : Inv l (k + 1) p (mput m (jkey x) (fateT.mk v.xops v.xdecided true v.xresults)) := by
          refine I.next hx (by rw [rp_at hx, if_neg h2]; exact I.pairs) I.map ⟨ex_succ.2 (.inl F.asked), fun i y hi q1 q2 q3 => ?_, F.ok, ?_, ?_, fun i hi g => ?_, fun h => F.nores fun j hj => h j (by omega)⟩
          · rcases Nat.lt_or_ge i k with g | g
            · exact F.ops i y g q1 q2 q3
            · rw [show i = k by omega, hx] at q1
              have := Option.some.inj q1
              subst this
              omega
          · rw [ex_succ, isAt_k hx]
            exact F.dec.trans ⟨.inl, fun h => h.elim id fun q => (by omega)⟩
          · exact ⟨fun _ => ⟨k, by omega, (isAt_k hx).2 ⟨h3, rfl⟩⟩, fun _ => rfl⟩
          · rcases Nat.lt_or_ge i k with q | q
            · exact F.res i q g
            · rw [show i = k by omega, isAt_k hx] at g; omega
        have key : (jsame x v = true) ↔ (if x.xCode = 1 then (if r04_SameResults (r23_replay (List.take (Int.toNat (r23_before l ((k : Nat) : Int) 2 + 1)) l)).2 x.xResults.ls = true then (0 : Int) else 11) else (if ((List.length x.xResults.ls : Nat) : Int) > 0 then 11 else 0)) = 0 := by
          rw [jsame_iff]
          by_cases c : x.xCode = 1
          · rw [if_pos c]
            have hdt : v.xdecided = true := by rw [e, decide_eq_true c]
            rcases bef_of l k 2 hx with ⟨b, _⟩ | ⟨i, b, b2, b3⟩
            · have := y2.1 hdt; omega
            · rw [b, show Int.toNat (((i : Nat) : Int) + 1) = i + 1 by omega, replay_take (by omega), ← F.res i b2 b3]
              by_cases s : r04_SameResults v.xresults.ls x.xResults.ls = true
              · rw [if_pos s]; exact ⟨fun _ => rfl, fun _ => (sr_iff.1 s).symm⟩
              · rw [if_neg s]; exact ⟨fun q => absurd (sr_iff.2 q.symm) s, fun q => (by cases q)⟩
          · rw [if_neg c]
            have hdf : ¬ v.xdecided = true := by rw [e, decide_eq_false c]; decide
            rw [F.nores fun j hj g => hdf (F.dec.2 ⟨j, hj, g⟩)]
            cases hz : x.xResults.ls with
            | nil => simp
            | cons a b => simp
        by_cases s : jsame x v = true
        · rw [if_pos s]
          exact ⟨key.1 s, good⟩
        · rw [if_neg s]
          have k0 := fun q => s (key.2 q)
          show _ = (11 : Int)
          by_cases c : x.xCode = 1
          · rw [if_pos c] at k0 ⊢
            by_cases q : r04_SameResults (r23_replay (List.take (Int.toNat (r23_before l ((k : Nat) : Int) 2 + 1)) l)).2 x.xResults.ls = true
            · rw [if_pos q] at k0; exact absurd rfl k0
            · rw [if_neg q]
          · rw [if_neg c] at k0 ⊢
            by_cases q : ((List.length x.xResults.ls : Nat) : Int) > 0
            · rw [if_pos q]
            · rw [if_neg q] at k0; exact absurd rfl k0
      · rw [if_neg e, if_neg (fun q : (decide (x.xCode = 1)) = (decide (r23_before l ((k : Nat) : Int) 2 ≥ 0)) => e (by rw [hd, ← q]))]
  · rw [if_neg hc]
    have h1 := (chk01 x).resolve_left hc
    cases hm : mget m (jkey x) with
    | none => simp only [jv]; rw [if_neg hc]; exact h1.symm
    | some v => simp only [jv]; rw [if_neg hc]; exact h1.symm
theorem both (l : List SeenT) : ∀ (n k : Nat) (p : List PairD) (m : JM), Inv l k p m → k + n = l.length → match jrun (List.drop k l) p m with
    | .inl t => r23_Judge_L0 l n k = .inl () ∧ t.1 = (rp l l.length).1
    | .inr (i, e) => r23_Judge_L0 l n k = .inr (((k + i : Nat) : Int), e)
  | 0, k, p, m, I, h => by
    rw [List.drop_eq_nil_of_le (by omega)]
    exact ⟨rfl, by show p = _; rw [I.pairs, show k = l.length by omega]⟩
  | n + 1, k, p, m, I, h => by
    have hk : k < l.length := by omega
    have hx : l[k]? = some l[k] := List.getElem?_eq_getElem hk
    have st := step_inv I hx
    rw [List.drop_eq_getElem_cons hk, jrun_v]
    unfold r23_Judge_L0
    simp only [bnd_eq]
    cases hj : jv l[k] p (mget m (jkey l[k])) with
    | inr e =>
      have he : e ≠ 0 := jstep_ne (x := l[k]) (p := p) (m := m) (by rw [jstep_v, hj]; rfl)
      rw [hj] at st
      simp only at st ⊢
      rw [st, if_neg he, Nat.add_zero]
    | inl s =>
      rw [hj] at st
      simp only at st ⊢
      rw [if_pos st.1]
      have ih := both l n (k + 1) _ _ st.2 (by omega)
      cases hr : jrun (List.drop (k + 1) l) s.1 (mput m (jkey l[k]) s.2) with
      | inl t => rw [hr] at ih; exact ih
      | inr r =>
        obtain ⟨i, e⟩ := r
        rw [hr] at ih
        simp only at ih ⊢
        rw [ih, show k + 1 + i = k + (i + 1) by omega]
theorem inv0 (l : List SeenT) : Inv l 0 [] [] where
  pairs := rfl
  map := cm_ok.2 ⟨fun p h => (by cases h), List.Pairwise.nil⟩
  no := fun r _ j hj => by omega
  at_ := fun r v h => by cases h
end Go.Proofs.Ytjcdgofegkngpaa
