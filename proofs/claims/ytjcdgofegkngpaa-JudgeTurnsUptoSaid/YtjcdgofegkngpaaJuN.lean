/-
  What was seen: a step asks the map of one request alone.
  Conditions: none.
-/
import Derived.Test.YtjcdgofegkngpaaJuM
namespace Go.Proofs.Ytjcdgofegkngpaa
set_option linter.unusedVariables false
set_option linter.unusedSimpArgs false
open Go.RowKit
/-- what a step makes of the pairs, and of what was seen of its request -/
def jv (x : SeenT) (p : List PairD) : Option fateT → (List PairD × fateT) ⊕ Int
  | some y =>
    if judge_check x = 0 then
      if x.xKind = 1 then .inr 6
      else if x.xKind = 2 then (if y.xdecided = true then .inr 6 else if y.xtold = true then .inr 4 else if (op_Apply p y.xops.ls).2.2 = 0 then .inl ((op_Apply p y.xops.ls).1, fateT.mk y.xops true y.xtold ⟨(op_Apply p y.xops.ls).2.1⟩) else .inr 1)
      else if x.xKind = 3 then (if y.xtold = true then .inr 6 else if y.xdecided = decide (x.xCode = 1) then (if jsame x y = true then .inl (p, fateT.mk y.xops y.xdecided true y.xresults) else .inr 11) else .inr 4)
      else .inl (p, y)
    else .inr (judge_check x)
  | none => if judge_check x = 0 then (if x.xKind = 1 then .inl (p, fateT.mk x.xOps false false ⟨[]⟩) else .inr 5) else .inr (judge_check x)
def jput (m : JM) (k : requestD) : (List PairD × fateT) ⊕ Int → (List PairD × JM) ⊕ Int
  | .inl s => .inl (s.1, mput m k s.2)
  | .inr e => .inr e
theorem jput_if {c : Prop} [Decidable c] (m : JM) (k : requestD) (a b : (List PairD × fateT) ⊕ Int) : jput m k (if c then a else b) = if c then jput m k a else jput m k b := by
  by_cases h : c
  · rw [if_pos h, if_pos h]
  · rw [if_neg h, if_neg h]
theorem jstep_v (x : SeenT) (p : List PairD) (m : JM) : jstep x p m = jput m (jkey x) (jv x p (mget m (jkey x))) := by
  unfold jstep
  cases h : mget m (jkey x) with
  | none => simp only [jmid, jnew, jv, jput_if]; rfl
  | some y => simp only [jmid, jhit, jv, jput_if]; rfl
theorem jrun_v (x : SeenT) (q : List SeenT) (p : List PairD) (m : JM) : jrun (x :: q) p m = match jv x p (mget m (jkey x)) with
    | .inl s => (match jrun q s.1 (mput m (jkey x) s.2) with
      | .inl t => .inl t
      | .inr (i, e) => .inr (i + 1, e))
    | .inr e => .inr (0, e) := by
  rw [jrun_cons, jstep_v]
  cases h : jv x p (mget m (jkey x)) with
  | inl s => rfl
  | inr e => rfl
theorem jrun_in {x : SeenT} {q : List SeenT} {p : List PairD} {m : JM} {t : List PairD × JM} (h : jrun (x :: q) p m = .inl t) : ∃ s, jv x p (mget m (jkey x)) = .inl s ∧ jrun q s.1 (mput m (jkey x) s.2) = .inl t := by
  rw [jrun_v] at h
  cases h1 : jv x p (mget m (jkey x)) with
  | inr e => rw [h1] at h; cases h
  | inl s =>
    rw [h1] at h
    simp only at h
    cases h2 : jrun q s.1 (mput m (jkey x) s.2) with
    | inr r => obtain ⟨i, e⟩ := r; rw [h2] at h; cases h
    | inl u => rw [h2] at h; exact ⟨s, rfl, by rw [← Sum.inl.inj h]; exact h2⟩
theorem jrun_to {x : SeenT} {q : List SeenT} {p : List PairD} {m : JM} {t : List PairD × JM} {s : List PairD × fateT} (h1 : jv x p (mget m (jkey x)) = .inl s) (h2 : jrun q s.1 (mput m (jkey x) s.2) = .inl t) : jrun (x :: q) p m = .inl t := by
  rw [jrun_v, h1]
  simp only
  rw [h2]
/-- what is asked and new is taken, and the pairs are as they were -/
theorem jv_asked {x : SeenT} {p : List PairD} {o : Option fateT} {s : List PairD × fateT} (hk : x.xKind = 1) (h : jv x p o = .inl s) : s.1 = p ∧ o = none ∧ s.2 = fateT.mk x.xOps false false ⟨[]⟩ := by
  cases o with
  | none =>
    simp only [jv] at h
    by_cases hc : judge_check x = 0
    · rw [if_pos hc, if_pos hk] at h
      have := Sum.inl.inj h
      rw [← this]
      exact ⟨rfl, rfl, rfl⟩
    · rw [if_neg hc] at h; cases h
  | some y =>
    simp only [jv] at h
    by_cases hc : judge_check x = 0
    · rw [if_pos hc, if_pos hk] at h; cases h
    · rw [if_neg hc] at h; cases h
/-- Some that are asked alone are left out. -/
inductive Kept (Dr : requestD → Prop) : List SeenT → List SeenT → Prop
  | nil : Kept Dr [] []
  | keep {x : SeenT} {l o : List SeenT} : ¬ Dr (jkey x) → Kept Dr l o → Kept Dr (x :: l) (x :: o)
  | drop {x : SeenT} {l o : List SeenT} : Dr (jkey x) → x.xKind = 1 → Kept Dr l o → Kept Dr (x :: l) o
theorem Kept.run {Dr : requestD → Prop} {l o : List SeenT} (K : Kept Dr l o) : ∀ {p : List PairD} {m m' : JM} {t : List PairD × JM}, (∀ k, ¬ Dr k → mget m k = mget m' k) → jrun l p m = .inl t → ∃ u, jrun o p m' = .inl (t.1, u) := by
  induction K with
  | nil =>
    intro p m m' t hm h
    have := Sum.inl.inj h
    exact ⟨m', by rw [← this]; rfl⟩
  | @keep x l o hx K ih =>
    intro p m m' t hm h
    obtain ⟨s, h1, h2⟩ := jrun_in h
    rw [hm _ hx] at h1
    obtain ⟨u, hu⟩ := ih (m := mput m (jkey x) s.2) (m' := mput m' (jkey x) s.2) (fun k hk => by
      rw [mget_put, mget_put]
      by_cases e : jkey x = k
      · rw [if_pos e, if_pos e]
      · rw [if_neg e, if_neg e]; exact hm k hk) h2
    exact ⟨u, jrun_to h1 hu⟩
  | @drop x l o hx hk K ih =>
    intro p m m' t hm h
    obtain ⟨s, h1, h2⟩ := jrun_in h
    have ha := jv_asked hk h1
    rw [ha.1] at h2
    exact ih (fun k hk => by
      rw [mget_put, if_neg (fun e : jkey x = k => hk (by rw [← e]; exact hx))]
      exact hm k hk) h2
/-- what a map has came in, or was seen -/
theorem jrun_keys : ∀ {l : List SeenT} {p : List PairD} {m : JM} {t : List PairD × JM} {k : requestD}, jrun l p m = .inl t → mget m k = none → (∀ x ∈ l, jkey x ≠ k) → mget t.2 k = none
  | [], p, m, t, k, h, hm, hl => by
    have := Sum.inl.inj h
    rw [← this]
    exact hm
  | x :: q, p, m, t, k, h, hm, hl => by
    obtain ⟨s, h1, h2⟩ := jrun_in h
    exact jrun_keys h2 (by rw [mget_put, if_neg (hl x (.head _))]; exact hm) (fun y hy => hl y (.tail _ hy))
end Go.Proofs.Ytjcdgofegkngpaa
