/-
  What was seen of a request goes on; operations of which none touch what others touch may be turned.
  Conditions: none.
-/
import Derived.Test.YtjcdgofegkngpaaJuN
import Derived.Test.YtjcdgofegkngpaaJuA
namespace Go.Proofs.Ytjcdgofegkngpaa
set_option linter.unusedVariables false
set_option linter.unusedSimpArgs false
open Go.RowKit
theorem jv_ops {x : SeenT} {p : List PairD} {y : fateT} {s : List PairD × fateT} (h : jv x p (some y) = .inl s) : s.2.xops = y.xops := by
  simp only [jv] at h
  by_cases hc : judge_check x = 0
  · rw [if_pos hc] at h
    by_cases h1 : x.xKind = 1
    · rw [if_pos h1] at h; cases h
    rw [if_neg h1] at h
    by_cases h2 : x.xKind = 2
    · rw [if_pos h2] at h
      by_cases h3 : y.xdecided = true
      · rw [if_pos h3] at h; cases h
      rw [if_neg h3] at h
      by_cases h4 : y.xtold = true
      · rw [if_pos h4] at h; cases h
      rw [if_neg h4] at h
      by_cases h5 : (op_Apply p y.xops.ls).2.2 = 0
      · rw [if_pos h5] at h; rw [← Sum.inl.inj h]
      · rw [if_neg h5] at h; cases h
    rw [if_neg h2] at h
    by_cases h3 : x.xKind = 3
    · rw [if_pos h3] at h
      by_cases h4 : y.xtold = true
      · rw [if_pos h4] at h; cases h
      rw [if_neg h4] at h
      by_cases h5 : y.xdecided = decide (x.xCode = 1)
      · rw [if_pos h5] at h
        by_cases h6 : jsame x y = true
        · rw [if_pos h6] at h; rw [← Sum.inl.inj h]
        · rw [if_neg h6] at h; cases h
      · rw [if_neg h5] at h; cases h
    · rw [if_neg h3] at h; rw [← Sum.inl.inj h]
  · rw [if_neg hc] at h; cases h
theorem jv_none {x : SeenT} {p : List PairD} {s : List PairD × fateT} (h : jv x p none = .inl s) : x.xKind = 1 := by
  simp only [jv] at h
  by_cases hc : judge_check x = 0
  · rw [if_pos hc] at h
    by_cases h1 : x.xKind = 1
    · exact h1
    · rw [if_neg h1] at h; cases h
  · rw [if_neg hc] at h; cases h
/-- one that is decided -/
theorem jv_dec {x : SeenT} {p : List PairD} {o : Option fateT} {s : List PairD × fateT} (hk : x.xKind = 2) (h : jv x p o = .inl s) : ∃ y, o = some y ∧ ¬ y.xdecided = true ∧ ¬ y.xtold = true ∧ judge_check x = 0 ∧ (op_Apply p y.xops.ls).2.2 = 0 ∧ s = ((op_Apply p y.xops.ls).1, fateT.mk y.xops true y.xtold ⟨(op_Apply p y.xops.ls).2.1⟩) := by
  cases o with
  | none => have := jv_none h; omega
  | some y =>
    simp only [jv] at h
    by_cases hc : judge_check x = 0
    · rw [if_pos hc, if_neg (by omega), if_pos hk] at h
      by_cases h3 : y.xdecided = true
      · rw [if_pos h3] at h; cases h
      rw [if_neg h3] at h
      by_cases h4 : y.xtold = true
      · rw [if_pos h4] at h; cases h
      rw [if_neg h4] at h
      by_cases h5 : (op_Apply p y.xops.ls).2.2 = 0
      · rw [if_pos h5] at h; exact ⟨y, rfl, h3, h4, hc, h5, (Sum.inl.inj h).symm⟩
      · rw [if_neg h5] at h; cases h
    · rw [if_neg hc] at h; cases h
theorem jv_dec' {x : SeenT} {p : List PairD} {y : fateT} (hk : x.xKind = 2) (hc : judge_check x = 0) (h1 : ¬ y.xdecided = true) (h2 : ¬ y.xtold = true) (h3 : (op_Apply p y.xops.ls).2.2 = 0) : jv x p (some y) = .inl ((op_Apply p y.xops.ls).1, fateT.mk y.xops true y.xtold ⟨(op_Apply p y.xops.ls).2.1⟩) := by
  simp only [jv]
  rw [if_pos hc, if_neg (by omega), if_pos hk, if_neg h1, if_neg h2, if_pos h3]
theorem fate_keep : ∀ {l : List SeenT} {p : List PairD} {m : JM} {t : List PairD × JM} {k : requestD} {v : fateT}, jrun l p m = .inl t → mget m k = some v → ∃ v', mget t.2 k = some v' ∧ v'.xops = v.xops
  | [], p, m, t, k, v, h, hm => by
    have := Sum.inl.inj h
    rw [← this]
    exact ⟨v, hm, rfl⟩
  | x :: q, p, m, t, k, v, h, hm => by
    obtain ⟨s, h1, h2⟩ := jrun_in h
    by_cases e : jkey x = k
    · subst e
      rw [hm] at h1
      obtain ⟨v', g1, g2⟩ := fate_keep (v := s.2) h2 (by rw [mget_put, if_pos rfl])
      exact ⟨v', g1, g2.trans (jv_ops h1)⟩
    · exact fate_keep h2 (by rw [mget_put, if_neg e]; exact hm)
theorem fate_asked : ∀ {l : List SeenT} {p : List PairD} {m : JM} {t : List PairD × JM} {x : SeenT}, jrun l p m = .inl t → x ∈ l → x.xKind = 1 → ∃ v, mget t.2 (jkey x) = some v ∧ v.xops = x.xOps
  | [], p, m, t, x, h, hx, hk => by cases hx
  | y :: q, p, m, t, x, h, hx, hk => by
    obtain ⟨s, h1, h2⟩ := jrun_in h
    rcases List.mem_cons.1 hx with rfl | hx
    · have ha := jv_asked hk h1
      obtain ⟨v', g1, g2⟩ := fate_keep (k := jkey x) (v := s.2) h2 (by rw [mget_put, if_pos rfl])
      exact ⟨v', g1, by rw [g2, ha.2.2]⟩
    · exact fate_asked h2 hx hk
theorem fate_from : ∀ {l : List SeenT} {p : List PairD} {m : JM} {t : List PairD × JM} {k : requestD} {v : fateT}, jrun l p m = .inl t → mget t.2 k = some v → mget m k = none → ∃ x ∈ l, x.xKind = 1 ∧ jkey x = k
  | [], p, m, t, k, v, h, hv, hm => by
    have := Sum.inl.inj h
    rw [← this, hm] at hv
    cases hv
  | x :: q, p, m, t, k, v, h, hv, hm => by
    obtain ⟨s, h1, h2⟩ := jrun_in h
    by_cases e : jkey x = k
    · subst e
      rw [hm] at h1
      exact ⟨x, .head _, jv_none h1, rfl⟩
    · obtain ⟨y, g1, g2⟩ := fate_from h2 hv (by rw [mget_put, if_neg e]; exact hm)
      exact ⟨y, .tail _ g1, g2⟩
theorem Kept.all : ∀ l : List SeenT, Kept (fun _ => False) l l
  | [] => .nil
  | x :: l => .keep (fun h => h) (Kept.all l)
theorem jrun_ext {l : List SeenT} {p : List PairD} {m m' : JM} {t : List PairD × JM} (hm : ∀ k, mget m k = mget m' k) (h : jrun l p m = .inl t) : ∃ u, jrun l p m' = .inl (t.1, u) := (Kept.all l).run (fun k _ => hm k) h
/-! ### lists of operations that may be turned -/
def apart (a b : OpD) : Prop := ∀ k, kok k → tch a k → ¬ tch b k
theorem run_one {a : OpD} (ha : op_CheckOp a = 0) : ∀ {Y : List OpD} {m : List PairD}, op_CheckMap m = 0 → (∀ b ∈ Y, op_CheckOp b = 0) → (∀ b ∈ Y, apart a b) → run (stp m a).1 Y = ((stp (run m Y).1 a).1, (run m Y).2) ∧ (stp (run m Y).1 a).2 = (stp m a).2
  | [], m, hm, _, _ => ⟨rfl, rfl⟩
  | b :: Y, m, hm, hY, hd => by
    have hb := hY b (.head _)
    obtain ⟨s1, s2, s3⟩ := stp_swap hm ha hb (hd b (.head _))
    obtain ⟨i1, i2⟩ := run_one ha (Y := Y) (m := (stp m b).1) (stp_keep hm hb) (fun c hc => hY c (.tail _ hc)) (fun c hc => hd c (.tail _ hc))
    constructor
    · show ((run (stp (stp m a).1 b).1 Y).1, (stp (stp m a).1 b).2 :: (run (stp (stp m a).1 b).1 Y).2) = _
      rw [s1, s2, i1]
      rfl
    · show (stp (run (stp m b).1 Y).1 a).2 = _
      rw [i2, s3]
theorem run_swap : ∀ {X Y : List OpD} {m : List PairD}, op_CheckMap m = 0 → (∀ a ∈ X, op_CheckOp a = 0) → (∀ b ∈ Y, op_CheckOp b = 0) → (∀ a ∈ X, ∀ b ∈ Y, apart a b) →
    run (run m X).1 Y = ((run (run m Y).1 X).1, (run m Y).2) ∧ (run (run m Y).1 X).2 = (run m X).2
  | [], Y, m, hm, _, _, _ => ⟨rfl, rfl⟩
  | a :: X, Y, m, hm, hX, hY, hd => by
    have ha := hX a (.head _)
    obtain ⟨o1, o2⟩ := run_one ha hm hY (hd a (.head _))
    obtain ⟨i1, i2⟩ := run_swap (X := X) (Y := Y) (m := (stp m a).1) (stp_keep hm ha) (fun c hc => hX c (.tail _ hc)) hY (fun c hc => hd c (.tail _ hc))
    rw [o1] at i1 i2
    simp only at i1 i2
    constructor
    · show run (run (stp m a).1 X).1 Y = ((run (stp (run m Y).1 a).1 X).1, (run m Y).2)
      rw [i1]
    · show (stp (run m Y).1 a).2 :: (run (stp (run m Y).1 a).1 X).2 = (stp m a).2 :: (run (stp m a).1 X).2
      rw [o2, i2]
theorem apply_zero {m : List PairD} {l : List OpD} (h : (op_Apply m l).2.2 = 0) : op_CheckMap m = 0 ∧ (∀ o ∈ l, op_CheckOp o = 0) ∧ op_Apply m l = ((run m l).1, (run m l).2, 0) := by
  by_cases hc : op_CheckMap m = 0 ∧ op_checkEach l = 0
  · exact ⟨hc.1, ce_0.1 hc.2, apply_ok hc.1 hc.2⟩
  · have := apply_bad hc
    rw [this.1] at h
    exact absurd h this.2
theorem apart_of {a b : OpD} (ha : op_CheckOp a = 0) (hb : op_CheckOp b = 0) (h : ¬ M.M (spn a).xLo (spn a).xHi (spn b).xLo (spn b).xHi) : apart a b := fun k hk ta tb => h (meet_of ((tch_H ha hk).1 ta) ((tch_H hb hk).1 tb))
end Go.Proofs.Ytjcdgofegkngpaa
