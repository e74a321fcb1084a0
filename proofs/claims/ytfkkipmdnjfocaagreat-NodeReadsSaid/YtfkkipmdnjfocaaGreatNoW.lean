/-
  The checks of nodes: the program's are the reference's.
  Conditions: none beyond each law's own.
-/
import Derived.Test.YtfkkipmdnjfocaaGreatDr
import Derived.Test.YtfkkipmdnjfocaaGreatNoM
import Derived.Test.YtfkkipmdnjfocaaGreatSpanM
namespace Go.Proofs.YtfkkipmdnjfocaaGreat
set_option linter.unusedVariables false
set_option linter.unusedSimpArgs false
def kok (k : Key) : Prop := 1 ≤ List.length k ∧ List.length k ≤ 12
theorem ck_eq (k : Key) : span_CheckKey k = r02_CheckKey k := rfl
theorem ck_ok {k : Key} : span_CheckKey k = 0 ↔ kok k := by
  unfold span_CheckKey kok
  split
  · constructor <;> intro h <;> omega
  · split
    · constructor <;> intro h <;> omega
    · constructor <;> intro h <;> omega
theorem ck_20 {k : Key} : span_CheckKey k = 0 ∨ span_CheckKey k = 20 := by
  unfold span_CheckKey
  split
  · exact .inr rfl
  · split
    · exact .inr rfl
    · exact .inl rfl
theorem cm_eqL (l : List PairD) : ∀ (q : List PairD) (k : Nat), op_CheckMap_L0 l q k = r04_CheckMap_L0 l q k
  | [], _ => rfl
  | x :: q, k => by
    have ih := cm_eqL l q (k + 1)
    rcases ck_20 (k := x.xKey) with h | h
    · by_cases h2 : ((List.length x.xValue : Nat) : Int) > 16
      · simp [op_CheckMap_L0, r04_CheckMap_L0, bnd, ← ck_eq, op_checkValue, h, h2]
      · simp [op_CheckMap_L0, r04_CheckMap_L0, bnd, ← ck_eq, op_checkValue, h, h2, ih]
    · simp [op_CheckMap_L0, r04_CheckMap_L0, bnd, ← ck_eq, op_checkValue, h]
theorem cm_eq (l : List PairD) : op_CheckMap l = r04_CheckMap l := by
  unfold op_CheckMap r04_CheckMap
  rw [cm_eqL]
theorem kK {k : Key} : kok k ↔ M.K k := Iff.rfl
theorem ne_len {k : Key} : k ≠ [] ↔ 1 ≤ k.length := by cases k <;> simp
theorem sc_R {r : RangeD} : span_Check r = 0 ↔ M.R r.xLo r.xHi := by
  have a := ck_ok (k := r.xLo); have b := ck_ok (k := r.xHi)
  have la := ne_len (k := r.xLo); have lb := ne_len (k := r.xHi)
  have nn := @k_nlt r.xLo r.xHi
  unfold span_Check M.R
  rw [← kK, ← kK]
  simp only [bnd]
  by_cases h1 : r.xLo = []
  · by_cases h2 : r.xHi = []
    · simp [h1, h2]
    · by_cases h3 : span_CheckKey r.xHi = 0
      · have z1 := M.nil_lt h2
        have z2 : ¬ r.xHi ≤ [] := fun q => k_nlt.2 q z1
        simp [h1, h2, h3, b.1 h3, z1, z2]
      · have h3' : ¬ kok r.xHi := fun q => h3 (b.2 q)
        simp [h1, h2, h3, h3']
  · by_cases h0 : span_CheckKey r.xLo = 0
    · by_cases h2 : r.xHi = []
      · simp [h1, h2, h0, a.1 h0]
      · by_cases h3 : span_CheckKey r.xHi = 0
        · by_cases h4 : r.xHi ≤ r.xLo
          · simp [h1, h2, h3, h0, h4, a.1 h0, b.1 h3]
          · simp [h1, h2, h3, h0, h4, a.1 h0, b.1 h3]; grind
        · have h3' : ¬ kok r.xHi := fun q => h3 (b.2 q)
          simp [h1, h2, h3, h0, h3']
    · have h0' : ¬ kok r.xLo := fun q => h0 (a.2 q)
      simp [h1, h0, h0']
theorem sc_01 {r : RangeD} : span_Check r = 0 ∨ span_Check r = 21 := by
  unfold span_Check; simp only [bnd]
  repeat' split
  all_goals first | exact .inl rfl | exact .inr rfl
theorem rc_R {r : RangeD} : r02_Check r = 0 ↔ M.R r.xLo r.xHi := by
  have la := ne_len (k := r.xLo); have lb := ne_len (k := r.xHi)
  have nn := @k_nlt r.xLo r.xHi
  have z1 : r.xHi ≠ [] → [] < r.xHi := M.nil_lt
  have z2 : r.xHi ≠ [] → ¬ r.xHi ≤ [] := fun h q => k_nlt.2 q (z1 h)
  unfold r02_Check M.R M.K
  by_cases h1 : r.xLo = [] <;> by_cases h2 : r.xHi = [] <;> by_cases h3 : ((List.length r.xLo : Nat) : Int) > 12 <;> by_cases h4 : ((List.length r.xHi : Nat) : Int) > 12 <;> by_cases h5 : r.xHi ≤ r.xLo <;> simp_all <;> grind
theorem rc_01 {r : RangeD} : r02_Check r = 0 ∨ r02_Check r = 21 := by
  unfold r02_Check
  repeat' split
  all_goals first | exact .inl rfl | exact .inr rfl
theorem sc_eq (r : RangeD) : span_Check r = r02_Check r := by
  have h := (sc_R (r := r)).trans rc_R.symm
  rcases sc_01 (r := r) with a | a <;> rcases rc_01 (r := r) with b | b <;> simp_all
theorem cr_eq (o : OpD) : op_checkRange o = span_Check (RangeD.mk o.xLo o.xHi) := rfl
theorem cs_eq (o : OpD) : op_checkScan o = if span_Check (RangeD.mk o.xLo o.xHi) = 0 then (if o.xMost < 1 then 1 else if o.xMost > 4 then 1 else 0) else span_Check (RangeD.mk o.xLo o.xHi) := rfl
theorem cp_eq (o : OpD) : op_checkPair o = if span_CheckKey o.xKey = 0 then (if ((List.length o.xValue : Nat) : Int) > 16 then 2 else 0) else span_CheckKey o.xKey := rfl
theorem co1 {o : OpD} (h : o.xKind = 1 ∨ o.xKind = 3) : op_CheckOp o = if o.xValue = [] ∧ o.xLo = [] ∧ o.xHi = [] ∧ o.xMost = 0 then span_CheckKey o.xKey else 40 := by
  unfold op_CheckOp
  rcases h with h | h
  · rw [if_pos h]
    show (if _ then _ else _) = _
    simp only [op_ownKey, op_checkKey, bnd]
    congr 1
    simp [eq_comm]
  · rw [if_neg (by omega), if_neg (by omega), if_pos h]
    show (if _ then _ else _) = _
    simp only [op_ownKey, op_checkKey, bnd]
    congr 1
    simp [eq_comm]
theorem co2 {o : OpD} (h : o.xKind = 2) : op_CheckOp o = if o.xLo = [] ∧ o.xHi = [] ∧ o.xMost = 0 then op_checkPair o else 40 := by
  unfold op_CheckOp
  rw [if_neg (by omega), if_pos h]
  show (if _ then _ else _) = _
  simp only [op_ownPair, bnd]
  congr 1
  simp [eq_comm]
theorem co4 {o : OpD} (h : o.xKind = 4) : op_CheckOp o = if o.xKey = [] ∧ o.xValue = [] then op_checkScan o else 40 := by
  unfold op_CheckOp
  rw [if_neg (by omega), if_neg (by omega), if_neg (by omega), if_pos h]
  show (if _ then _ else _) = _
  simp only [op_ownScan, bnd]
  congr 1
  simp [eq_comm]
theorem co5 {o : OpD} (h : o.xKind = 5) : op_CheckOp o = if o.xKey = [] ∧ o.xValue = [] ∧ o.xMost = 0 then op_checkRange o else 40 := by
  unfold op_CheckOp
  rw [if_neg (by omega), if_neg (by omega), if_neg (by omega), if_neg (by omega), if_pos h]
  show (if _ then _ else _) = _
  simp only [op_ownRange, bnd]
  congr 1
  simp [eq_comm]
theorem co0 {o : OpD} (h : ¬ (1 ≤ o.xKind ∧ o.xKind ≤ 5)) : op_CheckOp o = 40 := by
  unfold op_CheckOp
  rw [if_neg (by omega), if_neg (by omega), if_neg (by omega), if_neg (by omega), if_neg (by omega)]
theorem co_eq (o : OpD) : op_CheckOp o = r04_CheckOp o := by
  by_cases h1 : o.xKind = 1 ∨ o.xKind = 3
  · rw [co1 h1]
    unfold r04_CheckOp
    simp only [bnd_eq]
    by_cases a : o.xLo = [] <;> by_cases b : o.xHi = [] <;> by_cases c : o.xValue = [] <;> by_cases d : o.xMost = 0 <;>
      rcases h1 with h1 | h1 <;> rcases ck_20 (k := o.xKey) with e | e <;> simp [a, b, c, d, h1, e, ← ck_eq]
  by_cases h2 : o.xKind = 2
  · rw [co2 h2, cp_eq]
    unfold r04_CheckOp
    simp only [bnd_eq]
    by_cases a : o.xLo = [] <;> by_cases b : o.xHi = [] <;> by_cases d : o.xMost = 0 <;>
      rcases ck_20 (k := o.xKey) with e | e <;> simp [a, b, d, h2, e, ← ck_eq]
  by_cases h4 : o.xKind = 4
  · rw [co4 h4, cs_eq]
    unfold r04_CheckOp
    simp only [bnd_eq]
    by_cases a : o.xKey = [] <;> by_cases b : o.xValue = [] <;>
      rcases sc_01 (r := RangeD.mk o.xLo o.xHi) with e | e <;> simp [a, b, h4, e, ← sc_eq]
  by_cases h5 : o.xKind = 5
  · rw [co5 h5, cr_eq]
    unfold r04_CheckOp
    simp only [bnd_eq]
    by_cases a : o.xKey = [] <;> by_cases b : o.xValue = [] <;> by_cases d : o.xMost = 0 <;>
      rcases sc_01 (r := RangeD.mk o.xLo o.xHi) with e | e <;> simp [a, b, d, h5, e, ← sc_eq]
  · rw [co0 (by omega)]
    unfold r04_CheckOp
    rw [if_neg (by omega), if_neg (by omega), if_neg (by omega), if_neg (by omega), if_neg (by omega)]
end Go.Proofs.YtfkkipmdnjfocaaGreat
