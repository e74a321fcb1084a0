/-
  Checks of the layers below: the program's and the document's are the same.
  Conditions: none.
-/
import Derived.Test.YtccjclalngabhaaGreatWr
import Derived.Test.YtccjclalngabhaaGreatSpanM
namespace Go.Proofs.YtccjclalngabhaaGreat
set_option linter.unusedVariables false
set_option linter.unusedSimpArgs false
open Go.ChangeShapes
@[reducible] def Key : Type := List UInt8
theorem k_nlt {a b : Key} : ¬ a < b ↔ b ≤ a := List.not_lt
def kok (k : Key) : Prop := 1 ≤ List.length k ∧ List.length k ≤ 12
theorem ck_eq (k : Key) : span_CheckKey k = r02_CheckKey k := rfl
theorem ck_ok {k : Key} : span_CheckKey k = 0 ↔ kok k := by
  unfold span_CheckKey kok
  split
  · constructor
    · intro h; cases h
    · intro h; omega
  · split
    · constructor
      · intro h; cases h
      · intro h; omega
    · exact ⟨fun _ => by omega, fun _ => rfl⟩
theorem ck_20 {k : Key} : span_CheckKey k = 0 ∨ span_CheckKey k = 20 := by
  unfold span_CheckKey
  split
  · exact .inr rfl
  · split
    · exact .inr rfl
    · exact .inl rfl
theorem ne_len {k : Key} : k ≠ [] ↔ 1 ≤ k.length := by cases k <;> simp
theorem sh_iff {n : Int} : owner_isShard n = true ↔ 1 ≤ n ∧ n ≤ 4 := by
  unfold owner_isShard
  by_cases h : n ≥ 1
  · rw [if_pos h, decide_eq_true_eq]; omega
  · rw [if_neg h]; constructor
    · intro q; cases q
    · intro q; omega
theorem chk_eqL (l : List OwnerD) : ∀ (q : List OwnerD) (k : Nat), owner_Check_L0 l q k = r17_Check_L0 l q k
  | [], k => rfl
  | x :: q, k => by
    rw [owner_Check_L0, r17_Check_L0]
    simp only [bnd_eq, ← ck_eq, chk_eqL l q]
    by_cases h : owner_isShard x.xShard = true
    · have h2 := sh_iff.1 h
      rw [if_pos h, if_neg (show ¬ x.xShard < 1 by omega), if_neg (show ¬ x.xShard > 4 by omega)]
    · have h2 : x.xShard < 1 ∨ x.xShard > 4 := by
        have : ¬ (1 ≤ x.xShard ∧ x.xShard ≤ 4) := fun q => h (sh_iff.2 q)
        omega
      rw [if_neg h]
      rcases h2 with h2 | h2
      · rw [if_pos h2]
      · by_cases h3 : x.xShard < 1
        · rw [if_pos h3]
        · rw [if_neg h3, if_pos h2]
theorem chk_eq (l : List OwnerD) : owner_Check l = r17_Check l := by
  unfold owner_Check r17_Check
  simp only [bnd_eq, chk_eqL]
theorem kK {k : Key} : kok k ↔ M.K k := Iff.rfl
theorem sc_R {r : RangeD} : span_Check r = 0 ↔ M.R r.xLo r.xHi := by
  have a := ck_ok (k := r.xLo); have b := ck_ok (k := r.xHi)
  have la := ne_len (k := r.xLo); have lb := ne_len (k := r.xHi)
  have nn := @k_nlt r.xLo r.xHi
  unfold span_Check M.R
  rw [← kK, ← kK]
  simp only [bnd]
  by_cases h1 : r.xLo = []
  · by_cases h2 : r.xHi = []
    · simp [h1, h2]
    · by_cases h3 : span_CheckKey r.xHi = 0
      · have z1 := M.nil_lt h2
        have z2 : ¬ r.xHi ≤ [] := fun q => k_nlt.2 q z1
        simp [h1, h2, h3, b.1 h3, z1, z2]
      · have h3' : ¬ kok r.xHi := fun q => h3 (b.2 q)
        simp [h1, h2, h3, h3']
  · by_cases h0 : span_CheckKey r.xLo = 0
    · by_cases h2 : r.xHi = []
      · simp [h1, h2, h0, a.1 h0]
      · by_cases h3 : span_CheckKey r.xHi = 0
        · by_cases h4 : r.xHi ≤ r.xLo
          · simp [h1, h2, h3, h0, h4, a.1 h0, b.1 h3]
          · simp [h1, h2, h3, h0, h4, a.1 h0, b.1 h3]; grind
        · have h3' : ¬ kok r.xHi := fun q => h3 (b.2 q)
          simp [h1, h2, h3, h0, h3']
    · have h0' : ¬ kok r.xLo := fun q => h0 (a.2 q)
      simp [h1, h0, h0']
theorem sc_01 {r : RangeD} : span_Check r = 0 ∨ span_Check r = 21 := by
  unfold span_Check; simp only [bnd]
  repeat' split
  all_goals first | exact .inl rfl | exact .inr rfl
theorem rc_R {r : RangeD} : r02_Check r = 0 ↔ M.R r.xLo r.xHi := by
  have la := ne_len (k := r.xLo); have lb := ne_len (k := r.xHi)
  have nn := @k_nlt r.xLo r.xHi
  have z1 : r.xHi ≠ [] → [] < r.xHi := M.nil_lt
  have z2 : r.xHi ≠ [] → ¬ r.xHi ≤ [] := fun h q => k_nlt.2 q (z1 h)
  unfold r02_Check M.R M.K
  by_cases h1 : r.xLo = [] <;> by_cases h2 : r.xHi = [] <;> by_cases h3 : ((List.length r.xLo : Nat) : Int) > 12 <;> by_cases h4 : ((List.length r.xHi : Nat) : Int) > 12 <;> by_cases h5 : r.xHi ≤ r.xLo <;> simp_all <;> grind
theorem rc_01 {r : RangeD} : r02_Check r = 0 ∨ r02_Check r = 21 := by
  unfold r02_Check
  repeat' split
  all_goals first | exact .inl rfl | exact .inr rfl
theorem sc_eq (r : RangeD) : span_Check r = r02_Check r := by
  have h := (sc_R (r := r)).trans rc_R.symm
  rcases sc_01 (r := r) with a | a <;> rcases rc_01 (r := r) with b | b <;> simp_all
theorem cr_eq (o : OpD) : op_checkRange o = span_Check (RangeD.mk o.xLo o.xHi) := rfl
theorem cs_eq (o : OpD) : op_checkScan o = if span_Check (RangeD.mk o.xLo o.xHi) = 0 then (if o.xMost < 1 then 1 else if o.xMost > 4 then 1 else 0) else span_Check (RangeD.mk o.xLo o.xHi) := rfl
theorem cp_eq (o : OpD) : op_checkPair o = if span_CheckKey o.xKey = 0 then (if ((List.length o.xValue : Nat) : Int) > 16 then 2 else 0) else span_CheckKey o.xKey := rfl
theorem co1 {o : OpD} (h : o.xKind = 1 ∨ o.xKind = 3) : op_CheckOp o = if o.xValue = [] ∧ o.xLo = [] ∧ o.xHi = [] ∧ o.xMost = 0 then span_CheckKey o.xKey else 40 := by
  unfold op_CheckOp
  rcases h with h | h
  · rw [if_pos h]
    show (if _ then _ else _) = _
    simp only [op_ownKey, op_checkKey, bnd]
    congr 1
    simp [eq_comm]
  · rw [if_neg (by omega), if_neg (by omega), if_pos h]
    show (if _ then _ else _) = _
    simp only [op_ownKey, op_checkKey, bnd]
    congr 1
    simp [eq_comm]
theorem co2 {o : OpD} (h : o.xKind = 2) : op_CheckOp o = if o.xLo = [] ∧ o.xHi = [] ∧ o.xMost = 0 then op_checkPair o else 40 := by
  unfold op_CheckOp
  rw [if_neg (by omega), if_pos h]
  show (if _ then _ else _) = _
  simp only [op_ownPair, bnd]
  congr 1
  simp [eq_comm]
theorem co4 {o : OpD} (h : o.xKind = 4) : op_CheckOp o = if o.xKey = [] ∧ o.xValue = [] then op_checkScan o else 40 := by
  unfold op_CheckOp
  rw [if_neg (by omega), if_neg (by omega), if_neg (by omega), if_pos h]
  show (if _ then _ else _) = _
  simp only [op_ownScan, bnd]
  congr 1
  simp [eq_comm]
theorem co5 {o : OpD} (h : o.xKind = 5) : op_CheckOp o = if o.xKey = [] ∧ o.xValue = [] ∧ o.xMost = 0 then op_checkRange o else 40 := by
  unfold op_CheckOp
  rw [if_neg (by omega), if_neg (by omega), if_neg (by omega), if_neg (by omega), if_pos h]
  show (if _ then _ else _) = _
  simp only [op_ownRange, bnd]
  congr 1
  simp [eq_comm]
theorem co0 {o : OpD} (h : ¬ (1 ≤ o.xKind ∧ o.xKind ≤ 5)) : op_CheckOp o = 40 := by
  unfold op_CheckOp
  rw [if_neg (by omega), if_neg (by omega), if_neg (by omega), if_neg (by omega), if_neg (by omega)]
theorem co_eq (o : OpD) : op_CheckOp o = r04_CheckOp o := by
  by_cases h1 : o.xKind = 1 ∨ o.xKind = 3
  · rw [co1 h1]
    unfold r04_CheckOp
    simp only [bnd_eq]
    by_cases a : o.xLo = [] <;> by_cases b : o.xHi = [] <;> by_cases c : o.xValue = [] <;> by_cases d : o.xMost = 0 <;>
      rcases h1 with h1 | h1 <;> rcases ck_20 (k := o.xKey) with e | e <;> simp [a, b, c, d, h1, e, ← ck_eq]
  by_cases h2 : o.xKind = 2
  · rw [co2 h2, cp_eq]
    unfold r04_CheckOp
    simp only [bnd_eq]
    by_cases a : o.xLo = [] <;> by_cases b : o.xHi = [] <;> by_cases d : o.xMost = 0 <;>
      rcases ck_20 (k := o.xKey) with e | e <;> simp [a, b, d, h2, e, ← ck_eq]
  by_cases h4 : o.xKind = 4
  · rw [co4 h4, cs_eq]
    unfold r04_CheckOp
    simp only [bnd_eq]
    by_cases a : o.xKey = [] <;> by_cases b : o.xValue = [] <;>
      rcases sc_01 (r := RangeD.mk o.xLo o.xHi) with e | e <;> simp [a, b, h4, e, ← sc_eq]
  by_cases h5 : o.xKind = 5
  · rw [co5 h5, cr_eq]
    unfold r04_CheckOp
    simp only [bnd_eq]
    by_cases a : o.xKey = [] <;> by_cases b : o.xValue = [] <;> by_cases d : o.xMost = 0 <;>
      rcases sc_01 (r := RangeD.mk o.xLo o.xHi) with e | e <;> simp [a, b, d, h5, e, ← sc_eq]
  · rw [co0 (by omega)]
    unfold r04_CheckOp
    rw [if_neg (by omega), if_neg (by omega), if_neg (by omega), if_neg (by omega), if_neg (by omega)]
theorem wr_eq2 (o : OpD) : op_Writes o = r04_Writes o := by
  unfold op_Writes r04_Writes
  by_cases h1 : o.xKind = 1
  · simp [h1]
  · by_cases h2 : o.xKind = 2
    · simp [h2]
    · by_cases h3 : o.xKind = 3
      · simp [h3]
      · by_cases h4 : o.xKind = 4
        · simp [h4]
        · by_cases h5 : o.xKind = 5
          · simp [h5]
          · simp [h1, h2, h3, h4, h5]
theorem ce_eqL : ∀ l : List OpD, op_checkEach l = r04_All l
  | [] => rfl
  | x :: q => by
    have ih := ce_eqL q
    unfold op_checkEach r04_All at ih ⊢
    by_cases e : op_CheckOp x = 0
    · simp only [op_checkEach_L0, r04_All_L0, bnd_eq, if_pos e, ← co_eq]
      exact ih
    · simp only [op_checkEach_L0, r04_All_L0, bnd_eq, if_neg e, ← co_eq]
theorem oc_eq (l : List OpD) : op_Check l = r04_Check l := by
  unfold op_Check r04_Check
  simp only [bnd_eq, ce_eqL]
theorem ao_iff : ∀ l : List OpD, wire_allOps l = true ↔ r04_All l = 0
  | [] => by simp [wire_allOps, wire_allOps_L0, r04_All, r04_All_L0, lp]
  | x :: q => by
    have ih := ao_iff q
    unfold wire_allOps r04_All at ih ⊢
    by_cases e : op_CheckOp x = 0
    · simp only [wire_allOps_L0, r04_All_L0, bnd_eq, if_pos e, ← co_eq]
      exact ih
    · simp only [wire_allOps_L0, r04_All_L0, bnd_eq, if_neg e, ← co_eq, lp]
      simp [e]
theorem mp_eqL : ∀ l : List PairD, wire_mayResults_L1 l = r18_Results_L1 l
  | [] => rfl
  | x :: q => by
    simp only [wire_mayResults_L1, r18_Results_L1, ck_eq, mp_eqL q]
theorem mr_eqL : ∀ l : List ResultT, wire_mayResults_L0 l = r18_Results_L0 l
  | [] => rfl
  | x :: q => by
    simp only [wire_mayResults_L0, r18_Results_L0, mp_eqL, mr_eqL q]
theorem mr_eq (k : Int) (l : List ResultT) : wire_mayResults k l = r18_Results l (if k = 2 then 4 else 24) := by
  unfold wire_mayResults r18_Results
  rw [bnd_eq, mr_eqL]
  by_cases h : k = 2
  · rw [if_pos h, if_pos h]; rfl
  · rw [if_neg h, if_neg h]; rfl
end Go.Proofs.YtccjclalngabhaaGreat
