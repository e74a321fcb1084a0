/-
  The checks of buffers, and what entries say of a key: the program's are the reference's.
  Conditions: none beyond each law's own.
-/
import Derived.Test.YtblpdbnklopchaaBr
import Derived.Lib.Hide
import Derived.Test.YtblpdbnklopchaaSpanM
namespace Go.Proofs.Ytblpdbnklopchaa
set_option linter.unusedVariables false
set_option linter.unusedSimpArgs false
open Go.ChangeShapes
@[reducible] def Key : Type := List UInt8
theorem k_tr {a b c : Key} (h1 : a < b) (h2 : b < c) : a < c := List.lt_trans h1 h2
theorem k_nlt {a b : Key} : ¬ a < b ↔ b ≤ a := List.not_lt
theorem k_nle {a b : Key} : ¬ a ≤ b ↔ b < a := List.not_le
theorem bnd_eq {α β : Type} (x : α) (f : α → β) : bnd x f = f x := rfl
theorem k_irr (a : Key) : ¬ a < a := List.lt_irrefl a
theorem k_lt_le {a b : Key} (h : a < b) : a ≤ b := List.le_of_lt h
theorem k_tri (a b : Key) : a < b ∨ a = b ∨ b < a := by
  by_cases h1 : a < b
  · exact .inl h1
  · by_cases h2 : b < a
    · exact .inr (.inr h2)
    · exact .inr (.inl (List.le_antisymm (List.not_lt.1 h2) (List.not_lt.1 h1)))
def srt (m : List PairD) : Prop := m.Pairwise fun a b => a.xKey < b.xKey
def kok (k : Key) : Prop := 1 ≤ List.length k ∧ List.length k ≤ 12
def pok (p : PairD) : Prop := kok p.xKey ∧ List.length p.xValue ≤ 16
theorem ck_eq (k : Key) : span_CheckKey k = r02_CheckKey k := rfl
theorem ck_ok {k : Key} : span_CheckKey k = 0 ↔ kok k := by
  unfold span_CheckKey kok
  split
  · constructor <;> intro h <;> omega
  · split
    · constructor <;> intro h <;> omega
    · constructor <;> intro h <;> omega
theorem ck_20 {k : Key} : span_CheckKey k = 0 ∨ span_CheckKey k = 20 := by
  unfold span_CheckKey
  split
  · exact .inr rfl
  · split
    · exact .inr rfl
    · exact .inl rfl
theorem kK {k : Key} : kok k ↔ M.K k := Iff.rfl
theorem ne_len {k : Key} : k ≠ [] ↔ 1 ≤ k.length := by cases k <;> simp
theorem sc_R {r : RangeD} : span_Check r = 0 ↔ M.R r.xLo r.xHi := by
  have a := ck_ok (k := r.xLo); have b := ck_ok (k := r.xHi)
  have la := ne_len (k := r.xLo); have lb := ne_len (k := r.xHi)
  have nn := @k_nlt r.xLo r.xHi
  unfold span_Check M.R
  rw [← kK, ← kK]
  simp only [bnd]
  by_cases h1 : r.xLo = []
  · by_cases h2 : r.xHi = []
    · simp [h1, h2]
    · by_cases h3 : span_CheckKey r.xHi = 0
      · have z1 := M.nil_lt h2
        have z2 : ¬ r.xHi ≤ [] := fun q => k_nlt.2 q z1
        simp [h1, h2, h3, b.1 h3, z1, z2]
      · have h3' : ¬ kok r.xHi := fun q => h3 (b.2 q)
        simp [h1, h2, h3, h3']
  · by_cases h0 : span_CheckKey r.xLo = 0
    · by_cases h2 : r.xHi = []
      · simp [h1, h2, h0, a.1 h0]
      · by_cases h3 : span_CheckKey r.xHi = 0
        · by_cases h4 : r.xHi ≤ r.xLo
          · simp [h1, h2, h3, h0, h4, a.1 h0, b.1 h3]
          · simp [h1, h2, h3, h0, h4, a.1 h0, b.1 h3]; grind
        · have h3' : ¬ kok r.xHi := fun q => h3 (b.2 q)
          simp [h1, h2, h3, h0, h3']
    · have h0' : ¬ kok r.xLo := fun q => h0 (a.2 q)
      simp [h1, h0, h0']
theorem sc_01 {r : RangeD} : span_Check r = 0 ∨ span_Check r = 21 := by
  unfold span_Check; simp only [bnd]
  repeat' split
  all_goals first | exact .inl rfl | exact .inr rfl
theorem rc_R {r : RangeD} : r02_Check r = 0 ↔ M.R r.xLo r.xHi := by
  have la := ne_len (k := r.xLo); have lb := ne_len (k := r.xHi)
  have nn := @k_nlt r.xLo r.xHi
  have z1 : r.xHi ≠ [] → [] < r.xHi := M.nil_lt
  have z2 : r.xHi ≠ [] → ¬ r.xHi ≤ [] := fun h q => k_nlt.2 q (z1 h)
  unfold r02_Check M.R M.K
  by_cases h1 : r.xLo = [] <;> by_cases h2 : r.xHi = [] <;> by_cases h3 : ((List.length r.xLo : Nat) : Int) > 12 <;> by_cases h4 : ((List.length r.xHi : Nat) : Int) > 12 <;> by_cases h5 : r.xHi ≤ r.xLo <;> simp_all <;> grind
theorem rc_01 {r : RangeD} : r02_Check r = 0 ∨ r02_Check r = 21 := by
  unfold r02_Check
  repeat' split
  all_goals first | exact .inl rfl | exact .inr rfl
theorem sc_eq (r : RangeD) : span_Check r = r02_Check r := by
  have h := (sc_R (r := r)).trans rc_R.symm
  rcases sc_01 (r := r) with a | a <;> rcases rc_01 (r := r) with b | b <;> simp_all
theorem rh_H {r : RangeD} {k : Key} : r02_Has r k = true ↔ M.H r.xLo r.xHi k := by
  unfold r02_Has M.H M.B
  simp only [bnd]
  have a := rc_R (r := r); have b := ck_ok (k := k)
  rw [ck_eq, kK] at b
  rw [← a, ← b]
  by_cases h1 : r02_Check r = 0 <;> by_cases h2 : r02_CheckKey k = 0 <;> by_cases h3 : r.xLo ≤ k <;> by_cases h4 : r.xHi = [] <;> simp [h1, h2, h3, h4]
theorem cr_eq (o : OpD) : op_checkRange o = span_Check (RangeD.mk o.xLo o.xHi) := rfl
theorem cs_eq (o : OpD) : op_checkScan o = if span_Check (RangeD.mk o.xLo o.xHi) = 0 then (if o.xMost < 1 then 1 else if o.xMost > 4 then 1 else 0) else span_Check (RangeD.mk o.xLo o.xHi) := rfl
theorem cp_eq (o : OpD) : op_checkPair o = if span_CheckKey o.xKey = 0 then (if ((List.length o.xValue : Nat) : Int) > 16 then 2 else 0) else span_CheckKey o.xKey := rfl
theorem co1 {o : OpD} (h : o.xKind = 1 ∨ o.xKind = 3) : op_CheckOp o = if o.xValue = [] ∧ o.xLo = [] ∧ o.xHi = [] ∧ o.xMost = 0 then span_CheckKey o.xKey else 40 := by
  unfold op_CheckOp
  rcases h with h | h
  · rw [if_pos h]
    show (if _ then _ else _) = _
    simp only [op_ownKey, op_checkKey, bnd]
    congr 1
    simp [eq_comm]
  · rw [if_neg (by omega), if_neg (by omega), if_pos h]
    show (if _ then _ else _) = _
    simp only [op_ownKey, op_checkKey, bnd]
    congr 1
    simp [eq_comm]
theorem co2 {o : OpD} (h : o.xKind = 2) : op_CheckOp o = if o.xLo = [] ∧ o.xHi = [] ∧ o.xMost = 0 then op_checkPair o else 40 := by
  unfold op_CheckOp
  rw [if_neg (by omega), if_pos h]
  show (if _ then _ else _) = _
  simp only [op_ownPair, bnd]
  congr 1
  simp [eq_comm]
theorem co4 {o : OpD} (h : o.xKind = 4) : op_CheckOp o = if o.xKey = [] ∧ o.xValue = [] then op_checkScan o else 40 := by
  unfold op_CheckOp
  rw [if_neg (by omega), if_neg (by omega), if_neg (by omega), if_pos h]
  show (if _ then _ else _) = _
  simp only [op_ownScan, bnd]
  congr 1
  simp [eq_comm]
theorem co5 {o : OpD} (h : o.xKind = 5) : op_CheckOp o = if o.xKey = [] ∧ o.xValue = [] ∧ o.xMost = 0 then op_checkRange o else 40 := by
  unfold op_CheckOp
  rw [if_neg (by omega), if_neg (by omega), if_neg (by omega), if_neg (by omega), if_pos h]
  show (if _ then _ else _) = _
  simp only [op_ownRange, bnd]
  congr 1
  simp [eq_comm]
theorem co0 {o : OpD} (h : ¬ (1 ≤ o.xKind ∧ o.xKind ≤ 5)) : op_CheckOp o = 40 := by
  unfold op_CheckOp
  rw [if_neg (by omega), if_neg (by omega), if_neg (by omega), if_neg (by omega), if_neg (by omega)]
theorem co_eq (o : OpD) : op_CheckOp o = r04_CheckOp o := by
  by_cases h1 : o.xKind = 1 ∨ o.xKind = 3
  · rw [co1 h1]
    unfold r04_CheckOp
    simp only [bnd_eq]
    by_cases a : o.xLo = [] <;> by_cases b : o.xHi = [] <;> by_cases c : o.xValue = [] <;> by_cases d : o.xMost = 0 <;>
      rcases h1 with h1 | h1 <;> rcases ck_20 (k := o.xKey) with e | e <;> simp [a, b, c, d, h1, e, ← ck_eq]
  by_cases h2 : o.xKind = 2
  · rw [co2 h2, cp_eq]
    unfold r04_CheckOp
    simp only [bnd_eq]
    by_cases a : o.xLo = [] <;> by_cases b : o.xHi = [] <;> by_cases d : o.xMost = 0 <;>
      rcases ck_20 (k := o.xKey) with e | e <;> simp [a, b, d, h2, e, ← ck_eq]
  by_cases h4 : o.xKind = 4
  · rw [co4 h4, cs_eq]
    unfold r04_CheckOp
    simp only [bnd_eq]
    by_cases a : o.xKey = [] <;> by_cases b : o.xValue = [] <;>
      rcases sc_01 (r := RangeD.mk o.xLo o.xHi) with e | e <;> simp [a, b, h4, e, ← sc_eq]
  by_cases h5 : o.xKind = 5
  · rw [co5 h5, cr_eq]
    unfold r04_CheckOp
    simp only [bnd_eq]
    by_cases a : o.xKey = [] <;> by_cases b : o.xValue = [] <;> by_cases d : o.xMost = 0 <;>
      rcases sc_01 (r := RangeD.mk o.xLo o.xHi) with e | e <;> simp [a, b, d, h5, e, ← sc_eq]
  · rw [co0 (by omega)]
    unfold r04_CheckOp
    rw [if_neg (by omega), if_neg (by omega), if_neg (by omega), if_neg (by omega), if_neg (by omega)]
theorem wr_eq2 (o : OpD) : op_Writes o = r04_Writes o := by
  unfold op_Writes r04_Writes
  by_cases h1 : o.xKind = 1
  · simp [h1]
  · by_cases h2 : o.xKind = 2
    · simp [h2]
    · by_cases h3 : o.xKind = 3
      · simp [h3]
      · by_cases h4 : o.xKind = 4
        · simp [h4]
        · by_cases h5 : o.xKind = 5
          · simp [h5]
          · simp [h1, h2, h3, h4, h5]
theorem bc_L (l : List EntryD) : ∀ (q : List EntryD) (k : Nat), buffer_Check_L0 l q k = r12_Check_L0 l q k
  | [], _ => rfl
  | x :: q, k => by
    unfold buffer_Check_L0 r12_Check_L0
    simp only [bnd_eq, co_eq, wr_eq2, bc_L l q, ge_iff_le]
theorem bc_eq (l : List EntryD) : buffer_Check l = r12_Check l := by
  unfold buffer_Check r12_Check
  rw [bc_L]
theorem sh_eq (r : RangeD) (k : Key) : span_Has r k = r02_Has r k := by
  unfold span_Has r02_Has span_below
  simp only [bnd_eq, sc_eq, ck_eq]
theorem to_eq (o : OpD) (k : Key) : buffer_touches o k = r12_Touches o k := by
  unfold buffer_touches r12_Touches
  simp only [bnd_eq, sh_eq, buffer_rangeOf]
  by_cases h2 : o.xKind = 2
  · simp [h2]
  · by_cases h3 : o.xKind = 3
    · simp [h3]
    · by_cases h5 : o.xKind = 5
      · simp [h5]
      · simp [h2, h3, h5]
/-- What one entry says. -/
def says (x : EntryD) : List UInt8 × Bool × Bool := if x.xOp.xKind = 2 then (x.xOp.xValue, true, true) else ([], false, true)
theorem bf_one (k : Key) (x : EntryD) (q : List EntryD) : buffer_Find_L0 k (x :: q) = if r12_Touches x.xOp k = true then .inr (says x) else buffer_Find_L0 k q := by
  rw [buffer_Find_L0, bnd_eq, to_eq]
  unfold says
  by_cases h : r12_Touches x.xOp k = true
  · rw [if_pos h, if_pos h]
    by_cases h2 : x.xOp.xKind = 2
    · rw [if_pos h2, if_pos h2]
    · rw [if_neg h2, if_neg h2]
  · rw [if_neg h, if_neg h]
theorem bf_app (k : Key) (x : EntryD) : ∀ a : List EntryD, buffer_Find_L0 k (a ++ [x]) = match buffer_Find_L0 k a with
    | .inl _ => buffer_Find_L0 k [x]
    | .inr r => .inr r
  | [] => rfl
  | y :: a => by
    rw [List.cons_append, bf_one, bf_one]
    by_cases h : r12_Touches y.xOp k = true
    · rw [if_pos h, if_pos h]
    · rw [if_neg h, if_neg h]; exact bf_app k x a
theorem rf_one (k : Key) (x : EntryD) (q : List EntryD) (s : List UInt8) (b c : Bool) : r12_Find_L0 k (x :: q) s b c = if r12_Touches x.xOp k = true then r12_Find_L0 k q (says x).1 (says x).2.1 (says x).2.2 else r12_Find_L0 k q s b c := by
  rw [r12_Find_L0, bnd_eq]
  unfold says
  by_cases h : r12_Touches x.xOp k = true
  · rw [if_pos h, if_pos h]
    by_cases h2 : x.xOp.xKind = 2
    · rw [if_pos h2, if_pos h2, decide_eq_true h2]
    · rw [if_neg h2, if_neg h2, decide_eq_false h2]
  · rw [if_neg h, if_neg h]
theorem rf_L (k : Key) : ∀ (l : List EntryD) (s : List UInt8) (b c : Bool), r12_Find_L0 k l s b c = match buffer_Find_L0 k l.reverse with
    | .inl _ => (s, b, c)
    | .inr r => r
  | [], _, _, _ => rfl
  | x :: q, s, b, c => by
    rw [List.reverse_cons, bf_app, rf_one]
    by_cases h : r12_Touches x.xOp k = true
    · rw [if_pos h, rf_L k q, bf_one, if_pos h]
      cases buffer_Find_L0 k q.reverse <;> rfl
    · rw [if_neg h, rf_L k q, bf_one, if_neg h]
      cases buffer_Find_L0 k q.reverse <;> rfl
theorem fi_eq (l : List EntryD) (k : Key) : buffer_Find l k = r12_Find l k := by
  unfold buffer_Find r12_Find
  rw [bnd_eq, rf_L]
  cases buffer_Find_L0 k l.reverse <;> rfl
end Go.Proofs.Ytblpdbnklopchaa
