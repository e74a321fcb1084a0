/-
  Which messages may be: the program and the document's answer say the same.
  Conditions: numbers of 64 bits.
-/
import Derived.Test.YtccjclalngabhaaGreatWiM
import Derived.Test.YtccjclalngabhaaGreatWiC
namespace Go.Proofs.YtccjclalngabhaaGreat
set_option linter.unusedVariables false
set_option linter.unusedSimpArgs false
def Lets (l : List UInt8) : Prop := l.all (fun y => [113, 98, 116, 108, 118, 101, 109, 97, 110, 99, 112, 102, 114, 111, 115, 119].contains y) = true
theorem Lets.ip {c : Prop} [Decidable c] {a b : List UInt8} (ha : Lets a) (hb : Lets b) : Lets (if c then a else b) := by by_cases h : c <;> simp only [h, if_true, if_false] <;> assumption
theorem r18_all (k : Int) : Lets (r18_fields k) := by
  unfold r18_fields
  simp only [bnd_eq]
  repeat' apply Lets.ip
  all_goals rfl
theorem r18_let {k : Int} {l : List UInt8} (h : r18_fields k = l) {i : Nat} {x : UInt8} (hx : l[i]? = some x) : x.toNat = 113 ∨ x.toNat = 98 ∨ x.toNat = 116 ∨ x.toNat = 108 ∨ x.toNat = 118 ∨ x.toNat = 101 ∨ x.toNat = 109 ∨ x.toNat = 97 ∨ x.toNat = 110 ∨ x.toNat = 99 ∨ x.toNat = 112 ∨ x.toNat = 102 ∨ x.toNat = 114 ∨ x.toNat = 111 ∨ x.toNat = 115 ∨ x.toNat = 119 := by
  have a := List.all_eq_true.1 (r18_all k) x (h ▸ List.mem_of_getElem? hx)
  simp only [List.contains_eq_mem, List.mem_cons, List.not_mem_nil, or_false, decide_eq_true_eq] at a
  rcases a with rfl | rfl | rfl | rfl | rfl | rfl | rfl | rfl | rfl | rfl | rfl | rfl | rfl | rfl | rfl | rfl <;> decide
theorem wrapN (n : Nat) : Int.toNat (IntKind.u64.wrap ((n : Nat) : Int)) = n % 18446744073709551616 := by
  simp only [IntKind.wrap, IntKind.signed, IntKind.bits]; simp; omega
theorem bOr64_eq (a b : Nat) (ha : a < 18446744073709551616) (hb : b < 18446744073709551616) : bOr64 a b = a ||| b := by
  have h : a ||| b < 2 ^ 64 := Nat.or_lt_two_pow (by omega) (by omega)
  have e : (BitVec.ofInt 64 (a : Int) ||| BitVec.ofInt 64 (b : Int)).toNat = a ||| b := by
    rw [BitVec.toNat_or, BitVec.toNat_ofInt, BitVec.toNat_ofInt]
    rw [show ((a : Int) % ((2 ^ 64 : Nat) : Int)).toNat = a by omega, show ((b : Int) % ((2 ^ 64 : Nat) : Int)).toNat = b by omega]
  unfold bOr64
  rw [e, wrapN]
  omega
theorem or_z {a b : Nat} (ha : a ≤ 18446744073709551615) (hb : b ≤ 18446744073709551615) : bOr64 a b = 0 ↔ a = 0 ∧ b = 0 := by
  rw [bOr64_eq a b (by omega) (by omega), Nat.or_eq_zero_iff]
theorem s4 {p : Prop} [Decidable p] {r : Bool} : (if p then r else false) = true ↔ p ∧ r = true := by by_cases p <;> simp [*]
theorem bl_iff {m : MsgT} (hn : m.xReq ≤ 18446744073709551615 ∧ m.xBoot ≤ 18446744073709551615 ∧ m.xTxn ≤ 18446744073709551615 ∧ m.xLow ≤ 18446744073709551615 ∧ m.xVer ≤ 18446744073709551615 ∧ m.xEpoch ≤ 18446744073709551615 ∧ m.xMove ≤ 18446744073709551615 ∧ m.xAttempt ≤ 18446744073709551615 ∧ m.xN ≤ 18446744073709551615) : wire_blank m = true ↔ ((m.xReq = 0 ∧ m.xBoot = 0 ∧ m.xTxn = 0 ∧ m.xLow = 0 ∧ m.xVer = 0 ∧ m.xEpoch = 0 ∧ m.xMove = 0 ∧ m.xAttempt = 0 ∧ m.xN = 0) ∧ (m.xOps.ls = [] ∧ m.xResults.ls = [] ∧ m.xOwners.ls = []) ∧ m.xClient = 0 ∧ m.xCode = 0 ∧ m.xPeer = 0 ∧ m.xFlag = false ∧ m.xRange.xLo = [] ∧ m.xRange.xHi = []) := by
  unfold wire_blank
  rw [s4, s4, s4, s4, s4]
  obtain ⟨n1, n2, n3, n4, n5, n6, n7, n8, n9⟩ := hn
  have e : (((bOr64 (bOr64 (bOr64 (bOr64 (bOr64 (bOr64 (bOr64 (bOr64 m.xReq m.xBoot) m.xTxn) m.xLow) m.xVer) m.xEpoch) m.xMove) m.xAttempt) m.xN : Nat) : Int) = 0) ↔ m.xReq = 0 ∧ m.xBoot = 0 ∧ m.xTxn = 0 ∧ m.xLow = 0 ∧ m.xVer = 0 ∧ m.xEpoch = 0 ∧ m.xMove = 0 ∧ m.xAttempt = 0 ∧ m.xN = 0 := by
    rw [show ∀ z : Nat, ((z : Int) = 0) = (z = 0) from fun z => propext (by omega)]
    rw [or_z (bOr64_le _ _) (by omega), or_z (bOr64_le _ _) (by omega), or_z (bOr64_le _ _) (by omega), or_z (bOr64_le _ _) (by omega), or_z (bOr64_le _ _) (by omega), or_z (bOr64_le _ _) (by omega), or_z (bOr64_le _ _) (by omega), or_z (by omega) (by omega)]
    simp only [and_assoc]
  rw [e]
  have e2 : (((m.xOps.ls.length + m.xResults.ls.length) + m.xOwners.ls.length : Nat) : Int) = 0 ↔ m.xOps.ls = [] ∧ m.xResults.ls = [] ∧ m.xOwners.ls = [] := by
    constructor
    · intro h
      exact ⟨List.eq_nil_of_length_eq_zero (by omega), List.eq_nil_of_length_eq_zero (by omega), List.eq_nil_of_length_eq_zero (by omega)⟩
    · rintro ⟨h1, h2, h3⟩
      rw [h1, h2, h3]; rfl
  rw [e2]
  cases hf : m.xFlag <;> simp
theorem s1 {h : Bool} {x : Nat} {r : Bool} : (if (if h = true then false else decide (¬ ((x : Nat) : Int) = 0)) = true then false else r) = true ↔ (h = true ∨ x = 0) ∧ r = true := by
  cases h
  · by_cases e : x = 0
    · subst e; simp
    · have : ¬ ((x : Nat) : Int) = 0 := by omega
      simp [e, this]
  · simp
theorem s2 {e h d : Bool} : (if e = true then (if h = true then true else d) else false) = true ↔ e = true ∧ (h = true ∨ d = true) := by cases e <;> cases h <;> simp
theorem s3 {p : Prop} [Decidable p] {h d : Bool} : (if p then (if h = true then true else d) else false) = true ↔ p ∧ (h = true ∨ d = true) := by by_cases p <;> cases h <;> simp [*]
theorem z_iff (m : MsgT) : r18_zero m = true ↔ (r18_has m.xKind 113 = true ∨ m.xReq = 0) ∧ (r18_has m.xKind 98 = true ∨ m.xBoot = 0) ∧ (r18_has m.xKind 116 = true ∨ m.xTxn = 0) ∧ (r18_has m.xKind 108 = true ∨ m.xLow = 0) ∧ (r18_has m.xKind 118 = true ∨ m.xVer = 0) ∧ (r18_has m.xKind 101 = true ∨ m.xEpoch = 0) ∧ (r18_has m.xKind 109 = true ∨ m.xMove = 0) ∧ (r18_has m.xKind 97 = true ∨ m.xAttempt = 0) ∧ (r18_has m.xKind 110 = true ∨ m.xN = 0) ∧ m.xClient = 0 ∧ (r18_has m.xKind 99 = true ∨ m.xCode = 0) ∧ (r18_has m.xKind 112 = true ∨ m.xPeer = 0) ∧ (r18_has m.xKind 102 = true ∨ m.xFlag = false) ∧ (r18_has m.xKind 114 = true ∨ (m.xRange.xLo = [] ∧ m.xRange.xHi = [])) ∧ (r18_has m.xKind 111 = true ∨ m.xOps.ls = []) ∧ (r18_has m.xKind 115 = true ∨ m.xResults.ls = []) ∧ (r18_has m.xKind 119 = true ∨ m.xOwners.ls = []) := by
  unfold r18_zero
  simp only [bnd_eq]
  rw [s1, s1, s1, s1, s1, s1, s1, s1, s1, s2, s2, s2, s2, s2, s2, s3]
  have l0 : ∀ {α : Type} (l : List α), decide (((List.length l : Nat) : Int) = 0) = true ↔ l = [] := fun l => by
    rw [decide_eq_true_eq]
    constructor
    · intro h; exact List.eq_nil_of_length_eq_zero (by omega)
    · rintro rfl; rfl
  simp only [l0, decide_eq_true_eq, Bool.not_eq_true', and_assoc]
theorem i1 {a b : Prop} [Decidable a] [Decidable b] : (if a then (if b then (0 : Int) else 180) else 180) = if a ∧ b then 0 else 180 := by by_cases a <;> simp [*]
theorem i2 {a p q : Prop} [Decidable a] [Decidable p] [Decidable q] : (if a then (if p then (0 : Int) else 180) else (if q then 0 else 180)) = if (a ∧ p) ∨ (¬ a ∧ q) then 0 else 180 := by by_cases a <;> simp [*]
theorem i3 {a : Prop} [Decidable a] : (if a then (180 : Int) else 0) = if ¬ a then 0 else 180 := by by_cases a <;> simp [*]
theorem i4 {a b : Prop} [Decidable a] [Decidable b] (h : a ↔ b) : (if a then (0 : Int) else 180) = if b then 0 else 180 := by by_cases b <;> simp [*]
theorem i5 {a b : Prop} [Decidable a] [Decidable b] : (if a then (180 : Int) else (if b then 0 else 180)) = if ¬ a ∧ b then 0 else 180 := by by_cases a <;> simp [*]
theorem ro0 (n : Int) : wire_role_is 0 n = true ↔ n = 0 := by unfold wire_role_is; simp
theorem ro1 (n : Int) : wire_role_is 1 n = true ↔ 1 ≤ n ∧ n ≤ 4 := by unfold wire_role_is; simp
theorem ro2 (n : Int) : wire_role_is 2 n = true ↔ 11 ≤ n ∧ n ≤ 14 := by
  unfold wire_role_is
  simp
  intro _
  omega
theorem rs1 (n : Int) : r18_shard n = true ↔ 1 ≤ n ∧ n ≤ 4 := by unfold r18_shard; simp
theorem rc1 (n : Int) : r18_client n = true ↔ 11 ≤ n ∧ n ≤ 14 := by unfold r18_client; simp
theorem chl (l : List OpD) : ∀ (b : Bool), r18_Check_L0 l b = true ↔ b = true ∧ ∀ x ∈ l, r04_Writes x = true := by
  induction l with
  | nil => intro b; simp [r18_Check_L0]
  | cons y q ih =>
    intro b
    cases b
    · have := ih false
      simp only [r18_Check_L0, bnd_eq] at this ⊢
      simp [this]
    · simp only [r18_Check_L0, bnd_eq]
      have := ih (r04_Writes y)
      simp [this]
theorem aw_iff : ∀ l : List OpD, wire_allOpsx l = true ↔ r04_All l = 0 ∧ ∀ x ∈ l, r04_Writes x = true
  | [] => by simp [wire_allOpsx, wire_allOpsx_L0, r04_All, r04_All_L0, lp]
  | x :: q => by
    have ih := aw_iff q
    unfold wire_allOpsx r04_All at ih ⊢
    have w := wr_eq2 x
    by_cases f : op_Writes x = true
    · by_cases e : op_CheckOp x = 0
      · have c : wire_checkWrite x = 0 := by unfold wire_checkWrite; simp [bnd_eq, f, e]
        simp only [wire_allOpsx_L0, r04_All_L0, bnd_eq, if_pos c, if_pos e, ← co_eq]
        rw [ih]
        simp [← w, f]
      · have c : ¬ wire_checkWrite x = 0 := by unfold wire_checkWrite; simp [bnd_eq, f, e]
        simp only [wire_allOpsx_L0, r04_All_L0, bnd_eq, if_neg c, if_neg e, ← co_eq, lp]
        simp [e]
    · have c : ¬ wire_checkWrite x = 0 := by unfold wire_checkWrite; simp [bnd_eq, f]
      simp only [wire_allOpsx_L0, bnd_eq, if_neg c, lp]
      simp [← w, f]
theorem ck_lo {m : MsgT} (h : ¬ (1 ≤ m.xKind ∧ m.xKind ≤ 14)) : wire_Check m = r18_Check m := by
  have f : r18_fields m.xKind = [] := by
    unfold r18_fields
    simp only [bnd_eq]
    rw [if_neg (by omega), if_neg (by omega), if_neg (by omega), if_neg (by omega), if_neg (by omega), if_neg (by rw [if_neg (by omega)]; intro q; have := of_decide_eq_true q; omega), if_neg (by omega), if_neg (by omega), if_neg (by omega), if_neg (by omega), if_neg (by omega), if_neg (by omega), if_neg (by omega)]
  have R : r18_Check m = 180 := by
    unfold r18_Check
    rw [bnd_eq, f]
    exact if_pos rfl
  rw [R]
  rw [check_A]; unfold wire_CheckA
  by_cases a : m.xKind ≤ 0
  · rw [if_pos a]
  · rw [if_neg a, if_pos (by omega)]
set_option maxHeartbeats 4000000 in
set_option maxRecDepth 100000 in
theorem kd_1 {m : MsgT} (hk : m.xKind = 1) (hn : m.xReq ≤ 18446744073709551615 ∧ m.xBoot ≤ 18446744073709551615 ∧ m.xTxn ≤ 18446744073709551615 ∧ m.xLow ≤ 18446744073709551615 ∧ m.xVer ≤ 18446744073709551615 ∧ m.xEpoch ≤ 18446744073709551615 ∧ m.xMove ≤ 18446744073709551615 ∧ m.xAttempt ≤ 18446744073709551615 ∧ m.xN ≤ 18446744073709551615) : wire_Check m = r18_Check m := by
  have z := z_iff m
  rw [hk] at z
  have hq : r18_has 1 113 = true := by decide +kernel
  have hb : r18_has 1 98 = true := by decide +kernel
  have ht : r18_has 1 116 = false := by decide +kernel
  have hl : r18_has 1 108 = false := by decide +kernel
  have hv : r18_has 1 118 = false := by decide +kernel
  have he : r18_has 1 101 = false := by decide +kernel
  have hm : r18_has 1 109 = false := by decide +kernel
  have ha : r18_has 1 97 = false := by decide +kernel
  have hn : r18_has 1 110 = false := by decide +kernel
  have hc : r18_has 1 99 = false := by decide +kernel
  have hp : r18_has 1 112 = false := by decide +kernel
  have hf : r18_has 1 102 = false := by decide +kernel
  have hr : r18_has 1 114 = false := by decide +kernel
  have ho : r18_has 1 111 = true := by decide +kernel
  have hs : r18_has 1 115 = false := by decide +kernel
  have hw : r18_has 1 119 = false := by decide +kernel
  simp only [hq, hb, ht, hl, hv, he, hm, ha, hn, hc, hp, hf, hr, ho, hs, hw, true_or, false_or, true_and, and_true, Bool.false_eq_true] at z
  rw [check_A]; unfold wire_CheckA r18_Check r18_nodes
  rw [if_neg (show ¬ m.xKind ≤ 0 by omega), if_neg (show ¬ m.xKind ≥ 15 by omega), Int.toNat_of_nonneg (show 0 ≤ m.xKind by omega), hk]
  rw [show r18_fields 1 = [113, 98, 111] from rfl]
  simp only [Int.reduceEq, ↓reduceIte, bnd_eq, decide_true, decide_false, Bool.false_eq_true, reduceCtorEq, i1, i2, i3, i5, oc_eq, chk_eq, decide_eq_true_eq, Bool.and_eq_true]
  refine i4 ?_
  rw [am_L]
  simp only [List.mem_cons, List.not_mem_nil, or_false, forall_eq_or_imp, forall_eq, wire_may, bnd_eq, Int.reduceEq, ↓reduceIte, s4, ro0, ro1, ro2, rs1, rc1, z, hk, wire_mayCode, wire_mayOps, mr_eq, oc_eq, ao_iff, aw_iff, chk_eq, sc_eq, chl, decide_eq_true_eq, true_and, and_true]
  rw [bl_iff (by obtain ⟨n1, n2, n3, n4, n5, n6, n7, n8, n9⟩ := hn; refine ⟨?_, ?_, ?_, ?_, ?_, ?_, ?_, ?_, ?_⟩ <;> dsimp only <;> omega)]
  simp only [true_and, and_true]
  try constructor <;> intro h <;> simp_all
set_option maxHeartbeats 4000000 in
set_option maxRecDepth 100000 in
theorem kd_2 {m : MsgT} (hk : m.xKind = 2) (hn : m.xReq ≤ 18446744073709551615 ∧ m.xBoot ≤ 18446744073709551615 ∧ m.xTxn ≤ 18446744073709551615 ∧ m.xLow ≤ 18446744073709551615 ∧ m.xVer ≤ 18446744073709551615 ∧ m.xEpoch ≤ 18446744073709551615 ∧ m.xMove ≤ 18446744073709551615 ∧ m.xAttempt ≤ 18446744073709551615 ∧ m.xN ≤ 18446744073709551615) : wire_Check m = r18_Check m := by
  have z := z_iff m
  rw [hk] at z
  have hq : r18_has 2 113 = true := by decide +kernel
  have hb : r18_has 2 98 = true := by decide +kernel
  have ht : r18_has 2 116 = false := by decide +kernel
  have hl : r18_has 2 108 = false := by decide +kernel
  have hv : r18_has 2 118 = false := by decide +kernel
  have he : r18_has 2 101 = false := by decide +kernel
  have hm : r18_has 2 109 = false := by decide +kernel
  have ha : r18_has 2 97 = false := by decide +kernel
  have hn : r18_has 2 110 = false := by decide +kernel
  have hc : r18_has 2 99 = true := by decide +kernel
  have hp : r18_has 2 112 = false := by decide +kernel
  have hf : r18_has 2 102 = false := by decide +kernel
  have hr : r18_has 2 114 = false := by decide +kernel
  have ho : r18_has 2 111 = false := by decide +kernel
  have hs : r18_has 2 115 = true := by decide +kernel
  have hw : r18_has 2 119 = false := by decide +kernel
  simp only [hq, hb, ht, hl, hv, he, hm, ha, hn, hc, hp, hf, hr, ho, hs, hw, true_or, false_or, true_and, and_true, Bool.false_eq_true] at z
  rw [check_A]; unfold wire_CheckA r18_Check r18_nodes
  rw [if_neg (show ¬ m.xKind ≤ 0 by omega), if_neg (show ¬ m.xKind ≥ 15 by omega), Int.toNat_of_nonneg (show 0 ≤ m.xKind by omega), hk]
  rw [show r18_fields 2 = [113, 98, 99, 115] from rfl]
  simp only [Int.reduceEq, ↓reduceIte, bnd_eq, decide_true, decide_false, Bool.false_eq_true, reduceCtorEq, i1, i2, i3, i5, oc_eq, chk_eq, decide_eq_true_eq, Bool.and_eq_true]
  refine i4 ?_
  rw [am_L]
  simp only [List.mem_cons, List.not_mem_nil, or_false, forall_eq_or_imp, forall_eq, wire_may, bnd_eq, Int.reduceEq, ↓reduceIte, s4, ro0, ro1, ro2, rs1, rc1, z, hk, wire_mayCode, wire_mayOps, mr_eq, oc_eq, ao_iff, aw_iff, chk_eq, sc_eq, chl, decide_eq_true_eq, true_and, and_true]
  rw [bl_iff (by obtain ⟨n1, n2, n3, n4, n5, n6, n7, n8, n9⟩ := hn; refine ⟨?_, ?_, ?_, ?_, ?_, ?_, ?_, ?_, ?_⟩ <;> dsimp only <;> omega)]
  simp only [true_and, and_true]
  constructor <;> intro h <;> (by_cases c1 : m.xCode = 1 <;> by_cases c2 : m.xCode = 2 <;> simp_all)
set_option maxHeartbeats 4000000 in
set_option maxRecDepth 100000 in
theorem kd_3 {m : MsgT} (hk : m.xKind = 3) (hn : m.xReq ≤ 18446744073709551615 ∧ m.xBoot ≤ 18446744073709551615 ∧ m.xTxn ≤ 18446744073709551615 ∧ m.xLow ≤ 18446744073709551615 ∧ m.xVer ≤ 18446744073709551615 ∧ m.xEpoch ≤ 18446744073709551615 ∧ m.xMove ≤ 18446744073709551615 ∧ m.xAttempt ≤ 18446744073709551615 ∧ m.xN ≤ 18446744073709551615) : wire_Check m = r18_Check m := by
  have z := z_iff m
  rw [hk] at z
  have hq : r18_has 3 113 = false := by decide +kernel
  have hb : r18_has 3 98 = false := by decide +kernel
  have ht : r18_has 3 116 = true := by decide +kernel
  have hl : r18_has 3 108 = true := by decide +kernel
  have hv : r18_has 3 118 = false := by decide +kernel
  have he : r18_has 3 101 = true := by decide +kernel
  have hm : r18_has 3 109 = false := by decide +kernel
  have ha : r18_has 3 97 = false := by decide +kernel
  have hn : r18_has 3 110 = false := by decide +kernel
  have hc : r18_has 3 99 = false := by decide +kernel
  have hp : r18_has 3 112 = false := by decide +kernel
  have hf : r18_has 3 102 = false := by decide +kernel
  have hr : r18_has 3 114 = false := by decide +kernel
  have ho : r18_has 3 111 = true := by decide +kernel
  have hs : r18_has 3 115 = false := by decide +kernel
  have hw : r18_has 3 119 = false := by decide +kernel
  simp only [hq, hb, ht, hl, hv, he, hm, ha, hn, hc, hp, hf, hr, ho, hs, hw, true_or, false_or, true_and, and_true, Bool.false_eq_true] at z
  rw [check_A]; unfold wire_CheckA r18_Check r18_nodes
  rw [if_neg (show ¬ m.xKind ≤ 0 by omega), if_neg (show ¬ m.xKind ≥ 15 by omega), Int.toNat_of_nonneg (show 0 ≤ m.xKind by omega), hk]
  rw [show r18_fields 3 = [116, 108, 101, 111] from rfl]
  simp only [Int.reduceEq, ↓reduceIte, bnd_eq, decide_true, decide_false, Bool.false_eq_true, reduceCtorEq, i1, i2, i3, i5, oc_eq, chk_eq, decide_eq_true_eq, Bool.and_eq_true]
  refine i4 ?_
  rw [am_L]
  simp only [List.mem_cons, List.not_mem_nil, or_false, forall_eq_or_imp, forall_eq, wire_may, bnd_eq, Int.reduceEq, ↓reduceIte, s4, ro0, ro1, ro2, rs1, rc1, z, hk, wire_mayCode, wire_mayOps, mr_eq, oc_eq, ao_iff, aw_iff, chk_eq, sc_eq, chl, decide_eq_true_eq, true_and, and_true]
  rw [bl_iff (by obtain ⟨n1, n2, n3, n4, n5, n6, n7, n8, n9⟩ := hn; refine ⟨?_, ?_, ?_, ?_, ?_, ?_, ?_, ?_, ?_⟩ <;> dsimp only <;> omega)]
  simp only [true_and, and_true]
  try constructor <;> intro h <;> simp_all
set_option maxHeartbeats 4000000 in
set_option maxRecDepth 100000 in
theorem kd_4 {m : MsgT} (hk : m.xKind = 4) (hn : m.xReq ≤ 18446744073709551615 ∧ m.xBoot ≤ 18446744073709551615 ∧ m.xTxn ≤ 18446744073709551615 ∧ m.xLow ≤ 18446744073709551615 ∧ m.xVer ≤ 18446744073709551615 ∧ m.xEpoch ≤ 18446744073709551615 ∧ m.xMove ≤ 18446744073709551615 ∧ m.xAttempt ≤ 18446744073709551615 ∧ m.xN ≤ 18446744073709551615) : wire_Check m = r18_Check m := by
  have z := z_iff m
  rw [hk] at z
  have hq : r18_has 4 113 = false := by decide +kernel
  have hb : r18_has 4 98 = false := by decide +kernel
  have ht : r18_has 4 116 = true := by decide +kernel
  have hl : r18_has 4 108 = false := by decide +kernel
  have hv : r18_has 4 118 = false := by decide +kernel
  have he : r18_has 4 101 = false := by decide +kernel
  have hm : r18_has 4 109 = false := by decide +kernel
  have ha : r18_has 4 97 = false := by decide +kernel
  have hn : r18_has 4 110 = false := by decide +kernel
  have hc : r18_has 4 99 = true := by decide +kernel
  have hp : r18_has 4 112 = false := by decide +kernel
  have hf : r18_has 4 102 = false := by decide +kernel
  have hr : r18_has 4 114 = false := by decide +kernel
  have ho : r18_has 4 111 = false := by decide +kernel
  have hs : r18_has 4 115 = true := by decide +kernel
  have hw : r18_has 4 119 = false := by decide +kernel
  simp only [hq, hb, ht, hl, hv, he, hm, ha, hn, hc, hp, hf, hr, ho, hs, hw, true_or, false_or, true_and, and_true, Bool.false_eq_true] at z
  rw [check_A]; unfold wire_CheckA r18_Check r18_nodes
  rw [if_neg (show ¬ m.xKind ≤ 0 by omega), if_neg (show ¬ m.xKind ≥ 15 by omega), Int.toNat_of_nonneg (show 0 ≤ m.xKind by omega), hk]
  rw [show r18_fields 4 = [116, 99, 115] from rfl]
  simp only [Int.reduceEq, ↓reduceIte, bnd_eq, decide_true, decide_false, Bool.false_eq_true, reduceCtorEq, i1, i2, i3, i5, oc_eq, chk_eq, decide_eq_true_eq, Bool.and_eq_true]
  refine i4 ?_
  rw [am_L]
  simp only [List.mem_cons, List.not_mem_nil, or_false, forall_eq_or_imp, forall_eq, wire_may, bnd_eq, Int.reduceEq, ↓reduceIte, s4, ro0, ro1, ro2, rs1, rc1, z, hk, wire_mayCode, wire_mayOps, mr_eq, oc_eq, ao_iff, aw_iff, chk_eq, sc_eq, chl, decide_eq_true_eq, true_and, and_true]
  rw [bl_iff (by obtain ⟨n1, n2, n3, n4, n5, n6, n7, n8, n9⟩ := hn; refine ⟨?_, ?_, ?_, ?_, ?_, ?_, ?_, ?_, ?_⟩ <;> dsimp only <;> omega)]
  simp only [true_and, and_true]
  constructor <;> intro h <;> (by_cases c3 : m.xCode = 3 <;> by_cases c4 : m.xCode = 4 <;> by_cases c5 : m.xCode = 5 <;> simp_all)
set_option maxHeartbeats 4000000 in
set_option maxRecDepth 100000 in
theorem kd_5 {m : MsgT} (hk : m.xKind = 5) (hn : m.xReq ≤ 18446744073709551615 ∧ m.xBoot ≤ 18446744073709551615 ∧ m.xTxn ≤ 18446744073709551615 ∧ m.xLow ≤ 18446744073709551615 ∧ m.xVer ≤ 18446744073709551615 ∧ m.xEpoch ≤ 18446744073709551615 ∧ m.xMove ≤ 18446744073709551615 ∧ m.xAttempt ≤ 18446744073709551615 ∧ m.xN ≤ 18446744073709551615) : wire_Check m = r18_Check m := by
  have z := z_iff m
  rw [hk] at z
  have hq : r18_has 5 113 = false := by decide +kernel
  have hb : r18_has 5 98 = false := by decide +kernel
  have ht : r18_has 5 116 = true := by decide +kernel
  have hl : r18_has 5 108 = false := by decide +kernel
  have hv : r18_has 5 118 = false := by decide +kernel
  have he : r18_has 5 101 = false := by decide +kernel
  have hm : r18_has 5 109 = false := by decide +kernel
  have ha : r18_has 5 97 = false := by decide +kernel
  have hn : r18_has 5 110 = false := by decide +kernel
  have hc : r18_has 5 99 = false := by decide +kernel
  have hp : r18_has 5 112 = false := by decide +kernel
  have hf : r18_has 5 102 = true := by decide +kernel
  have hr : r18_has 5 114 = false := by decide +kernel
  have ho : r18_has 5 111 = false := by decide +kernel
  have hs : r18_has 5 115 = false := by decide +kernel
  have hw : r18_has 5 119 = false := by decide +kernel
  simp only [hq, hb, ht, hl, hv, he, hm, ha, hn, hc, hp, hf, hr, ho, hs, hw, true_or, false_or, true_and, and_true, Bool.false_eq_true] at z
  rw [check_A]; unfold wire_CheckA r18_Check r18_nodes
  rw [if_neg (show ¬ m.xKind ≤ 0 by omega), if_neg (show ¬ m.xKind ≥ 15 by omega), Int.toNat_of_nonneg (show 0 ≤ m.xKind by omega), hk]
  rw [show r18_fields 5 = [116, 102] from rfl]
  simp only [Int.reduceEq, ↓reduceIte, bnd_eq, decide_true, decide_false, Bool.false_eq_true, reduceCtorEq, i1, i2, i3, i5, oc_eq, chk_eq, decide_eq_true_eq, Bool.and_eq_true]
  refine i4 ?_
  rw [am_L]
  simp only [List.mem_cons, List.not_mem_nil, or_false, forall_eq_or_imp, forall_eq, wire_may, bnd_eq, Int.reduceEq, ↓reduceIte, s4, ro0, ro1, ro2, rs1, rc1, z, hk, wire_mayCode, wire_mayOps, mr_eq, oc_eq, ao_iff, aw_iff, chk_eq, sc_eq, chl, decide_eq_true_eq, true_and, and_true]
  rw [bl_iff (by obtain ⟨n1, n2, n3, n4, n5, n6, n7, n8, n9⟩ := hn; refine ⟨?_, ?_, ?_, ?_, ?_, ?_, ?_, ?_, ?_⟩ <;> dsimp only <;> omega)]
  simp only [true_and, and_true]
  try constructor <;> intro h <;> simp_all
set_option maxHeartbeats 4000000 in
set_option maxRecDepth 100000 in
theorem kd_6 {m : MsgT} (hk : m.xKind = 6) (hn : m.xReq ≤ 18446744073709551615 ∧ m.xBoot ≤ 18446744073709551615 ∧ m.xTxn ≤ 18446744073709551615 ∧ m.xLow ≤ 18446744073709551615 ∧ m.xVer ≤ 18446744073709551615 ∧ m.xEpoch ≤ 18446744073709551615 ∧ m.xMove ≤ 18446744073709551615 ∧ m.xAttempt ≤ 18446744073709551615 ∧ m.xN ≤ 18446744073709551615) : wire_Check m = r18_Check m := by
  have z := z_iff m
  rw [hk] at z
  have hq : r18_has 6 113 = false := by decide +kernel
  have hb : r18_has 6 98 = false := by decide +kernel
  have ht : r18_has 6 116 = true := by decide +kernel
  have hl : r18_has 6 108 = false := by decide +kernel
  have hv : r18_has 6 118 = false := by decide +kernel
  have he : r18_has 6 101 = false := by decide +kernel
  have hm : r18_has 6 109 = false := by decide +kernel
  have ha : r18_has 6 97 = false := by decide +kernel
  have hn : r18_has 6 110 = false := by decide +kernel
  have hc : r18_has 6 99 = false := by decide +kernel
  have hp : r18_has 6 112 = false := by decide +kernel
  have hf : r18_has 6 102 = false := by decide +kernel
  have hr : r18_has 6 114 = false := by decide +kernel
  have ho : r18_has 6 111 = false := by decide +kernel
  have hs : r18_has 6 115 = false := by decide +kernel
  have hw : r18_has 6 119 = false := by decide +kernel
  simp only [hq, hb, ht, hl, hv, he, hm, ha, hn, hc, hp, hf, hr, ho, hs, hw, true_or, false_or, true_and, and_true, Bool.false_eq_true] at z
  rw [check_A]; unfold wire_CheckA r18_Check r18_nodes
  rw [if_neg (show ¬ m.xKind ≤ 0 by omega), if_neg (show ¬ m.xKind ≥ 15 by omega), Int.toNat_of_nonneg (show 0 ≤ m.xKind by omega), hk]
  rw [show r18_fields 6 = [116] from rfl]
  simp only [Int.reduceEq, ↓reduceIte, bnd_eq, decide_true, decide_false, Bool.false_eq_true, reduceCtorEq, i1, i2, i3, i5, oc_eq, chk_eq, decide_eq_true_eq, Bool.and_eq_true]
  refine i4 ?_
  rw [am_L]
  simp only [List.mem_cons, List.not_mem_nil, or_false, forall_eq_or_imp, forall_eq, wire_may, bnd_eq, Int.reduceEq, ↓reduceIte, s4, ro0, ro1, ro2, rs1, rc1, z, hk, wire_mayCode, wire_mayOps, mr_eq, oc_eq, ao_iff, aw_iff, chk_eq, sc_eq, chl, decide_eq_true_eq, true_and, and_true]
  rw [bl_iff (by obtain ⟨n1, n2, n3, n4, n5, n6, n7, n8, n9⟩ := hn; refine ⟨?_, ?_, ?_, ?_, ?_, ?_, ?_, ?_, ?_⟩ <;> dsimp only <;> omega)]
  simp only [true_and, and_true]
  try constructor <;> intro h <;> simp_all
set_option maxHeartbeats 4000000 in
set_option maxRecDepth 100000 in
theorem kd_7 {m : MsgT} (hk : m.xKind = 7) (hn : m.xReq ≤ 18446744073709551615 ∧ m.xBoot ≤ 18446744073709551615 ∧ m.xTxn ≤ 18446744073709551615 ∧ m.xLow ≤ 18446744073709551615 ∧ m.xVer ≤ 18446744073709551615 ∧ m.xEpoch ≤ 18446744073709551615 ∧ m.xMove ≤ 18446744073709551615 ∧ m.xAttempt ≤ 18446744073709551615 ∧ m.xN ≤ 18446744073709551615) : wire_Check m = r18_Check m := by
  have z := z_iff m
  rw [hk] at z
  have hq : r18_has 7 113 = false := by decide +kernel
  have hb : r18_has 7 98 = false := by decide +kernel
  have ht : r18_has 7 116 = true := by decide +kernel
  have hl : r18_has 7 108 = false := by decide +kernel
  have hv : r18_has 7 118 = false := by decide +kernel
  have he : r18_has 7 101 = false := by decide +kernel
  have hm : r18_has 7 109 = false := by decide +kernel
  have ha : r18_has 7 97 = false := by decide +kernel
  have hn : r18_has 7 110 = false := by decide +kernel
  have hc : r18_has 7 99 = false := by decide +kernel
  have hp : r18_has 7 112 = false := by decide +kernel
  have hf : r18_has 7 102 = false := by decide +kernel
  have hr : r18_has 7 114 = false := by decide +kernel
  have ho : r18_has 7 111 = false := by decide +kernel
  have hs : r18_has 7 115 = false := by decide +kernel
  have hw : r18_has 7 119 = false := by decide +kernel
  simp only [hq, hb, ht, hl, hv, he, hm, ha, hn, hc, hp, hf, hr, ho, hs, hw, true_or, false_or, true_and, and_true, Bool.false_eq_true] at z
  rw [check_A]; unfold wire_CheckA r18_Check r18_nodes
  rw [if_neg (show ¬ m.xKind ≤ 0 by omega), if_neg (show ¬ m.xKind ≥ 15 by omega), Int.toNat_of_nonneg (show 0 ≤ m.xKind by omega), hk]
  rw [show r18_fields 7 = [116] from rfl]
  simp only [Int.reduceEq, ↓reduceIte, bnd_eq, decide_true, decide_false, Bool.false_eq_true, reduceCtorEq, i1, i2, i3, i5, oc_eq, chk_eq, decide_eq_true_eq, Bool.and_eq_true]
  refine i4 ?_
  rw [am_L]
  simp only [List.mem_cons, List.not_mem_nil, or_false, forall_eq_or_imp, forall_eq, wire_may, bnd_eq, Int.reduceEq, ↓reduceIte, s4, ro0, ro1, ro2, rs1, rc1, z, hk, wire_mayCode, wire_mayOps, mr_eq, oc_eq, ao_iff, aw_iff, chk_eq, sc_eq, chl, decide_eq_true_eq, true_and, and_true]
  rw [bl_iff (by obtain ⟨n1, n2, n3, n4, n5, n6, n7, n8, n9⟩ := hn; refine ⟨?_, ?_, ?_, ?_, ?_, ?_, ?_, ?_, ?_⟩ <;> dsimp only <;> omega)]
  simp only [true_and, and_true]
  try constructor <;> intro h <;> simp_all
set_option maxHeartbeats 4000000 in
set_option maxRecDepth 100000 in
theorem kd_8 {m : MsgT} (hk : m.xKind = 8) (hn : m.xReq ≤ 18446744073709551615 ∧ m.xBoot ≤ 18446744073709551615 ∧ m.xTxn ≤ 18446744073709551615 ∧ m.xLow ≤ 18446744073709551615 ∧ m.xVer ≤ 18446744073709551615 ∧ m.xEpoch ≤ 18446744073709551615 ∧ m.xMove ≤ 18446744073709551615 ∧ m.xAttempt ≤ 18446744073709551615 ∧ m.xN ≤ 18446744073709551615) : wire_Check m = r18_Check m := by
  have z := z_iff m
  rw [hk] at z
  have hq : r18_has 8 113 = false := by decide +kernel
  have hb : r18_has 8 98 = false := by decide +kernel
  have ht : r18_has 8 116 = false := by decide +kernel
  have hl : r18_has 8 108 = false := by decide +kernel
  have hv : r18_has 8 118 = true := by decide +kernel
  have he : r18_has 8 101 = true := by decide +kernel
  have hm : r18_has 8 109 = true := by decide +kernel
  have ha : r18_has 8 97 = false := by decide +kernel
  have hn : r18_has 8 110 = false := by decide +kernel
  have hc : r18_has 8 99 = false := by decide +kernel
  have hp : r18_has 8 112 = false := by decide +kernel
  have hf : r18_has 8 102 = false := by decide +kernel
  have hr : r18_has 8 114 = false := by decide +kernel
  have ho : r18_has 8 111 = false := by decide +kernel
  have hs : r18_has 8 115 = false := by decide +kernel
  have hw : r18_has 8 119 = true := by decide +kernel
  simp only [hq, hb, ht, hl, hv, he, hm, ha, hn, hc, hp, hf, hr, ho, hs, hw, true_or, false_or, true_and, and_true, Bool.false_eq_true] at z
  rw [check_A]; unfold wire_CheckA r18_Check r18_nodes
  rw [if_neg (show ¬ m.xKind ≤ 0 by omega), if_neg (show ¬ m.xKind ≥ 15 by omega), Int.toNat_of_nonneg (show 0 ≤ m.xKind by omega), hk]
  rw [show r18_fields 8 = [118, 101, 109, 119] from rfl]
  simp only [Int.reduceEq, ↓reduceIte, bnd_eq, decide_true, decide_false, Bool.false_eq_true, reduceCtorEq, i1, i2, i3, i5, oc_eq, chk_eq, decide_eq_true_eq, Bool.and_eq_true]
  refine i4 ?_
  rw [am_L]
  simp only [List.mem_cons, List.not_mem_nil, or_false, forall_eq_or_imp, forall_eq, wire_may, bnd_eq, Int.reduceEq, ↓reduceIte, s4, ro0, ro1, ro2, rs1, rc1, z, hk, wire_mayCode, wire_mayOps, mr_eq, oc_eq, ao_iff, aw_iff, chk_eq, sc_eq, chl, decide_eq_true_eq, true_and, and_true]
  rw [bl_iff (by obtain ⟨n1, n2, n3, n4, n5, n6, n7, n8, n9⟩ := hn; refine ⟨?_, ?_, ?_, ?_, ?_, ?_, ?_, ?_, ?_⟩ <;> dsimp only <;> omega)]
  simp only [true_and, and_true]
  try constructor <;> intro h <;> simp_all
set_option maxHeartbeats 4000000 in
set_option maxRecDepth 100000 in
theorem kd_9 {m : MsgT} (hk : m.xKind = 9) (hn : m.xReq ≤ 18446744073709551615 ∧ m.xBoot ≤ 18446744073709551615 ∧ m.xTxn ≤ 18446744073709551615 ∧ m.xLow ≤ 18446744073709551615 ∧ m.xVer ≤ 18446744073709551615 ∧ m.xEpoch ≤ 18446744073709551615 ∧ m.xMove ≤ 18446744073709551615 ∧ m.xAttempt ≤ 18446744073709551615 ∧ m.xN ≤ 18446744073709551615) : wire_Check m = r18_Check m := by
  have z := z_iff m
  rw [hk] at z
  have hq : r18_has 9 113 = false := by decide +kernel
  have hb : r18_has 9 98 = false := by decide +kernel
  have ht : r18_has 9 116 = false := by decide +kernel
  have hl : r18_has 9 108 = false := by decide +kernel
  have hv : r18_has 9 118 = true := by decide +kernel
  have he : r18_has 9 101 = false := by decide +kernel
  have hm : r18_has 9 109 = false := by decide +kernel
  have ha : r18_has 9 97 = false := by decide +kernel
  have hn : r18_has 9 110 = false := by decide +kernel
  have hc : r18_has 9 99 = false := by decide +kernel
  have hp : r18_has 9 112 = false := by decide +kernel
  have hf : r18_has 9 102 = false := by decide +kernel
  have hr : r18_has 9 114 = false := by decide +kernel
  have ho : r18_has 9 111 = false := by decide +kernel
  have hs : r18_has 9 115 = false := by decide +kernel
  have hw : r18_has 9 119 = false := by decide +kernel
  simp only [hq, hb, ht, hl, hv, he, hm, ha, hn, hc, hp, hf, hr, ho, hs, hw, true_or, false_or, true_and, and_true, Bool.false_eq_true] at z
  rw [check_A]; unfold wire_CheckA r18_Check r18_nodes
  rw [if_neg (show ¬ m.xKind ≤ 0 by omega), if_neg (show ¬ m.xKind ≥ 15 by omega), Int.toNat_of_nonneg (show 0 ≤ m.xKind by omega), hk]
  rw [show r18_fields 9 = [118] from rfl]
  simp only [Int.reduceEq, ↓reduceIte, bnd_eq, decide_true, decide_false, Bool.false_eq_true, reduceCtorEq, i1, i2, i3, i5, oc_eq, chk_eq, decide_eq_true_eq, Bool.and_eq_true]
  refine i4 ?_
  rw [am_L]
  simp only [List.mem_cons, List.not_mem_nil, or_false, forall_eq_or_imp, forall_eq, wire_may, bnd_eq, Int.reduceEq, ↓reduceIte, s4, ro0, ro1, ro2, rs1, rc1, z, hk, wire_mayCode, wire_mayOps, mr_eq, oc_eq, ao_iff, aw_iff, chk_eq, sc_eq, chl, decide_eq_true_eq, true_and, and_true]
  rw [bl_iff (by obtain ⟨n1, n2, n3, n4, n5, n6, n7, n8, n9⟩ := hn; refine ⟨?_, ?_, ?_, ?_, ?_, ?_, ?_, ?_, ?_⟩ <;> dsimp only <;> omega)]
  simp only [true_and, and_true]
  try constructor <;> intro h <;> simp_all
set_option maxHeartbeats 4000000 in
set_option maxRecDepth 100000 in
theorem kd_10 {m : MsgT} (hk : m.xKind = 10) (hn : m.xReq ≤ 18446744073709551615 ∧ m.xBoot ≤ 18446744073709551615 ∧ m.xTxn ≤ 18446744073709551615 ∧ m.xLow ≤ 18446744073709551615 ∧ m.xVer ≤ 18446744073709551615 ∧ m.xEpoch ≤ 18446744073709551615 ∧ m.xMove ≤ 18446744073709551615 ∧ m.xAttempt ≤ 18446744073709551615 ∧ m.xN ≤ 18446744073709551615) : wire_Check m = r18_Check m := by
  have z := z_iff m
  rw [hk] at z
  have hq : r18_has 10 113 = false := by decide +kernel
  have hb : r18_has 10 98 = false := by decide +kernel
  have ht : r18_has 10 116 = false := by decide +kernel
  have hl : r18_has 10 108 = false := by decide +kernel
  have hv : r18_has 10 118 = true := by decide +kernel
  have he : r18_has 10 101 = false := by decide +kernel
  have hm : r18_has 10 109 = true := by decide +kernel
  have ha : r18_has 10 97 = false := by decide +kernel
  have hn : r18_has 10 110 = false := by decide +kernel
  have hc : r18_has 10 99 = false := by decide +kernel
  have hp : r18_has 10 112 = true := by decide +kernel
  have hf : r18_has 10 102 = true := by decide +kernel
  have hr : r18_has 10 114 = true := by decide +kernel
  have ho : r18_has 10 111 = false := by decide +kernel
  have hs : r18_has 10 115 = false := by decide +kernel
  have hw : r18_has 10 119 = false := by decide +kernel
  simp only [hq, hb, ht, hl, hv, he, hm, ha, hn, hc, hp, hf, hr, ho, hs, hw, true_or, false_or, true_and, and_true, Bool.false_eq_true] at z
  rw [check_A]; unfold wire_CheckA r18_Check r18_nodes
  rw [if_neg (show ¬ m.xKind ≤ 0 by omega), if_neg (show ¬ m.xKind ≥ 15 by omega), Int.toNat_of_nonneg (show 0 ≤ m.xKind by omega), hk]
  rw [show r18_fields 10 = [118, 109, 112, 102, 114] from rfl]
  simp only [Int.reduceEq, ↓reduceIte, bnd_eq, decide_true, decide_false, Bool.false_eq_true, reduceCtorEq, i1, i2, i3, i5, oc_eq, chk_eq, decide_eq_true_eq, Bool.and_eq_true]
  refine i4 ?_
  rw [am_L]
  simp only [List.mem_cons, List.not_mem_nil, or_false, forall_eq_or_imp, forall_eq, wire_may, bnd_eq, Int.reduceEq, ↓reduceIte, s4, ro0, ro1, ro2, rs1, rc1, z, hk, wire_mayCode, wire_mayOps, mr_eq, oc_eq, ao_iff, aw_iff, chk_eq, sc_eq, chl, decide_eq_true_eq, true_and, and_true]
  rw [bl_iff (by obtain ⟨n1, n2, n3, n4, n5, n6, n7, n8, n9⟩ := hn; refine ⟨?_, ?_, ?_, ?_, ?_, ?_, ?_, ?_, ?_⟩ <;> dsimp only <;> omega)]
  simp only [true_and, and_true]
  try constructor <;> intro h <;> simp_all
set_option maxHeartbeats 4000000 in
set_option maxRecDepth 100000 in
theorem kd_11 {m : MsgT} (hk : m.xKind = 11) (hn : m.xReq ≤ 18446744073709551615 ∧ m.xBoot ≤ 18446744073709551615 ∧ m.xTxn ≤ 18446744073709551615 ∧ m.xLow ≤ 18446744073709551615 ∧ m.xVer ≤ 18446744073709551615 ∧ m.xEpoch ≤ 18446744073709551615 ∧ m.xMove ≤ 18446744073709551615 ∧ m.xAttempt ≤ 18446744073709551615 ∧ m.xN ≤ 18446744073709551615) : wire_Check m = r18_Check m := by
  have z := z_iff m
  rw [hk] at z
  have hq : r18_has 11 113 = false := by decide +kernel
  have hb : r18_has 11 98 = false := by decide +kernel
  have ht : r18_has 11 116 = false := by decide +kernel
  have hl : r18_has 11 108 = false := by decide +kernel
  have hv : r18_has 11 118 = false := by decide +kernel
  have he : r18_has 11 101 = false := by decide +kernel
  have hm : r18_has 11 109 = true := by decide +kernel
  have ha : r18_has 11 97 = true := by decide +kernel
  have hn : r18_has 11 110 = true := by decide +kernel
  have hc : r18_has 11 99 = false := by decide +kernel
  have hp : r18_has 11 112 = false := by decide +kernel
  have hf : r18_has 11 102 = false := by decide +kernel
  have hr : r18_has 11 114 = true := by decide +kernel
  have ho : r18_has 11 111 = true := by decide +kernel
  have hs : r18_has 11 115 = false := by decide +kernel
  have hw : r18_has 11 119 = false := by decide +kernel
  simp only [hq, hb, ht, hl, hv, he, hm, ha, hn, hc, hp, hf, hr, ho, hs, hw, true_or, false_or, true_and, and_true, Bool.false_eq_true] at z
  rw [check_A]; unfold wire_CheckA r18_Check r18_nodes
  rw [if_neg (show ¬ m.xKind ≤ 0 by omega), if_neg (show ¬ m.xKind ≥ 15 by omega), Int.toNat_of_nonneg (show 0 ≤ m.xKind by omega), hk]
  rw [show r18_fields 11 = [109, 97, 110, 114, 111] from rfl]
  simp only [Int.reduceEq, ↓reduceIte, bnd_eq, decide_true, decide_false, Bool.false_eq_true, reduceCtorEq, i1, i2, i3, i5, oc_eq, chk_eq, decide_eq_true_eq, Bool.and_eq_true]
  refine i4 ?_
  rw [am_L]
  simp only [List.mem_cons, List.not_mem_nil, or_false, forall_eq_or_imp, forall_eq, wire_may, bnd_eq, Int.reduceEq, ↓reduceIte, s4, ro0, ro1, ro2, rs1, rc1, z, hk, wire_mayCode, wire_mayOps, mr_eq, oc_eq, ao_iff, aw_iff, chk_eq, sc_eq, chl, decide_eq_true_eq, true_and, and_true]
  rw [bl_iff (by obtain ⟨n1, n2, n3, n4, n5, n6, n7, n8, n9⟩ := hn; refine ⟨?_, ?_, ?_, ?_, ?_, ?_, ?_, ?_, ?_⟩ <;> dsimp only <;> omega)]
  simp only [true_and, and_true]
  try constructor <;> intro h <;> simp_all
set_option maxHeartbeats 4000000 in
set_option maxRecDepth 100000 in
theorem kd_12 {m : MsgT} (hk : m.xKind = 12) (hn : m.xReq ≤ 18446744073709551615 ∧ m.xBoot ≤ 18446744073709551615 ∧ m.xTxn ≤ 18446744073709551615 ∧ m.xLow ≤ 18446744073709551615 ∧ m.xVer ≤ 18446744073709551615 ∧ m.xEpoch ≤ 18446744073709551615 ∧ m.xMove ≤ 18446744073709551615 ∧ m.xAttempt ≤ 18446744073709551615 ∧ m.xN ≤ 18446744073709551615) : wire_Check m = r18_Check m := by
  have z := z_iff m
  rw [hk] at z
  have hq : r18_has 12 113 = false := by decide +kernel
  have hb : r18_has 12 98 = false := by decide +kernel
  have ht : r18_has 12 116 = false := by decide +kernel
  have hl : r18_has 12 108 = false := by decide +kernel
  have hv : r18_has 12 118 = false := by decide +kernel
  have he : r18_has 12 101 = false := by decide +kernel
  have hm : r18_has 12 109 = true := by decide +kernel
  have ha : r18_has 12 97 = true := by decide +kernel
  have hn : r18_has 12 110 = true := by decide +kernel
  have hc : r18_has 12 99 = false := by decide +kernel
  have hp : r18_has 12 112 = false := by decide +kernel
  have hf : r18_has 12 102 = false := by decide +kernel
  have hr : r18_has 12 114 = false := by decide +kernel
  have ho : r18_has 12 111 = false := by decide +kernel
  have hs : r18_has 12 115 = false := by decide +kernel
  have hw : r18_has 12 119 = false := by decide +kernel
  simp only [hq, hb, ht, hl, hv, he, hm, ha, hn, hc, hp, hf, hr, ho, hs, hw, true_or, false_or, true_and, and_true, Bool.false_eq_true] at z
  rw [check_A]; unfold wire_CheckA r18_Check r18_nodes
  rw [if_neg (show ¬ m.xKind ≤ 0 by omega), if_neg (show ¬ m.xKind ≥ 15 by omega), Int.toNat_of_nonneg (show 0 ≤ m.xKind by omega), hk]
  rw [show r18_fields 12 = [109, 97, 110] from rfl]
  simp only [Int.reduceEq, ↓reduceIte, bnd_eq, decide_true, decide_false, Bool.false_eq_true, reduceCtorEq, i1, i2, i3, i5, oc_eq, chk_eq, decide_eq_true_eq, Bool.and_eq_true]
  refine i4 ?_
  rw [am_L]
  simp only [List.mem_cons, List.not_mem_nil, or_false, forall_eq_or_imp, forall_eq, wire_may, bnd_eq, Int.reduceEq, ↓reduceIte, s4, ro0, ro1, ro2, rs1, rc1, z, hk, wire_mayCode, wire_mayOps, mr_eq, oc_eq, ao_iff, aw_iff, chk_eq, sc_eq, chl, decide_eq_true_eq, true_and, and_true]
  rw [bl_iff (by obtain ⟨n1, n2, n3, n4, n5, n6, n7, n8, n9⟩ := hn; refine ⟨?_, ?_, ?_, ?_, ?_, ?_, ?_, ?_, ?_⟩ <;> dsimp only <;> omega)]
  simp only [true_and, and_true]
  try constructor <;> intro h <;> simp_all
set_option maxHeartbeats 4000000 in
set_option maxRecDepth 100000 in
theorem kd_13 {m : MsgT} (hk : m.xKind = 13) (hn : m.xReq ≤ 18446744073709551615 ∧ m.xBoot ≤ 18446744073709551615 ∧ m.xTxn ≤ 18446744073709551615 ∧ m.xLow ≤ 18446744073709551615 ∧ m.xVer ≤ 18446744073709551615 ∧ m.xEpoch ≤ 18446744073709551615 ∧ m.xMove ≤ 18446744073709551615 ∧ m.xAttempt ≤ 18446744073709551615 ∧ m.xN ≤ 18446744073709551615) : wire_Check m = r18_Check m := by
  have z := z_iff m
  rw [hk] at z
  have hq : r18_has 13 113 = false := by decide +kernel
  have hb : r18_has 13 98 = false := by decide +kernel
  have ht : r18_has 13 116 = false := by decide +kernel
  have hl : r18_has 13 108 = false := by decide +kernel
  have hv : r18_has 13 118 = false := by decide +kernel
  have he : r18_has 13 101 = false := by decide +kernel
  have hm : r18_has 13 109 = true := by decide +kernel
  have ha : r18_has 13 97 = false := by decide +kernel
  have hn : r18_has 13 110 = false := by decide +kernel
  have hc : r18_has 13 99 = false := by decide +kernel
  have hp : r18_has 13 112 = false := by decide +kernel
  have hf : r18_has 13 102 = false := by decide +kernel
  have hr : r18_has 13 114 = false := by decide +kernel
  have ho : r18_has 13 111 = false := by decide +kernel
  have hs : r18_has 13 115 = false := by decide +kernel
  have hw : r18_has 13 119 = false := by decide +kernel
  simp only [hq, hb, ht, hl, hv, he, hm, ha, hn, hc, hp, hf, hr, ho, hs, hw, true_or, false_or, true_and, and_true, Bool.false_eq_true] at z
  rw [check_A]; unfold wire_CheckA r18_Check r18_nodes
  rw [if_neg (show ¬ m.xKind ≤ 0 by omega), if_neg (show ¬ m.xKind ≥ 15 by omega), Int.toNat_of_nonneg (show 0 ≤ m.xKind by omega), hk]
  rw [show r18_fields 13 = [109] from rfl]
  simp only [Int.reduceEq, ↓reduceIte, bnd_eq, decide_true, decide_false, Bool.false_eq_true, reduceCtorEq, i1, i2, i3, i5, oc_eq, chk_eq, decide_eq_true_eq, Bool.and_eq_true]
  refine i4 ?_
  rw [am_L]
  simp only [List.mem_cons, List.not_mem_nil, or_false, forall_eq_or_imp, forall_eq, wire_may, bnd_eq, Int.reduceEq, ↓reduceIte, s4, ro0, ro1, ro2, rs1, rc1, z, hk, wire_mayCode, wire_mayOps, mr_eq, oc_eq, ao_iff, aw_iff, chk_eq, sc_eq, chl, decide_eq_true_eq, true_and, and_true]
  rw [bl_iff (by obtain ⟨n1, n2, n3, n4, n5, n6, n7, n8, n9⟩ := hn; refine ⟨?_, ?_, ?_, ?_, ?_, ?_, ?_, ?_, ?_⟩ <;> dsimp only <;> omega)]
  simp only [true_and, and_true]
  try constructor <;> intro h <;> simp_all
set_option maxHeartbeats 4000000 in
set_option maxRecDepth 100000 in
theorem kd_14 {m : MsgT} (hk : m.xKind = 14) (hn : m.xReq ≤ 18446744073709551615 ∧ m.xBoot ≤ 18446744073709551615 ∧ m.xTxn ≤ 18446744073709551615 ∧ m.xLow ≤ 18446744073709551615 ∧ m.xVer ≤ 18446744073709551615 ∧ m.xEpoch ≤ 18446744073709551615 ∧ m.xMove ≤ 18446744073709551615 ∧ m.xAttempt ≤ 18446744073709551615 ∧ m.xN ≤ 18446744073709551615) : wire_Check m = r18_Check m := by
  have z := z_iff m
  rw [hk] at z
  have hq : r18_has 14 113 = false := by decide +kernel
  have hb : r18_has 14 98 = false := by decide +kernel
  have ht : r18_has 14 116 = false := by decide +kernel
  have hl : r18_has 14 108 = false := by decide +kernel
  have hv : r18_has 14 118 = false := by decide +kernel
  have he : r18_has 14 101 = false := by decide +kernel
  have hm : r18_has 14 109 = true := by decide +kernel
  have ha : r18_has 14 97 = false := by decide +kernel
  have hn : r18_has 14 110 = false := by decide +kernel
  have hc : r18_has 14 99 = false := by decide +kernel
  have hp : r18_has 14 112 = false := by decide +kernel
  have hf : r18_has 14 102 = false := by decide +kernel
  have hr : r18_has 14 114 = false := by decide +kernel
  have ho : r18_has 14 111 = false := by decide +kernel
  have hs : r18_has 14 115 = false := by decide +kernel
  have hw : r18_has 14 119 = false := by decide +kernel
  simp only [hq, hb, ht, hl, hv, he, hm, ha, hn, hc, hp, hf, hr, ho, hs, hw, true_or, false_or, true_and, and_true, Bool.false_eq_true] at z
  rw [check_A]; unfold wire_CheckA r18_Check r18_nodes
  rw [if_neg (show ¬ m.xKind ≤ 0 by omega), if_neg (show ¬ m.xKind ≥ 15 by omega), Int.toNat_of_nonneg (show 0 ≤ m.xKind by omega), hk]
  rw [show r18_fields 14 = [109] from rfl]
  simp only [Int.reduceEq, ↓reduceIte, bnd_eq, decide_true, decide_false, Bool.false_eq_true, reduceCtorEq, i1, i2, i3, i5, oc_eq, chk_eq, decide_eq_true_eq, Bool.and_eq_true]
  refine i4 ?_
  rw [am_L]
  simp only [List.mem_cons, List.not_mem_nil, or_false, forall_eq_or_imp, forall_eq, wire_may, bnd_eq, Int.reduceEq, ↓reduceIte, s4, ro0, ro1, ro2, rs1, rc1, z, hk, wire_mayCode, wire_mayOps, mr_eq, oc_eq, ao_iff, aw_iff, chk_eq, sc_eq, chl, decide_eq_true_eq, true_and, and_true]
  rw [bl_iff (by obtain ⟨n1, n2, n3, n4, n5, n6, n7, n8, n9⟩ := hn; refine ⟨?_, ?_, ?_, ?_, ?_, ?_, ?_, ?_, ?_⟩ <;> dsimp only <;> omega)]
  simp only [true_and, and_true]
  try constructor <;> intro h <;> simp_all
theorem check_eq {m : MsgT} (hn : m.xReq ≤ 18446744073709551615 ∧ m.xBoot ≤ 18446744073709551615 ∧ m.xTxn ≤ 18446744073709551615 ∧ m.xLow ≤ 18446744073709551615 ∧ m.xVer ≤ 18446744073709551615 ∧ m.xEpoch ≤ 18446744073709551615 ∧ m.xMove ≤ 18446744073709551615 ∧ m.xAttempt ≤ 18446744073709551615 ∧ m.xN ≤ 18446744073709551615) : wire_Check m = r18_Check m := by
  by_cases h : 1 ≤ m.xKind ∧ m.xKind ≤ 14
  · rcases kinds (k := m.xKind) (by omega) (by omega) with k | k | k | k | k | k | k | k | k | k | k | k | k | k
    · exact kd_1 k hn
    · exact kd_2 k hn
    · exact kd_3 k hn
    · exact kd_4 k hn
    · exact kd_5 k hn
    · exact kd_6 k hn
    · exact kd_7 k hn
    · exact kd_8 k hn
    · exact kd_9 k hn
    · exact kd_10 k hn
    · exact kd_11 k hn
    · exact kd_12 k hn
    · exact kd_13 k hn
    · exact kd_14 k hn
  · exact ck_lo h
theorem rwsm_of {m : MsgT} (hn : m.xReq ≤ 18446744073709551615 ∧ m.xBoot ≤ 18446744073709551615 ∧ m.xTxn ≤ 18446744073709551615 ∧ m.xLow ≤ 18446744073709551615 ∧ m.xVer ≤ 18446744073709551615 ∧ m.xEpoch ≤ 18446744073709551615 ∧ m.xMove ≤ 18446744073709551615 ∧ m.xAttempt ≤ 18446744073709551615 ∧ m.xN ≤ 18446744073709551615) (h : r18_Check m = 0) : Wsm m := wsm_of ((check_eq hn).trans h)
end Go.Proofs.YtccjclalngabhaaGreat
