/-
  Messages that may be are small.
  Conditions: none beyond each law's own.
-/
import Derived.Test.YtccjclalngabhaaGreatWc
namespace Go.Proofs.YtccjclalngabhaaGreat
set_option linter.unusedVariables false
set_option linter.unusedSimpArgs false
theorem bnd_eq {α β : Type} (x : α) (f : α → β) : bnd x f = f x := rfl
def wire_CheckA (p0 : MsgT) : Int :=
  if p0.xKind ≤ 0 then 180 else if p0.xKind ≥ 15 then 180 else if ((Int.toNat p0.xKind : Nat) : Int) = 1 then bnd (wire_role_is 2 p0.xFrom) fun yr111 => if yr111 = true then bnd (wire_role_is 0 p0.xTo) fun yr122 => if yr122 = true then bnd (wire_blank (MsgT.mk p0.xKind p0.xFrom p0.xTo p0.xClient p0.xCode p0.xPeer 0 0 p0.xTxn p0.xLow p0.xVer p0.xEpoch p0.xMove p0.xAttempt p0.xN p0.xFlag p0.xRange (Ll.mk ([])) (Ll.mk p0.xResults.ls) (Ll.mk p0.xOwners.ls))) fun yr152 => if yr152 = true then bnd (wire_allMay p0 ([0, 1, 7])) fun yr163 => if yr163 = true then 0 else 180 else 180 else 180 else 180 else if ((Int.toNat p0.xKind : Nat) : Int) = 2 then bnd (wire_role_is 0 p0.xFrom) fun yr193 => if yr193 = true then bnd (wire_role_is 2 p0.xTo) fun yr204 => if yr204 = true then bnd (wire_blank (MsgT.mk p0.xKind p0.xFrom p0.xTo p0.xClient 0 p0.xPeer 0 0 p0.xTxn p0.xLow p0.xVer p0.xEpoch p0.xMove p0.xAttempt p0.xN p0.xFlag p0.xRange (Ll.mk p0.xOps.ls) (Ll.mk ([])) (Ll.mk p0.xOwners.ls))) fun yr237 => if yr237 = true then bnd (wire_allMay p0 ([0, 1, 2, 3])) fun yr248 => if yr248 = true then 0 else 180 else 180 else 180 else 180 else if ((Int.toNat p0.xKind : Nat) : Int) = 3 then bnd (wire_role_is 0 p0.xFrom) fun yr278 => if yr278 = true then bnd (wire_role_is 1 p0.xTo) fun yr289 => if yr289 = true then bnd (wire_blank (MsgT.mk p0.xKind p0.xFrom p0.xTo p0.xClient p0.xCode p0.xPeer p0.xReq p0.xBoot 0 0 p0.xVer 0 p0.xMove p0.xAttempt p0.xN p0.xFlag p0.xRange (Ll.mk ([])) (Ll.mk p0.xResults.ls) (Ll.mk p0.xOwners.ls))) fun yr322 => if yr322 = true then bnd (wire_allMay p0 ([4, 5, 6, 7])) fun yr333 => if yr333 = true then 0 else 180 else 180 else 180 else 180 else if ((Int.toNat p0.xKind : Nat) : Int) = 4 then bnd (wire_role_is 1 p0.xFrom) fun yr363 => if yr363 = true then bnd (wire_role_is 0 p0.xTo) fun yr374 => if yr374 = true then bnd (wire_blank (MsgT.mk p0.xKind p0.xFrom p0.xTo p0.xClient 0 p0.xPeer p0.xReq p0.xBoot 0 p0.xLow p0.xVer p0.xEpoch p0.xMove p0.xAttempt p0.xN p0.xFlag p0.xRange (Ll.mk p0.xOps.ls) (Ll.mk ([])) (Ll.mk p0.xOwners.ls))) fun yr404 => if yr404 = true then bnd (wire_allMay p0 ([4, 2, 3])) fun yr415 => if yr415 = true then 0 else 180 else 180 else 180 else 180 else if ((Int.toNat p0.xKind : Nat) : Int) = 5 then bnd (wire_role_is 0 p0.xFrom) fun yr445 => if yr445 = true then bnd (wire_role_is 1 p0.xTo) fun yr456 => if yr456 = true then bnd (wire_blank (MsgT.mk p0.xKind p0.xFrom p0.xTo p0.xClient p0.xCode p0.xPeer p0.xReq p0.xBoot 0 p0.xLow p0.xVer p0.xEpoch p0.xMove p0.xAttempt p0.xN false p0.xRange (Ll.mk p0.xOps.ls) (Ll.mk p0.xResults.ls) (Ll.mk p0.xOwners.ls))) fun yr483 => if yr483 = true then bnd (wire_allMay p0 ([4, 8])) fun yr494 => if yr494 = true then 0 else 180 else 180 else 180 else 180 else if ((Int.toNat p0.xKind : Nat) : Int) = 6 then bnd (wire_role_is 1 p0.xFrom) fun yr524 => if yr524 = true then bnd (wire_role_is 0 p0.xTo) fun yr535 => if yr535 = true then bnd (wire_blank (MsgT.mk p0.xKind p0.xFrom p0.xTo p0.xClient p0.xCode p0.xPeer p0.xReq p0.xBoot 0 p0.xLow p0.xVer p0.xEpoch p0.xMove p0.xAttempt p0.xN p0.xFlag p0.xRange (Ll.mk p0.xOps.ls) (Ll.mk p0.xResults.ls) (Ll.mk p0.xOwners.ls))) fun yr559 => if yr559 = true then bnd (wire_allMay p0 ([4])) fun yr570 => if yr570 = true then 0 else 180 else 180 else 180 else 180 else if ((Int.toNat p0.xKind : Nat) : Int) = 7 then bnd (wire_role_is 1 p0.xFrom) fun yr600 => if yr600 = true then bnd (wire_role_is 0 p0.xTo) fun yr611 => if yr611 = true then bnd (wire_blank (MsgT.mk p0.xKind p0.xFrom p0.xTo p0.xClient p0.xCode p0.xPeer p0.xReq p0.xBoot 0 p0.xLow p0.xVer p0.xEpoch p0.xMove p0.xAttempt p0.xN p0.xFlag p0.xRange (Ll.mk p0.xOps.ls) (Ll.mk p0.xResults.ls) (Ll.mk p0.xOwners.ls))) fun yr635 => if yr635 = true then bnd (wire_allMay p0 ([4])) fun yr646 => if yr646 = true then 0 else 180 else 180 else 180 else 180 else if ((Int.toNat p0.xKind : Nat) : Int) = 8 then bnd (wire_role_is 0 p0.xFrom) fun yr676 => if yr676 = true then bnd (wire_role_is 1 p0.xTo) fun yr687 => if yr687 = true then bnd (wire_blank (MsgT.mk p0.xKind p0.xFrom p0.xTo p0.xClient p0.xCode p0.xPeer p0.xReq p0.xBoot p0.xTxn p0.xLow 0 0 0 p0.xAttempt p0.xN p0.xFlag p0.xRange (Ll.mk p0.xOps.ls) (Ll.mk p0.xResults.ls) (Ll.mk ([])))) fun yr720 => if yr720 = true then bnd (wire_allMay p0 ([9, 6, 10, 11])) fun yr731 => if yr731 = true then 0 else 180 else 180 else 180 else 180 else if ((Int.toNat p0.xKind : Nat) : Int) = 9 then bnd (wire_role_is 1 p0.xFrom) fun yr761 => if yr761 = true then bnd (wire_role_is 0 p0.xTo) fun yr772 => if yr772 = true then bnd (wire_blank (MsgT.mk p0.xKind p0.xFrom p0.xTo p0.xClient p0.xCode p0.xPeer p0.xReq p0.xBoot p0.xTxn p0.xLow 0 p0.xEpoch p0.xMove p0.xAttempt p0.xN p0.xFlag p0.xRange (Ll.mk p0.xOps.ls) (Ll.mk p0.xResults.ls) (Ll.mk p0.xOwners.ls))) fun yr796 => if yr796 = true then bnd (wire_allMay p0 ([9])) fun yr807 => if yr807 = true then 0 else 180 else 180 else 180 else 180 else if ((Int.toNat p0.xKind : Nat) : Int) = 10 then bnd (wire_role_is 0 p0.xFrom) fun yr837 => if yr837 = true then bnd (wire_role_is 1 p0.xTo) fun yr848 => if yr848 = true then bnd (wire_blank (MsgT.mk p0.xKind p0.xFrom p0.xTo p0.xClient p0.xCode 0 p0.xReq p0.xBoot p0.xTxn p0.xLow 0 p0.xEpoch 0 p0.xAttempt p0.xN false (RangeD.mk ([]) ([])) (Ll.mk p0.xOps.ls) (Ll.mk p0.xResults.ls) (Ll.mk p0.xOwners.ls))) fun yr884 => if yr884 = true then bnd (wire_allMay p0 ([9, 10, 12, 8, 13])) fun yr895 => if yr895 = true then 0 else 180 else 180 else 180 else 180 else if ((Int.toNat p0.xKind : Nat) : Int) = 11 then bnd (wire_role_is 1 p0.xFrom) fun yr925 => if yr925 = true then bnd (wire_role_is 1 p0.xTo) fun yr936 => if yr936 = true then bnd (wire_blank (MsgT.mk p0.xKind p0.xFrom p0.xTo p0.xClient p0.xCode p0.xPeer p0.xReq p0.xBoot p0.xTxn p0.xLow p0.xVer p0.xEpoch 0 0 0 p0.xFlag (RangeD.mk ([]) ([])) (Ll.mk ([])) (Ll.mk p0.xResults.ls) (Ll.mk p0.xOwners.ls))) fun yr972 => if yr972 = true then bnd (wire_allMay p0 ([10, 14, 15, 13, 7])) fun yr983 => if yr983 = true then if p0.xFrom = p0.xTo then 180 else 0 else 180 else 180 else 180 else 180 else if ((Int.toNat p0.xKind : Nat) : Int) = 12 then bnd (wire_role_is 1 p0.xFrom) fun yr1016 => if yr1016 = true then bnd (wire_role_is 1 p0.xTo) fun yr1027 => if yr1027 = true then bnd (wire_blank (MsgT.mk p0.xKind p0.xFrom p0.xTo p0.xClient p0.xCode p0.xPeer p0.xReq p0.xBoot p0.xTxn p0.xLow p0.xVer p0.xEpoch 0 0 0 p0.xFlag p0.xRange (Ll.mk p0.xOps.ls) (Ll.mk p0.xResults.ls) (Ll.mk p0.xOwners.ls))) fun yr1057 => if yr1057 = true then bnd (wire_allMay p0 ([10, 14, 15])) fun yr1068 => if yr1068 = true then if p0.xFrom = p0.xTo then 180 else 0 else 180 else 180 else 180 else 180 else if ((Int.toNat p0.xKind : Nat) : Int) = 13 then bnd (wire_role_is 1 p0.xFrom) fun yr1101 => if yr1101 = true then bnd (wire_role_is 0 p0.xTo) fun yr1112 => if yr1112 = true then bnd (wire_blank (MsgT.mk p0.xKind p0.xFrom p0.xTo p0.xClient p0.xCode p0.xPeer p0.xReq p0.xBoot p0.xTxn p0.xLow p0.xVer p0.xEpoch 0 p0.xAttempt p0.xN p0.xFlag p0.xRange (Ll.mk p0.xOps.ls) (Ll.mk p0.xResults.ls) (Ll.mk p0.xOwners.ls))) fun yr1136 => if yr1136 = true then bnd (wire_allMay p0 ([10])) fun yr1147 => if yr1147 = true then 0 else 180 else 180 else 180 else 180 else bnd (wire_role_is 1 p0.xFrom) fun yr1176 => if yr1176 = true then bnd (wire_role_is 0 p0.xTo) fun yr1187 => if yr1187 = true then bnd (wire_blank (MsgT.mk p0.xKind p0.xFrom p0.xTo p0.xClient p0.xCode p0.xPeer p0.xReq p0.xBoot p0.xTxn p0.xLow p0.xVer p0.xEpoch 0 p0.xAttempt p0.xN p0.xFlag p0.xRange (Ll.mk p0.xOps.ls) (Ll.mk p0.xResults.ls) (Ll.mk p0.xOwners.ls))) fun yr1211 => if yr1211 = true then bnd (wire_allMay p0 ([10])) fun yr1222 => if yr1222 = true then 0 else 180 else 180 else 180 else 180
theorem lay_lo {k : Int} (h : k ≤ 0) : wire_layoutOf k = (layoutT.mk 0 0 (Ll.mk ([])), false) := by unfold wire_layoutOf; rw [if_pos h]
theorem lay_hi {k : Int} (h1 : ¬ k ≤ 0) (h : k ≥ 15) : wire_layoutOf k = (layoutT.mk 0 0 (Ll.mk ([])), false) := by unfold wire_layoutOf; rw [if_neg h1, if_pos h]
theorem kinds {k : Int} (h1 : ¬ k ≤ 0) (h2 : ¬ k ≥ 15) : k = 1 ∨ k = 2 ∨ k = 3 ∨ k = 4 ∨ k = 5 ∨ k = 6 ∨ k = 7 ∨ k = 8 ∨ k = 9 ∨ k = 10 ∨ k = 11 ∨ k = 12 ∨ k = 13 ∨ k = 14 := by omega
set_option maxRecDepth 100000 in
theorem check_A (m : MsgT) : wire_Check m = wire_CheckA m := by
  by_cases h1 : m.xKind ≤ 0
  · unfold wire_Check wire_CheckA; rw [lay_lo h1, if_pos h1]; rfl
  by_cases h2 : m.xKind ≥ 15
  · unfold wire_Check wire_CheckA; rw [lay_hi h1 h2, if_neg h1, if_pos h2]; rfl
  unfold wire_Check wire_CheckA wire_layoutOf
  rw [if_neg h1, if_neg h2, if_neg h1, if_neg h2, Int.toNat_of_nonneg (show 0 ≤ m.xKind by omega)]
  rcases kinds h1 h2 with k | k | k | k | k | k | k | k | k | k | k | k | k | k <;> rw [k]
  all_goals
    simp only [Int.reduceEq, ↓reduceIte, bnd_eq, wire_Check_L0]
theorem ck_12 {k : List UInt8} (h : span_CheckKey k = 0) : List.length k ≤ 12 := by
  unfold span_CheckKey at h
  repeat' split at h
  all_goals omega
theorem sc_12 {r : RangeD} (h : span_Check r = 0) : List.length r.xLo ≤ 12 ∧ List.length r.xHi ≤ 12 := by
  have e : (r.xLo = [] ∨ span_CheckKey r.xLo = 0) ∧ (r.xHi = [] ∨ span_CheckKey r.xHi = 0) := by
    by_cases a : r.xLo = [] <;> by_cases b : r.xHi = [] <;> by_cases c : span_CheckKey r.xLo = 0 <;> by_cases d : span_CheckKey r.xHi = 0 <;> simp [span_Check, bnd_eq, a, b, c, d] at h ⊢ <;> simp_all
  refine ⟨?_, ?_⟩
  · rcases e.1 with a | a
    · rw [a]; exact Nat.zero_le _
    · exact ck_12 a
  · rcases e.2 with a | a
    · rw [a]; exact Nat.zero_le _
    · exact ck_12 a
def opS (x : OpD) : Prop := List.length x.xKey ≤ 12 ∧ List.length x.xValue ≤ 16 ∧ List.length x.xLo ≤ 12 ∧ List.length x.xHi ≤ 12
theorem nl {l : List UInt8} {n : Nat} (h : [] = l) : List.length l ≤ n := by rw [← h]; exact Nat.zero_le _
theorem co_S {x : OpD} (h : op_CheckOp x = 0) : opS x := by
  unfold op_CheckOp at h
  simp only [bnd_eq, op_ownKey, op_ownPair, op_ownScan, op_ownRange] at h
  split at h
  · split at h
    · rename_i e
      obtain ⟨_, _, e3, e4, e5, _⟩ := e
      exact ⟨ck_12 h, nl e3, nl e4, nl e5⟩
    · omega
  split at h
  · split at h
    · rename_i e
      obtain ⟨_, _, _, e4, e5, _⟩ := e
      unfold op_checkPair op_checkValue at h
      simp only [bnd_eq] at h
      split at h
      · split at h
        · omega
        · exact ⟨ck_12 (by assumption), by omega, nl e4, nl e5⟩
      · omega
    · omega
  split at h
  · split at h
    · rename_i e
      obtain ⟨_, _, e3, e4, e5, _⟩ := e
      exact ⟨ck_12 h, nl e3, nl e4, nl e5⟩
    · omega
  split at h
  · split at h
    · rename_i e
      obtain ⟨_, e2, e3, _, _, _⟩ := e
      unfold op_checkScan op_checkRange op_spanRange at h
      simp only [bnd_eq] at h
      split at h
      · have := sc_12 (by assumption)
        exact ⟨nl e2, nl e3, this.1, this.2⟩
      · omega
    · omega
  split at h
  · split at h
    · rename_i e
      obtain ⟨_, e2, e3, _, _, _⟩ := e
      unfold op_checkRange op_spanRange at h
      simp only [bnd_eq] at h
      have := sc_12 h
      exact ⟨nl e2, nl e3, this.1, this.2⟩
    · omega
  · omega
theorem ce_L : ∀ l : List OpD, (lp (op_checkEach_L0 l) fun _ => 0) = 0 → ∀ x ∈ l, op_CheckOp x = 0
  | [], _, x, hx => by cases hx
  | y :: q, h, x, hx => by
    by_cases e : op_CheckOp y = 0
    · simp only [op_checkEach_L0, bnd_eq, if_pos e] at h
      rcases List.mem_cons.1 hx with rfl | hx
      · exact e
      · exact ce_L q h x hx
    · simp only [op_checkEach_L0, bnd_eq, if_neg e, lp] at h
      exact absurd h e
theorem ao_L : ∀ l : List OpD, (lp (wire_allOps_L0 l) fun _ => true) = true → ∀ x ∈ l, op_CheckOp x = 0
  | [], _, x, hx => by cases hx
  | y :: q, h, x, hx => by
    by_cases e : op_CheckOp y = 0
    · simp only [wire_allOps_L0, bnd_eq, if_pos e] at h
      rcases List.mem_cons.1 hx with rfl | hx
      · exact e
      · exact ao_L q h x hx
    · simp only [wire_allOps_L0, bnd_eq, if_neg e, lp] at h
      cases h
theorem cw_0 {x : OpD} (h : wire_checkWrite x = 0) : op_CheckOp x = 0 := by
  unfold wire_checkWrite at h
  simp only [bnd_eq] at h
  split at h
  · exact h
  · omega
theorem aw_L : ∀ l : List OpD, (lp (wire_allOpsx_L0 l) fun _ => true) = true → ∀ x ∈ l, op_CheckOp x = 0
  | [], _, x, hx => by cases hx
  | y :: q, h, x, hx => by
    by_cases e : wire_checkWrite y = 0
    · simp only [wire_allOpsx_L0, bnd_eq, if_pos e] at h
      rcases List.mem_cons.1 hx with rfl | hx
      · exact cw_0 e
      · exact aw_L q h x hx
    · simp only [wire_allOpsx_L0, bnd_eq, if_neg e, lp] at h
      cases h
theorem mo_S {k : Int} {l : List OpD} (h : wire_mayOps k l = true) : List.length l ≤ 24 ∧ ∀ x ∈ l, opS x := by
  unfold wire_mayOps op_Check op_checkEach wire_allOps wire_allOpsx at h
  simp only [bnd_eq] at h
  split at h
  · split at h
    · exact absurd (of_decide_eq_true h) (by decide)
    · split at h
      · exact absurd (of_decide_eq_true h) (by decide)
      · exact ⟨by omega, fun x hx => co_S (ce_L l (of_decide_eq_true h) x hx)⟩
  · split at h
    · split at h
      · split at h
        · exact ⟨by omega, fun x hx => co_S (ao_L l h x hx)⟩
        · cases h
      · cases h
    · split at h
      · exact ⟨by omega, fun x hx => co_S (aw_L l h x hx)⟩
      · cases h
def paS (q : PairD) : Prop := List.length q.xKey ≤ 12 ∧ List.length q.xValue ≤ 16
def reS (x : ResultT) : Prop := List.length x.xValue ≤ 16 ∧ List.length x.xPairs.ls ≤ 4 ∧ ∀ q ∈ x.xPairs.ls, paS q
theorem mp_L : ∀ l : List PairD, wire_mayResults_L1 l = .inl () → ∀ x ∈ l, paS x
  | [], _, x, hx => by cases hx
  | y :: q, h, x, hx => by
    by_cases e : span_CheckKey y.xKey = 0
    · by_cases v : ((List.length y.xValue : Nat) : Int) > 16
      · simp only [wire_mayResults_L1, bnd_eq, if_pos e, if_pos v] at h
        cases h
      · simp only [wire_mayResults_L1, bnd_eq, if_pos e, if_neg v] at h
        rcases List.mem_cons.1 hx with rfl | hx
        · exact ⟨ck_12 e, by omega⟩
        · exact mp_L q h x hx
    · simp only [wire_mayResults_L1, bnd_eq, if_neg e] at h
      cases h
theorem mr_L : ∀ l : List ResultT, wire_mayResults_L0 l = .inl () → ∀ x ∈ l, reS x
  | [], _, x, hx => by cases hx
  | y :: q, h, x, hx => by
    simp only [wire_mayResults_L0] at h
    split at h
    · cases h
    · split at h
      · cases h
      · rcases e : wire_mayResults_L1 y.xPairs.ls with u | u
        · rw [e] at h
          rcases List.mem_cons.1 hx with rfl | hx
          · exact ⟨by omega, by omega, mp_L _ e⟩
          · exact mr_L q h x hx
        · rw [e] at h
          cases h
theorem ms_S {k : Int} {l : List ResultT} (h : wire_mayResults k l = true) : List.length l ≤ 24 ∧ ∀ x ∈ l, reS x := by
  unfold wire_mayResults at h
  rw [bnd_eq] at h
  have e : (if k = 2 then 4 else 24 : Nat) ≤ 24 := by split <;> omega
  generalize (if k = 2 then 4 else 24 : Nat) = z at e h
  split at h
  · cases h
  · rcases f : wire_mayResults_L0 l with u | u
    · exact ⟨by omega, mr_L l f⟩
    · exfalso
      rw [f] at h
      have : ∀ q : List ResultT, ∀ b, wire_mayResults_L0 q = .inr b → b = false := by
        have in1 : ∀ q : List PairD, ∀ b, wire_mayResults_L1 q = .inr b → b = false := by
          intro q
          induction q with
          | nil => intro b h; cases h
          | cons y q ih =>
            intro b h
            simp only [wire_mayResults_L1, bnd_eq] at h
            split at h
            · split at h
              · cases h; rfl
              · exact ih b h
            · cases h; rfl
        intro q
        induction q with
        | nil => intro b h; cases h
        | cons y q ih =>
          intro b h
          simp only [wire_mayResults_L0] at h
          split at h
          · cases h; rfl
          · split at h
            · cases h; rfl
            · rcases e : wire_mayResults_L1 y.xPairs.ls with u | u
              · rw [e] at h; exact ih b h
              · rw [e] at h
                have := in1 _ _ e
                subst this
                cases h; rfl
      have := this l u f
      subst this
      cases h
theorem ow_L (l : List OwnerD) : ∀ (q : List OwnerD) (k : Nat), (lp (owner_Check_L0 l q k) fun _ => 0) = 0 → 0 < k → ∀ x ∈ q, List.length x.xLo ≤ 12
  | [], _, _, _, x, hx => by cases hx
  | y :: q, k, h, hk, x, hx => by
    simp only [owner_Check_L0, bnd_eq] at h
    split at h
    · split at h
      · split at h
        · split at h
          · simp only [lp] at h; omega
          · rcases List.mem_cons.1 hx with rfl | hx
            · exact ck_12 (by assumption)
            · exact ow_L l q _ h (by omega) x hx
        · simp only [lp] at h; omega
      · omega
    · simp only [lp] at h; omega
theorem oc_S {l : List OwnerD} (h : owner_Check l = 0) : List.length l ≤ 6 ∧ ∀ x ∈ l, List.length x.xLo ≤ 12 := by
  unfold owner_Check at h
  split at h
  · omega
  · split at h
    · omega
    · rw [bnd_eq] at h
      split at h
      · omega
      · rename_i a b c
        refine ⟨by omega, ?_⟩
        match l, h, c with
        | [], _, _ => intro x hx; cases hx
        | y :: q, h, c =>
          intro x hx
          simp only [owner_Check_L0, bnd_eq] at h
          split at h
          · rw [if_neg (by omega)] at h
            rcases List.mem_cons.1 hx with rfl | hx
            · have c' : x.xLo = [] := Classical.not_not.1 c
              rw [c']; exact Nat.zero_le _
            · exact ow_L _ q _ h (by omega) x hx
          · simp only [lp] at h; omega
theorem am_L (m : MsgT) : ∀ l : List Int, wire_allMay m l = true ↔ ∀ f ∈ l, wire_may m f = true
  | [] => by simp [wire_allMay, wire_allMay_L0, lp]
  | y :: q => by
    have ih := am_L m q
    by_cases e : wire_may m y = true
    · have : wire_allMay m (y :: q) = wire_allMay m q := by simp only [wire_allMay, wire_allMay_L0, bnd_eq, if_pos e]
      rw [this, ih]
      simp [e]
    · have : wire_allMay m (y :: q) = false := by simp only [wire_allMay, wire_allMay_L0, bnd_eq, if_neg e, lp]
      rw [this]
      simp [e]
theorem bl_of {m : MsgT} (h : wire_blank m = true) : m.xOps.ls = [] ∧ m.xResults.ls = [] ∧ m.xOwners.ls = [] ∧ m.xRange.xLo = [] ∧ m.xRange.xHi = [] := by
  unfold wire_blank at h
  repeat' split at h
  all_goals first | (cases h; done) | skip
  rename_i e _ _ _ _
  have d := of_decide_eq_true h
  exact ⟨List.eq_nil_of_length_eq_zero (by omega), List.eq_nil_of_length_eq_zero (by omega), List.eq_nil_of_length_eq_zero (by omega), d.1, d.2⟩
def Wsm (m : MsgT) : Prop := (List.length m.xOps.ls ≤ 24 ∧ ∀ x ∈ m.xOps.ls, List.length x.xKey ≤ 12 ∧ List.length x.xValue ≤ 16 ∧ List.length x.xLo ≤ 12 ∧ List.length x.xHi ≤ 12) ∧ (List.length m.xResults.ls ≤ 24 ∧ ∀ x ∈ m.xResults.ls, List.length x.xValue ≤ 16 ∧ List.length x.xPairs.ls ≤ 4 ∧ ∀ q ∈ x.xPairs.ls, List.length q.xKey ≤ 12 ∧ List.length q.xValue ≤ 16) ∧ (List.length m.xOwners.ls ≤ 6 ∧ ∀ x ∈ m.xOwners.ls, List.length x.xLo ≤ 12) ∧ List.length m.xRange.xLo ≤ 12 ∧ List.length m.xRange.xHi ≤ 12
theorem wsm_fin {m m' : MsgT} {fs : List Int} (hb : wire_blank m' = true) (ha : wire_allMay m fs = true) (ho : m'.xOps = Ll.mk m.xOps.ls ∨ 7 ∈ fs) (hr : m'.xResults = Ll.mk m.xResults.ls ∨ 3 ∈ fs) (hw : m'.xOwners = Ll.mk m.xOwners.ls ∨ 11 ∈ fs) (hg : m'.xRange = m.xRange ∨ 13 ∈ fs) : Wsm m := by
  obtain ⟨b1, b2, b3, b4, b5⟩ := bl_of hb
  have a := (am_L m fs).1 ha
  have m7 : 7 ∈ fs → wire_mayOps m.xKind m.xOps.ls = true := fun h => by have := a 7 h; simpa [wire_may, bnd_eq] using this
  have m3 : 3 ∈ fs → wire_mayResults m.xKind m.xResults.ls = true := fun h => by have := a 3 h; simpa [wire_may, bnd_eq] using this
  have m11 : 11 ∈ fs → owner_Check m.xOwners.ls = 0 := fun h => by have := a 11 h; simpa [wire_may, bnd_eq] using this
  have m13 : 13 ∈ fs → span_Check m.xRange = 0 := fun h => by have := a 13 h; simpa [wire_may, bnd_eq] using this
  refine ⟨?_, ?_, ?_, ?_⟩
  · rcases ho with h | h
    · rw [h] at b1
      have b1 : m.xOps.ls = [] := b1
      rw [b1]; exact ⟨Nat.zero_le _, fun x hx => by cases hx⟩
    · exact mo_S (m7 h)
  · rcases hr with h | h
    · rw [h] at b2
      have b2 : m.xResults.ls = [] := b2
      rw [b2]; exact ⟨Nat.zero_le _, fun x hx => by cases hx⟩
    · exact ms_S (m3 h)
  · rcases hw with h | h
    · rw [h] at b3
      have b3 : m.xOwners.ls = [] := b3
      rw [b3]; exact ⟨Nat.zero_le _, fun x hx => by cases hx⟩
    · exact oc_S (m11 h)
  · rcases hg with h | h
    · rw [h] at b4 b5
      rw [b4, b5]; exact ⟨Nat.zero_le _, Nat.zero_le _⟩
    · exact sc_12 (m13 h)
theorem ite0 {c : Prop} [Decidable c] {x : Int} (h : (if c then x else 180) = 0) : c ∧ x = 0 := by
  by_cases e : c
  · rw [if_pos e] at h; exact ⟨e, h⟩
  · rw [if_neg e] at h; exact absurd h (by decide)
set_option maxRecDepth 100000 in
theorem wsm_of {m : MsgT} (h : wire_Check m = 0) : Wsm m := by
  rw [check_A] at h
  by_cases h1 : m.xKind ≤ 0
  · unfold wire_CheckA at h; rw [if_pos h1] at h; exact absurd h (by decide)
  by_cases h2 : m.xKind ≥ 15
  · unfold wire_CheckA at h; rw [if_neg h1, if_pos h2] at h; exact absurd h (by decide)
  unfold wire_CheckA at h
  rw [if_neg h1, if_neg h2, Int.toNat_of_nonneg (show 0 ≤ m.xKind by omega)] at h
  rcases kinds h1 h2 with k | k | k | k | k | k | k | k | k | k | k | k | k | k <;> rw [k] at h
  all_goals
    simp only [Int.reduceEq, ↓reduceIte, bnd_eq] at h
    obtain ⟨_, h⟩ := ite0 h
    obtain ⟨_, h⟩ := ite0 h
    obtain ⟨hb, h⟩ := ite0 h
    obtain ⟨ha, _⟩ := ite0 h
    refine wsm_fin hb ha ?_ ?_ ?_ ?_ <;> first | exact .inl rfl | exact .inr (by decide)
end Go.Proofs.YtccjclalngabhaaGreat
