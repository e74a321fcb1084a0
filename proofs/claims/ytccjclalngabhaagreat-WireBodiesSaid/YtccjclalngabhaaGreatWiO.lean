/-
  Messages of bytes: the program's are the document's.
  Conditions: none.
-/
import Derived.Test.YtccjclalngabhaaGreatWiT
namespace Go.Proofs.YtccjclalngabhaaGreat
set_option linter.unusedVariables false
set_option linter.unusedSimpArgs false
theorem nlen_L : ∀ (q : List UInt8) (k : Nat) (r : Int), octet_numLen_L0 q k = .inr r → r = 0 ∨ (((k : Nat) : Int) + 1 ≤ r ∧ r ≤ ((k + List.length q : Nat) : Int))
  | [], k, r, h => by cases h
  | x :: q, k, r, h => by
    unfold octet_numLen_L0 at h
    split at h
    · cases h; exact .inl rfl
    · split at h
      · cases h
        exact .inr ⟨by omega, by simp only [List.length_cons]; omega⟩
      · rcases nlen_L q (k + 1) r h with e | ⟨e1, e2⟩
        · exact .inl e
        · exact .inr ⟨by omega, by simp only [List.length_cons]; omega⟩
theorem rn_k {l : List UInt8} (h : (octet_ReadNum l).2.2 = 0) : 1 ≤ (octet_ReadNum l).2.1 ∧ (octet_ReadNum l).2.1 ≤ ((List.length l : Nat) : Int) := by
  unfold octet_ReadNum at h ⊢
  simp only [bnd_eq] at h ⊢
  have e : octet_numLen l = 0 ∨ (1 ≤ octet_numLen l ∧ octet_numLen l ≤ ((List.length l : Nat) : Int)) := by
    unfold octet_numLen
    rcases q : octet_numLen_L0 l 0 with u | u
    · exact .inl rfl
    · rcases nlen_L l 0 u q with r | ⟨r1, r2⟩
      · exact .inl r
      · exact .inr ⟨by simp only [lp]; omega, by simp only [lp]; omega⟩
  by_cases z : octet_numLen l = 0
  · rw [if_pos z] at h
    split at h <;> exact absurd h (by decide)
  · rw [if_neg z] at h ⊢
    rcases e with e | e
    · exact absurd e z
    · generalize (if octet_numLen l > 1 then _ else false : Bool) = c at h ⊢
      cases c
      · exact e
      · rw [if_pos rfl] at h
        exact absurd h (by decide)
theorem open_eq (l : List UInt8) : frame_Open l = r05_Open l := by
  unfold frame_Open r05_Open
  by_cases h1 : ((List.length l : Nat) : Int) > 4103
  · rw [if_pos h1, if_pos h1]
  rw [if_neg h1, if_neg h1]
  by_cases h2 : ((List.length l : Nat) : Int) < 6
  · rw [if_pos h2, if_pos h2]
  rw [if_neg h2, if_neg h2]
  simp only [bnd_eq]
  have f2 : (octet_ReadFixed (List.drop (List.length l - 4) l)).2 = 0 := by
    unfold octet_ReadFixed
    rw [if_neg (by rw [List.length_drop]; omega)]
    rfl
  rw [if_pos f2, show octet_ReadFixed (List.drop (List.length l - 4) l) = r01_ReadFixed (List.drop (List.length l - 4) l) from rfl, show octet_Sum (List.take (List.length l - 4) l) = r01_Sum (List.take (List.length l - 4) l) from rfl]
  by_cases s : (((r01_ReadFixed (List.drop (List.length l - 4) l)).1 : Nat) : Int) = ((r01_Sum (List.take (List.length l - 4) l) : Nat) : Int)
  · rw [if_pos s, if_pos s]
    have g : List.getD (List.take (List.length l - 4) l) 0 default = List.getD l 0 default := by
      rw [List.getD_eq_getElem?_getD, List.getD_eq_getElem?_getD, List.getElem?_take, if_pos (by omega)]
    rw [g]
    by_cases x : (((List.getD l 0 default).toNat : Nat) : Int) = 83
    · rw [if_pos x, if_pos x, List.drop_take, ← rn_eq]
      generalize hr : octet_ReadNum (List.take (List.length l - 4 - 1) (List.drop 1 l)) = r
      by_cases e : r.2.2 = 0
      · rw [if_pos e, if_pos e]
        have k := rn_k (l := List.take (List.length l - 4 - 1) (List.drop 1 l)) (by rw [hr]; exact e)
        rw [hr, List.length_take, List.length_drop] at k
        by_cases c : ((r.1 : Nat) : Int) > 4096
        · rw [if_pos c]
          split <;> first | rfl | (rw [if_pos c])
        · rw [if_neg c]
          by_cases d : ((r.1 : Nat) : Int) = (((List.length l - 4) - (Int.toNat (1 + r.2.1)) : Nat) : Int)
          · rw [if_pos d, if_neg c, if_pos (by omega), List.drop_take, List.take_take, Nat.min_self]
          · rw [if_neg d, if_neg c, if_neg (show ¬ ((r.1 : Nat) : Int) = (((List.length l - 4) - 1 : Nat) : Int) - r.2.1 by omega)]
      · rw [if_neg e, if_neg e]
    · rw [if_neg x, if_neg x]
  · rw [if_neg s, if_neg s]
def E9 (q : RT) : Int := if q.xE = 0 then (if ((List.length q.xB.ls : Nat) : Int) > 0 then 11 else 0) else q.xE
def ZM : MsgT := MsgT.mk 0 0 0 0 0 0 0 0 0 0 0 0 0 0 0 false (RangeD.mk ([]) ([])) (Ll.mk ([])) (Ll.mk ([])) (Ll.mk ([]))
def fin9 (x : MsgT × RT) : MsgT × Int := if E9 x.2 = 0 then (if r18_Check x.1 = 0 then (x.1, 0) else (ZM, r18_Check x.1)) else (ZM, E9 x.2)
theorem end_err {p : ReaderT} {q : RT} (h : rel p q) : reader_Reader_Err (reader_Reader_End p) = E9 q := by
  obtain ⟨h1, h2, h3⟩ := h
  unfold reader_Reader_Err reader_Reader_End E9
  simp only [bnd_eq]
  by_cases z : p.xerrno = 0
  · rw [h2 z, if_pos (show q.xE = 0 from h1 ▸ z)]
    by_cases b : ((List.length q.xB.ls : Nat) : Int) > 0
    · rw [if_pos b, if_pos b]
      unfold reader_Reader_Fail
      rw [if_pos z]
    · rw [if_neg b, if_neg b, z]
  · rw [h3 z, if_neg (fun e => z (h1.trans e)), if_neg (by decide), h1]
theorem dec_r {l b : List UInt8} (h : r05_Open l = (b, 0)) : r18_Decode l = fin9 (r18_R_msg (RT.mk (Ll.mk b) 0)) := by
  unfold r18_Decode fin9 E9
  rw [bnd_eq, h, if_pos rfl]
  simp only [bnd_eq]
  generalize r18_R_msg (RT.mk (Ll.mk b) 0) = x
  by_cases z : x.2.xE = 0
  · by_cases c : ((List.length x.2.xB.ls : Nat) : Int) > 0
    · simp only [if_pos z, if_pos c, r18_R_Fail]
      rfl
    · simp only [if_pos z, if_neg c]
      rfl
  · simp only [if_neg z]
    rfl
def setK (m : MsgT) (k f t : Int) : MsgT := MsgT.mk k f t 0 m.xCode m.xPeer m.xReq m.xBoot m.xTxn m.xLow m.xVer m.xEpoch m.xMove m.xAttempt m.xN m.xFlag m.xRange m.xOps m.xResults m.xOwners
theorem byte_err {q : RT} (h : ¬ q.xE = 0) : r18_R_Byte q = (0, q) := by unfold r18_R_Byte; rw [if_neg h]
theorem fields_ne {k : Int} (h1 : ¬ k ≤ 0) (h2 : ¬ k ≥ 15) : ¬ r18_fields k = [] := by
  rcases kinds h1 h2 with rfl | rfl | rfl | rfl | rfl | rfl | rfl | rfl | rfl | rfl | rfl | rfl | rfl | rfl <;> decide +kernel
theorem fields_no {k : Int} (h : k ≤ 0 ∨ k ≥ 15) : r18_fields k = [] := by
  unfold r18_fields
  simp only [bnd_eq]
  rw [if_neg (by omega), if_neg (by omega), if_neg (by omega), if_neg (by omega), if_neg (by omega), if_neg (by rw [if_neg (by omega)]; intro q; have := of_decide_eq_true q; omega), if_neg (by omega), if_neg (by omega), if_neg (by omega), if_neg (by omega), if_neg (by omega), if_neg (by omega), if_neg (by omega)]
theorem lay_no {k : Int} (h : k ≤ 0 ∨ k ≥ 15) : wire_layoutOf k = (layoutT.mk 0 0 (Ll.mk ([])), false) := by
  unfold wire_layoutOf
  by_cases a : k ≤ 0
  · rw [if_pos a]
  · rw [if_neg a, if_pos (by omega)]
theorem fin_p {p : ReaderT} {q : RT} {m : MsgT} (h : rel p q) (hn : nums m) : (if reader_Reader_Err (reader_Reader_End p) = 0 then (if wire_Check m = 0 then (m, 0) else (ZM, wire_Check m)) else (ZM, reader_Reader_Err (reader_Reader_End p))) = fin9 (m, q) := by
  rw [end_err h, check_eq hn]
  rfl
theorem n0 : nums ZM := by unfold nums ZM; decide
theorem dec_p {l b : List UInt8} (h : frame_Open l = (b, 0)) : wire_Decode l = fin9 (r18_R_msg (RT.mk (Ll.mk b) 0)) := by
  unfold wire_Decode reader_New
  rw [bnd_eq, h, if_pos rfl]
  simp only [bnd_eq]
  have o := oct_rel (p := ReaderT.mk (Ll.mk b) 0) (q := RT.mk (Ll.mk b) 0) ⟨rfl, fun _ => rfl, fun n => absurd rfl n⟩
  unfold r18_R_msg
  simp only [bnd_eq]
  rw [o.1]
  have o2 := o.2
  have hk0 : ¬ (r18_R_Byte (RT.mk (Ll.mk b) 0)).2.xE = 0 → (r18_R_Byte (RT.mk (Ll.mk b) 0)).1 = 0 := by
    unfold r18_R_Byte
    rw [if_pos (show (RT.mk (Ll.mk b) 0).xE = 0 from rfl)]
    simp only [bnd_eq]
    split
    · intro _; rfl
    · intro n; exact absurd rfl n
  clear o
  generalize (reader_Reader_Octet (ReaderT.mk (Ll.mk b) 0)).2 = p1 at o2 ⊢
  generalize r18_R_Byte (RT.mk (Ll.mk b) 0) = y at o2 hk0 ⊢
  by_cases hz : y.2.xE = 0
  · rw [if_pos hz]
    by_cases hk : y.1 ≤ 0 ∨ y.1 ≥ 15
    · rw [lay_no hk, fields_no hk, if_pos rfl, if_neg (by decide)]
      obtain ⟨f1, f2⟩ := fail_rel o2 (e := 11) (by decide)
      have a := oct_rel f1
      have a' := oct_rel a.2
      have e1 := byte_err f2
      rw [e1] at a a'
      have e2 := byte_err (q := (r18_R_Fail y.2 11)) f2
      rw [e2] at a'
      show (if reader_Reader_Err (reader_Reader_End (reader_Reader_Octet (reader_Reader_Octet (reader_Reader_Fail p1 11)).2).2) = 0 then _ else _) = _
      have z : ¬ E9 (r18_R_Fail y.2 11) = 0 := by unfold E9; rw [if_neg f2]; exact f2
      rw [end_err a'.2, if_neg z]
      show (ZM, _) = fin9 (_, (r18_R_Byte (r18_R_Byte (r18_R_Fail y.2 11)).2).2)
      rw [e1, e2]
      unfold fin9
      rw [if_neg z]
      exact congrArg (fun e => (ZM, e)) (end_err a'.2)
    · have h1 : ¬ y.1 ≤ 0 := fun q => hk (.inl q)
      have h2 : ¬ y.1 ≥ 15 := fun q => hk (.inr q)
      obtain ⟨c1, c2⟩ := corr_of h1 h2
      rw [if_pos c1, if_neg (fields_ne h1 h2)]
      have a := oct_rel o2
      have a' := oct_rel a.2
      have M := msg_L0 (MsgT.mk y.1 (r18_R_Byte y.2).1 (r18_R_Byte (r18_R_Byte y.2).2).1 0 0 0 0 0 0 0 0 0 0 0 0 false (RangeD.mk ([]) ([])) (Ll.mk ([])) (Ll.mk ([])) (Ll.mk ([]))) y.1 (r18_R_Byte y.2).1 (r18_R_Byte (r18_R_Byte y.2).2).1 c2 0 0 0 0 0 0 0 0 0 0 0 false [] [] [] [] [] _ _ a'.2 (by decide)
      rw [a.1, a'.1]
      unfold wire_read
      simp only [bnd_eq]
      obtain ⟨M1, M2, M3⟩ := M
      have F := fin_p (m := setK (outB (r18_R_msg_L0 y.1 (r18_R_Byte y.2).1 (r18_R_Byte (r18_R_Byte y.2).2).1 (r18_fields y.1) 0 0 0 0 0 0 0 0 0 0 0 false [] [] [] [] [] (r18_R_Byte (r18_R_Byte y.2).2).2.xB.ls (r18_R_Byte (r18_R_Byte y.2).2).2.xE)).1 y.1 (r18_R_Byte y.2).1 (r18_R_Byte (r18_R_Byte y.2).2).1) M2 M3
      rw [← M1] at F
      rw [M1] at F
      refine Eq.trans ?_ F
      rw [← M1]
      rfl
  · rw [if_neg hz]
    have hk : y.1 ≤ 0 ∨ y.1 ≥ 15 := .inl (by rw [hk0 hz]; exact Int.le_refl 0)
    rw [lay_no hk, fields_no hk, if_neg (by decide)]
    obtain ⟨f1, f2⟩ := fail_rel o2 (e := 11) (by decide)
    have f0 : r18_R_Fail y.2 11 = y.2 := by unfold r18_R_Fail; rw [if_neg hz]
    rw [f0] at f1 f2
    have a := oct_rel f1
    have a' := oct_rel a.2
    have e1 := byte_err hz
    rw [e1] at a a'
    have e2 := byte_err (q := y.2) hz
    rw [e2] at a'
    show (if reader_Reader_Err (reader_Reader_End (reader_Reader_Octet (reader_Reader_Octet (reader_Reader_Fail p1 11)).2).2) = 0 then _ else _) = _
    have z : ¬ E9 y.2 = 0 := by unfold E9; rw [if_neg hz]; exact hz
    rw [end_err a'.2, if_neg z]
    show (ZM, _) = fin9 (_, (r18_R_Byte (r18_R_Byte y.2).2).2)
    rw [e1, e2]
    unfold fin9
    rw [if_neg z]
    exact congrArg (fun e => (ZM, e)) (end_err a'.2)
theorem dec_eq (l : List UInt8) : wire_Decode l = r18_Decode l := by
  rcases e : r05_Open l with ⟨b, k⟩
  by_cases z : k = 0
  · subst z
    rw [dec_r e, dec_p ((open_eq l).trans e)]
  · unfold wire_Decode r18_Decode
    rw [open_eq, e]
    simp only [bnd_eq]
    rw [if_neg z, if_neg z]
end Go.Proofs.YtccjclalngabhaaGreat
