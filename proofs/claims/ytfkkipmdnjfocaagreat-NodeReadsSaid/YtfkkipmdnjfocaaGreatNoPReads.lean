/-
  PROVED HERE: what the law NodeReads tells is true.
  Conditions: none.
-/
import Derived.Test.YtfkkipmdnjfocaaGreatDReads
import Derived.Test.YtfkkipmdnjfocaaGreatNoV
namespace Go.Proofs.YtfkkipmdnjfocaaGreat
set_option linter.unusedVariables false
set_option linter.unusedSimpArgs false
def ZN : NodeT := NodeT.mk false (Ll.mk []) (Ll.mk []) (Ll.mk []) (Ll.mk [])
def E9 (q : RT) : Int := if q.xE = 0 then (if ((List.length q.xB.ls : Nat) : Int) > 0 then 11 else 0) else q.xE
def fin9 (x : NodeT × RT) : NodeT × Int := if E9 x.2 = 0 then (if r13_Check x.1 = 0 then (x.1, 0) else (ZN, r13_Check x.1)) else (ZN, E9 x.2)
theorem dec_r {l : List UInt8} (h : ¬ ((List.length l : Nat) : Int) > 480) : r13_Decode l = fin9 (r13_R_node (RT.mk (Ll.mk l) 0)) := by
  unfold r13_Decode fin9 E9
  rw [if_neg h]
  simp only [bnd_eq]
  generalize r13_R_node (RT.mk (Ll.mk l) 0) = x
  by_cases z : x.2.xE = 0
  · by_cases b : ((List.length x.2.xB.ls : Nat) : Int) > 0
    · simp only [if_pos z, if_pos b, r13_R_fail]
      rfl
    · simp only [if_pos z, if_neg b]
      first | rfl | (rw [z]; rfl) | (simp only [z, if_true, ↓reduceIte]; rfl)
  · simp only [if_neg z]
    rfl
theorem end_err {p : ReaderT} {q : RT} (h : rel p q) : reader_Reader_Err (reader_Reader_End p) = E9 q := by
  obtain ⟨h1, h2, h3⟩ := h
  unfold reader_Reader_Err reader_Reader_End E9
  simp only [bnd_eq]
  by_cases z : p.xerrno = 0
  · rw [h2 z, if_pos (show q.xE = 0 from h1 ▸ z)]
    by_cases b : ((List.length q.xB.ls : Nat) : Int) > 0
    · rw [if_pos b, if_pos b]
      unfold reader_Reader_Fail
      rw [if_pos z]
    · rw [if_neg b, if_neg b, z]
  · rw [h3 z, if_neg (fun e => z (h1.trans e)), if_neg (by decide), h1]
theorem leaf_eq (l : List PairD) : op_CheckMap l = r13_Check (NodeT.mk true (Ll.mk l) (Ll.mk []) (Ll.mk []) (Ll.mk [])) := by
  rw [← check_eq (p := NodeT.mk true (Ll.mk l) (Ll.mk []) (Ll.mk []) (Ll.mk [])) (show 0 + 0 + 0 ≤ 4611686018427387904 by decide)]
  rfl
theorem stem_eq {p : NodeT} (hl : ¬ p.xLeaf = true) (h0 : ((List.length p.xPairs.ls : Nat) : Int) = 0) : node_stem_check (stemT.mk (Ll.mk p.xKids.ls) (Ll.mk p.xPivots.ls) (Ll.mk p.xBuffers.ls)) = r13_Check p := by
  unfold r13_Check
  simp only [bnd_eq]
  rw [if_neg hl, if_neg (by omega)]
  unfold node_stem_check
  show (if ((List.length p.xKids.ls : Nat) : Int) < 2 then _ else _) = _
  by_cases a1 : ((List.length p.xKids.ls : Nat) : Int) < 2
  · rw [if_pos a1, if_pos a1]
  rw [if_neg a1, if_neg a1]
  by_cases a2 : ((List.length p.xKids.ls : Nat) : Int) > 8
  · rw [if_pos a2, if_pos a2]
  rw [if_neg a2, if_neg a2]
  by_cases a3 : ((List.length p.xPivots.ls : Nat) : Int) = (((List.length p.xKids.ls) - 1 : Nat) : Int)
  · rw [if_pos a3, if_pos a3]
    by_cases a4 : ((List.length p.xBuffers.ls : Nat) : Int) = ((List.length p.xKids.ls : Nat) : Int)
    · rw [if_pos a4, if_pos a4, c0_L _ p, c2_L _ p, c3_L _ p rfl]
      rcases c1_L (stemT.mk (Ll.mk p.xKids.ls) (Ll.mk p.xPivots.ls) (Ll.mk p.xBuffers.ls)) p.xPivots.ls 0 with ⟨b1, b2⟩ | ⟨b1, b2⟩
      · have b3 : r12_Pivots p.xPivots.ls = 0 := by
          unfold r12_Pivots
          rw [b2]
          rfl
        rw [b1, b3, if_pos rfl]
        rfl
      · have b3 : r12_Pivots p.xPivots.ls = 20 := by
          unfold r12_Pivots
          rw [b2]
          rfl
        rw [b1, b3, if_neg (by decide)]
        rfl
    · rw [if_neg a4, if_neg a4]
  · rw [if_neg a3, if_neg a3]
/-- the reference's leaf -/
def rLeaf (q : RT) : (List PairD) × RT :=
  let n := r13_R_number q 480
  let a := r13_R_node_L0 (n.1 + 1) n.1 n.2.xB.ls n.2.xE []
  (a.2.2, RT.mk (Ll.mk a.1) a.2.1)
theorem leaf_rel {p : ReaderT} {q : RT} (h : rel p q) : (reader_List_api_Pair p 480).1 = (rLeaf q).1 ∧ rel (reader_List_api_Pair p 480).2 (rLeaf q).2 := by
  have a := num_rel h 480
  unfold reader_List_api_Pair reader_Times_api_Pair rLeaf
  simp only [bnd_eq, a.1]
  exact tp_L _ _ _ _ _ 0 _ _ a.2 (by omega) (by omega) (by omega)
theorem node_is (q : RT) : r13_R_node q = if (r13_R_byte q).1 = 1 then (NodeT.mk true (Ll.mk (rLeaf (r13_R_byte q).2).1) (Ll.mk []) (Ll.mk []) (Ll.mk []), (rLeaf (r13_R_byte q).2).2)
    else if (r13_R_byte q).1 = 2 then (NodeT.mk false (Ll.mk []) (Ll.mk (rStem (r13_R_byte q).2).1.xkids.ls) (Ll.mk (rStem (r13_R_byte q).2).1.xpivots.ls) (Ll.mk (rStem (r13_R_byte q).2).1.xbuffers.ls), (rStem (r13_R_byte q).2).2)
    else (ZN, r13_R_fail (r13_R_byte q).2 11) := rfl
theorem dec_p {l : List UInt8} (h : ¬ ((List.length l : Nat) : Int) > 480) : node_Decode l = fin9 (r13_R_node (RT.mk (Ll.mk l) 0)) := by
  unfold node_Decode reader_New
  rw [if_neg h]
  simp only [bnd_eq]
  have o := oct_rel (p := ReaderT.mk (Ll.mk l) 0) (q := RT.mk (Ll.mk l) 0) ⟨rfl, fun _ => rfl, fun n => absurd rfl n⟩
  rw [o.1, node_is]
  have o2 := o.2
  clear o
  generalize (reader_Reader_Octet (ReaderT.mk (Ll.mk l) 0)).2 = p1 at o2 ⊢
  generalize r13_R_byte (RT.mk (Ll.mk l) 0) = b at o2 ⊢
  by_cases c1 : b.1 = 1
  · rw [if_pos c1, if_pos c1, (leaf_rel o2).1, end_err (leaf_rel o2).2, leaf_eq]
    rfl
  · rw [if_neg c1, if_neg c1]
    by_cases c2 : b.1 = 2
    · rw [if_pos c2, if_pos c2, (stem_rel o2).1, end_err (stem_rel o2).2]
      have e := stem_eq (p := NodeT.mk false (Ll.mk []) (Ll.mk (rStem b.2).1.xkids.ls) (Ll.mk (rStem b.2).1.xpivots.ls) (Ll.mk (rStem b.2).1.xbuffers.ls)) (fun h => by cases h) rfl
      have e2 : node_stem_check (rStem b.2).1 = r13_Check (NodeT.mk false (Ll.mk []) (Ll.mk (rStem b.2).1.xkids.ls) (Ll.mk (rStem b.2).1.xpivots.ls) (Ll.mk (rStem b.2).1.xbuffers.ls)) := e
      rw [e2]
      rfl
    · rw [if_neg c2, if_neg c2]
      obtain ⟨f1, f2⟩ := fail_rel o2 (e := 11) (by decide)
      have e : E9 (r13_R_fail b.2 11) = (r13_R_fail b.2 11).xE := by unfold E9; rw [if_neg f2]
      rw [end_err f1, e, if_neg f2]
      unfold fin9
      rw [e, if_neg f2]
      rfl
theorem dec_eq (l : List UInt8) : node_Decode l = r13_Decode l := by
  by_cases h : ((List.length l : Nat) : Int) > 480
  · unfold node_Decode r13_Decode
    rw [if_pos h, if_pos h]
  · rw [dec_p h, dec_r h]
theorem drop_get {α : Type} [Inhabited α] {l q : List α} {k : Nat} {x : α} (h : List.drop k l = x :: q) : List.getD l k default = x ∧ List.drop (k + 1) l = q := by
  have hk : k < List.length l := by
    rcases Nat.lt_or_ge k (List.length l) with h' | h'
    · exact h'
    · rw [List.drop_of_length_le h'] at h; cases h
  rw [List.drop_eq_getElem_cons hk] at h
  injection h with h1 h2
  exact ⟨by rw [List.getD_eq_getElem?_getD, List.getElem?_eq_getElem hk, h1]; rfl, h2⟩
theorem sm_L (l : List PairD) : ∀ (q : List PairD) (k : Nat), List.drop k l = q → r04_SameMap_L0 l q k = .inl ()
  | [], k, _ => rfl
  | x :: q, k, h => by
    unfold r04_SameMap_L0
    rw [bnd_eq, (drop_get h).1, if_pos ⟨rfl, rfl⟩, sm_L l q (k + 1) (drop_get h).2]
theorem se_L (l : List EntryD) : ∀ (q : List EntryD) (k : Nat), List.drop k l = q → r12_Same_L0 l q k = .inl ()
  | [], k, _ => rfl
  | x :: q, k, h => by
    unfold r12_Same_L0
    rw [bnd_eq, (drop_get h).1, if_pos ⟨rfl, rfl, rfl, rfl, rfl, rfl, rfl⟩, se_L l q (k + 1) (drop_get h).2]
theorem s0_L (p : NodeT) : ∀ (q : List Int) (k : Nat), List.drop k p.xKids.ls = q → r13_Same_L0 p p q k = .inl ()
  | [], k, _ => rfl
  | x :: q, k, h => by
    unfold r13_Same_L0
    rw [bnd_eq, (drop_get h).1, if_pos rfl, s0_L p q (k + 1) (drop_get h).2]
theorem s1_L (p : NodeT) : ∀ (q : List (List UInt8)) (k : Nat), List.drop k p.xPivots.ls = q → r13_Same_L1 p p q k = .inl ()
  | [], k, _ => rfl
  | x :: q, k, h => by
    unfold r13_Same_L1
    rw [bnd_eq, (drop_get h).1, if_neg (fun n => n rfl), s1_L p q (k + 1) (drop_get h).2]
theorem s2_L (p : NodeT) : ∀ (q : List (Ll EntryD)) (k : Nat), List.drop k p.xBuffers.ls = q → r13_Same_L2 p q k = .inl ()
  | [], k, _ => rfl
  | x :: q, k, h => by
    unfold r13_Same_L2
    have e : r12_Same x.ls x.ls = true := by
      unfold r12_Same
      rw [if_pos rfl, se_L x.ls x.ls 0 rfl]
      rfl
    rw [bnd_eq, (drop_get h).1, bnd_eq, e, if_pos rfl, s2_L p q (k + 1) (drop_get h).2]
theorem same_refl (p : NodeT) : r13_Same p p = true := by
  unfold r13_Same r04_SameMap
  rw [if_pos rfl, if_pos rfl, sm_L p.xPairs.ls p.xPairs.ls 0 rfl, bnd_eq]
  show (if true = true then _ else false) = true
  rw [if_pos rfl, if_pos rfl, if_pos rfl, if_pos rfl, s0_L p p.xKids.ls 0 rfl, s1_L p p.xPivots.ls 0 rfl, s2_L p p.xBuffers.ls 0 rfl]
  rfl
theorem rd_L (l : List UInt8) (r : Bool) : ∀ n : Nat, w13_NodeReads_L0 l r n = .inl ()
  | 0 => rfl
  | n + 1 => by
    unfold w13_NodeReads_L0
    simp only [bnd_eq]
    rw [dec_eq, if_pos rfl, same_refl, if_pos rfl]
    exact rd_L l r n
theorem T_NodeReads (l : List UInt8) : w13_NodeReads l = true := by
  unfold w13_NodeReads
  rw [live_true, bnd_eq, rd_L l true 2]
  split <;> rfl
end Go.Proofs.YtfkkipmdnjfocaaGreat
