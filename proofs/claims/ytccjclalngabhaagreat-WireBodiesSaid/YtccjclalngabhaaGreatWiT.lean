/-
  A message's fields read: the program's and the document's.
  Conditions: none.
-/
import Derived.Test.YtccjclalngabhaaGreatWiR
import Derived.Test.YtccjclalngabhaaGreatWiK
namespace Go.Proofs.YtccjclalngabhaaGreat
set_option linter.unusedVariables false
set_option linter.unusedSimpArgs false
def nums (m : MsgT) : Prop := m.xReq ≤ 18446744073709551615 ∧ m.xBoot ≤ 18446744073709551615 ∧ m.xTxn ≤ 18446744073709551615 ∧ m.xLow ≤ 18446744073709551615 ∧ m.xVer ≤ 18446744073709551615 ∧ m.xEpoch ≤ 18446744073709551615 ∧ m.xMove ≤ 18446744073709551615 ∧ m.xAttempt ≤ 18446744073709551615 ∧ m.xN ≤ 18446744073709551615
theorem rnum_le (q : RT) : (r18_R_Num q).1 ≤ 18446744073709551615 := by
  unfold r18_R_Num
  simp only [bnd_eq]
  repeat' split
  all_goals first | exact Nat.zero_le _ | exact rn_le _
def outA (x : List UInt8 × Int × Int × Int × Nat × Nat × Nat × Nat × Nat × Nat × Nat × Nat × Nat × Bool × (List UInt8) × (List UInt8) × (List OpD) × (List ResultT) × (List OwnerD)) : MsgT × ReaderT := (MsgT.mk 0 0 0 0 x.2.2.1 x.2.2.2.1 x.2.2.2.2.1 x.2.2.2.2.2.1 x.2.2.2.2.2.2.1 x.2.2.2.2.2.2.2.1 x.2.2.2.2.2.2.2.2.1 x.2.2.2.2.2.2.2.2.2.1 x.2.2.2.2.2.2.2.2.2.2.1 x.2.2.2.2.2.2.2.2.2.2.2.1 x.2.2.2.2.2.2.2.2.2.2.2.2.1 x.2.2.2.2.2.2.2.2.2.2.2.2.2.1 (RangeD.mk x.2.2.2.2.2.2.2.2.2.2.2.2.2.2.1 x.2.2.2.2.2.2.2.2.2.2.2.2.2.2.2.1) (Ll.mk x.2.2.2.2.2.2.2.2.2.2.2.2.2.2.2.2.1) (Ll.mk x.2.2.2.2.2.2.2.2.2.2.2.2.2.2.2.2.2.1) (Ll.mk x.2.2.2.2.2.2.2.2.2.2.2.2.2.2.2.2.2.2), ReaderT.mk (Ll.mk x.1) x.2.1)
def outB (x : Nat × Nat × Nat × Nat × Nat × (List ResultT) × Int × Int × Nat × Nat × Nat × Nat × Bool × (List UInt8) × (List UInt8) × (List OpD) × (List OwnerD) × (List UInt8) × Int) : MsgT × RT := (MsgT.mk 0 0 0 0 x.2.2.2.2.2.2.1 x.2.2.2.2.2.2.2.1 x.1 x.2.1 x.2.2.1 x.2.2.2.1 x.2.2.2.2.1 x.2.2.2.2.2.2.2.2.1 x.2.2.2.2.2.2.2.2.2.1 x.2.2.2.2.2.2.2.2.2.2.1 x.2.2.2.2.2.2.2.2.2.2.2.1 x.2.2.2.2.2.2.2.2.2.2.2.2.1 (RangeD.mk x.2.2.2.2.2.2.2.2.2.2.2.2.2.1 x.2.2.2.2.2.2.2.2.2.2.2.2.2.2.1) (Ll.mk x.2.2.2.2.2.2.2.2.2.2.2.2.2.2.2.1) (Ll.mk x.2.2.2.2.2.1) (Ll.mk x.2.2.2.2.2.2.2.2.2.2.2.2.2.2.2.2.1), RT.mk (Ll.mk x.2.2.2.2.2.2.2.2.2.2.2.2.2.2.2.2.2.1) x.2.2.2.2.2.2.2.2.2.2.2.2.2.2.2.2.2.2)
set_option maxHeartbeats 4000000 in
theorem msg_L0 (m : MsgT) (a0 a1 a2 : Int) {fs : List Int} {cs : List UInt8} (h : Corr fs cs) : ∀ (z1 z2 : Int) (k0 k1 k2 k3 k4 k5 k6 k7 k8 : Nat) (b : Bool) (s1 s2 : List UInt8) (l1 : List OpD) (l2 : List ResultT) (l3 : List OwnerD) (p : ReaderT) (q : RT), rel p q → (k0 ≤ 18446744073709551615 ∧ k1 ≤ 18446744073709551615 ∧ k2 ≤ 18446744073709551615 ∧ k3 ≤ 18446744073709551615 ∧ k4 ≤ 18446744073709551615 ∧ k5 ≤ 18446744073709551615 ∧ k6 ≤ 18446744073709551615 ∧ k7 ≤ 18446744073709551615 ∧ k8 ≤ 18446744073709551615) →
    (outA (wire_read_L0 m fs p.xrest.ls p.xerrno z1 z2 k0 k1 k2 k3 k4 k5 k6 k7 k8 b s1 s2 l1 l2 l3)).1 = (outB (r18_R_msg_L0 a0 a1 a2 cs z1 z2 k0 k1 k2 k3 k4 k5 k6 k7 k8 b s1 s2 l1 l2 l3 q.xB.ls q.xE)).1 ∧ rel (outA (wire_read_L0 m fs p.xrest.ls p.xerrno z1 z2 k0 k1 k2 k3 k4 k5 k6 k7 k8 b s1 s2 l1 l2 l3)).2 (outB (r18_R_msg_L0 a0 a1 a2 cs z1 z2 k0 k1 k2 k3 k4 k5 k6 k7 k8 b s1 s2 l1 l2 l3 q.xB.ls q.xE)).2 ∧ nums (outB (r18_R_msg_L0 a0 a1 a2 cs z1 z2 k0 k1 k2 k3 k4 k5 k6 k7 k8 b s1 s2 l1 l2 l3 q.xB.ls q.xE)).1 := by
  induction h with
  | nil => intro z1 z2 k0 k1 k2 k3 k4 k5 k6 k7 k8 b s1 s2 l1 l2 l3 p q h hn; exact ⟨rfl, h, hn⟩
  | q _ ih =>
    rename_i fs cs _
    intro z1 z2 k0 k1 k2 k3 k4 k5 k6 k7 k8 b s1 s2 l1 l2 l3 p q h hn
    have a := num_rel (p := (ReaderT.mk (Ll.mk p.xrest.ls) p.xerrno)) (q := (RT.mk (Ll.mk q.xB.ls) q.xE)) h
    rw [show wire_read_L0 m (0 :: fs) p.xrest.ls p.xerrno z1 z2 k0 k1 k2 k3 k4 k5 k6 k7 k8 b s1 s2 l1 l2 l3 = wire_read_L0 m fs (reader_Reader_Num (ReaderT.mk (Ll.mk p.xrest.ls) p.xerrno) 18446744073709551615).2.xrest.ls (reader_Reader_Num (ReaderT.mk (Ll.mk p.xrest.ls) p.xerrno) 18446744073709551615).2.xerrno z1 z2 ((reader_Reader_Num (ReaderT.mk (Ll.mk p.xrest.ls) p.xerrno) 18446744073709551615).1) k1 k2 k3 k4 k5 k6 k7 k8 b s1 s2 l1 l2 l3 from rfl, show r18_R_msg_L0 a0 a1 a2 (113 :: cs) z1 z2 k0 k1 k2 k3 k4 k5 k6 k7 k8 b s1 s2 l1 l2 l3 q.xB.ls q.xE = r18_R_msg_L0 a0 a1 a2 cs z1 z2 ((r18_R_Num (RT.mk (Ll.mk q.xB.ls) q.xE)).1) k1 k2 k3 k4 k5 k6 k7 k8 b s1 s2 l1 l2 l3 (r18_R_Num (RT.mk (Ll.mk q.xB.ls) q.xE)).2.xB.ls (r18_R_Num (RT.mk (Ll.mk q.xB.ls) q.xE)).2.xE from rfl, a.1]
    exact ih _ _ _ _ _ _ _ _ _ _ _ _ _ _ _ _ _ _ _ a.2 (by have hz := rnum_le (RT.mk (Ll.mk q.xB.ls) q.xE); obtain ⟨n0, n1, n2, n3, n4, n5, n6, n7, n8⟩ := hn; refine ⟨?_, ?_, ?_, ?_, ?_, ?_, ?_, ?_, ?_⟩ <;> assumption)
  | b _ ih =>
    rename_i fs cs _
    intro z1 z2 k0 k1 k2 k3 k4 k5 k6 k7 k8 b s1 s2 l1 l2 l3 p q h hn
    have a := num_rel (p := (ReaderT.mk (Ll.mk p.xrest.ls) p.xerrno)) (q := (RT.mk (Ll.mk q.xB.ls) q.xE)) h
    rw [show wire_read_L0 m (1 :: fs) p.xrest.ls p.xerrno z1 z2 k0 k1 k2 k3 k4 k5 k6 k7 k8 b s1 s2 l1 l2 l3 = wire_read_L0 m fs (reader_Reader_Num (ReaderT.mk (Ll.mk p.xrest.ls) p.xerrno) 18446744073709551615).2.xrest.ls (reader_Reader_Num (ReaderT.mk (Ll.mk p.xrest.ls) p.xerrno) 18446744073709551615).2.xerrno z1 z2 k0 ((reader_Reader_Num (ReaderT.mk (Ll.mk p.xrest.ls) p.xerrno) 18446744073709551615).1) k2 k3 k4 k5 k6 k7 k8 b s1 s2 l1 l2 l3 from rfl, show r18_R_msg_L0 a0 a1 a2 (98 :: cs) z1 z2 k0 k1 k2 k3 k4 k5 k6 k7 k8 b s1 s2 l1 l2 l3 q.xB.ls q.xE = r18_R_msg_L0 a0 a1 a2 cs z1 z2 k0 ((r18_R_Num (RT.mk (Ll.mk q.xB.ls) q.xE)).1) k2 k3 k4 k5 k6 k7 k8 b s1 s2 l1 l2 l3 (r18_R_Num (RT.mk (Ll.mk q.xB.ls) q.xE)).2.xB.ls (r18_R_Num (RT.mk (Ll.mk q.xB.ls) q.xE)).2.xE from rfl, a.1]
    exact ih _ _ _ _ _ _ _ _ _ _ _ _ _ _ _ _ _ _ _ a.2 (by have hz := rnum_le (RT.mk (Ll.mk q.xB.ls) q.xE); obtain ⟨n0, n1, n2, n3, n4, n5, n6, n7, n8⟩ := hn; refine ⟨?_, ?_, ?_, ?_, ?_, ?_, ?_, ?_, ?_⟩ <;> assumption)
  | t _ ih =>
    rename_i fs cs _
    intro z1 z2 k0 k1 k2 k3 k4 k5 k6 k7 k8 b s1 s2 l1 l2 l3 p q h hn
    have a := num_rel (p := (ReaderT.mk (Ll.mk p.xrest.ls) p.xerrno)) (q := (RT.mk (Ll.mk q.xB.ls) q.xE)) h
    rw [show wire_read_L0 m (4 :: fs) p.xrest.ls p.xerrno z1 z2 k0 k1 k2 k3 k4 k5 k6 k7 k8 b s1 s2 l1 l2 l3 = wire_read_L0 m fs (reader_Reader_Num (ReaderT.mk (Ll.mk p.xrest.ls) p.xerrno) 18446744073709551615).2.xrest.ls (reader_Reader_Num (ReaderT.mk (Ll.mk p.xrest.ls) p.xerrno) 18446744073709551615).2.xerrno z1 z2 k0 k1 ((reader_Reader_Num (ReaderT.mk (Ll.mk p.xrest.ls) p.xerrno) 18446744073709551615).1) k3 k4 k5 k6 k7 k8 b s1 s2 l1 l2 l3 from rfl, show r18_R_msg_L0 a0 a1 a2 (116 :: cs) z1 z2 k0 k1 k2 k3 k4 k5 k6 k7 k8 b s1 s2 l1 l2 l3 q.xB.ls q.xE = r18_R_msg_L0 a0 a1 a2 cs z1 z2 k0 k1 ((r18_R_Num (RT.mk (Ll.mk q.xB.ls) q.xE)).1) k3 k4 k5 k6 k7 k8 b s1 s2 l1 l2 l3 (r18_R_Num (RT.mk (Ll.mk q.xB.ls) q.xE)).2.xB.ls (r18_R_Num (RT.mk (Ll.mk q.xB.ls) q.xE)).2.xE from rfl, a.1]
    exact ih _ _ _ _ _ _ _ _ _ _ _ _ _ _ _ _ _ _ _ a.2 (by have hz := rnum_le (RT.mk (Ll.mk q.xB.ls) q.xE); obtain ⟨n0, n1, n2, n3, n4, n5, n6, n7, n8⟩ := hn; refine ⟨?_, ?_, ?_, ?_, ?_, ?_, ?_, ?_, ?_⟩ <;> assumption)
  | l _ ih =>
    rename_i fs cs _
    intro z1 z2 k0 k1 k2 k3 k4 k5 k6 k7 k8 b s1 s2 l1 l2 l3 p q h hn
    have a := num_rel (p := (ReaderT.mk (Ll.mk p.xrest.ls) p.xerrno)) (q := (RT.mk (Ll.mk q.xB.ls) q.xE)) h
    rw [show wire_read_L0 m (5 :: fs) p.xrest.ls p.xerrno z1 z2 k0 k1 k2 k3 k4 k5 k6 k7 k8 b s1 s2 l1 l2 l3 = wire_read_L0 m fs (reader_Reader_Num (ReaderT.mk (Ll.mk p.xrest.ls) p.xerrno) 18446744073709551615).2.xrest.ls (reader_Reader_Num (ReaderT.mk (Ll.mk p.xrest.ls) p.xerrno) 18446744073709551615).2.xerrno z1 z2 k0 k1 k2 ((reader_Reader_Num (ReaderT.mk (Ll.mk p.xrest.ls) p.xerrno) 18446744073709551615).1) k4 k5 k6 k7 k8 b s1 s2 l1 l2 l3 from rfl, show r18_R_msg_L0 a0 a1 a2 (108 :: cs) z1 z2 k0 k1 k2 k3 k4 k5 k6 k7 k8 b s1 s2 l1 l2 l3 q.xB.ls q.xE = r18_R_msg_L0 a0 a1 a2 cs z1 z2 k0 k1 k2 ((r18_R_Num (RT.mk (Ll.mk q.xB.ls) q.xE)).1) k4 k5 k6 k7 k8 b s1 s2 l1 l2 l3 (r18_R_Num (RT.mk (Ll.mk q.xB.ls) q.xE)).2.xB.ls (r18_R_Num (RT.mk (Ll.mk q.xB.ls) q.xE)).2.xE from rfl, a.1]
    exact ih _ _ _ _ _ _ _ _ _ _ _ _ _ _ _ _ _ _ _ a.2 (by have hz := rnum_le (RT.mk (Ll.mk q.xB.ls) q.xE); obtain ⟨n0, n1, n2, n3, n4, n5, n6, n7, n8⟩ := hn; refine ⟨?_, ?_, ?_, ?_, ?_, ?_, ?_, ?_, ?_⟩ <;> assumption)
  | e _ ih =>
    rename_i fs cs _
    intro z1 z2 k0 k1 k2 k3 k4 k5 k6 k7 k8 b s1 s2 l1 l2 l3 p q h hn
    have a := num_rel (p := (ReaderT.mk (Ll.mk p.xrest.ls) p.xerrno)) (q := (RT.mk (Ll.mk q.xB.ls) q.xE)) h
    rw [show wire_read_L0 m (6 :: fs) p.xrest.ls p.xerrno z1 z2 k0 k1 k2 k3 k4 k5 k6 k7 k8 b s1 s2 l1 l2 l3 = wire_read_L0 m fs (reader_Reader_Num (ReaderT.mk (Ll.mk p.xrest.ls) p.xerrno) 18446744073709551615).2.xrest.ls (reader_Reader_Num (ReaderT.mk (Ll.mk p.xrest.ls) p.xerrno) 18446744073709551615).2.xerrno z1 z2 k0 k1 k2 k3 k4 ((reader_Reader_Num (ReaderT.mk (Ll.mk p.xrest.ls) p.xerrno) 18446744073709551615).1) k6 k7 k8 b s1 s2 l1 l2 l3 from rfl, show r18_R_msg_L0 a0 a1 a2 (101 :: cs) z1 z2 k0 k1 k2 k3 k4 k5 k6 k7 k8 b s1 s2 l1 l2 l3 q.xB.ls q.xE = r18_R_msg_L0 a0 a1 a2 cs z1 z2 k0 k1 k2 k3 k4 ((r18_R_Num (RT.mk (Ll.mk q.xB.ls) q.xE)).1) k6 k7 k8 b s1 s2 l1 l2 l3 (r18_R_Num (RT.mk (Ll.mk q.xB.ls) q.xE)).2.xB.ls (r18_R_Num (RT.mk (Ll.mk q.xB.ls) q.xE)).2.xE from rfl, a.1]
    exact ih _ _ _ _ _ _ _ _ _ _ _ _ _ _ _ _ _ _ _ a.2 (by have hz := rnum_le (RT.mk (Ll.mk q.xB.ls) q.xE); obtain ⟨n0, n1, n2, n3, n4, n5, n6, n7, n8⟩ := hn; refine ⟨?_, ?_, ?_, ?_, ?_, ?_, ?_, ?_, ?_⟩ <;> assumption)
  | v _ ih =>
    rename_i fs cs _
    intro z1 z2 k0 k1 k2 k3 k4 k5 k6 k7 k8 b s1 s2 l1 l2 l3 p q h hn
    have a := num_rel (p := (ReaderT.mk (Ll.mk p.xrest.ls) p.xerrno)) (q := (RT.mk (Ll.mk q.xB.ls) q.xE)) h
    rw [show wire_read_L0 m (9 :: fs) p.xrest.ls p.xerrno z1 z2 k0 k1 k2 k3 k4 k5 k6 k7 k8 b s1 s2 l1 l2 l3 = wire_read_L0 m fs (reader_Reader_Num (ReaderT.mk (Ll.mk p.xrest.ls) p.xerrno) 18446744073709551615).2.xrest.ls (reader_Reader_Num (ReaderT.mk (Ll.mk p.xrest.ls) p.xerrno) 18446744073709551615).2.xerrno z1 z2 k0 k1 k2 k3 ((reader_Reader_Num (ReaderT.mk (Ll.mk p.xrest.ls) p.xerrno) 18446744073709551615).1) k5 k6 k7 k8 b s1 s2 l1 l2 l3 from rfl, show r18_R_msg_L0 a0 a1 a2 (118 :: cs) z1 z2 k0 k1 k2 k3 k4 k5 k6 k7 k8 b s1 s2 l1 l2 l3 q.xB.ls q.xE = r18_R_msg_L0 a0 a1 a2 cs z1 z2 k0 k1 k2 k3 ((r18_R_Num (RT.mk (Ll.mk q.xB.ls) q.xE)).1) k5 k6 k7 k8 b s1 s2 l1 l2 l3 (r18_R_Num (RT.mk (Ll.mk q.xB.ls) q.xE)).2.xB.ls (r18_R_Num (RT.mk (Ll.mk q.xB.ls) q.xE)).2.xE from rfl, a.1]
    exact ih _ _ _ _ _ _ _ _ _ _ _ _ _ _ _ _ _ _ _ a.2 (by have hz := rnum_le (RT.mk (Ll.mk q.xB.ls) q.xE); obtain ⟨n0, n1, n2, n3, n4, n5, n6, n7, n8⟩ := hn; refine ⟨?_, ?_, ?_, ?_, ?_, ?_, ?_, ?_, ?_⟩ <;> assumption)
  | m _ ih =>
    rename_i fs cs _
    intro z1 z2 k0 k1 k2 k3 k4 k5 k6 k7 k8 b s1 s2 l1 l2 l3 p q h hn
    have a := num_rel (p := (ReaderT.mk (Ll.mk p.xrest.ls) p.xerrno)) (q := (RT.mk (Ll.mk q.xB.ls) q.xE)) h
    rw [show wire_read_L0 m (10 :: fs) p.xrest.ls p.xerrno z1 z2 k0 k1 k2 k3 k4 k5 k6 k7 k8 b s1 s2 l1 l2 l3 = wire_read_L0 m fs (reader_Reader_Num (ReaderT.mk (Ll.mk p.xrest.ls) p.xerrno) 18446744073709551615).2.xrest.ls (reader_Reader_Num (ReaderT.mk (Ll.mk p.xrest.ls) p.xerrno) 18446744073709551615).2.xerrno z1 z2 k0 k1 k2 k3 k4 k5 ((reader_Reader_Num (ReaderT.mk (Ll.mk p.xrest.ls) p.xerrno) 18446744073709551615).1) k7 k8 b s1 s2 l1 l2 l3 from rfl, show r18_R_msg_L0 a0 a1 a2 (109 :: cs) z1 z2 k0 k1 k2 k3 k4 k5 k6 k7 k8 b s1 s2 l1 l2 l3 q.xB.ls q.xE = r18_R_msg_L0 a0 a1 a2 cs z1 z2 k0 k1 k2 k3 k4 k5 ((r18_R_Num (RT.mk (Ll.mk q.xB.ls) q.xE)).1) k7 k8 b s1 s2 l1 l2 l3 (r18_R_Num (RT.mk (Ll.mk q.xB.ls) q.xE)).2.xB.ls (r18_R_Num (RT.mk (Ll.mk q.xB.ls) q.xE)).2.xE from rfl, a.1]
    exact ih _ _ _ _ _ _ _ _ _ _ _ _ _ _ _ _ _ _ _ a.2 (by have hz := rnum_le (RT.mk (Ll.mk q.xB.ls) q.xE); obtain ⟨n0, n1, n2, n3, n4, n5, n6, n7, n8⟩ := hn; refine ⟨?_, ?_, ?_, ?_, ?_, ?_, ?_, ?_, ?_⟩ <;> assumption)
  | a _ ih =>
    rename_i fs cs _
    intro z1 z2 k0 k1 k2 k3 k4 k5 k6 k7 k8 b s1 s2 l1 l2 l3 p q h hn
    have a := num_rel (p := (ReaderT.mk (Ll.mk p.xrest.ls) p.xerrno)) (q := (RT.mk (Ll.mk q.xB.ls) q.xE)) h
    rw [show wire_read_L0 m (14 :: fs) p.xrest.ls p.xerrno z1 z2 k0 k1 k2 k3 k4 k5 k6 k7 k8 b s1 s2 l1 l2 l3 = wire_read_L0 m fs (reader_Reader_Num (ReaderT.mk (Ll.mk p.xrest.ls) p.xerrno) 18446744073709551615).2.xrest.ls (reader_Reader_Num (ReaderT.mk (Ll.mk p.xrest.ls) p.xerrno) 18446744073709551615).2.xerrno z1 z2 k0 k1 k2 k3 k4 k5 k6 ((reader_Reader_Num (ReaderT.mk (Ll.mk p.xrest.ls) p.xerrno) 18446744073709551615).1) k8 b s1 s2 l1 l2 l3 from rfl, show r18_R_msg_L0 a0 a1 a2 (97 :: cs) z1 z2 k0 k1 k2 k3 k4 k5 k6 k7 k8 b s1 s2 l1 l2 l3 q.xB.ls q.xE = r18_R_msg_L0 a0 a1 a2 cs z1 z2 k0 k1 k2 k3 k4 k5 k6 ((r18_R_Num (RT.mk (Ll.mk q.xB.ls) q.xE)).1) k8 b s1 s2 l1 l2 l3 (r18_R_Num (RT.mk (Ll.mk q.xB.ls) q.xE)).2.xB.ls (r18_R_Num (RT.mk (Ll.mk q.xB.ls) q.xE)).2.xE from rfl, a.1]
    exact ih _ _ _ _ _ _ _ _ _ _ _ _ _ _ _ _ _ _ _ a.2 (by have hz := rnum_le (RT.mk (Ll.mk q.xB.ls) q.xE); obtain ⟨n0, n1, n2, n3, n4, n5, n6, n7, n8⟩ := hn; refine ⟨?_, ?_, ?_, ?_, ?_, ?_, ?_, ?_, ?_⟩ <;> assumption)
  | n _ ih =>
    rename_i fs cs _
    intro z1 z2 k0 k1 k2 k3 k4 k5 k6 k7 k8 b s1 s2 l1 l2 l3 p q h hn
    have a := num_rel (p := (ReaderT.mk (Ll.mk p.xrest.ls) p.xerrno)) (q := (RT.mk (Ll.mk q.xB.ls) q.xE)) h
    rw [show wire_read_L0 m (15 :: fs) p.xrest.ls p.xerrno z1 z2 k0 k1 k2 k3 k4 k5 k6 k7 k8 b s1 s2 l1 l2 l3 = wire_read_L0 m fs (reader_Reader_Num (ReaderT.mk (Ll.mk p.xrest.ls) p.xerrno) 18446744073709551615).2.xrest.ls (reader_Reader_Num (ReaderT.mk (Ll.mk p.xrest.ls) p.xerrno) 18446744073709551615).2.xerrno z1 z2 k0 k1 k2 k3 k4 k5 k6 k7 ((reader_Reader_Num (ReaderT.mk (Ll.mk p.xrest.ls) p.xerrno) 18446744073709551615).1) b s1 s2 l1 l2 l3 from rfl, show r18_R_msg_L0 a0 a1 a2 (110 :: cs) z1 z2 k0 k1 k2 k3 k4 k5 k6 k7 k8 b s1 s2 l1 l2 l3 q.xB.ls q.xE = r18_R_msg_L0 a0 a1 a2 cs z1 z2 k0 k1 k2 k3 k4 k5 k6 k7 ((r18_R_Num (RT.mk (Ll.mk q.xB.ls) q.xE)).1) b s1 s2 l1 l2 l3 (r18_R_Num (RT.mk (Ll.mk q.xB.ls) q.xE)).2.xB.ls (r18_R_Num (RT.mk (Ll.mk q.xB.ls) q.xE)).2.xE from rfl, a.1]
    exact ih _ _ _ _ _ _ _ _ _ _ _ _ _ _ _ _ _ _ _ a.2 (by have hz := rnum_le (RT.mk (Ll.mk q.xB.ls) q.xE); obtain ⟨n0, n1, n2, n3, n4, n5, n6, n7, n8⟩ := hn; refine ⟨?_, ?_, ?_, ?_, ?_, ?_, ?_, ?_, ?_⟩ <;> assumption)
  | c _ ih =>
    rename_i fs cs _
    intro z1 z2 k0 k1 k2 k3 k4 k5 k6 k7 k8 b s1 s2 l1 l2 l3 p q h hn
    have a := oct_rel (p := (ReaderT.mk (Ll.mk p.xrest.ls) p.xerrno)) (q := (RT.mk (Ll.mk q.xB.ls) q.xE)) h
    rw [show wire_read_L0 m (2 :: fs) p.xrest.ls p.xerrno z1 z2 k0 k1 k2 k3 k4 k5 k6 k7 k8 b s1 s2 l1 l2 l3 = wire_read_L0 m fs (reader_Reader_Octet (ReaderT.mk (Ll.mk p.xrest.ls) p.xerrno)).2.xrest.ls (reader_Reader_Octet (ReaderT.mk (Ll.mk p.xrest.ls) p.xerrno)).2.xerrno ((((reader_Reader_Octet (ReaderT.mk (Ll.mk p.xrest.ls) p.xerrno)).1.toNat : Nat) : Int)) z2 k0 k1 k2 k3 k4 k5 k6 k7 k8 b s1 s2 l1 l2 l3 from rfl, show r18_R_msg_L0 a0 a1 a2 (99 :: cs) z1 z2 k0 k1 k2 k3 k4 k5 k6 k7 k8 b s1 s2 l1 l2 l3 q.xB.ls q.xE = r18_R_msg_L0 a0 a1 a2 cs ((r18_R_Byte (RT.mk (Ll.mk q.xB.ls) q.xE)).1) z2 k0 k1 k2 k3 k4 k5 k6 k7 k8 b s1 s2 l1 l2 l3 (r18_R_Byte (RT.mk (Ll.mk q.xB.ls) q.xE)).2.xB.ls (r18_R_Byte (RT.mk (Ll.mk q.xB.ls) q.xE)).2.xE from rfl, a.1]
    exact ih _ _ _ _ _ _ _ _ _ _ _ _ _ _ _ _ _ _ _ a.2 (by skip; obtain ⟨n0, n1, n2, n3, n4, n5, n6, n7, n8⟩ := hn; refine ⟨?_, ?_, ?_, ?_, ?_, ?_, ?_, ?_, ?_⟩ <;> assumption)
  | p _ ih =>
    rename_i fs cs _
    intro z1 z2 k0 k1 k2 k3 k4 k5 k6 k7 k8 b s1 s2 l1 l2 l3 p q h hn
    have a := oct_rel (p := (ReaderT.mk (Ll.mk p.xrest.ls) p.xerrno)) (q := (RT.mk (Ll.mk q.xB.ls) q.xE)) h
    rw [show wire_read_L0 m (12 :: fs) p.xrest.ls p.xerrno z1 z2 k0 k1 k2 k3 k4 k5 k6 k7 k8 b s1 s2 l1 l2 l3 = wire_read_L0 m fs (reader_Reader_Octet (ReaderT.mk (Ll.mk p.xrest.ls) p.xerrno)).2.xrest.ls (reader_Reader_Octet (ReaderT.mk (Ll.mk p.xrest.ls) p.xerrno)).2.xerrno z1 ((((reader_Reader_Octet (ReaderT.mk (Ll.mk p.xrest.ls) p.xerrno)).1.toNat : Nat) : Int)) k0 k1 k2 k3 k4 k5 k6 k7 k8 b s1 s2 l1 l2 l3 from rfl, show r18_R_msg_L0 a0 a1 a2 (112 :: cs) z1 z2 k0 k1 k2 k3 k4 k5 k6 k7 k8 b s1 s2 l1 l2 l3 q.xB.ls q.xE = r18_R_msg_L0 a0 a1 a2 cs z1 ((r18_R_Byte (RT.mk (Ll.mk q.xB.ls) q.xE)).1) k0 k1 k2 k3 k4 k5 k6 k7 k8 b s1 s2 l1 l2 l3 (r18_R_Byte (RT.mk (Ll.mk q.xB.ls) q.xE)).2.xB.ls (r18_R_Byte (RT.mk (Ll.mk q.xB.ls) q.xE)).2.xE from rfl, a.1]
    exact ih _ _ _ _ _ _ _ _ _ _ _ _ _ _ _ _ _ _ _ a.2 (by skip; obtain ⟨n0, n1, n2, n3, n4, n5, n6, n7, n8⟩ := hn; refine ⟨?_, ?_, ?_, ?_, ?_, ?_, ?_, ?_, ?_⟩ <;> assumption)
  | f _ ih =>
    rename_i fs cs _
    intro z1 z2 k0 k1 k2 k3 k4 k5 k6 k7 k8 b s1 s2 l1 l2 l3 p q h hn
    have a := flag_rel (p := (ReaderT.mk (Ll.mk p.xrest.ls) p.xerrno)) (q := (RT.mk (Ll.mk q.xB.ls) q.xE)) h
    rw [show wire_read_L0 m (8 :: fs) p.xrest.ls p.xerrno z1 z2 k0 k1 k2 k3 k4 k5 k6 k7 k8 b s1 s2 l1 l2 l3 = wire_read_L0 m fs (wire_readTruth (ReaderT.mk (Ll.mk p.xrest.ls) p.xerrno)).2.xrest.ls (wire_readTruth (ReaderT.mk (Ll.mk p.xrest.ls) p.xerrno)).2.xerrno z1 z2 k0 k1 k2 k3 k4 k5 k6 k7 k8 ((wire_readTruth (ReaderT.mk (Ll.mk p.xrest.ls) p.xerrno)).1) s1 s2 l1 l2 l3 from rfl, show r18_R_msg_L0 a0 a1 a2 (102 :: cs) z1 z2 k0 k1 k2 k3 k4 k5 k6 k7 k8 b s1 s2 l1 l2 l3 q.xB.ls q.xE = r18_R_msg_L0 a0 a1 a2 cs z1 z2 k0 k1 k2 k3 k4 k5 k6 k7 k8 ((r18_R_Flag (RT.mk (Ll.mk q.xB.ls) q.xE)).1) s1 s2 l1 l2 l3 (r18_R_Flag (RT.mk (Ll.mk q.xB.ls) q.xE)).2.xB.ls (r18_R_Flag (RT.mk (Ll.mk q.xB.ls) q.xE)).2.xE from rfl, a.1]
    exact ih _ _ _ _ _ _ _ _ _ _ _ _ _ _ _ _ _ _ _ a.2 (by skip; obtain ⟨n0, n1, n2, n3, n4, n5, n6, n7, n8⟩ := hn; refine ⟨?_, ?_, ?_, ?_, ?_, ?_, ?_, ?_, ?_⟩ <;> assumption)
  | r _ ih =>
    rename_i fs cs _
    intro z1 z2 k0 k1 k2 k3 k4 k5 k6 k7 k8 b s1 s2 l1 l2 l3 p q h hn
    have a := text_rel (p := (ReaderT.mk (Ll.mk p.xrest.ls) p.xerrno)) (q := (RT.mk (Ll.mk q.xB.ls) q.xE)) h
    have a' := text_rel a.2
    rw [show wire_read_L0 m (13 :: fs) p.xrest.ls p.xerrno z1 z2 k0 k1 k2 k3 k4 k5 k6 k7 k8 b s1 s2 l1 l2 l3 = wire_read_L0 m fs (reader_Reader_Text (reader_Reader_Text (ReaderT.mk (Ll.mk p.xrest.ls) p.xerrno) 255).2 255).2.xrest.ls (reader_Reader_Text (reader_Reader_Text (ReaderT.mk (Ll.mk p.xrest.ls) p.xerrno) 255).2 255).2.xerrno z1 z2 k0 k1 k2 k3 k4 k5 k6 k7 k8 b (reader_Reader_Text (ReaderT.mk (Ll.mk p.xrest.ls) p.xerrno) 255).1 (reader_Reader_Text (reader_Reader_Text (ReaderT.mk (Ll.mk p.xrest.ls) p.xerrno) 255).2 255).1 l1 l2 l3 from rfl, show r18_R_msg_L0 a0 a1 a2 (114 :: cs) z1 z2 k0 k1 k2 k3 k4 k5 k6 k7 k8 b s1 s2 l1 l2 l3 q.xB.ls q.xE = r18_R_msg_L0 a0 a1 a2 cs z1 z2 k0 k1 k2 k3 k4 k5 k6 k7 k8 b (r18_R_Text (RT.mk (Ll.mk q.xB.ls) q.xE)).1 (r18_R_Text (r18_R_Text (RT.mk (Ll.mk q.xB.ls) q.xE)).2).1 l1 l2 l3 (r18_R_Text (r18_R_Text (RT.mk (Ll.mk q.xB.ls) q.xE)).2).2.xB.ls (r18_R_Text (r18_R_Text (RT.mk (Ll.mk q.xB.ls) q.xE)).2).2.xE from rfl, a'.1, a.1]
    exact ih _ _ _ _ _ _ _ _ _ _ _ _ _ _ _ _ _ _ _ a'.2 hn
  | o _ ih =>
    rename_i fs cs _
    intro z1 z2 k0 k1 k2 k3 k4 k5 k6 k7 k8 b s1 s2 l1 l2 l3 p q h hn
    have a := opsl_rel (p := (ReaderT.mk (Ll.mk p.xrest.ls) p.xerrno)) (q := (RT.mk (Ll.mk q.xB.ls) q.xE)) h
    rw [show wire_read_L0 m (7 :: fs) p.xrest.ls p.xerrno z1 z2 k0 k1 k2 k3 k4 k5 k6 k7 k8 b s1 s2 l1 l2 l3 = wire_read_L0 m fs (reader_List_api_Op (ReaderT.mk (Ll.mk p.xrest.ls) p.xerrno) 255).2.xrest.ls (reader_List_api_Op (ReaderT.mk (Ll.mk p.xrest.ls) p.xerrno) 255).2.xerrno z1 z2 k0 k1 k2 k3 k4 k5 k6 k7 k8 b s1 s2 ((reader_List_api_Op (ReaderT.mk (Ll.mk p.xrest.ls) p.xerrno) 255).1) l2 l3 from rfl, show r18_R_msg_L0 a0 a1 a2 (111 :: cs) z1 z2 k0 k1 k2 k3 k4 k5 k6 k7 k8 b s1 s2 l1 l2 l3 q.xB.ls q.xE = r18_R_msg_L0 a0 a1 a2 cs z1 z2 k0 k1 k2 k3 k4 k5 k6 k7 k8 b s1 s2 ((r18_R_Ops (RT.mk (Ll.mk q.xB.ls) q.xE)).1) l2 l3 (r18_R_Ops (RT.mk (Ll.mk q.xB.ls) q.xE)).2.xB.ls (r18_R_Ops (RT.mk (Ll.mk q.xB.ls) q.xE)).2.xE from rfl, a.1]
    exact ih _ _ _ _ _ _ _ _ _ _ _ _ _ _ _ _ _ _ _ a.2 (by skip; obtain ⟨n0, n1, n2, n3, n4, n5, n6, n7, n8⟩ := hn; refine ⟨?_, ?_, ?_, ?_, ?_, ?_, ?_, ?_, ?_⟩ <;> assumption)
  | s _ ih =>
    rename_i fs cs _
    intro z1 z2 k0 k1 k2 k3 k4 k5 k6 k7 k8 b s1 s2 l1 l2 l3 p q h hn
    have a := resl_rel (p := (ReaderT.mk (Ll.mk p.xrest.ls) p.xerrno)) (q := (RT.mk (Ll.mk q.xB.ls) q.xE)) h
    rw [show wire_read_L0 m (3 :: fs) p.xrest.ls p.xerrno z1 z2 k0 k1 k2 k3 k4 k5 k6 k7 k8 b s1 s2 l1 l2 l3 = wire_read_L0 m fs (reader_List_api_Result (ReaderT.mk (Ll.mk p.xrest.ls) p.xerrno) 255).2.xrest.ls (reader_List_api_Result (ReaderT.mk (Ll.mk p.xrest.ls) p.xerrno) 255).2.xerrno z1 z2 k0 k1 k2 k3 k4 k5 k6 k7 k8 b s1 s2 l1 ((reader_List_api_Result (ReaderT.mk (Ll.mk p.xrest.ls) p.xerrno) 255).1) l3 from rfl, show r18_R_msg_L0 a0 a1 a2 (115 :: cs) z1 z2 k0 k1 k2 k3 k4 k5 k6 k7 k8 b s1 s2 l1 l2 l3 q.xB.ls q.xE = r18_R_msg_L0 a0 a1 a2 cs z1 z2 k0 k1 k2 k3 k4 k5 k6 k7 k8 b s1 s2 l1 ((r18_R_Res (RT.mk (Ll.mk q.xB.ls) q.xE)).1) l3 (r18_R_Res (RT.mk (Ll.mk q.xB.ls) q.xE)).2.xB.ls (r18_R_Res (RT.mk (Ll.mk q.xB.ls) q.xE)).2.xE from rfl, a.1]
    exact ih _ _ _ _ _ _ _ _ _ _ _ _ _ _ _ _ _ _ _ a.2 (by skip; obtain ⟨n0, n1, n2, n3, n4, n5, n6, n7, n8⟩ := hn; refine ⟨?_, ?_, ?_, ?_, ?_, ?_, ?_, ?_, ?_⟩ <;> assumption)
  | w _ ih =>
    rename_i fs cs _
    intro z1 z2 k0 k1 k2 k3 k4 k5 k6 k7 k8 b s1 s2 l1 l2 l3 p q h hn
    have a := owsl_rel (p := (ReaderT.mk (Ll.mk p.xrest.ls) p.xerrno)) (q := (RT.mk (Ll.mk q.xB.ls) q.xE)) h
    rw [show wire_read_L0 m (11 :: fs) p.xrest.ls p.xerrno z1 z2 k0 k1 k2 k3 k4 k5 k6 k7 k8 b s1 s2 l1 l2 l3 = wire_read_L0 m fs (reader_List_api_Owner (ReaderT.mk (Ll.mk p.xrest.ls) p.xerrno) 255).2.xrest.ls (reader_List_api_Owner (ReaderT.mk (Ll.mk p.xrest.ls) p.xerrno) 255).2.xerrno z1 z2 k0 k1 k2 k3 k4 k5 k6 k7 k8 b s1 s2 l1 l2 ((reader_List_api_Owner (ReaderT.mk (Ll.mk p.xrest.ls) p.xerrno) 255).1) from rfl, show r18_R_msg_L0 a0 a1 a2 (119 :: cs) z1 z2 k0 k1 k2 k3 k4 k5 k6 k7 k8 b s1 s2 l1 l2 l3 q.xB.ls q.xE = r18_R_msg_L0 a0 a1 a2 cs z1 z2 k0 k1 k2 k3 k4 k5 k6 k7 k8 b s1 s2 l1 l2 ((r18_R_Owners (RT.mk (Ll.mk q.xB.ls) q.xE)).1) (r18_R_Owners (RT.mk (Ll.mk q.xB.ls) q.xE)).2.xB.ls (r18_R_Owners (RT.mk (Ll.mk q.xB.ls) q.xE)).2.xE from rfl, a.1]
    exact ih _ _ _ _ _ _ _ _ _ _ _ _ _ _ _ _ _ _ _ a.2 (by skip; obtain ⟨n0, n1, n2, n3, n4, n5, n6, n7, n8⟩ := hn; refine ⟨?_, ?_, ?_, ?_, ?_, ?_, ?_, ?_, ?_⟩ <;> assumption)
end Go.Proofs.YtccjclalngabhaaGreat
