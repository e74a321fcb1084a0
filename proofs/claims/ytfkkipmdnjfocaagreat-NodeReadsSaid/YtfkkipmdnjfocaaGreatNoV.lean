/-
  Nodes read: the program's reader and the reference's go side by side.
  Conditions: none beyond each law's own.
-/
import Derived.Test.YtfkkipmdnjfocaaGreatDv
import Derived.Test.YtfkkipmdnjfocaaGreatNoU
import Derived.Test.YtfkkipmdnjfocaaGreatNoY
namespace Go.Proofs.YtfkkipmdnjfocaaGreat
set_option linter.unusedVariables false
set_option linter.unusedSimpArgs false
/-- the same bytes left, the same error; behind an error the program has none left -/
def rel (p : ReaderT) (q : RT) : Prop := p.xerrno = q.xE ∧ (p.xerrno = 0 → p.xrest.ls = q.xB.ls) ∧ (¬ p.xerrno = 0 → p.xrest.ls = [])
theorem fail_rel {p : ReaderT} {q : RT} (h : rel p q) {e : Int} (he : ¬ e = 0) : rel (reader_Reader_Fail p e) (r13_R_fail q e) ∧ ¬ (r13_R_fail q e).xE = 0 := by
  obtain ⟨h1, h2, h3⟩ := h
  unfold reader_Reader_Fail r13_R_fail
  by_cases z : p.xerrno = 0
  · rw [if_pos z, if_pos (h1 ▸ z)]
    exact ⟨⟨rfl, fun h => absurd h he, fun _ => rfl⟩, he⟩
  · rw [if_neg z, if_neg (fun h => z (h1.trans h))]
    exact ⟨⟨h1, h2, h3⟩, fun h => z (h1.trans h)⟩
theorem fail_id {p : ReaderT} (h : ¬ p.xerrno = 0) (e : Int) : reader_Reader_Fail p e = p := by
  unfold reader_Reader_Fail; rw [if_neg h]
theorem oct_rel {p : ReaderT} {q : RT} (h : rel p q) : (((reader_Reader_Octet p).1.toNat : Nat) : Int) = (r13_R_byte q).1 ∧ rel (reader_Reader_Octet p).2 (r13_R_byte q).2 := by
  have hh := h
  obtain ⟨h1, h2, h3⟩ := h
  unfold reader_Reader_Octet r13_R_byte
  simp only [bnd_eq]
  by_cases z : p.xerrno = 0
  · rw [if_pos (show q.xE = 0 from h1 ▸ z), h2 z]
    by_cases l0 : ((List.length q.xB.ls : Nat) : Int) = 0
    · rw [if_pos l0, if_pos l0]
      exact ⟨rfl, (fail_rel hh (by decide)).1⟩
    · rw [if_neg l0, if_neg l0]
      exact ⟨rfl, ⟨h1, fun _ => rfl, fun n => absurd z n⟩⟩
  · rw [if_neg (fun h => z (h1.trans h)), h3 z, if_pos (show ((List.length ([] : List UInt8) : Nat) : Int) = 0 from rfl), fail_id z]
    exact ⟨rfl, hh⟩
theorem rn_nil : octet_ReadNum [] = (0, 0, 10) := by decide +kernel
theorem rt_nil : octet_ReadText [] 480 = ([], 0, 10) := by decide +kernel
theorem num_rel {p : ReaderT} {q : RT} (h : rel p q) (m : Nat) : (reader_Reader_Num p m).1 = (r13_R_number q m).1 ∧ rel (reader_Reader_Num p m).2 (r13_R_number q m).2 := by
  have hh := h
  obtain ⟨h1, h2, h3⟩ := h
  unfold reader_Reader_Num r13_R_number
  simp only [bnd_eq]
  by_cases z : p.xerrno = 0
  · rw [if_pos (show q.xE = 0 from h1 ▸ z), h2 z, rn_eq]
    by_cases a : (r01_ReadNum q.xB.ls).2.2 = 0
    · rw [if_pos a, if_pos a]
      by_cases b : (((r01_ReadNum q.xB.ls).1 : Nat) : Int) > ((m : Nat) : Int)
      · rw [if_pos b, if_pos b]
        exact ⟨rfl, (fail_rel hh (by decide)).1⟩
      · rw [if_neg b, if_neg b]
        exact ⟨rfl, ⟨h1, fun _ => rfl, fun n => absurd z n⟩⟩
    · rw [if_neg a, if_neg a]
      exact ⟨rfl, (fail_rel hh a).1⟩
  · rw [if_neg (fun h => z (h1.trans h)), h3 z, rn_nil, if_neg (by decide), fail_id z]
    exact ⟨rfl, hh⟩
theorem text_rel {p : ReaderT} {q : RT} (h : rel p q) : (node_readText p).1 = (r13_R_text q).1 ∧ rel (node_readText p).2 (r13_R_text q).2 := by
  have hh := h
  obtain ⟨h1, h2, h3⟩ := h
  unfold node_readText reader_Reader_Text r13_R_text
  simp only [bnd_eq]
  by_cases z : p.xerrno = 0
  · rw [if_pos (show q.xE = 0 from h1 ▸ z), h2 z, rt_eq]
    by_cases a : (r01_ReadText q.xB.ls 480).2.2 = 2
    · rw [if_pos a, if_pos a]
      exact ⟨rfl, (fail_rel hh (by decide)).1⟩
    · rw [if_neg a, if_neg a]
      by_cases b : (r01_ReadText q.xB.ls 480).2.2 = 0
      · rw [if_pos b, if_pos b]
        exact ⟨rfl, ⟨h1, fun _ => rfl, fun n => absurd z n⟩⟩
      · rw [if_neg b, if_neg b]
        exact ⟨rfl, (fail_rel hh b).1⟩
  · rw [if_neg (fun h => z (h1.trans h)), h3 z, rt_nil, if_neg (by decide), if_neg (by decide), fail_id z]
    exact ⟨rfl, hh⟩
theorem pair_rel {p : ReaderT} {q : RT} (h : rel p q) : (node_readPair p).1 = PairD.mk (r13_R_text q).1 (r13_R_text (r13_R_text q).2).1 ∧ rel (node_readPair p).2 (r13_R_text (r13_R_text q).2).2 := by
  have a := text_rel h
  have b := text_rel a.2
  unfold node_readPair
  simp only [bnd_eq]
  exact ⟨by rw [a.1, b.1], b.2⟩
theorem kid_rel {p : ReaderT} {q : RT} (h : rel p q) : (node_readKid p).1 = (((r13_R_number q 2147483647).1 : Nat) : Int) ∧ rel (node_readKid p).2 (r13_R_number q 2147483647).2 := by
  have a := num_rel h 2147483647
  unfold node_readKid
  simp only [bnd_eq]
  exact ⟨by rw [a.1], a.2⟩
theorem entry_rel {p : ReaderT} {q : RT} (h : rel p q) : (node_readEntry p).1 = (r13_R_entry q).1 ∧ rel (node_readEntry p).2 (r13_R_entry q).2 := by
  have a := num_rel h 18446744073709551615
  have b := oct_rel a.2
  unfold node_readEntry node_readOp r13_R_entry
  simp only [bnd_eq, b.1, a.1]
  by_cases c2 : (r13_R_byte (r13_R_number q 18446744073709551615).2).1 = 2
  · simp only [if_pos c2]
    have t1 := text_rel b.2
    have t2 := text_rel t1.2
    exact ⟨by rw [t1.1, t2.1], t2.2⟩
  · simp only [if_neg c2]
    by_cases c3 : (r13_R_byte (r13_R_number q 18446744073709551615).2).1 = 3
    · simp only [if_pos c3]
      have t1 := text_rel b.2
      exact ⟨by rw [t1.1], t1.2⟩
    · simp only [if_neg c3]
      by_cases c5 : (r13_R_byte (r13_R_number q 18446744073709551615).2).1 = 5
      · simp only [if_pos c5]
        have t1 := text_rel b.2
        have t2 := text_rel t1.2
        exact ⟨by rw [t1.1, t2.1], t2.2⟩
      · simp only [if_neg c5]
        exact ⟨trivial, (fail_rel b.2 (by decide)).1⟩
theorem tp_L (p1 : Int) : ∀ (n f1 f2 : Nat) (l : List PairD) (k : Nat) (p : ReaderT) (q : RT), rel p q → n = Int.toNat (p1 - ((k : Nat) : Int)) → n < f1 → n < f2 →
    (reader_Times_api_Pair_L0 p1 f1 l k p.xrest.ls p.xerrno).1 = (r13_R_node_L0 f2 n q.xB.ls q.xE l).2.2 ∧ rel (ReaderT.mk (Ll.mk (reader_Times_api_Pair_L0 p1 f1 l k p.xrest.ls p.xerrno).2.1) (reader_Times_api_Pair_L0 p1 f1 l k p.xrest.ls p.xerrno).2.2) (RT.mk (Ll.mk (r13_R_node_L0 f2 n q.xB.ls q.xE l).1) (r13_R_node_L0 f2 n q.xB.ls q.xE l).2.1)
  | 0, f1 + 1, f2 + 1, l, k, p, q, h, hn, _, _ => by
    unfold reader_Times_api_Pair_L0 r13_R_node_L0
    rw [if_neg (by omega), if_neg (by omega)]
    exact ⟨rfl, h⟩
  | n + 1, f1 + 1, f2 + 1, l, k, p, q, h, hn, h1, h2 => by
    unfold reader_Times_api_Pair_L0 r13_R_node_L0
    rw [if_pos (show ((k : Nat) : Int) < p1 by omega), if_pos (show (((n + 1 : Nat)) : Int) > 0 by omega)]
    by_cases z : p.xerrno = 0
    · rw [if_pos z, if_pos (show q.xE = 0 from h.1 ▸ z), bnd_eq, bnd_eq, bnd_eq]
      have a := pair_rel (p := ReaderT.mk (Ll.mk p.xrest.ls) p.xerrno) (q := RT.mk (Ll.mk q.xB.ls) q.xE) h
      rw [a.1]
      exact tp_L p1 n f1 f2 _ (k + 1) _ _ a.2 (by omega) (by omega) (by omega)
    · rw [if_neg z, if_neg (fun e => z (h.1.trans e))]
      exact ⟨rfl, h⟩
theorem ti_L (p1 : Int) : ∀ (n f1 : Nat) (l : List Int) (k : Nat) (p : ReaderT) (q : RT), rel p q → n = Int.toNat (p1 - ((k : Nat) : Int)) → n < f1 →
    (reader_Times_int_L0 p1 f1 l k p.xrest.ls p.xerrno).1 = (r13_R_node_L1 n q.xB.ls q.xE l).2.2 ∧ rel (ReaderT.mk (Ll.mk (reader_Times_int_L0 p1 f1 l k p.xrest.ls p.xerrno).2.1) (reader_Times_int_L0 p1 f1 l k p.xrest.ls p.xerrno).2.2) (RT.mk (Ll.mk (r13_R_node_L1 n q.xB.ls q.xE l).1) (r13_R_node_L1 n q.xB.ls q.xE l).2.1)
  | 0, f1 + 1, l, k, p, q, h, hn, _ => by
    unfold reader_Times_int_L0 r13_R_node_L1
    rw [if_neg (by omega)]
    exact ⟨rfl, h⟩
  | n + 1, f1 + 1, l, k, p, q, h, hn, h1 => by
    unfold reader_Times_int_L0 r13_R_node_L1
    rw [if_pos (show ((k : Nat) : Int) < p1 by omega)]
    by_cases z : p.xerrno = 0
    · rw [if_pos z, if_pos (show q.xE = 0 from h.1 ▸ z), bnd_eq, bnd_eq]
      have a := kid_rel (p := ReaderT.mk (Ll.mk p.xrest.ls) p.xerrno) (q := RT.mk (Ll.mk q.xB.ls) q.xE) h
      rw [a.1]
      exact ti_L p1 n f1 _ (k + 1) _ _ a.2 (by omega) (by omega)
    · rw [if_neg z, if_neg (fun e => z (h.1.trans e))]
      exact ⟨rfl, h⟩
theorem ts_L (p1 : Int) : ∀ (n f1 : Nat) (l : List (List UInt8)) (k : Nat) (p : ReaderT) (q : RT), rel p q → n = Int.toNat (p1 - ((k : Nat) : Int)) → n < f1 →
    (reader_Times_string_L0 p1 f1 l k p.xrest.ls p.xerrno).1 = (r13_R_node_L2 n q.xB.ls q.xE l).2.2 ∧ rel (ReaderT.mk (Ll.mk (reader_Times_string_L0 p1 f1 l k p.xrest.ls p.xerrno).2.1) (reader_Times_string_L0 p1 f1 l k p.xrest.ls p.xerrno).2.2) (RT.mk (Ll.mk (r13_R_node_L2 n q.xB.ls q.xE l).1) (r13_R_node_L2 n q.xB.ls q.xE l).2.1)
  | 0, f1 + 1, l, k, p, q, h, hn, _ => by
    unfold reader_Times_string_L0 r13_R_node_L2
    rw [if_neg (by omega)]
    exact ⟨rfl, h⟩
  | n + 1, f1 + 1, l, k, p, q, h, hn, h1 => by
    unfold reader_Times_string_L0 r13_R_node_L2
    rw [if_pos (show ((k : Nat) : Int) < p1 by omega)]
    by_cases z : p.xerrno = 0
    · rw [if_pos z, if_pos (show q.xE = 0 from h.1 ▸ z), bnd_eq, bnd_eq]
      have a := text_rel (p := ReaderT.mk (Ll.mk p.xrest.ls) p.xerrno) (q := RT.mk (Ll.mk q.xB.ls) q.xE) h
      rw [a.1]
      exact ts_L p1 n f1 _ (k + 1) _ _ a.2 (by omega) (by omega)
    · rw [if_neg z, if_neg (fun e => z (h.1.trans e))]
      exact ⟨rfl, h⟩
theorem te_L (p1 : Int) : ∀ (n f1 f2 : Nat) (l : List EntryD) (k : Nat) (p : ReaderT) (q : RT), rel p q → n = Int.toNat (p1 - ((k : Nat) : Int)) → n < f1 → n < f2 →
    (reader_Times_api_Entryx_L0 p1 f1 l k p.xrest.ls p.xerrno).1 = (r13_R_node_L4 f2 l n q.xB.ls q.xE).1 ∧ rel (ReaderT.mk (Ll.mk (reader_Times_api_Entryx_L0 p1 f1 l k p.xrest.ls p.xerrno).2.1) (reader_Times_api_Entryx_L0 p1 f1 l k p.xrest.ls p.xerrno).2.2) (RT.mk (Ll.mk (r13_R_node_L4 f2 l n q.xB.ls q.xE).2.1) (r13_R_node_L4 f2 l n q.xB.ls q.xE).2.2)
  | 0, f1 + 1, f2 + 1, l, k, p, q, h, hn, _, _ => by
    unfold reader_Times_api_Entryx_L0 r13_R_node_L4
    rw [if_neg (by omega), if_neg (by omega)]
    exact ⟨rfl, h⟩
  | n + 1, f1 + 1, f2 + 1, l, k, p, q, h, hn, h1, h2 => by
    unfold reader_Times_api_Entryx_L0 r13_R_node_L4
    rw [if_pos (show ((k : Nat) : Int) < p1 by omega), if_pos (show (((n + 1 : Nat)) : Int) > 0 by omega)]
    by_cases z : p.xerrno = 0
    · rw [if_pos z, if_pos (show q.xE = 0 from h.1 ▸ z), bnd_eq, bnd_eq]
      have a := entry_rel (p := ReaderT.mk (Ll.mk p.xrest.ls) p.xerrno) (q := RT.mk (Ll.mk q.xB.ls) q.xE) h
      rw [a.1]
      exact te_L p1 n f1 f2 _ (k + 1) _ _ a.2 (by omega) (by omega) (by omega)
    · rw [if_neg z, if_neg (fun e => z (h.1.trans e))]
      exact ⟨rfl, h⟩
/-- the reference's entries of one kid -/
def rEnt (q : RT) : (List EntryD) × (List UInt8) × Int := r13_R_node_L4 ((r13_R_number q 480).1 + 1) [] (r13_R_number q 480).1 (r13_R_number q 480).2.xB.ls (r13_R_number q 480).2.xE
theorem ents_rel {p : ReaderT} {q : RT} (h : rel p q) : (node_readEntries p).1 = (rEnt q).1 ∧ rel (node_readEntries p).2 (RT.mk (Ll.mk (rEnt q).2.1) (rEnt q).2.2) := by
  have a := num_rel h 480
  unfold node_readEntries reader_List_api_Entry reader_Times_api_Entryx rEnt
  simp only [bnd_eq, a.1]
  exact te_L _ _ _ _ _ 0 _ _ a.2 (by omega) (by omega) (by omega)
theorem tb_L (p1 : Int) : ∀ (n f1 : Nat) (l : List (Ll EntryD)) (k : Nat) (p : ReaderT) (q : RT), rel p q → n = Int.toNat (p1 - ((k : Nat) : Int)) → n < f1 →
    (reader_Times_api_Entry_L0 p1 f1 l k p.xrest.ls p.xerrno).1 = (r13_R_node_L3 n q.xB.ls q.xE l).2.2 ∧ rel (ReaderT.mk (Ll.mk (reader_Times_api_Entry_L0 p1 f1 l k p.xrest.ls p.xerrno).2.1) (reader_Times_api_Entry_L0 p1 f1 l k p.xrest.ls p.xerrno).2.2) (RT.mk (Ll.mk (r13_R_node_L3 n q.xB.ls q.xE l).1) (r13_R_node_L3 n q.xB.ls q.xE l).2.1)
  | 0, f1 + 1, l, k, p, q, h, hn, _ => by
    unfold reader_Times_api_Entry_L0 r13_R_node_L3
    rw [if_neg (by omega)]
    exact ⟨rfl, h⟩
  | n + 1, f1 + 1, l, k, p, q, h, hn, h1 => by
    unfold reader_Times_api_Entry_L0 r13_R_node_L3
    rw [if_pos (show ((k : Nat) : Int) < p1 by omega)]
    by_cases z : p.xerrno = 0
    · rw [if_pos z, if_pos (show q.xE = 0 from h.1 ▸ z)]
      have a := ents_rel (p := ReaderT.mk (Ll.mk p.xrest.ls) p.xerrno) (q := RT.mk (Ll.mk q.xB.ls) q.xE) h
      simp only [bnd_eq, a.1]
      exact tb_L p1 n f1 _ (k + 1) _ _ a.2 (by omega) (by omega)
    · rw [if_neg z, if_neg (fun e => z (h.1.trans e))]
      exact ⟨rfl, h⟩
theorem L1_len : ∀ (n : Nat) (l : List UInt8) (z : Int) (acc : List Int), (r13_R_node_L1 n l z acc).2.1 = 0 → List.length (r13_R_node_L1 n l z acc).2.2 = List.length acc + n
  | 0, _, _, _, _ => rfl
  | n + 1, l, z, acc, h => by
    unfold r13_R_node_L1 at h ⊢
    by_cases hz : z = 0
    · rw [if_pos hz] at h ⊢
      simp only [bnd_eq] at h ⊢
      rw [L1_len n _ _ _ h, List.length_append, List.length_cons, List.length_nil]
      omega
    · rw [if_neg hz] at h
      exact absurd h hz
theorem L2_err : ∀ (n : Nat) (l : List UInt8) (z : Int) (acc : List (List UInt8)), ¬ z = 0 → r13_R_node_L2 n l z acc = (l, z, acc)
  | 0, _, _, _, _ => rfl
  | n + 1, l, z, acc, h => by unfold r13_R_node_L2; rw [if_neg h]
theorem L3_err : ∀ (n : Nat) (l : List UInt8) (z : Int) (acc : List (Ll EntryD)), ¬ z = 0 → r13_R_node_L3 n l z acc = (l, z, acc)
  | 0, _, _, _, _ => rfl
  | n + 1, l, z, acc, h => by unfold r13_R_node_L3; rw [if_neg h]
/-- the reference's stem -/
def rStem (q : RT) : stemT × RT :=
  let n := r13_R_number q 480
  let a := r13_R_node_L1 n.1 n.2.xB.ls n.2.xE []
  let b := r13_R_node_L2 (n.1 - 1) a.1 a.2.1 []
  let c := r13_R_node_L3 n.1 b.1 b.2.1 []
  (stemT.mk (Ll.mk a.2.2) (Ll.mk b.2.2) (Ll.mk c.2.2), RT.mk (Ll.mk c.1) c.2.1)
theorem stem_rel {p : ReaderT} {q : RT} (h : rel p q) : (node_readStem p).1 = (rStem q).1 ∧ rel (node_readStem p).2 (rStem q).2 := by
  have a := num_rel h 480
  have b := ti_L ((((r13_R_number q 480).1 : Nat)) : Int) (r13_R_number q 480).1 (Int.toNat ((((r13_R_number q 480).1 : Nat)) : Int) - 0 + 1) [] 0 _ _ a.2 (by omega) (by omega)
  unfold node_readStem reader_List_int reader_Times_int rStem
  simp only [bnd_eq, a.1]
  generalize (r13_R_number q 480).1 = n at b ⊢
  generalize (r13_R_number q 480).2 = q1 at b ⊢
  generalize (reader_Reader_Num p 480).2 = p1 at b ⊢
  generalize reader_Times_int_L0 ((n : Nat) : Int) (Int.toNat ((n : Nat) : Int) - 0 + 1) [] 0 p1.xrest.ls p1.xerrno = P at b ⊢
  have hlen := L1_len n q1.xB.ls q1.xE []
  generalize r13_R_node_L1 n q1.xB.ls q1.xE [] = Q at b hlen ⊢
  rw [b.1]
  by_cases z : Q.2.1 = 0
  · have hl : List.length Q.2.2 = n := by rw [hlen z]; simp
    rw [hl]
    have c := ts_L (((n : Nat) : Int) - 1) (n - 1) (Int.toNat (((n : Nat) : Int) - 1) - 0 + 1) [] 0 _ _ b.2 (by omega) (by omega)
    have d := tb_L ((n : Nat) : Int) n (Int.toNat ((n : Nat) : Int) - 0 + 1) [] 0 _ _ c.2 (by omega) (by omega)
    unfold reader_Times_string reader_Times_api_Entry
    simp only [bnd_eq]
    refine ⟨?_, d.2⟩
    have c1 := c.1
    have d1 := d.1
    dsimp only at c1 d1 ⊢
    rw [c1, d1]
  · have c := ts_L (((List.length Q.2.2 : Nat) : Int) - 1) (Int.toNat (((List.length Q.2.2 : Nat) : Int) - 1 - ((0 : Nat) : Int))) (Int.toNat (((List.length Q.2.2 : Nat) : Int) - 1) - 0 + 1) [] 0 _ _ b.2 rfl (by omega)
    have d := tb_L ((List.length Q.2.2 : Nat) : Int) (Int.toNat (((List.length Q.2.2 : Nat) : Int) - ((0 : Nat) : Int))) (Int.toNat ((List.length Q.2.2 : Nat) : Int) - 0 + 1) [] 0 _ _ c.2 rfl (by omega)
    unfold reader_Times_string reader_Times_api_Entry
    simp only [bnd_eq]
    simp only [L2_err _ _ _ _ z, L3_err _ _ _ _ z] at c d ⊢
    refine ⟨?_, d.2⟩
    rw [c.1, d.1]
end Go.Proofs.YtfkkipmdnjfocaaGreat
