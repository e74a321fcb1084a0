/-
  Messages read: the program's reader and the document's go side by side.
  Conditions: none beyond each law's own.
-/
import Derived.Test.YtccjclalngabhaaGreatWiN
import Derived.Test.YtccjclalngabhaaGreatWf
import Derived.Test.YtccjclalngabhaaGreatWv
namespace Go.Proofs.YtccjclalngabhaaGreat
set_option linter.unusedVariables false
set_option linter.unusedSimpArgs false
def rel (p : ReaderT) (q : RT) : Prop := p.xerrno = q.xE ∧ (p.xerrno = 0 → p.xrest.ls = q.xB.ls) ∧ (¬ p.xerrno = 0 → p.xrest.ls = [])
theorem fail_rel {p : ReaderT} {q : RT} (h : rel p q) {e : Int} (he : ¬ e = 0) : rel (reader_Reader_Fail p e) (r18_R_Fail q e) ∧ ¬ (r18_R_Fail q e).xE = 0 := by
  obtain ⟨h1, h2, h3⟩ := h
  unfold reader_Reader_Fail r18_R_Fail
  by_cases z : p.xerrno = 0
  · rw [if_pos z, if_pos (h1 ▸ z)]
    exact ⟨⟨rfl, fun h => absurd h he, fun _ => rfl⟩, he⟩
  · rw [if_neg z, if_neg (fun h => z (h1.trans h))]
    exact ⟨⟨h1, h2, h3⟩, fun h => z (h1.trans h)⟩
theorem fail_id {p : ReaderT} (h : ¬ p.xerrno = 0) (e : Int) : reader_Reader_Fail p e = p := by
  unfold reader_Reader_Fail; rw [if_neg h]
theorem oct_rel {p : ReaderT} {q : RT} (h : rel p q) : (((reader_Reader_Octet p).1.toNat : Nat) : Int) = (r18_R_Byte q).1 ∧ rel (reader_Reader_Octet p).2 (r18_R_Byte q).2 := by
  have hh := h
  obtain ⟨h1, h2, h3⟩ := h
  unfold reader_Reader_Octet r18_R_Byte
  simp only [bnd_eq]
  by_cases z : p.xerrno = 0
  · rw [if_pos (show q.xE = 0 from h1 ▸ z), h2 z]
    by_cases l0 : ((List.length q.xB.ls : Nat) : Int) = 0
    · rw [if_pos l0, if_pos l0]
      exact ⟨rfl, (fail_rel hh (by decide)).1⟩
    · rw [if_neg l0, if_neg l0]
      exact ⟨rfl, ⟨h1, fun _ => rfl, fun n => absurd z n⟩⟩
  · rw [if_neg (fun h => z (h1.trans h)), h3 z, if_pos (show ((List.length ([] : List UInt8) : Nat) : Int) = 0 from rfl), fail_id z]
    exact ⟨rfl, hh⟩
theorem rn_nil : octet_ReadNum [] = (0, 0, 10) := by decide +kernel
theorem rt_nil : octet_ReadText [] 255 = ([], 0, 10) := by decide +kernel
theorem rl_le (l : List UInt8) (r : Int) : ∀ (q k i : Nat), k ≤ 18446744073709551615 → octet_ReadNum_L0 l r q k i ≤ 18446744073709551615
  | 0, k, i, h => h
  | q + 1, k, i, h => by rw [octet_ReadNum_L0, bnd_eq]; exact rl_le l r q _ _ (bOr64_le _ _)
theorem rn_le (l : List UInt8) : (r01_ReadNum l).1 ≤ 18446744073709551615 := by
  rw [← rn_eq]
  unfold octet_ReadNum
  simp only [bnd_eq]
  repeat' split
  all_goals first | exact Nat.zero_le _ | exact rl_le _ _ _ _ _ (Nat.zero_le _)
theorem num_rel {p : ReaderT} {q : RT} (h : rel p q) : (reader_Reader_Num p 18446744073709551615).1 = (r18_R_Num q).1 ∧ rel (reader_Reader_Num p 18446744073709551615).2 (r18_R_Num q).2 := by
  have hh := h
  obtain ⟨h1, h2, h3⟩ := h
  unfold reader_Reader_Num r18_R_Num
  simp only [bnd_eq]
  by_cases z : p.xerrno = 0
  · rw [if_pos (show q.xE = 0 from h1 ▸ z), h2 z, rn_eq]
    have le := rn_le q.xB.ls
    by_cases a : (r01_ReadNum q.xB.ls).2.2 = 0
    · rw [if_pos a, if_pos a, if_neg (by omega)]
      exact ⟨rfl, ⟨h1, fun _ => rfl, fun n => absurd z n⟩⟩
    · rw [if_neg a, if_neg a]
      exact ⟨rfl, (fail_rel hh a).1⟩
  · rw [if_neg (fun h => z (h1.trans h)), h3 z, rn_nil, if_neg (by decide), fail_id z]
    exact ⟨rfl, hh⟩
theorem many_rel {p : ReaderT} {q : RT} (h : rel p q) : (((reader_Reader_Num p 255).1 : Nat) : Int) = (r18_R_Many q).1 ∧ rel (reader_Reader_Num p 255).2 (r18_R_Many q).2 ∧ 0 ≤ (r18_R_Many q).1 := by
  have hh := h
  obtain ⟨h1, h2, h3⟩ := h
  unfold reader_Reader_Num r18_R_Many r18_R_Num
  simp only [bnd_eq]
  by_cases z : p.xerrno = 0
  · rw [if_pos (show q.xE = 0 from h1 ▸ z), h2 z, rn_eq]
    by_cases a : (r01_ReadNum q.xB.ls).2.2 = 0
    · rw [if_pos a, if_pos a]
      by_cases b : (((r01_ReadNum q.xB.ls).1 : Nat) : Int) > 255
      · rw [if_pos b, if_pos (by simpa using b)]
        have e : r18_R_Fail (RT.mk (Ll.mk (List.drop (Int.toNat (r01_ReadNum q.xB.ls).2.1) q.xB.ls)) q.xE) 11 = RT.mk (Ll.mk (List.drop (Int.toNat (r01_ReadNum q.xB.ls).2.1) q.xB.ls)) 11 := by unfold r18_R_Fail; rw [if_pos (show q.xE = 0 from h1 ▸ z)]
        rw [e]
        have e2 : reader_Reader_Fail p 11 = ReaderT.mk (Ll.mk []) 11 := by unfold reader_Reader_Fail; rw [if_pos z]
        rw [e2]
        exact ⟨rfl, ⟨rfl, fun n => absurd n (by decide), fun _ => rfl⟩, Int.le_refl 0⟩
      · rw [if_neg b, if_neg (by simpa using b)]
        exact ⟨rfl, ⟨h1, fun _ => rfl, fun n => absurd z n⟩, by omega⟩
    · rw [if_neg a, if_neg a, if_neg (show ¬ (((0 : Nat) : Int) > 255) by decide)]
      exact ⟨rfl, (fail_rel hh a).1, Int.le_refl 0⟩
  · rw [if_neg (fun h => z (h1.trans h)), h3 z, rn_nil, if_neg (by decide), fail_id z, if_neg (show ¬ (((0 : Nat) : Int) > 255) by decide)]
    exact ⟨rfl, hh, Int.le_refl 0⟩
theorem text_rel {p : ReaderT} {q : RT} (h : rel p q) : (reader_Reader_Text p 255).1 = (r18_R_Text q).1 ∧ rel (reader_Reader_Text p 255).2 (r18_R_Text q).2 := by
  have hh := h
  obtain ⟨h1, h2, h3⟩ := h
  unfold reader_Reader_Text r18_R_Text
  simp only [bnd_eq]
  by_cases z : p.xerrno = 0
  · rw [if_pos (show q.xE = 0 from h1 ▸ z), h2 z, rt_eq]
    by_cases a : (r01_ReadText q.xB.ls 255).2.2 = 2
    · rw [if_pos a, if_pos a]
      exact ⟨rfl, (fail_rel hh (by decide)).1⟩
    · rw [if_neg a, if_neg a]
      by_cases b : (r01_ReadText q.xB.ls 255).2.2 = 0
      · rw [if_pos b, if_pos b]
        exact ⟨rfl, ⟨h1, fun _ => rfl, fun n => absurd z n⟩⟩
      · rw [if_neg b, if_neg b]
        exact ⟨rfl, (fail_rel hh b).1⟩
  · rw [if_neg (fun h => z (h1.trans h)), h3 z, rt_nil, if_neg (by decide), if_neg (by decide), fail_id z]
    exact ⟨rfl, hh⟩
theorem flag_rel {p : ReaderT} {q : RT} (h : rel p q) : (wire_readTruth p).1 = (r18_R_Flag q).1 ∧ rel (wire_readTruth p).2 (r18_R_Flag q).2 := by
  have a := oct_rel h
  unfold wire_readTruth r18_R_Flag
  simp only [bnd_eq]
  rw [← a.1]
  by_cases c : (((reader_Reader_Octet p).1.toNat : Nat) : Int) > 1
  · rw [if_pos c, if_pos c]
    exact ⟨rfl, (fail_rel a.2 (by decide)).1⟩
  · rw [if_neg c, if_neg c]
    exact ⟨rfl, a.2⟩
theorem op_rel {p : ReaderT} {q : RT} (h : rel p q) : (wire_readOp p).1 = OpD.mk (r18_R_Byte q).1 (r18_R_Text (r18_R_Byte q).2).1 (r18_R_Text (r18_R_Text (r18_R_Byte q).2).2).1 (r18_R_Text (r18_R_Text (r18_R_Text (r18_R_Byte q).2).2).2).1 (r18_R_Text (r18_R_Text (r18_R_Text (r18_R_Text (r18_R_Byte q).2).2).2).2).1 (r18_R_Byte (r18_R_Text (r18_R_Text (r18_R_Text (r18_R_Text (r18_R_Byte q).2).2).2).2).2).1 ∧ rel (wire_readOp p).2 (r18_R_Byte (r18_R_Text (r18_R_Text (r18_R_Text (r18_R_Text (r18_R_Byte q).2).2).2).2).2).2 := by
  have a0 := oct_rel h
  have a1 := text_rel a0.2
  have a2 := text_rel a1.2
  have a3 := text_rel a2.2
  have a4 := text_rel a3.2
  have a5 := oct_rel a4.2
  unfold wire_readOp
  simp only [bnd_eq]
  exact ⟨by rw [a0.1, a1.1, a2.1, a3.1, a4.1, a5.1], a5.2⟩
theorem opsr_L (p1 : Int) : ∀ (n f1 f2 : Nat) (l : List OpD) (k : Nat) (z : Int) (p : ReaderT) (q : RT), rel p q → z = ((n : Nat) : Int) → n = Int.toNat (p1 - ((k : Nat) : Int)) → n < f1 → n < f2 →
    (reader_Times_api_Op_L0 p1 f1 l k p.xrest.ls p.xerrno).1 = (r18_R_Ops_L0 f2 l z q.xB.ls q.xE).1 ∧ rel (ReaderT.mk (Ll.mk (reader_Times_api_Op_L0 p1 f1 l k p.xrest.ls p.xerrno).2.1) (reader_Times_api_Op_L0 p1 f1 l k p.xrest.ls p.xerrno).2.2) (RT.mk (Ll.mk (r18_R_Ops_L0 f2 l z q.xB.ls q.xE).2.1) (r18_R_Ops_L0 f2 l z q.xB.ls q.xE).2.2)
  | 0, f1 + 1, f2 + 1, l, k, z, p, q, h, hz, hn, _, _ => by
    unfold reader_Times_api_Op_L0 r18_R_Ops_L0
    rw [if_neg (by omega), if_neg (by omega)]
    exact ⟨rfl, h⟩
  | n + 1, f1 + 1, f2 + 1, l, k, z, p, q, h, hz, hn, h1, h2 => by
    unfold reader_Times_api_Op_L0 r18_R_Ops_L0
    rw [if_pos (show ((k : Nat) : Int) < p1 by omega), if_pos (show z > 0 by omega)]
    by_cases e : p.xerrno = 0
    · rw [if_pos e, if_pos (show q.xE = 0 from h.1 ▸ e)]
      simp only [bnd_eq]
      have a := op_rel (p := ReaderT.mk (Ll.mk p.xrest.ls) p.xerrno) (q := RT.mk (Ll.mk q.xB.ls) q.xE) h
      rw [a.1]
      exact opsr_L p1 n f1 f2 _ (k + 1) (z - 1) _ _ a.2 (by omega) (by omega) (by omega) (by omega)
    · rw [if_neg e, if_neg (fun x => e (h.1.trans x))]
      exact ⟨rfl, h⟩
theorem ow_rel {p : ReaderT} {q : RT} (h : rel p q) : (wire_readOwner p).1 = OwnerD.mk (r18_R_Text q).1 (r18_R_Byte (r18_R_Text q).2).1 ∧ rel (wire_readOwner p).2 (r18_R_Byte (r18_R_Text q).2).2 := by
  have a0 := text_rel h
  have a1 := oct_rel a0.2
  unfold wire_readOwner
  simp only [bnd_eq]
  exact ⟨by rw [a0.1, a1.1], a1.2⟩
theorem owsr_L (p1 : Int) : ∀ (n f1 f2 : Nat) (l : List OwnerD) (k : Nat) (z : Int) (p : ReaderT) (q : RT), rel p q → z = ((n : Nat) : Int) → n = Int.toNat (p1 - ((k : Nat) : Int)) → n < f1 → n < f2 →
    (reader_Times_api_Owner_L0 p1 f1 l k p.xrest.ls p.xerrno).1 = (r18_R_Owners_L0 f2 l z q.xB.ls q.xE).1 ∧ rel (ReaderT.mk (Ll.mk (reader_Times_api_Owner_L0 p1 f1 l k p.xrest.ls p.xerrno).2.1) (reader_Times_api_Owner_L0 p1 f1 l k p.xrest.ls p.xerrno).2.2) (RT.mk (Ll.mk (r18_R_Owners_L0 f2 l z q.xB.ls q.xE).2.1) (r18_R_Owners_L0 f2 l z q.xB.ls q.xE).2.2)
  | 0, f1 + 1, f2 + 1, l, k, z, p, q, h, hz, hn, _, _ => by
    unfold reader_Times_api_Owner_L0 r18_R_Owners_L0
    rw [if_neg (by omega), if_neg (by omega)]
    exact ⟨rfl, h⟩
  | n + 1, f1 + 1, f2 + 1, l, k, z, p, q, h, hz, hn, h1, h2 => by
    unfold reader_Times_api_Owner_L0 r18_R_Owners_L0
    rw [if_pos (show ((k : Nat) : Int) < p1 by omega), if_pos (show z > 0 by omega)]
    by_cases e : p.xerrno = 0
    · rw [if_pos e, if_pos (show q.xE = 0 from h.1 ▸ e)]
      simp only [bnd_eq]
      have a := ow_rel (p := ReaderT.mk (Ll.mk p.xrest.ls) p.xerrno) (q := RT.mk (Ll.mk q.xB.ls) q.xE) h
      rw [a.1]
      exact owsr_L p1 n f1 f2 _ (k + 1) (z - 1) _ _ a.2 (by omega) (by omega) (by omega) (by omega)
    · rw [if_neg e, if_neg (fun x => e (h.1.trans x))]
      exact ⟨rfl, h⟩
theorem pa_rel {p : ReaderT} {q : RT} (h : rel p q) : (wire_readPair p).1 = PairD.mk (r18_R_Text q).1 (r18_R_Text (r18_R_Text q).2).1 ∧ rel (wire_readPair p).2 (r18_R_Text (r18_R_Text q).2).2 := by
  have a0 := text_rel h
  have a1 := text_rel a0.2
  unfold wire_readPair
  simp only [bnd_eq]
  exact ⟨by rw [a0.1, a1.1], a1.2⟩
theorem pasr_L (p1 : Int) : ∀ (n f1 f2 : Nat) (l : List PairD) (k : Nat) (z : Int) (p : ReaderT) (q : RT), rel p q → z = ((n : Nat) : Int) → n = Int.toNat (p1 - ((k : Nat) : Int)) → n < f1 → n < f2 →
    (reader_Times_api_Pair_L0 p1 f1 l k p.xrest.ls p.xerrno).1 = (r18_R_Res_L1 f2 z q.xB.ls q.xE l).2.2 ∧ rel (ReaderT.mk (Ll.mk (reader_Times_api_Pair_L0 p1 f1 l k p.xrest.ls p.xerrno).2.1) (reader_Times_api_Pair_L0 p1 f1 l k p.xrest.ls p.xerrno).2.2) (RT.mk (Ll.mk (r18_R_Res_L1 f2 z q.xB.ls q.xE l).1) (r18_R_Res_L1 f2 z q.xB.ls q.xE l).2.1)
  | 0, f1 + 1, f2 + 1, l, k, z, p, q, h, hz, hn, _, _ => by
    unfold reader_Times_api_Pair_L0 r18_R_Res_L1
    rw [if_neg (by omega), if_neg (by omega)]
    exact ⟨rfl, h⟩
  | n + 1, f1 + 1, f2 + 1, l, k, z, p, q, h, hz, hn, h1, h2 => by
    unfold reader_Times_api_Pair_L0 r18_R_Res_L1
    rw [if_pos (show ((k : Nat) : Int) < p1 by omega), if_pos (show z > 0 by omega)]
    by_cases e : p.xerrno = 0
    · rw [if_pos e, if_pos (show q.xE = 0 from h.1 ▸ e)]
      simp only [bnd_eq]
      have a := pa_rel (p := ReaderT.mk (Ll.mk p.xrest.ls) p.xerrno) (q := RT.mk (Ll.mk q.xB.ls) q.xE) h
      rw [a.1]
      exact pasr_L p1 n f1 f2 _ (k + 1) (z - 1) _ _ a.2 (by omega) (by omega) (by omega) (by omega)
    · rw [if_neg e, if_neg (fun x => e (h.1.trans x))]
      exact ⟨rfl, h⟩
theorem opsl_rel {p : ReaderT} {q : RT} (h : rel p q) : (reader_List_api_Op p 255).1 = (r18_R_Ops q).1 ∧ rel (reader_List_api_Op p 255).2 (r18_R_Ops q).2 := by
  have a := many_rel h
  unfold reader_List_api_Op reader_Times_api_Op r18_R_Ops
  simp only [bnd_eq]
  rw [a.1]
  exact opsr_L _ (Int.toNat (r18_R_Many q).1) _ _ [] 0 _ _ _ a.2.1 (by have := a.2.2; omega) (by have := a.2.2; omega) (by have := a.2.2; omega) (by have := a.2.2; omega)
theorem owsl_rel {p : ReaderT} {q : RT} (h : rel p q) : (reader_List_api_Owner p 255).1 = (r18_R_Owners q).1 ∧ rel (reader_List_api_Owner p 255).2 (r18_R_Owners q).2 := by
  have a := many_rel h
  unfold reader_List_api_Owner reader_Times_api_Owner r18_R_Owners
  simp only [bnd_eq]
  rw [a.1]
  exact owsr_L _ (Int.toNat (r18_R_Many q).1) _ _ [] 0 _ _ _ a.2.1 (by have := a.2.2; omega) (by have := a.2.2; omega) (by have := a.2.2; omega) (by have := a.2.2; omega)
def rPairs (q : RT) : List PairD × RT :=
  let x := r18_R_Res_L1 ((Int.toNat (r18_R_Many q).1) + 1) (r18_R_Many q).1 (r18_R_Many q).2.xB.ls (r18_R_Many q).2.xE []
  (x.2.2, RT.mk (Ll.mk x.1) x.2.1)
theorem pasl_rel {p : ReaderT} {q : RT} (h : rel p q) : (reader_List_api_Pair p 255).1 = (rPairs q).1 ∧ rel (reader_List_api_Pair p 255).2 (rPairs q).2 := by
  have a := many_rel h
  unfold reader_List_api_Pair reader_Times_api_Pair rPairs
  simp only [bnd_eq]
  rw [a.1]
  exact pasr_L _ (Int.toNat (r18_R_Many q).1) _ _ [] 0 _ _ _ a.2.1 (by have := a.2.2; omega) (by have := a.2.2; omega) (by have := a.2.2; omega) (by have := a.2.2; omega)
theorem re_rel {p : ReaderT} {q : RT} (h : rel p q) : (wire_readResult p).1 = ResultT.mk (r18_R_Flag q).1 (r18_R_Text (r18_R_Flag q).2).1 (Ll.mk (rPairs (r18_R_Text (r18_R_Flag q).2).2).1) ∧ rel (wire_readResult p).2 (rPairs (r18_R_Text (r18_R_Flag q).2).2).2 := by
  have a0 := flag_rel h
  have a1 := text_rel a0.2
  have a2 := pasl_rel a1.2
  unfold wire_readResult
  simp only [bnd_eq]
  exact ⟨by rw [a0.1, a1.1, a2.1], a2.2⟩
theorem ress_L (p1 : Int) : ∀ (n f1 f2 : Nat) (l : List ResultT) (k : Nat) (z : Int) (p : ReaderT) (q : RT), rel p q → z = ((n : Nat) : Int) → n = Int.toNat (p1 - ((k : Nat) : Int)) → n < f1 → n < f2 →
    (reader_Times_api_Result_L0 p1 f1 l k p.xrest.ls p.xerrno).1 = (r18_R_Res_L0 f2 l z q.xB.ls q.xE).1 ∧ rel (ReaderT.mk (Ll.mk (reader_Times_api_Result_L0 p1 f1 l k p.xrest.ls p.xerrno).2.1) (reader_Times_api_Result_L0 p1 f1 l k p.xrest.ls p.xerrno).2.2) (RT.mk (Ll.mk (r18_R_Res_L0 f2 l z q.xB.ls q.xE).2.1) (r18_R_Res_L0 f2 l z q.xB.ls q.xE).2.2)
  | 0, f1 + 1, f2 + 1, l, k, z, p, q, h, hz, hn, _, _ => by
    unfold reader_Times_api_Result_L0 r18_R_Res_L0
    rw [if_neg (by omega), if_neg (by omega)]
    exact ⟨rfl, h⟩
  | n + 1, f1 + 1, f2 + 1, l, k, z, p, q, h, hz, hn, h1, h2 => by
    unfold reader_Times_api_Result_L0 r18_R_Res_L0
    rw [if_pos (show ((k : Nat) : Int) < p1 by omega), if_pos (show z > 0 by omega)]
    by_cases e : p.xerrno = 0
    · rw [if_pos e, if_pos (show q.xE = 0 from h.1 ▸ e)]
      simp only [bnd_eq]
      have a := re_rel (p := ReaderT.mk (Ll.mk p.xrest.ls) p.xerrno) (q := RT.mk (Ll.mk q.xB.ls) q.xE) h
      rw [a.1]
      exact ress_L p1 n f1 f2 _ (k + 1) (z - 1) _ _ a.2 (by omega) (by omega) (by omega) (by omega)
    · rw [if_neg e, if_neg (fun x => e (h.1.trans x))]
      exact ⟨rfl, h⟩
theorem resl_rel {p : ReaderT} {q : RT} (h : rel p q) : (reader_List_api_Result p 255).1 = (r18_R_Res q).1 ∧ rel (reader_List_api_Result p 255).2 (r18_R_Res q).2 := by
  have a := many_rel h
  unfold reader_List_api_Result reader_Times_api_Result r18_R_Res
  simp only [bnd_eq]
  rw [a.1]
  exact ress_L _ (Int.toNat (r18_R_Many q).1) _ _ [] 0 _ _ _ a.2.1 (by have := a.2.2; omega) (by have := a.2.2; omega) (by have := a.2.2; omega) (by have := a.2.2; omega)
end Go.Proofs.YtccjclalngabhaaGreat
