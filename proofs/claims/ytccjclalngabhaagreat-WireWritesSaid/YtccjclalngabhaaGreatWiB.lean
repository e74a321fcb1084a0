/-
  Messages' bytes: the program's are the document's.
  Conditions: numbers of 64 bits.
-/
import Derived.Test.YtccjclalngabhaaGreatWiK
import Derived.Test.YtccjclalngabhaaGreatWt
namespace Go.Proofs.YtccjclalngabhaaGreat
set_option linter.unusedVariables false
set_option linter.unusedSimpArgs false
theorem txt_eq (l s : List UInt8) : r18_Text l s = l ++ octet_Text s := by unfold r18_Text; rw [bnd_eq, text_eq]
theorem tru_eq (l : List UInt8) (b : Bool) : r18_flag l b = l ++ [wire_truth b] := by cases b <;> rfl
theorem ops_L : ∀ (q : List OpD) (l : List UInt8), wire_list_api_Op_L0 q l = r18_Ops_L0 q l
  | [], l => rfl
  | x :: q, l => by
    simp only [wire_list_api_Op_L0, r18_Ops_L0, bnd_eq, wire_writeOp, wire_texts, wire_texts_L0, txt_eq]
    exact ops_L q _
theorem ops_eq (l : List UInt8) (q : List OpD) : r18_Ops l q = wire_list_api_Op l q := by
  unfold r18_Ops wire_list_api_Op
  simp only [bnd_eq, num_eq, ops_L]
theorem ows_L : ∀ (q : List OwnerD) (l : List UInt8), wire_list_api_Owner_L0 q l = r18_Owners_L0 q l
  | [], l => rfl
  | x :: q, l => by
    simp only [wire_list_api_Owner_L0, r18_Owners_L0, bnd_eq, wire_writeOwner, wire_texts, wire_texts_L0, txt_eq]
    exact ows_L q _
theorem ows_eq (l : List UInt8) (q : List OwnerD) : r18_Owners l q = wire_list_api_Owner l q := by
  unfold r18_Owners wire_list_api_Owner
  simp only [bnd_eq, num_eq, ows_L]
theorem pas_L : ∀ (q : List PairD) (l : List UInt8), wire_list_api_Pair_L0 q l = r18_Res_L1 q l
  | [], l => rfl
  | x :: q, l => by
    simp only [wire_list_api_Pair_L0, r18_Res_L1, bnd_eq, wire_writePair, wire_texts, wire_texts_L0, txt_eq]
    exact pas_L q _
theorem res_L : ∀ (q : List ResultT) (l : List UInt8), wire_list_api_Result_L0 q l = r18_Res_L0 q l
  | [], l => rfl
  | x :: q, l => by
    simp only [wire_list_api_Result_L0, r18_Res_L0, bnd_eq, wire_writeResult, wire_list_api_Pair, wire_texts, wire_texts_L0, txt_eq, tru_eq, num_eq, pas_L]
    exact res_L q _
theorem res_eq (l : List UInt8) (q : List ResultT) : r18_Res l q = wire_list_api_Result l q := by
  unfold r18_Res wire_list_api_Result
  simp only [bnd_eq, num_eq, res_L]
theorem body_L (m : MsgT) {fs : List Int} {cs : List UInt8} (h : Corr fs cs) : ∀ l, wire_write_L0 m fs l = r18_body_L0 m cs l := by
  induction h with
  | nil => intro l; rfl
  | q _ ih =>
    rename_i fs cs _
    intro l
    rw [show wire_write_L0 m (0 :: fs) l = wire_write_L0 m fs (l ++ octet_Num m.xReq) from rfl, show r18_body_L0 m (113 :: cs) l = r18_body_L0 m cs (l ++ r01_Num m.xReq) from rfl, ← num_eq]
    exact ih _
  | b _ ih =>
    rename_i fs cs _
    intro l
    rw [show wire_write_L0 m (1 :: fs) l = wire_write_L0 m fs (l ++ octet_Num m.xBoot) from rfl, show r18_body_L0 m (98 :: cs) l = r18_body_L0 m cs (l ++ r01_Num m.xBoot) from rfl, ← num_eq]
    exact ih _
  | t _ ih =>
    rename_i fs cs _
    intro l
    rw [show wire_write_L0 m (4 :: fs) l = wire_write_L0 m fs (l ++ octet_Num m.xTxn) from rfl, show r18_body_L0 m (116 :: cs) l = r18_body_L0 m cs (l ++ r01_Num m.xTxn) from rfl, ← num_eq]
    exact ih _
  | l _ ih =>
    rename_i fs cs _
    intro l
    rw [show wire_write_L0 m (5 :: fs) l = wire_write_L0 m fs (l ++ octet_Num m.xLow) from rfl, show r18_body_L0 m (108 :: cs) l = r18_body_L0 m cs (l ++ r01_Num m.xLow) from rfl, ← num_eq]
    exact ih _
  | e _ ih =>
    rename_i fs cs _
    intro l
    rw [show wire_write_L0 m (6 :: fs) l = wire_write_L0 m fs (l ++ octet_Num m.xEpoch) from rfl, show r18_body_L0 m (101 :: cs) l = r18_body_L0 m cs (l ++ r01_Num m.xEpoch) from rfl, ← num_eq]
    exact ih _
  | v _ ih =>
    rename_i fs cs _
    intro l
    rw [show wire_write_L0 m (9 :: fs) l = wire_write_L0 m fs (l ++ octet_Num m.xVer) from rfl, show r18_body_L0 m (118 :: cs) l = r18_body_L0 m cs (l ++ r01_Num m.xVer) from rfl, ← num_eq]
    exact ih _
  | m _ ih =>
    rename_i fs cs _
    intro l
    rw [show wire_write_L0 m (10 :: fs) l = wire_write_L0 m fs (l ++ octet_Num m.xMove) from rfl, show r18_body_L0 m (109 :: cs) l = r18_body_L0 m cs (l ++ r01_Num m.xMove) from rfl, ← num_eq]
    exact ih _
  | a _ ih =>
    rename_i fs cs _
    intro l
    rw [show wire_write_L0 m (14 :: fs) l = wire_write_L0 m fs (l ++ octet_Num m.xAttempt) from rfl, show r18_body_L0 m (97 :: cs) l = r18_body_L0 m cs (l ++ r01_Num m.xAttempt) from rfl, ← num_eq]
    exact ih _
  | n _ ih =>
    rename_i fs cs _
    intro l
    rw [show wire_write_L0 m (15 :: fs) l = wire_write_L0 m fs (l ++ octet_Num m.xN) from rfl, show r18_body_L0 m (110 :: cs) l = r18_body_L0 m cs (l ++ r01_Num m.xN) from rfl, ← num_eq]
    exact ih _
  | c _ ih =>
    rename_i fs cs _
    intro l
    rw [show wire_write_L0 m (2 :: fs) l = wire_write_L0 m fs (l ++ [u8I m.xCode]) from rfl, show r18_body_L0 m (99 :: cs) l = r18_body_L0 m cs (l ++ [u8I m.xCode]) from rfl]
    exact ih _
  | p _ ih =>
    rename_i fs cs _
    intro l
    rw [show wire_write_L0 m (12 :: fs) l = wire_write_L0 m fs (l ++ [u8I m.xPeer]) from rfl, show r18_body_L0 m (112 :: cs) l = r18_body_L0 m cs (l ++ [u8I m.xPeer]) from rfl]
    exact ih _
  | f _ ih =>
    rename_i fs cs _
    intro l
    rw [show wire_write_L0 m (8 :: fs) l = wire_write_L0 m fs (l ++ [wire_truth m.xFlag]) from rfl, show r18_body_L0 m (102 :: cs) l = r18_body_L0 m cs (r18_flag l m.xFlag) from rfl, tru_eq]
    exact ih _
  | r _ ih =>
    rename_i fs cs _
    intro l
    rw [show wire_write_L0 m (13 :: fs) l = wire_write_L0 m fs ((l ++ octet_Text m.xRange.xLo) ++ octet_Text m.xRange.xHi) from rfl, show r18_body_L0 m (114 :: cs) l = r18_body_L0 m cs (r18_Text (r18_Text l m.xRange.xLo) m.xRange.xHi) from rfl, txt_eq, txt_eq]
    exact ih _
  | o _ ih =>
    rename_i fs cs _
    intro l
    rw [show wire_write_L0 m (7 :: fs) l = wire_write_L0 m fs (wire_list_api_Op l m.xOps.ls) from rfl, show r18_body_L0 m (111 :: cs) l = r18_body_L0 m cs (r18_Ops l m.xOps.ls) from rfl, ops_eq]
    exact ih _
  | s _ ih =>
    rename_i fs cs _
    intro l
    rw [show wire_write_L0 m (3 :: fs) l = wire_write_L0 m fs (wire_list_api_Result l m.xResults.ls) from rfl, show r18_body_L0 m (115 :: cs) l = r18_body_L0 m cs (r18_Res l m.xResults.ls) from rfl, res_eq]
    exact ih _
  | w _ ih =>
    rename_i fs cs _
    intro l
    rw [show wire_write_L0 m (11 :: fs) l = wire_write_L0 m fs (wire_list_api_Owner l m.xOwners.ls) from rfl, show r18_body_L0 m (119 :: cs) l = r18_body_L0 m cs (r18_Owners l m.xOwners.ls) from rfl, ows_eq]
    exact ih _
theorem seal_eq (l : List UInt8) : frame_Seal l = r05_Seal l := by
  unfold frame_Seal r05_Seal
  rw [num_eq]
  rfl
theorem enc_eq {m : MsgT} (hn : m.xReq ≤ 18446744073709551615 ∧ m.xBoot ≤ 18446744073709551615 ∧ m.xTxn ≤ 18446744073709551615 ∧ m.xLow ≤ 18446744073709551615 ∧ m.xVer ≤ 18446744073709551615 ∧ m.xEpoch ≤ 18446744073709551615 ∧ m.xMove ≤ 18446744073709551615 ∧ m.xAttempt ≤ 18446744073709551615 ∧ m.xN ≤ 18446744073709551615) : wire_Encode m = r18_Encode m := by
  unfold wire_Encode r18_Encode
  rw [check_eq hn]
  simp only [bnd_eq]
  by_cases c : r18_Check m = 0
  · rw [if_pos c, if_pos c]
    have c' := c
    rw [← check_eq hn] at c'
    have h1 : ¬ m.xKind ≤ 0 := fun h => by rw [check_A] at c'; unfold wire_CheckA at c'; rw [if_pos h] at c'; exact absurd c' (by decide)
    have h2 : ¬ m.xKind ≥ 15 := fun h => by rw [check_A] at c'; unfold wire_CheckA at c'; rw [if_neg h1, if_pos h] at c'; exact absurd c' (by decide)
    unfold wire_write r18_body
    simp only [bnd_eq]
    rw [body_L m (corr_of h1 h2).2, seal_eq]
  · rw [if_neg c, if_neg c]
end Go.Proofs.YtccjclalngabhaaGreat
