/-
  Messages: what was written is read as it was; what is read is written as these bytes; none is too long.
  Conditions: numbers of 64 bits.
-/
import Derived.Test.YtccjclalngabhaaGreatWiG
import Derived.Test.YtccjclalngabhaaGreatWiT
namespace Go.Proofs.YtccjclalngabhaaGreat
set_option linter.unusedVariables false
set_option linter.unusedSimpArgs false
theorem mo_C {k : Int} {l : List OpD} (h : wire_mayOps k l = true) : List.length l ≤ 24 ∧ ∀ x ∈ l, op_CheckOp x = 0 := by
  unfold wire_mayOps op_Check op_checkEach wire_allOps wire_allOpsx at h
  simp only [bnd_eq] at h
  split at h
  · split at h
    · exact absurd (of_decide_eq_true h) (by decide)
    · split at h
      · exact absurd (of_decide_eq_true h) (by decide)
      · exact ⟨by omega, fun x hx => ce_L l (of_decide_eq_true h) x hx⟩
  · split at h
    · split at h
      · split at h
        · exact ⟨by omega, fun x hx => ao_L l h x hx⟩
        · cases h
      · cases h
    · split at h
      · exact ⟨by omega, fun x hx => aw_L l h x hx⟩
      · cases h
theorem co_K {x : OpD} (h : op_CheckOp x = 0) : (0 ≤ x.xKind ∧ x.xKind ≤ 255) ∧ (0 ≤ x.xMost ∧ x.xMost ≤ 255) := by
  unfold op_CheckOp op_checkScan at h
  simp only [bnd_eq, op_ownKey, op_ownPair, op_ownScan, op_ownRange] at h
  by_cases k1 : x.xKind = 1
  · rw [if_pos k1] at h
    split at h
    · rename_i e; have := e.2.2.2.2.2; omega
    · omega
  by_cases k2 : x.xKind = 2
  · rw [if_neg k1, if_pos k2] at h
    split at h
    · rename_i e; have := e.2.2.2.2.2; omega
    · omega
  by_cases k3 : x.xKind = 3
  · rw [if_neg k1, if_neg k2, if_pos k3] at h
    split at h
    · rename_i e; have := e.2.2.2.2.2; omega
    · omega
  by_cases k4 : x.xKind = 4
  · rw [if_neg k1, if_neg k2, if_neg k3, if_pos k4] at h
    split at h
    · split at h
      · split at h
        · omega
        · split at h
          · omega
          · omega
      · omega
    · omega
  by_cases k5 : x.xKind = 5
  · rw [if_neg k1, if_neg k2, if_neg k3, if_neg k4, if_pos k5] at h
    split at h
    · rename_i e; have := e.2.2.2.2.2; omega
    · omega
  rw [if_neg k1, if_neg k2, if_neg k3, if_neg k4, if_neg k5] at h
  omega
theorem co_P {x : OpD} (h : op_CheckOp x = 0) : opP x := by
  obtain ⟨a, b⟩ := co_K h
  obtain ⟨s1, s2, s3, s4⟩ := co_S h
  exact ⟨a, by omega, by omega, by omega, by omega, b⟩
theorem sh_b {x : Int} (h : owner_isShard x = true) : 1 ≤ x ∧ x ≤ 4 := by
  unfold owner_isShard at h
  split at h
  · exact ⟨by omega, of_decide_eq_true h⟩
  · cases h
theorem ow_sh (l : List OwnerD) : ∀ (q : List OwnerD) (k : Nat), (lp (owner_Check_L0 l q k) fun _ => 0) = 0 → ∀ x ∈ q, 1 ≤ x.xShard ∧ x.xShard ≤ 4
  | [], _, _, x, hx => by cases hx
  | y :: q, k, h, x, hx => by
    simp only [owner_Check_L0, bnd_eq] at h
    by_cases c : owner_isShard y.xShard = true
    · rw [if_pos c] at h
      have hy := sh_b c
      rcases List.mem_cons.1 hx with rfl | hx
      · exact hy
      · split at h
        · split at h
          · split at h
            · simp only [lp] at h; omega
            · exact ow_sh l q _ h x hx
          · simp only [lp] at h; omega
        · exact ow_sh l q _ h x hx
    · rw [if_neg c] at h
      simp only [lp] at h; omega
theorem oc_P {l : List OwnerD} (h : owner_Check l = 0) : List.length l ≤ 6 ∧ ∀ x ∈ l, owP x := by
  obtain ⟨h1, h2⟩ := oc_S h
  refine ⟨h1, fun x hx => ⟨by have := h2 x hx; omega, ?_⟩⟩
  unfold owner_Check at h
  split at h
  · omega
  · split at h
    · omega
    · rw [bnd_eq] at h
      split at h
      · omega
      · have := ow_sh l l 0 h x hx; omega
theorem re_P {x : ResultT} (h : reS x) : reP x := ⟨by have := h.1; omega, by have := h.2.1; omega, fun q hq => ⟨by have := (h.2.2 q hq).1; omega, by have := (h.2.2 q hq).2; omega⟩⟩
theorem role_b {a x : Int} (h : wire_role_is a x = true) : 0 ≤ x ∧ x ≤ 255 := by
  unfold wire_role_is at h
  split at h
  · split at h
    · have := of_decide_eq_true h; omega
    · cases h
  · split at h
    · split at h
      · have := of_decide_eq_true h; omega
      · cases h
    · have := of_decide_eq_true h; omega
theorem mayC {k c : Int} (h : wire_mayCode k c = true) : 0 ≤ c ∧ c ≤ 255 := by
  unfold wire_mayCode at h
  split at h
  · split at h
    · omega
    · have := of_decide_eq_true h; omega
  · split at h
    · omega
    · split at h
      · omega
      · have := of_decide_eq_true h; omega
theorem may_P {m : MsgT} (hn : nums m) {f : Int} (h : Fl f) (hm : wire_may m f = true) : fP m f := by
  obtain ⟨n1, n2, n3, n4, n5, n6, n7, n8, n9⟩ := hn
  cases h with
  | f0 => exact n1
  | f1 => exact n2
  | f4 => exact n3
  | f5 => exact n4
  | f6 => exact n6
  | f9 => exact n5
  | f10 => exact n7
  | f14 => exact n8
  | f15 => exact n9
  | f2 => exact (show 0 ≤ m.xCode ∧ m.xCode ≤ 255 from mayC (show wire_mayCode m.xKind m.xCode = true from hm))
  | f12 => exact (show 0 ≤ m.xPeer ∧ m.xPeer ≤ 255 from role_b (show wire_role_is 1 m.xPeer = true from hm))
  | f8 => exact trivial
  | f13 =>
    have := sc_12 (of_decide_eq_true (show decide (span_Check m.xRange = 0) = true from hm))
    exact (show List.length m.xRange.xLo ≤ 255 ∧ List.length m.xRange.xHi ≤ 255 from by omega)
  | f7 =>
    obtain ⟨a, b⟩ := mo_C (show wire_mayOps m.xKind m.xOps.ls = true from hm)
    exact (show List.length m.xOps.ls ≤ 255 ∧ ∀ x ∈ m.xOps.ls, opP x from ⟨by omega, fun x hx => co_P (b x hx)⟩)
  | f3 =>
    obtain ⟨a, b⟩ := ms_S (show wire_mayResults m.xKind m.xResults.ls = true from hm)
    exact (show List.length m.xResults.ls ≤ 255 ∧ ∀ x ∈ m.xResults.ls, reP x from ⟨by omega, fun x hx => re_P (b x hx)⟩)
  | f11 =>
    obtain ⟨a, b⟩ := oc_P (of_decide_eq_true (show decide (owner_Check m.xOwners.ls = 0) = true from hm))
    exact (show List.length m.xOwners.ls ≤ 255 ∧ ∀ x ∈ m.xOwners.ls, owP x from ⟨by omega, b⟩)
theorem num_10 {n : Nat} (h : n ≤ 18446744073709551615) : List.length (octet_Num n) ≤ 10 := by rw [num_eq]; exact (num_len n h).2
theorem text_2 (s : List UInt8) (h : List.length s ≤ 16) : List.length (octet_Text s) ≤ 18 := by have := text_len s; have := num_2 (n := List.length s) (by omega); omega
theorem text_12 (s : List UInt8) (h : List.length s ≤ 12) : List.length (octet_Text s) ≤ 14 := by have := text_len s; have := num_2 (n := List.length s) (by omega); omega
theorem fm_le {α : Type} {f : α → List UInt8} {c : Nat} : ∀ (l : List α), (∀ x ∈ l, List.length (f x) ≤ c) → List.length (List.flatMap f l) ≤ c * List.length l
  | [], _ => Nat.zero_le _
  | x :: q, h => by
    have h1 := h x (.head _)
    have ih := fm_le q (fun y hy => h y (.tail _ hy))
    rw [List.flatMap_cons, List.length_append, List.length_cons, Nat.mul_add]
    omega
def fL (f : Int) : Nat := if f = 2 then 1 else if f = 12 then 1 else if f = 8 then 1 else if f = 13 then 28 else if f = 7 then 1514 else if f = 3 then 3578 else if f = 11 then 98 else 10
theorem op_le {x : OpD} (h : op_CheckOp x = 0) : List.length (opB x) ≤ 62 := by
  obtain ⟨s1, s2, s3, s4⟩ := co_S h
  have t1 := text_12 _ s1
  have t2 := text_2 _ s2
  have t3 := text_12 _ s3
  have t4 := text_12 _ s4
  unfold opB
  simp only [List.length_append, List.length_cons, List.length_nil]
  omega
theorem re_le {x : ResultT} (h : reS x) : List.length (reB x) ≤ 149 := by
  obtain ⟨s1, s2, s3⟩ := h
  have t1 := text_2 _ s1
  have t2 := num_2 (n := List.length x.xPairs.ls) (by omega)
  have t3 := fm_le (f := paB) (c := 32) x.xPairs.ls (fun q hq => by
    have a := text_12 _ (s3 q hq).1
    have b := text_2 _ (s3 q hq).2
    unfold paB
    rw [List.length_append]; omega)
  unfold reB
  simp only [List.length_append, List.length_cons, List.length_nil]
  omega
theorem may_L {m : MsgT} (hn : nums m) {f : Int} (h : Fl f) (hm : wire_may m f = true) : List.length (fB m f) ≤ fL f := by
  obtain ⟨n1, n2, n3, n4, n5, n6, n7, n8, n9⟩ := hn
  cases h with
  | f0 => exact num_10 n1
  | f1 => exact num_10 n2
  | f4 => exact num_10 n3
  | f5 => exact num_10 n4
  | f6 => exact num_10 n6
  | f9 => exact num_10 n5
  | f10 => exact num_10 n7
  | f14 => exact num_10 n8
  | f15 => exact num_10 n9
  | f2 => exact Nat.le_refl 1
  | f12 => exact Nat.le_refl 1
  | f8 => exact Nat.le_refl 1
  | f13 =>
    obtain ⟨a, b⟩ := sc_12 (of_decide_eq_true (show decide (span_Check m.xRange = 0) = true from hm))
    have t1 := text_12 _ a
    have t2 := text_12 _ b
    show List.length (octet_Text m.xRange.xLo ++ octet_Text m.xRange.xHi) ≤ 28
    rw [List.length_append]; omega
  | f7 =>
    obtain ⟨a, b⟩ := mo_C (show wire_mayOps m.xKind m.xOps.ls = true from hm)
    have t1 := num_2 (n := List.length m.xOps.ls) (by omega)
    have t2 := fm_le (f := opB) (c := 62) m.xOps.ls (fun x hx => op_le (b x hx))
    show List.length (octet_Num (List.length m.xOps.ls) ++ List.flatMap opB m.xOps.ls) ≤ 1514
    rw [List.length_append]; omega
  | f3 =>
    obtain ⟨a, b⟩ := ms_S (show wire_mayResults m.xKind m.xResults.ls = true from hm)
    have t1 := num_2 (n := List.length m.xResults.ls) (by omega)
    have t2 := fm_le (f := reB) (c := 149) m.xResults.ls (fun x hx => re_le (b x hx))
    show List.length (octet_Num (List.length m.xResults.ls) ++ List.flatMap reB m.xResults.ls) ≤ 3578
    rw [List.length_append]; omega
  | f11 =>
    obtain ⟨a, b⟩ := oc_S (of_decide_eq_true (show decide (owner_Check m.xOwners.ls = 0) = true from hm))
    have t1 := num_2 (n := List.length m.xOwners.ls) (by omega)
    have t2 := fm_le (f := owB) (c := 16) m.xOwners.ls (fun x hx => by
      have := text_12 _ (b x hx)
      unfold owB
      simp only [List.length_append, List.length_cons, List.length_nil]; omega)
    show List.length (octet_Num (List.length m.xOwners.ls) ++ List.flatMap owB m.xOwners.ls) ≤ 98
    rw [List.length_append]; omega
theorem fs_le {m : MsgT} : ∀ (fs : List Int), (∀ f ∈ fs, List.length (fB m f) ≤ fL f) → List.length (List.flatMap (fB m) fs) ≤ (fs.map fL).sum
  | [], _ => Nat.zero_le _
  | f :: fs, h => by
    have h1 := h f (.head _)
    have ih := fs_le fs (fun y hy => h y (.tail _ hy))
    rw [List.flatMap_cons, List.length_append, List.map_cons, List.sum_cons]
    omega
def Z0 (k a b : Int) : MsgT := MsgT.mk k a b 0 0 0 0 0 0 0 0 0 0 0 0 false (RangeD.mk ([]) ([])) (Ll.mk ([])) (Ll.mk ([])) (Ll.mk ([]))
structure May (m : MsgT) (fs : List Int) : Prop where
  kind : 1 ≤ m.xKind ∧ m.xKind ≤ 14
  lay : (wire_layoutOf m.xKind).2 = true ∧ (wire_layoutOf m.xKind).1.xfields.ls = fs
  fr : 0 ≤ m.xFrom ∧ m.xFrom ≤ 255
  to : 0 ≤ m.xTo ∧ m.xTo ≤ 255
  fl : ∀ f ∈ fs, Fl f
  may : ∀ f ∈ fs, wire_may m f = true
  nodup : fs.Nodup
  sum : (fs.map fL).sum ≤ 4000
  same : List.foldl (cp m) (Z0 m.xKind m.xFrom m.xTo) fs = m
set_option maxRecDepth 100000 in
theorem mk_1 {m : MsgT} (hn : nums m) (hk : m.xKind = 1) (hf : 0 ≤ m.xFrom ∧ m.xFrom ≤ 255) (ht : 0 ≤ m.xTo ∧ m.xTo ≤ 255) (hb : wire_blank (MsgT.mk m.xKind m.xFrom m.xTo m.xClient m.xCode m.xPeer 0 0 m.xTxn m.xLow m.xVer m.xEpoch m.xMove m.xAttempt m.xN m.xFlag m.xRange (Ll.mk ([])) (Ll.mk m.xResults.ls) (Ll.mk m.xOwners.ls)) = true) (ha : wire_allMay m [0, 1, 7] = true) : May m [0, 1, 7] := by
  refine ⟨by omega, by rw [hk]; exact ⟨by decide +kernel, by decide +kernel⟩, hf, ht, ?_, (am_L m _).1 ha, by decide, by decide, ?_⟩
  · intro f h; simp only [List.mem_cons, List.not_mem_nil, or_false] at h; rcases h with rfl | rfl | rfl <;> constructor
  · have q := (bl_iff (by obtain ⟨n1, n2, n3, n4, n5, n6, n7, n8, n9⟩ := hn; dsimp only; omega)).1 hb
    dsimp only at q
    obtain ⟨⟨h1, h2, h3, h4, h5, h6, h7, h8, h9⟩, ⟨l1, l2, l3⟩, c1, c2, c3, c4, r1, r2⟩ := q
    rcases m with ⟨k, fr, to, cl, co, pe, q, bo, tx, lo, ve, ep, mo, av, n, fl, ⟨rl, rh⟩, ⟨os⟩, ⟨rs⟩, ⟨ws⟩⟩
    dsimp only at *
    subst h3 h4 h5 h6 h7 h8 h9 l2 l3 c1 c2 c3 c4 r1 r2
    rfl
set_option maxRecDepth 100000 in
theorem mk_2 {m : MsgT} (hn : nums m) (hk : m.xKind = 2) (hf : 0 ≤ m.xFrom ∧ m.xFrom ≤ 255) (ht : 0 ≤ m.xTo ∧ m.xTo ≤ 255) (hb : wire_blank (MsgT.mk m.xKind m.xFrom m.xTo m.xClient 0 m.xPeer 0 0 m.xTxn m.xLow m.xVer m.xEpoch m.xMove m.xAttempt m.xN m.xFlag m.xRange (Ll.mk m.xOps.ls) (Ll.mk ([])) (Ll.mk m.xOwners.ls)) = true) (ha : wire_allMay m [0, 1, 2, 3] = true) : May m [0, 1, 2, 3] := by
  refine ⟨by omega, by rw [hk]; exact ⟨by decide +kernel, by decide +kernel⟩, hf, ht, ?_, (am_L m _).1 ha, by decide, by decide, ?_⟩
  · intro f h; simp only [List.mem_cons, List.not_mem_nil, or_false] at h; rcases h with rfl | rfl | rfl | rfl <;> constructor
  · have q := (bl_iff (by obtain ⟨n1, n2, n3, n4, n5, n6, n7, n8, n9⟩ := hn; dsimp only; omega)).1 hb
    dsimp only at q
    obtain ⟨⟨h1, h2, h3, h4, h5, h6, h7, h8, h9⟩, ⟨l1, l2, l3⟩, c1, c2, c3, c4, r1, r2⟩ := q
    rcases m with ⟨k, fr, to, cl, co, pe, q, bo, tx, lo, ve, ep, mo, av, n, fl, ⟨rl, rh⟩, ⟨os⟩, ⟨rs⟩, ⟨ws⟩⟩
    dsimp only at *
    subst h3 h4 h5 h6 h7 h8 h9 l1 l3 c1 c3 c4 r1 r2
    rfl
set_option maxRecDepth 100000 in
theorem mk_3 {m : MsgT} (hn : nums m) (hk : m.xKind = 3) (hf : 0 ≤ m.xFrom ∧ m.xFrom ≤ 255) (ht : 0 ≤ m.xTo ∧ m.xTo ≤ 255) (hb : wire_blank (MsgT.mk m.xKind m.xFrom m.xTo m.xClient m.xCode m.xPeer m.xReq m.xBoot 0 0 m.xVer 0 m.xMove m.xAttempt m.xN m.xFlag m.xRange (Ll.mk ([])) (Ll.mk m.xResults.ls) (Ll.mk m.xOwners.ls)) = true) (ha : wire_allMay m [4, 5, 6, 7] = true) : May m [4, 5, 6, 7] := by
  refine ⟨by omega, by rw [hk]; exact ⟨by decide +kernel, by decide +kernel⟩, hf, ht, ?_, (am_L m _).1 ha, by decide, by decide, ?_⟩
  · intro f h; simp only [List.mem_cons, List.not_mem_nil, or_false] at h; rcases h with rfl | rfl | rfl | rfl <;> constructor
  · have q := (bl_iff (by obtain ⟨n1, n2, n3, n4, n5, n6, n7, n8, n9⟩ := hn; dsimp only; omega)).1 hb
    dsimp only at q
    obtain ⟨⟨h1, h2, h3, h4, h5, h6, h7, h8, h9⟩, ⟨l1, l2, l3⟩, c1, c2, c3, c4, r1, r2⟩ := q
    rcases m with ⟨k, fr, to, cl, co, pe, q, bo, tx, lo, ve, ep, mo, av, n, fl, ⟨rl, rh⟩, ⟨os⟩, ⟨rs⟩, ⟨ws⟩⟩
    dsimp only at *
    subst h1 h2 h5 h7 h8 h9 l2 l3 c1 c2 c3 c4 r1 r2
    rfl
set_option maxRecDepth 100000 in
theorem mk_4 {m : MsgT} (hn : nums m) (hk : m.xKind = 4) (hf : 0 ≤ m.xFrom ∧ m.xFrom ≤ 255) (ht : 0 ≤ m.xTo ∧ m.xTo ≤ 255) (hb : wire_blank (MsgT.mk m.xKind m.xFrom m.xTo m.xClient 0 m.xPeer m.xReq m.xBoot 0 m.xLow m.xVer m.xEpoch m.xMove m.xAttempt m.xN m.xFlag m.xRange (Ll.mk m.xOps.ls) (Ll.mk ([])) (Ll.mk m.xOwners.ls)) = true) (ha : wire_allMay m [4, 2, 3] = true) : May m [4, 2, 3] := by
  refine ⟨by omega, by rw [hk]; exact ⟨by decide +kernel, by decide +kernel⟩, hf, ht, ?_, (am_L m _).1 ha, by decide, by decide, ?_⟩
  · intro f h; simp only [List.mem_cons, List.not_mem_nil, or_false] at h; rcases h with rfl | rfl | rfl <;> constructor
  · have q := (bl_iff (by obtain ⟨n1, n2, n3, n4, n5, n6, n7, n8, n9⟩ := hn; dsimp only; omega)).1 hb
    dsimp only at q
    obtain ⟨⟨h1, h2, h3, h4, h5, h6, h7, h8, h9⟩, ⟨l1, l2, l3⟩, c1, c2, c3, c4, r1, r2⟩ := q
    rcases m with ⟨k, fr, to, cl, co, pe, q, bo, tx, lo, ve, ep, mo, av, n, fl, ⟨rl, rh⟩, ⟨os⟩, ⟨rs⟩, ⟨ws⟩⟩
    dsimp only at *
    subst h1 h2 h4 h5 h6 h7 h8 h9 l1 l3 c1 c3 c4 r1 r2
    rfl
set_option maxRecDepth 100000 in
theorem mk_5 {m : MsgT} (hn : nums m) (hk : m.xKind = 5) (hf : 0 ≤ m.xFrom ∧ m.xFrom ≤ 255) (ht : 0 ≤ m.xTo ∧ m.xTo ≤ 255) (hb : wire_blank (MsgT.mk m.xKind m.xFrom m.xTo m.xClient m.xCode m.xPeer m.xReq m.xBoot 0 m.xLow m.xVer m.xEpoch m.xMove m.xAttempt m.xN false m.xRange (Ll.mk m.xOps.ls) (Ll.mk m.xResults.ls) (Ll.mk m.xOwners.ls)) = true) (ha : wire_allMay m [4, 8] = true) : May m [4, 8] := by
  refine ⟨by omega, by rw [hk]; exact ⟨by decide +kernel, by decide +kernel⟩, hf, ht, ?_, (am_L m _).1 ha, by decide, by decide, ?_⟩
  · intro f h; simp only [List.mem_cons, List.not_mem_nil, or_false] at h; rcases h with rfl | rfl <;> constructor
  · have q := (bl_iff (by obtain ⟨n1, n2, n3, n4, n5, n6, n7, n8, n9⟩ := hn; dsimp only; omega)).1 hb
    dsimp only at q
    obtain ⟨⟨h1, h2, h3, h4, h5, h6, h7, h8, h9⟩, ⟨l1, l2, l3⟩, c1, c2, c3, c4, r1, r2⟩ := q
    rcases m with ⟨k, fr, to, cl, co, pe, q, bo, tx, lo, ve, ep, mo, av, n, fl, ⟨rl, rh⟩, ⟨os⟩, ⟨rs⟩, ⟨ws⟩⟩
    dsimp only at *
    subst h1 h2 h4 h5 h6 h7 h8 h9 l1 l2 l3 c1 c2 c3 r1 r2
    rfl
set_option maxRecDepth 100000 in
theorem mk_6 {m : MsgT} (hn : nums m) (hk : m.xKind = 6) (hf : 0 ≤ m.xFrom ∧ m.xFrom ≤ 255) (ht : 0 ≤ m.xTo ∧ m.xTo ≤ 255) (hb : wire_blank (MsgT.mk m.xKind m.xFrom m.xTo m.xClient m.xCode m.xPeer m.xReq m.xBoot 0 m.xLow m.xVer m.xEpoch m.xMove m.xAttempt m.xN m.xFlag m.xRange (Ll.mk m.xOps.ls) (Ll.mk m.xResults.ls) (Ll.mk m.xOwners.ls)) = true) (ha : wire_allMay m [4] = true) : May m [4] := by
  refine ⟨by omega, by rw [hk]; exact ⟨by decide +kernel, by decide +kernel⟩, hf, ht, ?_, (am_L m _).1 ha, by decide, by decide, ?_⟩
  · intro f h; simp only [List.mem_cons, List.not_mem_nil, or_false] at h; rcases h with rfl <;> constructor
  · have q := (bl_iff (by obtain ⟨n1, n2, n3, n4, n5, n6, n7, n8, n9⟩ := hn; dsimp only; omega)).1 hb
    dsimp only at q
    obtain ⟨⟨h1, h2, h3, h4, h5, h6, h7, h8, h9⟩, ⟨l1, l2, l3⟩, c1, c2, c3, c4, r1, r2⟩ := q
    rcases m with ⟨k, fr, to, cl, co, pe, q, bo, tx, lo, ve, ep, mo, av, n, fl, ⟨rl, rh⟩, ⟨os⟩, ⟨rs⟩, ⟨ws⟩⟩
    dsimp only at *
    subst h1 h2 h4 h5 h6 h7 h8 h9 l1 l2 l3 c1 c2 c3 c4 r1 r2
    rfl
set_option maxRecDepth 100000 in
theorem mk_7 {m : MsgT} (hn : nums m) (hk : m.xKind = 7) (hf : 0 ≤ m.xFrom ∧ m.xFrom ≤ 255) (ht : 0 ≤ m.xTo ∧ m.xTo ≤ 255) (hb : wire_blank (MsgT.mk m.xKind m.xFrom m.xTo m.xClient m.xCode m.xPeer m.xReq m.xBoot 0 m.xLow m.xVer m.xEpoch m.xMove m.xAttempt m.xN m.xFlag m.xRange (Ll.mk m.xOps.ls) (Ll.mk m.xResults.ls) (Ll.mk m.xOwners.ls)) = true) (ha : wire_allMay m [4] = true) : May m [4] := by
  refine ⟨by omega, by rw [hk]; exact ⟨by decide +kernel, by decide +kernel⟩, hf, ht, ?_, (am_L m _).1 ha, by decide, by decide, ?_⟩
  · intro f h; simp only [List.mem_cons, List.not_mem_nil, or_false] at h; rcases h with rfl <;> constructor
  · have q := (bl_iff (by obtain ⟨n1, n2, n3, n4, n5, n6, n7, n8, n9⟩ := hn; dsimp only; omega)).1 hb
    dsimp only at q
    obtain ⟨⟨h1, h2, h3, h4, h5, h6, h7, h8, h9⟩, ⟨l1, l2, l3⟩, c1, c2, c3, c4, r1, r2⟩ := q
    rcases m with ⟨k, fr, to, cl, co, pe, q, bo, tx, lo, ve, ep, mo, av, n, fl, ⟨rl, rh⟩, ⟨os⟩, ⟨rs⟩, ⟨ws⟩⟩
    dsimp only at *
    subst h1 h2 h4 h5 h6 h7 h8 h9 l1 l2 l3 c1 c2 c3 c4 r1 r2
    rfl
set_option maxRecDepth 100000 in
theorem mk_8 {m : MsgT} (hn : nums m) (hk : m.xKind = 8) (hf : 0 ≤ m.xFrom ∧ m.xFrom ≤ 255) (ht : 0 ≤ m.xTo ∧ m.xTo ≤ 255) (hb : wire_blank (MsgT.mk m.xKind m.xFrom m.xTo m.xClient m.xCode m.xPeer m.xReq m.xBoot m.xTxn m.xLow 0 0 0 m.xAttempt m.xN m.xFlag m.xRange (Ll.mk m.xOps.ls) (Ll.mk m.xResults.ls) (Ll.mk ([]))) = true) (ha : wire_allMay m [9, 6, 10, 11] = true) : May m [9, 6, 10, 11] := by
  refine ⟨by omega, by rw [hk]; exact ⟨by decide +kernel, by decide +kernel⟩, hf, ht, ?_, (am_L m _).1 ha, by decide, by decide, ?_⟩
  · intro f h; simp only [List.mem_cons, List.not_mem_nil, or_false] at h; rcases h with rfl | rfl | rfl | rfl <;> constructor
  · have q := (bl_iff (by obtain ⟨n1, n2, n3, n4, n5, n6, n7, n8, n9⟩ := hn; dsimp only; omega)).1 hb
    dsimp only at q
    obtain ⟨⟨h1, h2, h3, h4, h5, h6, h7, h8, h9⟩, ⟨l1, l2, l3⟩, c1, c2, c3, c4, r1, r2⟩ := q
    rcases m with ⟨k, fr, to, cl, co, pe, q, bo, tx, lo, ve, ep, mo, av, n, fl, ⟨rl, rh⟩, ⟨os⟩, ⟨rs⟩, ⟨ws⟩⟩
    dsimp only at *
    subst h1 h2 h3 h4 h8 h9 l1 l2 c1 c2 c3 c4 r1 r2
    rfl
set_option maxRecDepth 100000 in
theorem mk_9 {m : MsgT} (hn : nums m) (hk : m.xKind = 9) (hf : 0 ≤ m.xFrom ∧ m.xFrom ≤ 255) (ht : 0 ≤ m.xTo ∧ m.xTo ≤ 255) (hb : wire_blank (MsgT.mk m.xKind m.xFrom m.xTo m.xClient m.xCode m.xPeer m.xReq m.xBoot m.xTxn m.xLow 0 m.xEpoch m.xMove m.xAttempt m.xN m.xFlag m.xRange (Ll.mk m.xOps.ls) (Ll.mk m.xResults.ls) (Ll.mk m.xOwners.ls)) = true) (ha : wire_allMay m [9] = true) : May m [9] := by
  refine ⟨by omega, by rw [hk]; exact ⟨by decide +kernel, by decide +kernel⟩, hf, ht, ?_, (am_L m _).1 ha, by decide, by decide, ?_⟩
  · intro f h; simp only [List.mem_cons, List.not_mem_nil, or_false] at h; rcases h with rfl <;> constructor
  · have q := (bl_iff (by obtain ⟨n1, n2, n3, n4, n5, n6, n7, n8, n9⟩ := hn; dsimp only; omega)).1 hb
    dsimp only at q
    obtain ⟨⟨h1, h2, h3, h4, h5, h6, h7, h8, h9⟩, ⟨l1, l2, l3⟩, c1, c2, c3, c4, r1, r2⟩ := q
    rcases m with ⟨k, fr, to, cl, co, pe, q, bo, tx, lo, ve, ep, mo, av, n, fl, ⟨rl, rh⟩, ⟨os⟩, ⟨rs⟩, ⟨ws⟩⟩
    dsimp only at *
    subst h1 h2 h3 h4 h6 h7 h8 h9 l1 l2 l3 c1 c2 c3 c4 r1 r2
    rfl
set_option maxRecDepth 100000 in
theorem mk_10 {m : MsgT} (hn : nums m) (hk : m.xKind = 10) (hf : 0 ≤ m.xFrom ∧ m.xFrom ≤ 255) (ht : 0 ≤ m.xTo ∧ m.xTo ≤ 255) (hb : wire_blank (MsgT.mk m.xKind m.xFrom m.xTo m.xClient m.xCode 0 m.xReq m.xBoot m.xTxn m.xLow 0 m.xEpoch 0 m.xAttempt m.xN false (RangeD.mk ([]) ([])) (Ll.mk m.xOps.ls) (Ll.mk m.xResults.ls) (Ll.mk m.xOwners.ls)) = true) (ha : wire_allMay m [9, 10, 12, 8, 13] = true) : May m [9, 10, 12, 8, 13] := by
  refine ⟨by omega, by rw [hk]; exact ⟨by decide +kernel, by decide +kernel⟩, hf, ht, ?_, (am_L m _).1 ha, by decide, by decide, ?_⟩
  · intro f h; simp only [List.mem_cons, List.not_mem_nil, or_false] at h; rcases h with rfl | rfl | rfl | rfl | rfl <;> constructor
  · have q := (bl_iff (by obtain ⟨n1, n2, n3, n4, n5, n6, n7, n8, n9⟩ := hn; dsimp only; omega)).1 hb
    dsimp only at q
    obtain ⟨⟨h1, h2, h3, h4, h5, h6, h7, h8, h9⟩, ⟨l1, l2, l3⟩, c1, c2, c3, c4, r1, r2⟩ := q
    rcases m with ⟨k, fr, to, cl, co, pe, q, bo, tx, lo, ve, ep, mo, av, n, fl, ⟨rl, rh⟩, ⟨os⟩, ⟨rs⟩, ⟨ws⟩⟩
    dsimp only at *
    subst h1 h2 h3 h4 h6 h8 h9 l1 l2 l3 c1 c2
    rfl
set_option maxRecDepth 100000 in
theorem mk_11 {m : MsgT} (hn : nums m) (hk : m.xKind = 11) (hf : 0 ≤ m.xFrom ∧ m.xFrom ≤ 255) (ht : 0 ≤ m.xTo ∧ m.xTo ≤ 255) (hb : wire_blank (MsgT.mk m.xKind m.xFrom m.xTo m.xClient m.xCode m.xPeer m.xReq m.xBoot m.xTxn m.xLow m.xVer m.xEpoch 0 0 0 m.xFlag (RangeD.mk ([]) ([])) (Ll.mk ([])) (Ll.mk m.xResults.ls) (Ll.mk m.xOwners.ls)) = true) (ha : wire_allMay m [10, 14, 15, 13, 7] = true) : May m [10, 14, 15, 13, 7] := by
  refine ⟨by omega, by rw [hk]; exact ⟨by decide +kernel, by decide +kernel⟩, hf, ht, ?_, (am_L m _).1 ha, by decide, by decide, ?_⟩
  · intro f h; simp only [List.mem_cons, List.not_mem_nil, or_false] at h; rcases h with rfl | rfl | rfl | rfl | rfl <;> constructor
  · have q := (bl_iff (by obtain ⟨n1, n2, n3, n4, n5, n6, n7, n8, n9⟩ := hn; dsimp only; omega)).1 hb
    dsimp only at q
    obtain ⟨⟨h1, h2, h3, h4, h5, h6, h7, h8, h9⟩, ⟨l1, l2, l3⟩, c1, c2, c3, c4, r1, r2⟩ := q
    rcases m with ⟨k, fr, to, cl, co, pe, q, bo, tx, lo, ve, ep, mo, av, n, fl, ⟨rl, rh⟩, ⟨os⟩, ⟨rs⟩, ⟨ws⟩⟩
    dsimp only at *
    subst h1 h2 h3 h4 h5 h6 l2 l3 c1 c2 c3 c4
    rfl
set_option maxRecDepth 100000 in
theorem mk_12 {m : MsgT} (hn : nums m) (hk : m.xKind = 12) (hf : 0 ≤ m.xFrom ∧ m.xFrom ≤ 255) (ht : 0 ≤ m.xTo ∧ m.xTo ≤ 255) (hb : wire_blank (MsgT.mk m.xKind m.xFrom m.xTo m.xClient m.xCode m.xPeer m.xReq m.xBoot m.xTxn m.xLow m.xVer m.xEpoch 0 0 0 m.xFlag m.xRange (Ll.mk m.xOps.ls) (Ll.mk m.xResults.ls) (Ll.mk m.xOwners.ls)) = true) (ha : wire_allMay m [10, 14, 15] = true) : May m [10, 14, 15] := by
  refine ⟨by omega, by rw [hk]; exact ⟨by decide +kernel, by decide +kernel⟩, hf, ht, ?_, (am_L m _).1 ha, by decide, by decide, ?_⟩
  · intro f h; simp only [List.mem_cons, List.not_mem_nil, or_false] at h; rcases h with rfl | rfl | rfl <;> constructor
  · have q := (bl_iff (by obtain ⟨n1, n2, n3, n4, n5, n6, n7, n8, n9⟩ := hn; dsimp only; omega)).1 hb
    dsimp only at q
    obtain ⟨⟨h1, h2, h3, h4, h5, h6, h7, h8, h9⟩, ⟨l1, l2, l3⟩, c1, c2, c3, c4, r1, r2⟩ := q
    rcases m with ⟨k, fr, to, cl, co, pe, q, bo, tx, lo, ve, ep, mo, av, n, fl, ⟨rl, rh⟩, ⟨os⟩, ⟨rs⟩, ⟨ws⟩⟩
    dsimp only at *
    subst h1 h2 h3 h4 h5 h6 l1 l2 l3 c1 c2 c3 c4 r1 r2
    rfl
set_option maxRecDepth 100000 in
theorem mk_13 {m : MsgT} (hn : nums m) (hk : m.xKind = 13) (hf : 0 ≤ m.xFrom ∧ m.xFrom ≤ 255) (ht : 0 ≤ m.xTo ∧ m.xTo ≤ 255) (hb : wire_blank (MsgT.mk m.xKind m.xFrom m.xTo m.xClient m.xCode m.xPeer m.xReq m.xBoot m.xTxn m.xLow m.xVer m.xEpoch 0 m.xAttempt m.xN m.xFlag m.xRange (Ll.mk m.xOps.ls) (Ll.mk m.xResults.ls) (Ll.mk m.xOwners.ls)) = true) (ha : wire_allMay m [10] = true) : May m [10] := by
  refine ⟨by omega, by rw [hk]; exact ⟨by decide +kernel, by decide +kernel⟩, hf, ht, ?_, (am_L m _).1 ha, by decide, by decide, ?_⟩
  · intro f h; simp only [List.mem_cons, List.not_mem_nil, or_false] at h; rcases h with rfl <;> constructor
  · have q := (bl_iff (by obtain ⟨n1, n2, n3, n4, n5, n6, n7, n8, n9⟩ := hn; dsimp only; omega)).1 hb
    dsimp only at q
    obtain ⟨⟨h1, h2, h3, h4, h5, h6, h7, h8, h9⟩, ⟨l1, l2, l3⟩, c1, c2, c3, c4, r1, r2⟩ := q
    rcases m with ⟨k, fr, to, cl, co, pe, q, bo, tx, lo, ve, ep, mo, av, n, fl, ⟨rl, rh⟩, ⟨os⟩, ⟨rs⟩, ⟨ws⟩⟩
    dsimp only at *
    subst h1 h2 h3 h4 h5 h6 h8 h9 l1 l2 l3 c1 c2 c3 c4 r1 r2
    rfl
set_option maxRecDepth 100000 in
theorem mk_14 {m : MsgT} (hn : nums m) (hk : m.xKind = 14) (hf : 0 ≤ m.xFrom ∧ m.xFrom ≤ 255) (ht : 0 ≤ m.xTo ∧ m.xTo ≤ 255) (hb : wire_blank (MsgT.mk m.xKind m.xFrom m.xTo m.xClient m.xCode m.xPeer m.xReq m.xBoot m.xTxn m.xLow m.xVer m.xEpoch 0 m.xAttempt m.xN m.xFlag m.xRange (Ll.mk m.xOps.ls) (Ll.mk m.xResults.ls) (Ll.mk m.xOwners.ls)) = true) (ha : wire_allMay m [10] = true) : May m [10] := by
  refine ⟨by omega, by rw [hk]; exact ⟨by decide +kernel, by decide +kernel⟩, hf, ht, ?_, (am_L m _).1 ha, by decide, by decide, ?_⟩
  · intro f h; simp only [List.mem_cons, List.not_mem_nil, or_false] at h; rcases h with rfl <;> constructor
  · have q := (bl_iff (by obtain ⟨n1, n2, n3, n4, n5, n6, n7, n8, n9⟩ := hn; dsimp only; omega)).1 hb
    dsimp only at q
    obtain ⟨⟨h1, h2, h3, h4, h5, h6, h7, h8, h9⟩, ⟨l1, l2, l3⟩, c1, c2, c3, c4, r1, r2⟩ := q
    rcases m with ⟨k, fr, to, cl, co, pe, q, bo, tx, lo, ve, ep, mo, av, n, fl, ⟨rl, rh⟩, ⟨os⟩, ⟨rs⟩, ⟨ws⟩⟩
    dsimp only at *
    subst h1 h2 h3 h4 h5 h6 h8 h9 l1 l2 l3 c1 c2 c3 c4 r1 r2
    rfl
set_option maxRecDepth 100000 in
theorem may_of {m : MsgT} (hn : nums m) (h : wire_Check m = 0) : ∃ fs, May m fs := by
  rw [check_A] at h
  by_cases h1 : m.xKind ≤ 0
  · unfold wire_CheckA at h; rw [if_pos h1] at h; exact absurd h (by decide)
  by_cases h2 : m.xKind ≥ 15
  · unfold wire_CheckA at h; rw [if_neg h1, if_pos h2] at h; exact absurd h (by decide)
  unfold wire_CheckA at h
  rw [if_neg h1, if_neg h2, Int.toNat_of_nonneg (show 0 ≤ m.xKind by omega)] at h
  rcases kinds h1 h2 with k | k | k | k | k | k | k | k | k | k | k | k | k | k
  · rw [if_pos k] at h
    simp only [bnd_eq] at h
    obtain ⟨hf, h⟩ := ite0 h
    obtain ⟨ht, h⟩ := ite0 h
    obtain ⟨hb, h⟩ := ite0 h
    obtain ⟨ha, _⟩ := ite0 h
    exact ⟨_, mk_1 hn k (role_b hf) (role_b ht) hb ha⟩
  · rw [if_neg (show ¬ m.xKind = 1 by omega), if_pos k] at h
    simp only [bnd_eq] at h
    obtain ⟨hf, h⟩ := ite0 h
    obtain ⟨ht, h⟩ := ite0 h
    obtain ⟨hb, h⟩ := ite0 h
    obtain ⟨ha, _⟩ := ite0 h
    exact ⟨_, mk_2 hn k (role_b hf) (role_b ht) hb ha⟩
  · rw [if_neg (show ¬ m.xKind = 1 by omega), if_neg (show ¬ m.xKind = 2 by omega), if_pos k] at h
    simp only [bnd_eq] at h
    obtain ⟨hf, h⟩ := ite0 h
    obtain ⟨ht, h⟩ := ite0 h
    obtain ⟨hb, h⟩ := ite0 h
    obtain ⟨ha, _⟩ := ite0 h
    exact ⟨_, mk_3 hn k (role_b hf) (role_b ht) hb ha⟩
  · rw [if_neg (show ¬ m.xKind = 1 by omega), if_neg (show ¬ m.xKind = 2 by omega), if_neg (show ¬ m.xKind = 3 by omega), if_pos k] at h
    simp only [bnd_eq] at h
    obtain ⟨hf, h⟩ := ite0 h
    obtain ⟨ht, h⟩ := ite0 h
    obtain ⟨hb, h⟩ := ite0 h
    obtain ⟨ha, _⟩ := ite0 h
    exact ⟨_, mk_4 hn k (role_b hf) (role_b ht) hb ha⟩
  · rw [if_neg (show ¬ m.xKind = 1 by omega), if_neg (show ¬ m.xKind = 2 by omega), if_neg (show ¬ m.xKind = 3 by omega), if_neg (show ¬ m.xKind = 4 by omega), if_pos k] at h
    simp only [bnd_eq] at h
    obtain ⟨hf, h⟩ := ite0 h
    obtain ⟨ht, h⟩ := ite0 h
    obtain ⟨hb, h⟩ := ite0 h
    obtain ⟨ha, _⟩ := ite0 h
    exact ⟨_, mk_5 hn k (role_b hf) (role_b ht) hb ha⟩
  · rw [if_neg (show ¬ m.xKind = 1 by omega), if_neg (show ¬ m.xKind = 2 by omega), if_neg (show ¬ m.xKind = 3 by omega), if_neg (show ¬ m.xKind = 4 by omega), if_neg (show ¬ m.xKind = 5 by omega), if_pos k] at h
    simp only [bnd_eq] at h
    obtain ⟨hf, h⟩ := ite0 h
    obtain ⟨ht, h⟩ := ite0 h
    obtain ⟨hb, h⟩ := ite0 h
    obtain ⟨ha, _⟩ := ite0 h
    exact ⟨_, mk_6 hn k (role_b hf) (role_b ht) hb ha⟩
  · rw [if_neg (show ¬ m.xKind = 1 by omega), if_neg (show ¬ m.xKind = 2 by omega), if_neg (show ¬ m.xKind = 3 by omega), if_neg (show ¬ m.xKind = 4 by omega), if_neg (show ¬ m.xKind = 5 by omega), if_neg (show ¬ m.xKind = 6 by omega), if_pos k] at h
    simp only [bnd_eq] at h
    obtain ⟨hf, h⟩ := ite0 h
    obtain ⟨ht, h⟩ := ite0 h
    obtain ⟨hb, h⟩ := ite0 h
    obtain ⟨ha, _⟩ := ite0 h
    exact ⟨_, mk_7 hn k (role_b hf) (role_b ht) hb ha⟩
  · rw [if_neg (show ¬ m.xKind = 1 by omega), if_neg (show ¬ m.xKind = 2 by omega), if_neg (show ¬ m.xKind = 3 by omega), if_neg (show ¬ m.xKind = 4 by omega), if_neg (show ¬ m.xKind = 5 by omega), if_neg (show ¬ m.xKind = 6 by omega), if_neg (show ¬ m.xKind = 7 by omega), if_pos k] at h
    simp only [bnd_eq] at h
    obtain ⟨hf, h⟩ := ite0 h
    obtain ⟨ht, h⟩ := ite0 h
    obtain ⟨hb, h⟩ := ite0 h
    obtain ⟨ha, _⟩ := ite0 h
    exact ⟨_, mk_8 hn k (role_b hf) (role_b ht) hb ha⟩
  · rw [if_neg (show ¬ m.xKind = 1 by omega), if_neg (show ¬ m.xKind = 2 by omega), if_neg (show ¬ m.xKind = 3 by omega), if_neg (show ¬ m.xKind = 4 by omega), if_neg (show ¬ m.xKind = 5 by omega), if_neg (show ¬ m.xKind = 6 by omega), if_neg (show ¬ m.xKind = 7 by omega), if_neg (show ¬ m.xKind = 8 by omega), if_pos k] at h
    simp only [bnd_eq] at h
    obtain ⟨hf, h⟩ := ite0 h
    obtain ⟨ht, h⟩ := ite0 h
    obtain ⟨hb, h⟩ := ite0 h
    obtain ⟨ha, _⟩ := ite0 h
    exact ⟨_, mk_9 hn k (role_b hf) (role_b ht) hb ha⟩
  · rw [if_neg (show ¬ m.xKind = 1 by omega), if_neg (show ¬ m.xKind = 2 by omega), if_neg (show ¬ m.xKind = 3 by omega), if_neg (show ¬ m.xKind = 4 by omega), if_neg (show ¬ m.xKind = 5 by omega), if_neg (show ¬ m.xKind = 6 by omega), if_neg (show ¬ m.xKind = 7 by omega), if_neg (show ¬ m.xKind = 8 by omega), if_neg (show ¬ m.xKind = 9 by omega), if_pos k] at h
    simp only [bnd_eq] at h
    obtain ⟨hf, h⟩ := ite0 h
    obtain ⟨ht, h⟩ := ite0 h
    obtain ⟨hb, h⟩ := ite0 h
    obtain ⟨ha, _⟩ := ite0 h
    exact ⟨_, mk_10 hn k (role_b hf) (role_b ht) hb ha⟩
  · rw [if_neg (show ¬ m.xKind = 1 by omega), if_neg (show ¬ m.xKind = 2 by omega), if_neg (show ¬ m.xKind = 3 by omega), if_neg (show ¬ m.xKind = 4 by omega), if_neg (show ¬ m.xKind = 5 by omega), if_neg (show ¬ m.xKind = 6 by omega), if_neg (show ¬ m.xKind = 7 by omega), if_neg (show ¬ m.xKind = 8 by omega), if_neg (show ¬ m.xKind = 9 by omega), if_neg (show ¬ m.xKind = 10 by omega), if_pos k] at h
    simp only [bnd_eq] at h
    obtain ⟨hf, h⟩ := ite0 h
    obtain ⟨ht, h⟩ := ite0 h
    obtain ⟨hb, h⟩ := ite0 h
    obtain ⟨ha, _⟩ := ite0 h
    exact ⟨_, mk_11 hn k (role_b hf) (role_b ht) hb ha⟩
  · rw [if_neg (show ¬ m.xKind = 1 by omega), if_neg (show ¬ m.xKind = 2 by omega), if_neg (show ¬ m.xKind = 3 by omega), if_neg (show ¬ m.xKind = 4 by omega), if_neg (show ¬ m.xKind = 5 by omega), if_neg (show ¬ m.xKind = 6 by omega), if_neg (show ¬ m.xKind = 7 by omega), if_neg (show ¬ m.xKind = 8 by omega), if_neg (show ¬ m.xKind = 9 by omega), if_neg (show ¬ m.xKind = 10 by omega), if_neg (show ¬ m.xKind = 11 by omega), if_pos k] at h
    simp only [bnd_eq] at h
    obtain ⟨hf, h⟩ := ite0 h
    obtain ⟨ht, h⟩ := ite0 h
    obtain ⟨hb, h⟩ := ite0 h
    obtain ⟨ha, _⟩ := ite0 h
    exact ⟨_, mk_12 hn k (role_b hf) (role_b ht) hb ha⟩
  · rw [if_neg (show ¬ m.xKind = 1 by omega), if_neg (show ¬ m.xKind = 2 by omega), if_neg (show ¬ m.xKind = 3 by omega), if_neg (show ¬ m.xKind = 4 by omega), if_neg (show ¬ m.xKind = 5 by omega), if_neg (show ¬ m.xKind = 6 by omega), if_neg (show ¬ m.xKind = 7 by omega), if_neg (show ¬ m.xKind = 8 by omega), if_neg (show ¬ m.xKind = 9 by omega), if_neg (show ¬ m.xKind = 10 by omega), if_neg (show ¬ m.xKind = 11 by omega), if_neg (show ¬ m.xKind = 12 by omega), if_pos k] at h
    simp only [bnd_eq] at h
    obtain ⟨hf, h⟩ := ite0 h
    obtain ⟨ht, h⟩ := ite0 h
    obtain ⟨hb, h⟩ := ite0 h
    obtain ⟨ha, _⟩ := ite0 h
    exact ⟨_, mk_13 hn k (role_b hf) (role_b ht) hb ha⟩
  · rw [if_neg (show ¬ m.xKind = 1 by omega), if_neg (show ¬ m.xKind = 2 by omega), if_neg (show ¬ m.xKind = 3 by omega), if_neg (show ¬ m.xKind = 4 by omega), if_neg (show ¬ m.xKind = 5 by omega), if_neg (show ¬ m.xKind = 6 by omega), if_neg (show ¬ m.xKind = 7 by omega), if_neg (show ¬ m.xKind = 8 by omega), if_neg (show ¬ m.xKind = 9 by omega), if_neg (show ¬ m.xKind = 10 by omega), if_neg (show ¬ m.xKind = 11 by omega), if_neg (show ¬ m.xKind = 12 by omega), if_neg (show ¬ m.xKind = 13 by omega)] at h
    simp only [bnd_eq] at h
    obtain ⟨hf, h⟩ := ite0 h
    obtain ⟨ht, h⟩ := ite0 h
    obtain ⟨hb, h⟩ := ite0 h
    obtain ⟨ha, _⟩ := ite0 h
    exact ⟨_, mk_14 hn k (role_b hf) (role_b ht) hb ha⟩
theorem out_len {m : MsgT} {fs : List Int} (hn : nums m) (h : May m fs) : List.length (List.flatMap (fB m) fs) ≤ 4000 :=
  Nat.le_trans (fs_le fs fun f hf => may_L hn (h.fl f hf) (h.may f hf)) h.sum
def bodyOf (m : MsgT) (fs : List Int) : List UInt8 := [u8I m.xKind, u8I m.xFrom, u8I m.xTo] ++ List.flatMap (fB m) fs
theorem enc_of {m : MsgT} {fs : List Int} (hc : wire_Check m = 0) (h : May m fs) : wire_Encode m = frame_Seal (bodyOf m fs) := by
  unfold wire_Encode
  rw [bnd_eq, if_pos hc, bnd_eq, h.lay.2]
  unfold wire_write
  rw [bnd_eq, w_L m fs _ h.fl, bnd_eq, bnd_eq]
  rfl
theorem end_0 : reader_Reader_End (Rr [] 0) = Rr [] 0 := rfl
theorem dec_f {m : MsgT} {fs : List Int} (hn : nums m) (hc : wire_Check m = 0) (h : May m fs) : wire_Decode (wire_Encode m).1 = (m, 0) ∧ (wire_Encode m).2 = 0 ∧ List.length (wire_Encode m).1 ≤ 4103 := by
  have hl := out_len hn h
  have hbl : List.length (bodyOf m fs) ≤ 4096 := by unfold bodyOf; simp only [List.length_append, List.length_cons, List.length_nil]; omega
  rw [enc_of hc h]
  refine ⟨?_, by rw [seal_of _ hbl], seal_len _ hbl⟩
  unfold wire_Decode
  rw [open_f _ hbl, bnd_eq]
  dsimp only
  rw [if_pos rfl]
  have hk := u8a (x := m.xKind) (by have := h.kind; omega) (by have := h.kind; omega)
  have hf := u8a h.fr.1 h.fr.2
  have ht := u8a h.to.1 h.to.2
  have e1 : reader_New (bodyOf m fs) = Rr ([u8I m.xKind] ++ ([u8I m.xFrom] ++ ([u8I m.xTo] ++ List.flatMap (fB m) fs))) 0 := rfl
  simp only [bnd_eq]
  rw [e1, fO]
  dsimp only
  rw [hk, if_pos h.lay.1, fO]
  dsimp only
  rw [fO]
  dsimp only
  rw [hf, ht, h.lay.2, read_M]
  have := rM_f (Z0 m.xKind m.xFrom m.xTo) m [] fs (Z0 m.xKind m.xFrom m.xTo) (fun f hf => ⟨h.fl f hf, may_P hn (h.fl f hf) (h.may f hf)⟩)
  rw [List.append_nil] at this
  have this' : rM (MsgT.mk m.xKind m.xFrom m.xTo 0 0 0 0 0 0 0 0 0 0 0 0 false (RangeD.mk ([]) ([])) (Ll.mk ([])) (Ll.mk ([])) (Ll.mk ([]))) (Rr (List.flatMap (fB m) fs) 0) (MsgT.mk m.xKind m.xFrom m.xTo 0 0 0 0 0 0 0 0 0 0 0 0 false (RangeD.mk ([]) ([])) (Ll.mk ([])) (Ll.mk ([])) (Ll.mk ([]))) fs = (Rr [] 0, m) := by
    rw [h.same] at this; exact this
  rw [this']
  dsimp only
  rw [end_0]
  show (if (0 : Int) = 0 then if wire_Check m = 0 then (m, (0 : Int)) else _ else _) = _
  rw [if_pos rfl, if_pos hc]
end Go.Proofs.YtccjclalngabhaaGreat
