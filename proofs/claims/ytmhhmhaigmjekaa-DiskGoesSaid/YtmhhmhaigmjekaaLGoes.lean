/-
 disk: the law DiskGoes
-/
import Derived.Test.YtmhhmhaigmjekaaDl
namespace Go.Proofs.Ytmhhmhaigmjekaa
open Go.RowKit
set_option linter.unusedVariables false
set_option linter.unusedSectionVars false
set_option linter.unusedSimpArgs false

theorem El22 : Elem Try.prog 22 32 6 56 := elem_of (z := .agg #[.int .i64 0, .int .i64 0, .int .i64 0, .int .u8 0, .string ⟨List.toArray ([])⟩, .bool false]) Try.underlying22 (by kernel_rfl) rfl (by decide)

structure OpD where
 xDo : Int
 xN : Int
 xShort : Int
 xV : UInt8
 xMask : List UInt8
 xClone : Bool

def OpD.cells (x : OpD) : List Value := [.int .i64 x.xDo, .int .i64 x.xN, .int .i64 x.xShort, .int .u8 ((x.xV.toNat : Nat) : Int), .string ⟨List.toArray x.xMask⟩, .bool x.xClone]

instance : Bk OpD := ⟨fun x _ => bk x.xDo + (bk x.xN + (bk x.xShort + (bk x.xV + (bk x.xMask + (bk x.xClone + (0))))))⟩

theorem OpD.len : ∀ x, (OpD.cells x).length = 6 := fun _ => rfl

theorem OpD.one : ∀ x, ∀ u ∈ OpD.cells x, u.oneCell' = true := fun x u hu => by
 simp only [OpD.cells, List.mem_cons, List.not_mem_nil, or_false] at hu
 rcases hu with rfl | rfl | rfl | rfl | rfl | rfl <;> rfl

def OpD.Ok (w : World) (x : OpD) : Prop := ((-9223372036854775808) ≤ x.xDo ∧ x.xDo ≤ 9223372036854775807) ∧ ((-9223372036854775808) ≤ x.xN ∧ x.xN ≤ 9223372036854775807) ∧ ((-9223372036854775808) ≤ x.xShort ∧ x.xShort ≤ 9223372036854775807) ∧ (True) ∧ (x.xMask.length ≤ 140737488351232) ∧ (True)

set_option maxRecDepth 100000 in
theorem opens_OpD (w : World) : Opens Try.prog w 32 6 OpD.cells (OpD.Ok w) :=
 (opens_struct (sz := 6) Try.underlying32 (by kernel_rfl) (OpensF.cons (i := 0) (off := 0) (s := 1) rfl rfl (opens_int (k := .i64) (lo := -9223372036854775808) (hi := 9223372036854775807) Try.underlying3 (by kernel_rfl) (by decide) (by decide)) (OpensF.cons (i := 1) (off := 1) (s := 1) rfl rfl (opens_int (k := .i64) (lo := -9223372036854775808) (hi := 9223372036854775807) Try.underlying3 (by kernel_rfl) (by decide) (by decide)) (OpensF.cons (i := 2) (off := 2) (s := 1) rfl rfl (opens_int (k := .i64) (lo := -9223372036854775808) (hi := 9223372036854775807) Try.underlying3 (by kernel_rfl) (by decide) (by decide)) (OpensF.cons (i := 3) (off := 3) (s := 1) rfl rfl (opens_u8 Try.underlying5 (by kernel_rfl)) (OpensF.cons (i := 4) (off := 4) (s := 1) rfl rfl (opens_string Try.underlying9 (by kernel_rfl)) (OpensF.cons (i := 5) (off := 5) (s := 1) rfl rfl (opens_bool Try.underlying4 (by kernel_rfl)) OpensF.nil))))))).map (fun p => ⟨p.1, p.2.1, p.2.2.1, p.2.2.2.1, p.2.2.2.2.1, p.2.2.2.2.2.1⟩) OpD.len (fun _ => rfl) (fun _ h => ⟨h.1, h.2.1, h.2.2.1, h.2.2.2.1, h.2.2.2.2.1, h.2.2.2.2.2.1⟩) fun _ => Nat.le_refl _

instance : Inhabited OpD := ⟨⟨default, default, default, default, default, default⟩⟩

def w06_DiskGoes_L0 (p0 : Int) (l1 : List OpD) (r26 : Bool) (m46 : DiskT) : Nat → List (List UInt8) → List (List UInt8) → (List (List UInt8)) × (List (List UInt8))
  | 0, l58, l61 => (l58, l61)
  | q62 + 1, l58, l61 => w06_DiskGoes_L0 p0 l1 r26 m46 q62 (l58 ++ [(List.replicate 64 (0 : UInt8))]) (l61 ++ [([])])

def w06_DiskGoes_L2 (x148 : OpD) (r229 : DiskT) (r245 : DiskDT) : Nat → Unit
  | 0 => ()
  | q263 + 1 => w06_DiskGoes_L2 x148 r229 r245 q263

def w06_DiskGoes_L3 : Nat → Unit
  | 0 => ()
  | q356 + 1 => w06_DiskGoes_L3 q356

def w06_DiskGoes_L1 (r26 : Bool) : List OpD → DiskT → List (List UInt8) → List (List UInt8) → Int → Bool → Unit ⊕ Bool
  | [], m118, l122, l125, z126, b127 => Sum.inl ()
  | x148 :: q128, m118, l122, l125, z126, b127 => bnd (if x148.xDo = 0 then decide (x148.xDo = 0) else decide (x148.xDo = 1)) fun sJrbffbLaffLsJ => if sJrbffbLaffLsJ = true then bnd (w06_full x148.xV) fun yr173 => bnd (if x148.xDo = 1 then bnd (w06_short x148.xShort) fun yr194 => (List.replicate (Int.toNat yr194) (0 : UInt8)) else yr173) fun sJrbffbLaffLsJatbJ => bnd (disk_Disk_Write m118 x148.xN sJrbffbLaffLsJatbJ) fun yr228 => bnd (r06_Disk_Write (DiskDT.mk (Ll.mk l122) (Ll.mk l125) z126 b127) x148.xN sJrbffbLaffLsJatbJ) fun yr244 => if yr228.1 = yr244.1 then bnd (w06_DiskGoes_L2 x148 yr228.2 yr244.2 sJrbffbLaffLsJatbJ.length) fun _ => bnd (w06_same yr228.2 yr244.2) fun yr290 => if yr290 = true then if x148.xClone = true then bnd (disk_Disk_Clone yr228.2) fun yr303 => w06_DiskGoes_L1 r26 q128 yr303 yr244.2.xSafe.ls yr244.2.xWait.ls yr244.2.xFused yr244.2.xDown else w06_DiskGoes_L1 r26 q128 yr228.2 yr244.2.xSafe.ls yr244.2.xWait.ls yr244.2.xFused yr244.2.xDown else Sum.inr (false) else bnd (w06_DiskGoes_L3 sJrbffbLaffLsJatbJ.length) fun _ => Sum.inr (false) else if x148.xDo = 2 then bnd (disk_Disk_Sync m118) fun yr383 => bnd (r06_Disk_Sync (DiskDT.mk (Ll.mk l122) (Ll.mk l125) z126 b127)) fun yr396 => if yr383.1 = yr396.1 then bnd (w06_same yr383.2 yr396.2) fun yr420 => if yr420 = true then if x148.xClone = true then bnd (disk_Disk_Clone yr383.2) fun yr433 => w06_DiskGoes_L1 r26 q128 yr433 yr396.2.xSafe.ls yr396.2.xWait.ls yr396.2.xFused yr396.2.xDown else w06_DiskGoes_L1 r26 q128 yr383.2 yr396.2.xSafe.ls yr396.2.xWait.ls yr396.2.xFused yr396.2.xDown else Sum.inr (false) else Sum.inr (false) else if x148.xDo = 3 then bnd (disk_Disk_Fuse m118 x148.xN) fun yr492 => bnd (r06_Disk_Fuse (DiskDT.mk (Ll.mk l122) (Ll.mk l125) z126 b127) x148.xN) fun yr504 => bnd (w06_same yr492 yr504) fun yr526 => if yr526 = true then if x148.xClone = true then bnd (disk_Disk_Clone yr492) fun yr539 => w06_DiskGoes_L1 r26 q128 yr539 yr504.xSafe.ls yr504.xWait.ls yr504.xFused yr504.xDown else w06_DiskGoes_L1 r26 q128 yr492 yr504.xSafe.ls yr504.xWait.ls yr504.xFused yr504.xDown else Sum.inr (false) else if x148.xDo = 4 then bnd (disk_Disk_Crash m118 x148.xMask) fun yr597 => bnd (r06_Disk_Crash (DiskDT.mk (Ll.mk l122) (Ll.mk l125) z126 b127) x148.xMask) fun yr609 => bnd (w06_same yr597 yr609) fun yr631 => if yr631 = true then if x148.xClone = true then bnd (disk_Disk_Clone yr597) fun yr644 => w06_DiskGoes_L1 r26 q128 yr644 yr609.xSafe.ls yr609.xWait.ls yr609.xFused yr609.xDown else w06_DiskGoes_L1 r26 q128 yr597 yr609.xSafe.ls yr609.xWait.ls yr609.xFused yr609.xDown else Sum.inr (false) else if x148.xDo = 5 then bnd (disk_Disk_Start m118) fun yr702 => bnd (r06_Disk_Start (DiskDT.mk (Ll.mk l122) (Ll.mk l125) z126 b127)) fun yr714 => bnd (w06_same yr702 yr714) fun yr736 => if yr736 = true then if x148.xClone = true then bnd (disk_Disk_Clone yr702) fun yr749 => w06_DiskGoes_L1 r26 q128 yr749 yr714.xSafe.ls yr714.xWait.ls yr714.xFused yr714.xDown else w06_DiskGoes_L1 r26 q128 yr702 yr714.xSafe.ls yr714.xWait.ls yr714.xFused yr714.xDown else Sum.inr (false) else bnd (w06_same m118 (DiskDT.mk (Ll.mk l122) (Ll.mk l125) z126 b127)) fun yr808 => if yr808 = true then if x148.xClone = true then bnd (disk_Disk_Clone m118) fun yr821 => w06_DiskGoes_L1 r26 q128 yr821 l122 l125 z126 b127 else w06_DiskGoes_L1 r26 q128 m118 l122 l125 z126 b127 else Sum.inr (false)

def w06_DiskGoes (p0 : Int) (l1 : List OpD) : Bool :=
 bnd (w06_live) fun yr26 => if p0 < 1 then yr26 else if p0 > 4096 then yr26 else bnd ((DiskT.mk p0 ([]) ([]) true (-1))) fun ym46 => bnd (w06_DiskGoes_L0 p0 l1 yr26 ym46 (Int.toNat p0) ([]) ([])) fun sLrbffbL => if p0 > 40 then yr26 else if ((l1.length : Nat) : Int) > 100 then yr26 else lp (w06_DiskGoes_L1 yr26 l1 ym46 sLrbffbL.1 sLrbffbL.2 (-1) false) fun _ => yr26

set_option maxRecDepth 100000 in
set_option maxHeartbeats 2000000 in
theorem w06_DiskGoes_ok (w : World) (D : Nat → Prop) (p0 : Int) (A1 : Option Addr) (n1 c1 : Nat) (l1 : List OpD) (r0 : Bool) (H : Own w D w []) (hx1 : Ro w D fun w' => Rds w' 6 A1 n1 (List.flatMap OpD.cells l1)) (hn1 : n1 = l1.length) (hl1 : l1.length * 56 ≤ 211106232532992) (hh0 : (-9223372036854775808) ≤ p0 ∧ p0 ≤ 9223372036854775807) (hh1 : l1.length * 56 ≤ 140737488351232) (hr : w06_DiskGoes p0 l1 = r0) :
    Calls Try.prog 3 #[.int .i64 p0, .slice A1 n1 c1] w (Ret fun v w' => v = .bool r0 ∧ Own w D w' []) := by
 subst hn1
 refine Calls.body (args := [.int .i64 p0, .slice A1 l1.length c1]) Try.func3 rfl rfl rfl ?_
 show Wp _ _ _ [(0, .int .i64 p0), (1, .slice A1 l1.length c1)] _ _
 refine sr (Ar rfl ?_)
 obtain ⟨r26, hr27⟩ : ∃ q, w06_live = q := ⟨_, rfl⟩
 obtain ⟨D21, HP22, ro23, bk24, rr25⟩ := Own.enter0 H
 refine cl Try.call8 (w06_live_ok _ _ r26 HP22 hr27) ?_
 rintro _ w28 ⟨rfl, HQ29⟩
 have H30 := bk24 _ _ HQ29
 refine Ar rfl (Mz rfl ?_)
 refine WL.do rfl (Do.call Try.call9 rfl ?_ (fun _ _ k => k))
 refine Calls.body (args := [.int .i64 p0]) Try.func9 rfl rfl rfl ?_
 show Wp _ _ _ [(0, .int .i64 p0)] _ _
 refine sr (Az rfl (An rfl (Wp.seq (sr (Mz rfl (Kz (.bool (decide (p0 < 1))) (Mz rfl ?_)))))))
 by_cases h31 : p0 < 1
 refine Sz (dT h31) (Sz (dT h31) (fw (.bool true) (Yl.pickT rfl (dT h31) rfl) (nt (jt (sr (Az rfl (An rfl (rt (tR (Fin.res (res2 rfl rfl rfl) (Mz rfl (Kz (.pointer none) (Kz (.int .i64 1) (Az rfl (Ar rfl (Mz rfl ?_))))))))))))))))
 refine WL.do rfl (Do.call Try.call10 rfl ?_ (fun _ _ k => k))
 refine Calls.body (args := [.int .i64 p0]) Try.func10 rfl rfl rfl ?_
 show Wp _ _ _ [(0, .int .i64 p0)] _ _
 refine sr (Az rfl (An rfl (Wp.seq (sr (Mz rfl (Kz (.bool (decide (p0 < 1))) (Mz rfl (Sz (dT h31) (Sz (dT h31) (fw (.bool true) (Yl.pickT rfl (dT h31) rfl) (nt (jt (sr (Az rfl (An rfl (rt (tR (Fin.res (res2 rfl rfl rfl) (Mz rfl (Kz (.pointer none) (Kz (.int .i64 1) (Az rfl (An rfl (Wp.seq (sr (Mz rfl (Mz rfl (Kz (.bool false) ?_))))))))))))))))))))))))))))
 refine Mz rfl (gw (.pointer none) rfl (Yl.move rfl) (Gz (.bool true) rfl (gw (.pointer none) rfl (Yl.move rfl) (Gz (.bool true) rfl (Gz (.bool false) rfl (fw (.bool false) (Yl.pickF rfl rfl rfl) (nt (jf (sk (Wp.seq (sr (Mz rfl (Kz (.bool true) (Mz rfl (Sz rfl (Sz rfl (fw (.bool true) (Yl.pickT rfl rfl rfl) (Mz rfl (Sz rfl (Sz rfl (Sz rfl (fw (.bool true) (Yl.pickT rfl rfl rfl) (nt (jt (sr (Mz rfl (An rfl (rt (tR (rs ?_))))))))))))))))))))))))))))))
 have H32 := H30.pk []
 obtain rfl : _ = r26 := hr.symm.trans (et (bnd_of hr27) (ip h31))
 exact ⟨rfl, H32⟩
 refine gw (.int .i64 p0) (dF h31) (Yl.move rfl) (Gz (.bool (decide (p0 > 4096))) (dF h31) (fw (.bool (decide (p0 > 4096))) (Yl.pickF rfl (dF h31) rfl) (nt ?_)))
 by_cases h33 : p0 > 4096
 refine jT (dT h33) (sr (Az rfl (An rfl (rt (tR (Fin.res (res2 rfl rfl rfl) (Mz rfl (Kz (.pointer none) (Kz (.int .i64 1) (Az rfl (Ar rfl (Mz rfl ?_))))))))))))
 refine WL.do rfl (Do.call Try.call10 rfl ?_ (fun _ _ k => k))
 refine Calls.body (args := [.int .i64 p0]) Try.func10 rfl rfl rfl ?_
 show Wp _ _ _ [(0, .int .i64 p0)] _ _
 refine sr (Az rfl (An rfl (Wp.seq (sr (Mz rfl (Kz (.bool (decide (p0 < 1))) (Mz rfl (gw (.int .i64 p0) (dF h31) (Yl.move rfl) (Gz (.bool (decide (p0 > 4096))) (dF h31) (fw (.bool (decide (p0 > 4096))) (Yl.pickF rfl (dF h31) rfl) (nt (jT (dT h33) (sr (Az rfl (An rfl (rt (tR (Fin.res (res2 rfl rfl rfl) (Mz rfl (Kz (.pointer none) (Kz (.int .i64 1) (Az rfl (An rfl (Wp.seq (sr (Mz rfl (Mz rfl (Kz (.bool false) ?_))))))))))))))))))))))))))))
 refine Mz rfl (gw (.pointer none) rfl (Yl.move rfl) (Gz (.bool true) rfl (gw (.pointer none) rfl (Yl.move rfl) (Gz (.bool true) rfl (Gz (.bool false) rfl (fw (.bool false) (Yl.pickF rfl rfl rfl) (nt (jf (sk (Wp.seq (sr (Mz rfl (Kz (.bool true) (Mz rfl (Sz rfl (Sz rfl (fw (.bool true) (Yl.pickT rfl rfl rfl) (Mz rfl (Sz rfl (Sz rfl (Sz rfl (fw (.bool true) (Yl.pickT rfl rfl rfl) (nt (jt (sr (Mz rfl (An rfl (rt (tR (rs ?_))))))))))))))))))))))))))))))
 have H34 := H30.pk []
 obtain rfl : _ = r26 := hr.symm.trans (et (bnd_of hr27) (et (iN h31) (ip h33)))
 exact ⟨rfl, H34⟩
 refine jF (dF h33) (sk (sr (Mz rfl ?_)))
 refine WL.do rfl (Do.makeMapQ H30 ?_)
 intro g35 w36 H37
 refine WL.do rfl (Do.makeMapQ H37 ?_)
 intro g38 w39 H40
 refine Kz (.agg #[.int .i64 p0, .map (some g35), .map (some g38), .bool true, .int .i64 (-1)]) ?_
 refine npw [.int .i64 p0, .map (some g35), .map (some g38), .bool true, .int .i64 (-1)] 55 H40 ?_
 intro g41 w42 H43
 refine Az rfl (An rfl (rt (Fin.res (res2 rfl rfl rfl) ?_)))
 have H44 := H43.pk [0, 2, 1]
 have H45 : Own w D w42 [DiskO g41 (DiskT.mk p0 ([]) ([]) true (-1))] := Own.exFold (g35, g38) (show 1 ≤ (DiskT.mk p0 ([]) ([]) true (-1)).xsectors ∧ (DiskT.mk p0 ([]) ([]) true (-1)).xsectors ≤ 4096 from (show 1 ≤ p0 ∧ p0 ≤ 4096 from by omega)) (show Own w D w42 [blk g41 [.int .i64 ((DiskT.mk p0 ([]) ([]) true (-1)).xsectors), .map (some g35), .map (some g38), .bool ((DiskT.mk p0 ([]) ([]) true (-1)).xup), .int .i64 ((DiskT.mk p0 ([]) ([]) true (-1)).xfuse)] 55, mapq g35 ((DiskT.mk p0 ([]) ([]) true (-1)).xsafe), mapq g38 ((DiskT.mk p0 ([]) ([]) true (-1)).xwaits)] from H44)
 obtain ⟨m46, hm47⟩ : ∃ q, (DiskT.mk p0 ([]) ([]) true (-1)) = q := ⟨_, rfl⟩
 have H48 : Own w D w42 [DiskO g41 m46] := by rw [← hm47]; exact H45
 have hz49 : m46.xsectors = p0 := by rw [← hm47]
 refine Mz rfl (Kz (.pointer (some ⟨g41, 0, none⟩)) (Kz (.int .i64 0) (Az rfl (Ar rfl (Mz rfl ?_)))))
 refine WL.do rfl (Do.call Try.call10 rfl ?_ (fun _ _ k => k))
 refine Calls.body (args := [.int .i64 p0]) Try.func10 rfl rfl rfl ?_
 show Wp _ _ _ [(0, .int .i64 p0)] _ _
 refine sr (Az rfl (An rfl (Wp.seq (sr (Mz rfl (Kz (.bool (decide (p0 < 1))) (Mz rfl (gw (.int .i64 p0) (dF h31) (Yl.move rfl) (Gz (.bool (decide (p0 > 4096))) (dF h31) (fw (.bool (decide (p0 > 4096))) (Yl.pickF rfl (dF h31) rfl) (nt (jF (dF h33) (sk (sr (Kz (.agg #[.slice none 0 0, .slice none 0 0, .int .i64 (-1), .bool false]) ?_)))))))))))))))
 refine npw [.slice none 0 0, .slice none 0 0, .int .i64 (-1), .bool false] 58 H48 ?_
 intro g50 w51 H52
 refine An rfl (Wp.seq (sr (fw (.int .i64 ((Int.toNat p0 : Nat) : Int)) (Yl.int (e := p0) (Yl.move rfl) (by omega)) (Mn rfl (bo ?_)))))
 have H53 : Own w D w51 [row none 0 0 (List.flatMap eS ([])) 9 1, blk g50 [.slice none 0 0, .slice none 0 0, .int .i64 (-1), .bool false] 58, DiskO g41 m46] := H52.free (row_nil 9 1)
 have H54 : Own w D w51 [row none 0 0 (List.flatMap eS ([])) 9 1, row none 0 0 (List.flatMap eS ([])) 9 1, blk g50 [.slice none 0 0, .slice none 0 0, .int .i64 (-1), .bool false] 58, DiskO g41 m46] := H53.free (row_nil 9 1)
 have H63 := H54.pk [2, 3, 1, 0]
 obtain ⟨I67, hI68⟩ : ∃ q : (Nat × (Option Addr) × Nat × (List (List UInt8)) × (Option Addr) × Nat × (List (List UInt8))) → World → Prop, q = fun (i : Nat × (Option Addr) × Nat × (List (List UInt8)) × (Option Addr) × Nat × (List (List UInt8))) w' => Own w D w' [blk g50 [.slice i.2.1 i.2.2.2.1.length i.2.2.1, .slice i.2.2.2.2.1 i.2.2.2.2.2.2.length i.2.2.2.2.2.1, .int .i64 (-1), .bool false] 58, DiskO g41 m46, row i.2.1 i.2.2.2.1.length i.2.2.1 (List.flatMap eS i.2.2.2.1) 9 1, row i.2.2.2.2.1 i.2.2.2.2.2.2.length i.2.2.2.2.2.1 (List.flatMap eS i.2.2.2.2.2.2) 9 1] ∧ (i.1 ≤ Int.toNat p0 ∧ i.2.2.2.1.length = i.1 ∧ i.2.2.2.1.length ≤ i.1 ∧ i.2.2.2.2.2.2.length = i.1 ∧ i.2.2.2.2.2.2.length ≤ i.1 ∧ Sm i.2.2.2.1 ∧ Sm i.2.2.2.2.2.2 ∧ w06_DiskGoes_L0 p0 l1 r26 m46 (Int.toNat p0) ([]) ([]) = w06_DiskGoes_L0 p0 l1 r26 m46 ((Int.toNat p0) - i.1) i.2.2.2.1 i.2.2.2.2.2.2) := ⟨_, rfl⟩
 have dm69 : ∀ {k55 : Nat} {A56 : Option Addr} {c57 : Nat} {l58 : List (List UInt8)} {A59 : Option Addr} {c60 : Nat} {l61 : List (List UInt8)} {w' : World}, I67 (k55, A56, c57, l58, A59, c60, l61) w' ↔ Own w D w' [blk g50 [.slice A56 l58.length c57, .slice A59 l61.length c60, .int .i64 (-1), .bool false] 58, DiskO g41 m46, row A56 l58.length c57 (List.flatMap eS l58) 9 1, row A59 l61.length c60 (List.flatMap eS l61) 9 1] ∧ k55 ≤ Int.toNat p0 ∧ l58.length = k55 ∧ l58.length ≤ k55 ∧ l61.length = k55 ∧ l61.length ≤ k55 ∧ Sm l58 ∧ Sm l61 ∧ w06_DiskGoes_L0 p0 l1 r26 m46 (Int.toNat p0) ([]) ([]) = w06_DiskGoes_L0 p0 l1 r26 m46 ((Int.toNat p0) - k55) l58 l61 := by intros; subst hI68; exact Iff.rfl
 refine Wp.loop (fun i : Nat × (Option Addr) × Nat × (List (List UInt8)) × (Option Addr) × Nat × (List (List UInt8)) => [(14, .int .i64 ((i.1 : Nat) : Int)), (13, .int .i64 ((Int.toNat p0 : Nat) : Int)), (4, .pointer (some ⟨g50, 0, none⟩)), (3, .int .i64 0), (2, .pointer none)]) I67 (fun i => (Int.toNat p0) - i.1) (0, none, 0, [], none, 0, []) ⟨rfl, rfl, rfl, rfl, rfl, trivial⟩ (dm69.2 ⟨H63, (show 0 ≤ Int.toNat p0 ∧ 0 = 0 ∧ 0 ≤ 0 ∧ 0 = 0 ∧ 0 ≤ 0 ∧ Sm ([]) ∧ Sm ([]) ∧ w06_DiskGoes_L0 p0 l1 r26 m46 (Int.toNat p0) ([]) ([]) = w06_DiskGoes_L0 p0 l1 r26 m46 ((Int.toNat p0) - 0) ([]) ([]) from ⟨by omega, by omega, by omega, by omega, by omega, by first | exact sm_nil | exact sm_app (by assumption) (by simp only [List.length_nil, List.length_replicate]; omega), by first | exact sm_nil | exact sm_app (by assumption) (by simp only [List.length_nil, List.length_replicate]; omega), rfl⟩)⟩) ?_
 rintro ⟨k55, A56, c57, l58, A59, c60, l61⟩ w64 hf66
 show Wp _ _ _ [(14, .int .i64 ((k55 : Nat) : Int)), (13, .int .i64 ((Int.toNat p0 : Nat) : Int)), (4, .pointer (some ⟨g50, 0, none⟩)), (3, .int .i64 0), (2, .pointer none)] _ _
 obtain ⟨H65, hi71, hi72, hi73, hi74, hi75, hi76, hi77, hq70⟩ := dm69.1 hf66
 refine sr (Kz (.bool (decide (((k55 : Nat) : Int) < ((Int.toNat p0 : Nat) : Int)))) (nt (Wp.seq ?_)))
 by_cases h78 : ((k55 : Nat) : Int) < ((Int.toNat p0 : Nat) : Int)
 refine jT (dT h78) (sk (Wp.seq (bo (Wp.seq ?_))))
 have H80 := H65.drew
 refine Wp.drawnX [8, 11] (fun W => ∃ L', Own w D W ([blk g50 [.slice A56 l58.length c57, .slice A59 l61.length c60, .int .i64 (-1), .bool false] 58, DiskO g41 m46, row A56 l58.length c57 (List.flatMap eS l58) 9 1, row A59 l61.length c60 (List.flatMap eS l61) 9 1] ++ L')) (by kernel_rfl) (by kernel_rfl) (NoP.then (NoP.block (NoP.then (NoP.then (NoP.block (NoP.then NoP.base)))))) ⟨_, H80⟩ ?_
 revert H80
 generalize World.drew w64 = w79
 intro H80
 refine GX.takeA (v := .pointer (some ⟨g50, 0, none⟩)) 0 rfl (by kernel_rfl) (fun _ => Yl.move rfl) (GX.take (v := .pointer (some ⟨g50, 0, none⟩)) (rs := [[4, 3, 2], []]) 1 rfl (by kernel_rfl) (fun _ _ => Yl.move rfl) (GX.take (v := .pointer (some ⟨g50, 0, none⟩)) (rs := [[4, 3], []]) 2 rfl (by kernel_rfl) (fun _ _ => yk) (GX.take (v := .pointer (some ⟨g50, 0, none⟩)) (rs := [[4], []]) 3 rfl (by kernel_rfl) (fun _ _ => yk) (GX.take (v := .slice A56 l58.length c57) (rs := [[], []]) 4 rfl (by kernel_rfl) (fun _ ⟨_, H9⟩ => Yl.load rfl (Lds.one Try.isAgg56 (Cls.of (H9.cls (i := 0) rfl) rfl))) ?_))))
 refine GX.do 5 rfl (by kernel_rfl) (Do.makeE (x0 := (0 : UInt8)) (z := .int .u8 0) (k := 64) (size := 1) (bytes := 1) eB_len (by decide) rfl Try.underlying33 (by kernel_rfl) H80 rfl rfl (by omega) (by unfold maxLen; omega) ?_)
 intro A81 w82 H83
 have hl84 : List.length (List.replicate 64 (0 : UInt8)) = 64 := List.length_replicate
 have H85 := H83.pk [1, 2, 3, 4, 0]
 refine ⟨.inr ⟨_, H85⟩, ?_⟩
 refine GX.more (Good' := fun W => ∃ L', Own w D W ([blk g50 [.slice A56 l58.length c57, .slice A59 l61.length c60, .int .i64 (-1), .bool false] 58, DiskO g41 m46, row A56 l58.length c57 (List.flatMap eS l58) 9 1, row A59 l61.length c60 (List.flatMap eS l61) 9 1, row A81 64 64 (List.flatMap eB (List.replicate 64 (0 : UInt8))) 5 1] ++ L')) (fun _ ⟨L', h⟩ => ⟨[row A81 64 64 (List.flatMap eB (List.replicate 64 (0 : UInt8))) 5 1] ++ L', h⟩) ⟨_, H85⟩ (GX.take (v := .string ⟨List.toArray (List.replicate 64 (0 : UInt8))⟩) (rs := [[7], []]) 6 rfl (by kernel_rfl) (fun _ ⟨_, H9⟩ => Yl.toStringE (l := (List.replicate 64 (0 : UInt8))) Try.underlying33 Try.underlying5 Try.underlying9 (H9.rds (i := 4) rfl) rfl) ?_)
 refine GX.do 7 rfl (by kernel_rfl) (Do.newRow (cs := [.string ⟨List.toArray (List.replicate 64 (0 : UInt8))⟩]) (t := 9) (sz := 1) (m := 1) H85 rfl rfl (fun _ => by kernel_rfl) rfl (by decide) ?_)
 intro A86 w87 H88
 replace H88 := Own.reh (y := row A86 1 1 (List.flatMap eS ([(List.replicate 64 (0 : UInt8))])) 9 1) rfl H88
 have H89 := H88.pk [1, 2, 3, 4, 5, 0]
 refine ⟨.inr ⟨_, H89⟩, ?_⟩
 have H90 := H89.pk [2, 0, 1, 3, 4, 5]
 refine GX.do 8 rfl (by kernel_rfl) (Do.appendW (k := l58.length) (m := 1) (El56) H90 rfl rfl (src_of Try.underlying56 (H90.rds (i := 5) rfl) (flat_one eS_one ([(List.replicate 64 (0 : UInt8))]))) rfl (by omega) (s := List.length (l58 ++ [(List.replicate 64 (0 : UInt8))])) (by first | omega | (simp only [List.length_append, List.length_cons, List.length_nil] <;> omega)) (List.flatMap_append).symm ?_)
 intro A91 c92 w93 H94
 have hl95 : List.length (l58 ++ [(List.replicate 64 (0 : UInt8))]) = l58.length + 1 := by simp only [List.length_append, List.length_cons, List.length_nil]
 refine ⟨.inl (by kernel_rfl), ?_⟩
 refine GX.takeA (v := .pointer (some ⟨g50, 0, none⟩)) 9 rfl (by kernel_rfl) (fun _ => yk) (GX.takeA (v := .pointer (some ⟨g50, 0, none⟩)) 10 rfl (by kernel_rfl) (fun _ => yk) ?_)
 have H96 := H94.pk [1, 0, 2, 3, 4, 5]
 refine GX.do0 11 rfl (by kernel_rfl) (Do.store (vs := [.slice A91 (List.length (l58 ++ [(List.replicate 64 (0 : UInt8))])) c92]) (o := 0) H96 rfl rfl Try.sizeOf56 rfl rfl rfl rfl ?_)
 intro w97 H98
 refine ⟨.inl (by kernel_rfl), ?_⟩
 refine GX.done (by kernel_rfl) (Fin.then (Wp.region (Mz rfl (Mz rfl (Kz (.pointer (some ⟨g50, 0, none⟩)) (Kz (.pointer (some ⟨g50, 1, none⟩)) (Lz (.slice A59 l61.length c60) H98 0 Try.isAgg56 ?_)))))))
 refine nrw [.string ⟨List.toArray ([])⟩] 9 1 1 H98 ?_
 intro A99 w100 H101
 replace H101 := Own.reh (y := row A99 1 1 (List.flatMap eS ([([])])) 9 1) rfl H101
 have H102 := H101.pk [4, 0, 1, 2, 3, 5, 6]
 refine WL.do rfl (Do.appendW (k := l61.length) (m := 1) (El56) H102 rfl rfl (src_of Try.underlying56 (H102.rds (i := 1) rfl) (flat_one eS_one ([([])]))) rfl (by omega) (s := List.length (l61 ++ [([])])) (by first | omega | (simp only [List.length_append, List.length_cons, List.length_nil] <;> omega)) (List.flatMap_append).symm ?_)
 intro A103 c104 w105 H106
 have hl107 : List.length (l61 ++ [([])]) = l61.length + 1 := by simp only [List.length_append, List.length_cons, List.length_nil]
 refine Kz (.pointer (some ⟨g50, 0, none⟩)) (Kz (.pointer (some ⟨g50, 1, none⟩)) ?_)
 have H108 := H106.pk [2, 0, 1, 3, 4, 5, 6]
 refine sto [.slice A103 (List.length (l61 ++ [([])])) c104] 1 H108 Try.sizeOf56 ?_
 intro w109 H110
 refine WL.nil (bN (Fin.then (Wp.region (fw (.int .i64 ((k55 + 1 : Nat) : Int)) (Yl.int (e := IntKind.i64.wrap (((k55 : Nat) : Int) + 1)) yk (by rw [IntWalk.i64_in _ (by omega)]; omega)) (Mz rfl (WL.nil ?_))))))
 have H111 := H110.pk [0, 4, 3, 1]
 exact Fin.round (k55 + 1, A91, c92, (l58 ++ [(List.replicate 64 (0 : UInt8))]), A103, c104, (l61 ++ [([])])) ⟨rfl, rfl, rfl, rfl, rfl, trivial⟩ (dm69.2 ⟨H111, by omega, by omega, by omega, by omega, by omega, by first | exact sm_nil | exact sm_app (by assumption) (by simp only [List.length_nil, List.length_replicate]; omega), by first | exact sm_nil | exact sm_app (by assumption) (by simp only [List.length_nil, List.length_replicate]; omega), Eq.trans (hq70) (Eq.trans (congrArg (fun q => w06_DiskGoes_L0 p0 l1 r26 m46 q l58 l61) (sub_at (n := Int.toNat p0) (i := k55) (by omega))) rfl)⟩) (by show (Int.toNat p0) - (k55 + 1) < (Int.toNat p0) - k55; omega)
 refine jF (dF h78) (Wp.exit (Fin.thenX ?_))
 have hL112 : w06_DiskGoes_L0 p0 l1 r26 m46 (Int.toNat p0) ([]) ([]) = (l58, l61) := et (hq70) (et (congrArg (fun q => w06_DiskGoes_L0 p0 l1 r26 m46 q l58 l61) (sub_end (n := Int.toNat p0) (i := k55) (by omega))) rfl)
 refine Fin.thenX (Fin.blockX (Fin.then (sr (Mz rfl (Az rfl (An rfl (rt (Fin.res (res2 rfl rfl rfl) (Mz rfl (Kz (.pointer (some ⟨g50, 0, none⟩)) (Kz (.int .i64 0) (Az rfl (An rfl (Wp.seq (sr (Mz rfl (Mz rfl (Kz (.bool false) (Mz rfl (gw (.pointer (some ⟨g41, 0, none⟩)) rfl (Yl.move rfl) (Gz (.bool false) rfl (gw (.pointer (some ⟨g50, 0, none⟩)) rfl (Yl.move rfl) (Gz (.bool false) rfl (Gz (.bool false) rfl (fw (.bool false) (Yl.pickF rfl rfl rfl) (nt (jf (sk (Wp.seq (sr ?_))))))))))))))))))))))))))))))
 refine Mz rfl (Kz (.bool false) (Mz rfl (gw (.int .i64 p0) rfl (Yl.move rfl) (Gz (.bool (decide (p0 > 40))) rfl (fw (.bool (decide (p0 > 40))) (Yl.pickF rfl rfl rfl) (Mz rfl ?_))))))
 by_cases h113 : p0 > 40
 refine Sz (dT h113) (Sz (dT h113) (Sz (dT h113) (fw (.bool true) (Yl.pickT rfl (dT h113) rfl) (nt (jt (sr (Mz rfl (An rfl (rt (tR (rs ?_)))))))))))
 have H114 := H65.pk []
 obtain rfl : _ = r26 := hr.symm.trans (et (bnd_of hr27) (et (iN h31) (et (iN h33) (et (bnd_of hm47) (et (bnd_of hL112) (ip h113))))))
 exact ⟨rfl, H114⟩
 refine gw (.slice A1 l1.length c1) (dF h113) (Yl.move rfl) (Gz (.int .i64 ((l1.length : Nat) : Int)) (dF h113) (Gz (.bool (decide (((l1.length : Nat) : Int) > 100))) (dF h113) (fw (.bool (decide (((l1.length : Nat) : Int) > 100))) (Yl.pickF rfl (dF h113) rfl) (nt ?_))))
 by_cases h115 : ((l1.length : Nat) : Int) > 100
 refine jT (dT h115) (sr (Mz rfl (An rfl (rt (tR (rs ?_))))))
 have H116 := H65.pk []
 obtain rfl : _ = r26 := hr.symm.trans (et (bnd_of hr27) (et (iN h31) (et (iN h33) (et (bnd_of hm47) (et (bnd_of hL112) (et (iN h113) (ip h115)))))))
 exact ⟨rfl, H116⟩
 refine jF (dF h115) (sk (Wp.seq (sr (Mz rfl (Kz (.int .i64 ((l1.length : Nat) : Int)) (Mn rfl (bo ?_)))))))
 have H129 := H65.pk [0, 1, 2, 3]
 obtain ⟨I133, hI134⟩ : ∃ q : (Nat × DiskT × Nat × (Option Addr) × Nat × (List (List UInt8)) × (Option Addr) × Nat × (List (List UInt8)) × Int × Bool) → World → Prop, q = fun (i : Nat × DiskT × Nat × (Option Addr) × Nat × (List (List UInt8)) × (Option Addr) × Nat × (List (List UInt8)) × Int × Bool) w' => Own w D w' [blk g50 [.slice i.2.2.2.1 i.2.2.2.2.2.1.length i.2.2.2.2.1, .slice i.2.2.2.2.2.2.1 i.2.2.2.2.2.2.2.2.1.length i.2.2.2.2.2.2.2.1, .int .i64 i.2.2.2.2.2.2.2.2.2.1, .bool i.2.2.2.2.2.2.2.2.2.2] 58, DiskO i.1 i.2.1, row i.2.2.2.1 i.2.2.2.2.2.1.length i.2.2.2.2.1 (List.flatMap eS i.2.2.2.2.2.1) 9 1, row i.2.2.2.2.2.2.1 i.2.2.2.2.2.2.2.2.1.length i.2.2.2.2.2.2.2.1 (List.flatMap eS i.2.2.2.2.2.2.2.2.1) 9 1] ∧ (i.2.2.1 ≤ l1.length ∧ i.2.2.2.2.2.1.length ≤ l58.length + i.2.2.1 ∧ i.2.2.2.2.2.1.length ≤ l58.length ∧ i.2.2.2.2.2.2.2.2.1.length ≤ l61.length + i.2.2.1 ∧ i.2.2.2.2.2.2.2.2.1.length ≤ l61.length ∧ Sm i.2.2.2.2.2.1 ∧ Sm i.2.2.2.2.2.2.2.2.1 ∧ i.2.2.2.2.2.1.length = i.2.2.2.2.2.2.2.2.1.length ∧ i.2.2.2.2.2.1.length ≤ 40 ∧ i.2.1.xsectors = ((i.2.2.2.2.2.1.length : Nat) : Int) ∧ w06_DiskGoes_L1 r26 l1 m46 l58 l61 (-1) false = w06_DiskGoes_L1 r26 (List.drop i.2.2.1 l1) i.2.1 i.2.2.2.2.2.1 i.2.2.2.2.2.2.2.2.1 i.2.2.2.2.2.2.2.2.2.1 i.2.2.2.2.2.2.2.2.2.2) := ⟨_, rfl⟩
 have dm135 : ∀ {g117 : Nat} {m118 : DiskT} {k119 : Nat} {A120 : Option Addr} {c121 : Nat} {l122 : List (List UInt8)} {A123 : Option Addr} {c124 : Nat} {l125 : List (List UInt8)} {z126 : Int} {b127 : Bool} {w' : World}, I133 (g117, m118, k119, A120, c121, l122, A123, c124, l125, z126, b127) w' ↔ Own w D w' [blk g50 [.slice A120 l122.length c121, .slice A123 l125.length c124, .int .i64 z126, .bool b127] 58, DiskO g117 m118, row A120 l122.length c121 (List.flatMap eS l122) 9 1, row A123 l125.length c124 (List.flatMap eS l125) 9 1] ∧ k119 ≤ l1.length ∧ l122.length ≤ l58.length + k119 ∧ l122.length ≤ l58.length ∧ l125.length ≤ l61.length + k119 ∧ l125.length ≤ l61.length ∧ Sm l122 ∧ Sm l125 ∧ l122.length = l125.length ∧ l122.length ≤ 40 ∧ m118.xsectors = ((l122.length : Nat) : Int) ∧ w06_DiskGoes_L1 r26 l1 m46 l58 l61 (-1) false = w06_DiskGoes_L1 r26 (List.drop k119 l1) m118 l122 l125 z126 b127 := by intros; subst hI134; exact Iff.rfl
 refine Wp.loop (fun i : Nat × DiskT × Nat × (Option Addr) × Nat × (List (List UInt8)) × (Option Addr) × Nat × (List (List UInt8)) × Int × Bool => [(4, .bool false), (6, .pointer (some ⟨i.1, 0, none⟩)), (52, .int .i64 ((i.2.2.1 : Nat) : Int)), (51, .int .i64 ((l1.length : Nat) : Int)), (50, .slice A1 l1.length c1), (8, .pointer (some ⟨g50, 0, none⟩)), (5, .bool r26)]) I133 (fun i => l1.length - i.2.2.1) (g41, m46, 0, A56, c57, l58, A59, c60, l61, (-1), false) ⟨rfl, rfl, rfl, rfl, rfl, rfl, rfl, trivial⟩ (dm135.2 ⟨H129, (show 0 ≤ l1.length ∧ l58.length ≤ l58.length ∧ l58.length ≤ l58.length ∧ l61.length ≤ l61.length ∧ l61.length ≤ l61.length ∧ Sm l58 ∧ Sm l61 ∧ l58.length = l61.length ∧ l58.length ≤ 40 ∧ m46.xsectors = ((l58.length : Nat) : Int) ∧ w06_DiskGoes_L1 r26 l1 m46 l58 l61 (-1) false = w06_DiskGoes_L1 r26 (List.drop 0 l1) m46 l58 l61 (-1) false from ⟨by omega, by omega, by omega, by omega, by omega, by assumption, by assumption, by omega, by omega, by omega, rfl⟩)⟩) ?_
 rintro ⟨g117, m118, k119, A120, c121, l122, A123, c124, l125, z126, b127⟩ w130 hf132
 show Wp _ _ _ [(4, .bool false), (6, .pointer (some ⟨g117, 0, none⟩)), (52, .int .i64 ((k119 : Nat) : Int)), (51, .int .i64 ((l1.length : Nat) : Int)), (50, .slice A1 l1.length c1), (8, .pointer (some ⟨g50, 0, none⟩)), (5, .bool r26)] _ _
 obtain ⟨H131, hi137, hi138, hi139, hi140, hi141, hi142, hi143, hi144, hi145, hi146, hq136⟩ := dm135.1 hf132
 refine sr (Kz (.bool (decide (((k119 : Nat) : Int) < ((l1.length : Nat) : Int)))) (nt (Wp.seq ?_)))
 by_cases h147 : ((k119 : Nat) : Int) < ((l1.length : Nat) : Int)
 obtain ⟨x148, hx149⟩ := rds_at (ls := l1) (i := k119) OpD.len (by decide) (H131.ro hx1) (by first | omega | (simp; done) | (simp; omega))
 have hd150 := drop_at hx149
 refine jT (dT h147) (sk (Wp.seq (bo (sr (fw (.pointer (some ⟨ab A1, ao A1 + k119 * 6, none⟩)) (Yl.indexAddr (El22) rfl rfl ((H131.ro hx1).addr (i := k119) (by omega)) (by omega)) (fw (.agg (OpD.cells x148).toArray) (Yl.load rfl (Lds.agg (cs := (OpD.cells x148)) Try.isAgg32 Try.sizeOf32 ((H131.ro hx1).elem OpD.len hx149 (by decide)))) ?_))))))
 refine npw [.int .i64 0, .int .i64 0, .int .i64 0, .int .u8 0, .string ⟨List.toArray ([])⟩, .bool false] 32 H131 ?_
 intro g151 w152 H153
 refine sto (OpD.cells x148) 0 H153 Try.sizeOf32 ?_
 intro w154 H155
 refine ns (An rfl (Wp.seq (sr (Kz (.pointer (some ⟨g151, 0, none⟩)) (Lz (.int .i64 x148.xDo) H155 0 Try.isAgg3 (nt (bo (Wp.seq (sr (Kz (.bool (decide (x148.xDo = 0))) (An rfl ?_)))))))))))
 obtain ⟨I157, hI158⟩ : ∃ q : Bool → World → Prop, q = fun (i : Bool) w' => Own w D w' [blk g151 (OpD.cells x148) 32, blk g50 [.slice A120 l122.length c121, .slice A123 l125.length c124, .int .i64 z126, .bool b127] 58, DiskO g117 m118, row A120 l122.length c121 (List.flatMap eS l122) 9 1, row A123 l125.length c124 (List.flatMap eS l125) 9 1] ∧ ((if x148.xDo = 0 then decide (x148.xDo = 0) else decide (x148.xDo = 1)) = i) := ⟨_, rfl⟩
 have dm159 : ∀ {b156 : Bool} {w' : World}, I157 b156 w' ↔ Own w D w' [blk g151 (OpD.cells x148) 32, blk g50 [.slice A120 l122.length c121, .slice A123 l125.length c124, .int .i64 z126, .bool b127] 58, DiskO g117 m118, row A120 l122.length c121 (List.flatMap eS l122) 9 1, row A123 l125.length c124 (List.flatMap eS l125) 9 1] ∧ (if x148.xDo = 0 then decide (x148.xDo = 0) else decide (x148.xDo = 1)) = b156 := by intros; subst hI158; exact Iff.rfl
 refine Wp.joinT (fun i : Bool => [(58, .bool i), (59, .bool (decide (x148.xDo = 0))), (57, .int .i64 x148.xDo), (56, .pointer (some ⟨g151, 0, none⟩)), (12, .bool true), (11, .pointer (some ⟨g151, 0, none⟩)), (55, .agg (OpD.cells x148).toArray), (54, .pointer (some ⟨ab A1, ao A1 + k119 * 6, none⟩)), (53, .bool (decide (((k119 : Nat) : Int) < ((l1.length : Nat) : Int)))), (4, .bool false), (6, .pointer (some ⟨g117, 0, none⟩)), (52, .int .i64 ((k119 : Nat) : Int)), (51, .int .i64 ((l1.length : Nat) : Int)), (50, .slice A1 l1.length c1), (8, .pointer (some ⟨g50, 0, none⟩)), (5, .bool r26)]) I157 ?_ ?_
 by_cases h160 : x148.xDo = 0
 refine jT (dT h160) (Wp.skip ?_)
 have H161 := H155.pk [0, 1, 2, 3, 4]
 exact Fin.join (decide (x148.xDo = 0)) ⟨rfl, rfl, rfl, rfl, rfl, rfl, rfl, rfl, rfl, rfl, rfl, rfl, rfl, rfl, rfl, rfl, trivial⟩ (dm159.2 ⟨H161, ip h160⟩)
 refine jF (dF h160) (Wp.region (Kz (.bool (decide (x148.xDo = 1))) (Az rfl (WL.nil ?_))))
 have H162 := H155.pk [0, 1, 2, 3, 4]
 exact Fin.join (decide (x148.xDo = 1)) ⟨rfl, rfl, rfl, rfl, rfl, rfl, rfl, rfl, rfl, rfl, rfl, rfl, rfl, rfl, rfl, rfl, trivial⟩ (dm159.2 ⟨H162, iN h160⟩)
 rintro b156 w163 hf165
 show Wp _ _ _ [(58, .bool b156), (59, .bool (decide (x148.xDo = 0))), (57, .int .i64 x148.xDo), (56, .pointer (some ⟨g151, 0, none⟩)), (12, .bool true), (11, .pointer (some ⟨g151, 0, none⟩)), (55, .agg (OpD.cells x148).toArray), (54, .pointer (some ⟨ab A1, ao A1 + k119 * 6, none⟩)), (53, .bool (decide (((k119 : Nat) : Int) < ((l1.length : Nat) : Int)))), (4, .bool false), (6, .pointer (some ⟨g117, 0, none⟩)), (52, .int .i64 ((k119 : Nat) : Int)), (51, .int .i64 ((l1.length : Nat) : Int)), (50, .slice A1 l1.length c1), (8, .pointer (some ⟨g50, 0, none⟩)), (5, .bool r26)] _ _
 obtain ⟨H164, hj166⟩ := dm159.1 hf165
 rcases Bool.eq_false_or_eq_true (b156) with h167 | h167
 refine jT h167 (sr (Kz (.pointer (some ⟨g151, 3, none⟩)) (Lz (.int .u8 ((x148.xV.toNat : Nat) : Int)) H164 0 Try.isAgg5 ?_)))
 obtain ⟨r173, hr174⟩ : ∃ q, w06_full x148.xV = q := ⟨_, rfl⟩
 obtain ⟨D168, HP169, ro170, bk171, rr172⟩ := Own.enter0 H164
 refine cl Try.call11 (w06_full_ok _ _ x148.xV r173 HP169 hr174) ?_
 rintro _ w175 ⟨A178, c179, rfl, HQ176, hk180⟩
 have H177 := bk171 _ _ HQ176
 have hb181 := H177.rowC (i := 0) rfl
 replace hk180 : r173.length = 64 := hk180
 refine An rfl (Wp.seq (sr (Kz (.pointer (some ⟨g151, 0, none⟩)) (Lz (.int .i64 x148.xDo) H177 1 Try.isAgg3 (Kz (.bool (decide (x148.xDo = 1))) (nt ?_))))))
 obtain ⟨I185, hI186⟩ : ∃ q : ((Option Addr) × Nat × (List UInt8)) → World → Prop, q = fun (i : (Option Addr) × Nat × (List UInt8)) w' => Own w D w' [blk g151 (OpD.cells x148) 32, blk g50 [.slice A120 l122.length c121, .slice A123 l125.length c124, .int .i64 z126, .bool b127] 58, DiskO g117 m118, row A120 l122.length c121 (List.flatMap eS l122) 9 1, row A123 l125.length c124 (List.flatMap eS l125) 9 1, row i.1 i.2.2.length i.2.1 (List.flatMap eB i.2.2) 5 1] ∧ (i.2.2.length ≤ 130 ∧ (if x148.xDo = 1 then bnd (w06_short x148.xShort) fun yr194 => (List.replicate (Int.toNat yr194) (0 : UInt8)) else r173) = i.2.2) := ⟨_, rfl⟩
 have dm187 : ∀ {A182 : Option Addr} {c183 : Nat} {l184 : List UInt8} {w' : World}, I185 (A182, c183, l184) w' ↔ Own w D w' [blk g151 (OpD.cells x148) 32, blk g50 [.slice A120 l122.length c121, .slice A123 l125.length c124, .int .i64 z126, .bool b127] 58, DiskO g117 m118, row A120 l122.length c121 (List.flatMap eS l122) 9 1, row A123 l125.length c124 (List.flatMap eS l125) 9 1, row A182 l184.length c183 (List.flatMap eB l184) 5 1] ∧ l184.length ≤ 130 ∧ (if x148.xDo = 1 then bnd (w06_short x148.xShort) fun yr194 => (List.replicate (Int.toNat yr194) (0 : UInt8)) else r173) = l184 := by intros; subst hI186; exact Iff.rfl
 refine Wp.joinT (fun i : (Option Addr) × Nat × (List UInt8) => [(13, .slice i.1 i.2.2.length i.2.1), (66, .bool (decide (x148.xDo = 1))), (65, .int .i64 x148.xDo), (64, .pointer (some ⟨g151, 0, none⟩)), (63, .slice A178 r173.length c179), (62, .int .u8 ((x148.xV.toNat : Nat) : Int)), (61, .pointer (some ⟨g151, 3, none⟩)), (58, .bool b156), (59, .bool (decide (x148.xDo = 0))), (57, .int .i64 x148.xDo), (56, .pointer (some ⟨g151, 0, none⟩)), (12, .bool true), (11, .pointer (some ⟨g151, 0, none⟩)), (55, .agg (OpD.cells x148).toArray), (54, .pointer (some ⟨ab A1, ao A1 + k119 * 6, none⟩)), (53, .bool (decide (((k119 : Nat) : Int) < ((l1.length : Nat) : Int)))), (4, .bool false), (6, .pointer (some ⟨g117, 0, none⟩)), (52, .int .i64 ((k119 : Nat) : Int)), (51, .int .i64 ((l1.length : Nat) : Int)), (50, .slice A1 l1.length c1), (8, .pointer (some ⟨g50, 0, none⟩)), (5, .bool r26)]) I185 ?_ ?_
 by_cases h188 : x148.xDo = 1
 refine jT (dT h188) (Wp.region (Kz (.pointer (some ⟨g151, 2, none⟩)) (Lz (.int .i64 x148.xShort) H177 1 Try.isAgg3 ?_)))
 obtain ⟨r194, hr195⟩ : ∃ q, w06_short x148.xShort = q := ⟨_, rfl⟩
 obtain ⟨D189, HP190, ro191, bk192, rr193⟩ := Own.enter0 H177
 refine cl Try.call12 (w06_short_ok _ _ x148.xShort r194 HP190 hr195) ?_
 rintro _ w196 ⟨rfl, HQ197, hk199⟩
 have H198 := bk192 _ _ HQ197
 replace hk199 : 0 ≤ r194 ∧ r194 < 130 := hk199
 have hz200 : ((Int.toNat r194 : Nat) : Int) = r194 := by omega
 refine WL.do rfl (Do.makeE (x0 := (0 : UInt8)) (z := .int .u8 0) (k := Int.toNat r194) (size := 1) (bytes := 1) eB_len (by decide) rfl Try.underlying33 (by kernel_rfl) H198 (ev_nat (r := r194) rfl (by omega)) (ev_nat (r := r194) rfl (by omega)) (by omega) (by unfold maxLen; omega) ?_)
 intro A201 w202 H203
 have hl204 : List.length (List.replicate (Int.toNat r194) (0 : UInt8)) = Int.toNat r194 := List.length_replicate
 refine Az rfl (WL.nil ?_)
 have hn205 : Int.toNat r194 = List.length (List.replicate (Int.toNat r194) (0 : UInt8)) := by first | omega | (simp only [List.length_set]; done) | (simp only [List.length_set, List.length_append, List.length_cons, List.length_nil, List.length_take, List.length_drop, List.length_replicate]; omega)
 have H206 : Own w D w202 [row A201 (List.length (List.replicate (Int.toNat r194) (0 : UInt8))) (Int.toNat r194) (List.flatMap eB (List.replicate (Int.toNat r194) (0 : UInt8))) 5 1, row A178 r173.length c179 (List.flatMap eB r173) 5 1, blk g151 (OpD.cells x148) 32, blk g50 [.slice A120 l122.length c121, .slice A123 l125.length c124, .int .i64 z126, .bool b127] 58, DiskO g117 m118, row A120 l122.length c121 (List.flatMap eS l122) 9 1, row A123 l125.length c124 (List.flatMap eS l125) 9 1] := by rw [← hn205]; exact H203
 have H207 := H206.pk [2, 3, 4, 5, 6, 0]
 exact Fin.join (A201, Int.toNat r194, (List.replicate (Int.toNat r194) (0 : UInt8))) ⟨(sl_n hn205), rfl, rfl, rfl, rfl, rfl, rfl, rfl, rfl, rfl, rfl, rfl, rfl, rfl, rfl, rfl, rfl, rfl, rfl, rfl, rfl, rfl, rfl, trivial⟩ (dm187.2 ⟨H207, by omega, et (ip h188) (bnd_of hr195)⟩)
 refine jF (dF h188) (Wp.skip ?_)
 have H208 := H177.pk [1, 2, 3, 4, 5, 0]
 exact Fin.join (A178, c179, r173) ⟨rfl, rfl, rfl, rfl, rfl, rfl, rfl, rfl, rfl, rfl, rfl, rfl, rfl, rfl, rfl, rfl, rfl, rfl, rfl, rfl, rfl, rfl, rfl, trivial⟩ (dm187.2 ⟨H208, by omega, iN h188⟩)
 rintro ⟨A182, c183, l184⟩ w209 hf211
 show Wp _ _ _ [(13, .slice A182 l184.length c183), (66, .bool (decide (x148.xDo = 1))), (65, .int .i64 x148.xDo), (64, .pointer (some ⟨g151, 0, none⟩)), (63, .slice A178 r173.length c179), (62, .int .u8 ((x148.xV.toNat : Nat) : Int)), (61, .pointer (some ⟨g151, 3, none⟩)), (58, .bool b156), (59, .bool (decide (x148.xDo = 0))), (57, .int .i64 x148.xDo), (56, .pointer (some ⟨g151, 0, none⟩)), (12, .bool true), (11, .pointer (some ⟨g151, 0, none⟩)), (55, .agg (OpD.cells x148).toArray), (54, .pointer (some ⟨ab A1, ao A1 + k119 * 6, none⟩)), (53, .bool (decide (((k119 : Nat) : Int) < ((l1.length : Nat) : Int)))), (4, .bool false), (6, .pointer (some ⟨g117, 0, none⟩)), (52, .int .i64 ((k119 : Nat) : Int)), (51, .int .i64 ((l1.length : Nat) : Int)), (50, .slice A1 l1.length c1), (8, .pointer (some ⟨g50, 0, none⟩)), (5, .bool r26)] _ _
 obtain ⟨H210, hi213, hj212⟩ := dm187.1 hf211
 refine sr (Mz rfl ?_)
 have H214 : Own w D w209 [row none 0 0 (List.flatMap eB ([])) 5 1, blk g151 (OpD.cells x148) 32, blk g50 [.slice A120 l122.length c121, .slice A123 l125.length c124, .int .i64 z126, .bool b127] 58, DiskO g117 m118, row A120 l122.length c121 (List.flatMap eS l122) 9 1, row A123 l125.length c124 (List.flatMap eS l125) 9 1, row A182 l184.length c183 (List.flatMap eB l184) 5 1] := H210.free (row_nil 5 1)
 refine WL.do rfl (Do.appendW (k := 0) (m := l184.length) (El33) H214 rfl rfl (src_of Try.underlying33 (H214.rds (i := 6) rfl) (flat_one eB_one l184)) rfl (by omega) (s := l184.length) (by omega) rfl ?_)
 intro A215 c216 w217 H218
 refine An rfl (Wp.seq ?_)
 have H219 := H218.pk [0, 1, 6, 2, 3, 4, 5]
 have H221 := H219.drew
 refine Wp.drawnX [] (fun W => ∃ L', Own w D W ([row A215 l184.length c216 (List.flatMap eB l184) 5 1, blk g151 (OpD.cells x148) 32, row A182 l184.length c183 (List.flatMap eB l184) 5 1] ++ L')) (by kernel_rfl) (by kernel_rfl) (NoP.then (NoP.block (NoP.then (NoP.block (NoP.then (NoP.then (NoP.block (NoP.then NoP.base)))))))) ⟨_, H221⟩ ?_
 revert H221
 generalize World.drew w217 = w220
 intro H221
 refine GX.take (v := .pointer (some ⟨g117, 0, none⟩)) (rs := []) 0 rfl (by kernel_rfl) (fun _ _ => Yl.move rfl) (GX.take (v := .pointer (some ⟨g151, 1, none⟩)) (rs := []) 1 rfl (by kernel_rfl) (fun _ _ => yk) (GX.take (v := .int .i64 x148.xN) (rs := []) 2 rfl (by kernel_rfl) (fun _ ⟨_, H9⟩ => Yl.load rfl (Lds.one Try.isAgg3 (Cls.of (H9.cls (i := 1) rfl) rfl))) (GX.take (v := .slice A182 l184.length c183) (rs := []) 3 rfl (by kernel_rfl) (fun _ _ => Yl.move rfl) (GX.take (v := .pointer (some ⟨g50, 0, none⟩)) (rs := []) 5 rfl (by kernel_rfl) (fun _ _ => Yl.move rfl) (GX.take (v := .pointer (some ⟨g151, 1, none⟩)) (rs := []) 6 rfl (by kernel_rfl) (fun _ _ => yk) (GX.take (v := .int .i64 x148.xN) (rs := []) 7 rfl (by kernel_rfl) (fun _ ⟨_, H9⟩ => Yl.load rfl (Lds.one Try.isAgg3 (Cls.of (H9.cls (i := 1) rfl) rfl))) (GX.take (v := .slice A215 l184.length c216) (rs := []) 8 rfl (by kernel_rfl) (fun _ _ => Yl.move rfl) ?_)))))))
 have H222 := H221.pk [4, 0, 1, 2, 3, 5, 6]
 obtain ⟨⟨r228, r229⟩, hr230⟩ : ∃ q : Int × DiskT, disk_Disk_Write m118 x148.xN l184 = q := ⟨_, rfl⟩
 obtain ⟨D223, HP224, ro225, bk226, rr227⟩ := Own.enter1 H222
 refine GX.do 4 rfl (by kernel_rfl) (Do.call Try.call13 rfl (disk_Disk_Write_ok _ _ g117 m118 x148.xN A182 l184.length c183 l184 r228 r229 HP224 (rr227 _ 2 _ rfl row_rds) rfl (by omega) hr230) ?_)
 rintro _ w231 ⟨rfl, HQ232, hk234, hk235⟩
 have H233 := bk226 _ _ HQ232
 replace hk234 : r229.xsectors = m118.xsectors := hk234
 replace hk235 : ¬ (r228 = 0) ∨ ((0 : Int) ≤ x148.xN ∧ (x148.xN : Int) < m118.xsectors) := hk235
 have hz236 : r229.xsectors = m118.xsectors := by omega
 clear hk234 hk235
 have H237 := H233.pk [1, 2, 3, 0, 4, 5, 6]
 refine ⟨.inr ⟨_, H237⟩, ?_⟩
 have H238 := H237.pk [4, 5, 6, 0, 1, 2, 3]
 obtain ⟨⟨r244, r245⟩, hr246⟩ : ∃ q : Int × DiskDT, r06_Disk_Write (DiskDT.mk (Ll.mk l122) (Ll.mk l125) z126 b127) x148.xN l184 = q := ⟨_, rfl⟩
 obtain ⟨D239, HP240, ro241, bk242, rr243⟩ := Own.enter3 H238
 refine GX.do 9 rfl (by kernel_rfl) (Do.call Try.call14 rfl (r06_Disk_Write_ok _ _ g50 (DiskDT.mk (Ll.mk l122) (Ll.mk l125) z126 b127) A120 c121 A123 c124 x148.xN A215 l184.length c216 l184 r244 r245 HP240 (rr243 _ 0 _ rfl row_rds) rfl (by omega) (by first | omega | (dsimp only; omega)) (by first | assumption) (by first | assumption) hr246) ?_)
 rintro _ w247 ⟨A250, c251, A252, c253, rfl, HQ248, hk254, hk255, hk256⟩
 have H249 := bk242 _ _ HQ248
 have hb257 := H249.rowC (i := 1) rfl
 have hb258 := H249.rowC (i := 2) rfl
 replace hk254 : r245.xSafe.ls.length = l122.length ∧ r245.xWait.ls.length = l125.length := hk254
 replace hk255 : Sm r245.xSafe.ls := hk255
 replace hk256 : Sm r245.xWait.ls := hk256
 have H259 := H249.pk [3, 4, 5, 0, 1, 2, 6]
 refine ⟨.inr ⟨_, H259⟩, ?_⟩
 refine GX.take (v := .bool (decide (r228 = r244))) (rs := []) 10 rfl (by kernel_rfl) (fun _ _ => yk) (GX.take (v := .bool (decide (r228 = r244))) (rs := []) 11 rfl (by kernel_rfl) (fun _ _ => Yl.move rfl) ?_)
 by_cases h260 : r228 = r244
 refine GX.takeG (v := .slice A182 l184.length c183) (rs := []) 12 rfl rfl rfl (decide_eq_true h260) (by kernel_rfl) (fun _ _ => Yl.move rfl) (GX.takeG (v := .string ⟨List.toArray l184⟩) (rs := []) 13 rfl rfl rfl (decide_eq_true h260) (by kernel_rfl) (fun _ ⟨_, H9⟩ => Yl.toStringE (l := l184) Try.underlying33 Try.underlying5 Try.underlying9 (H9.rds (i := 2) rfl) rfl) (GX.takeG (v := .slice A215 l184.length c216) (rs := []) 14 rfl rfl rfl (decide_eq_true h260) (by kernel_rfl) (fun _ _ => Yl.move rfl) (GX.takeG (v := .string ⟨List.toArray l184⟩) (rs := []) 15 rfl rfl rfl (decide_eq_true h260) (by kernel_rfl) (fun _ ⟨_, H9⟩ => Yl.toStringE (l := l184) Try.underlying33 Try.underlying5 Try.underlying9 (H9.rds (i := 0) rfl) rfl) (GX.takeG (v := .bool true) (rs := []) 16 rfl rfl rfl (decide_eq_true h260) (by kernel_rfl) (fun _ _ => Yl.bool (e := decide (l184 = l184)) (Yl.strEq rfl rfl) (by simp)) (GX.take (v := .bool true) (rs := []) 17 rfl (by kernel_rfl) (fun _ _ => Yl.pickT rfl (decide_eq_true h260) rfl) (GX.take (v := .bool true) (rs := []) 18 rfl (by kernel_rfl) (fun _ _ => Yl.assign rfl) (GX.done (by kernel_rfl) (Fin.then (sr (Mz rfl (Kz (.int .i64 ((l184.length : Nat) : Int)) (Mn rfl (bo ?_)))))))))))))
 have H264 := H259.pk [0, 1, 2, 3, 4, 5, 6]
 obtain ⟨I268, hI269⟩ : ∃ q : (Nat × (List UInt8)) → World → Prop, q = fun (i : Nat × (List UInt8)) w' => Own w D w' [row A215 l184.length c216 (List.flatMap eB l184) 5 1, blk g151 (OpD.cells x148) 32, row A182 l184.length c183 (List.flatMap eB i.2) 5 1, blk g50 [.slice A250 r245.xSafe.ls.length c251, .slice A252 r245.xWait.ls.length c253, .int .i64 r245.xFused, .bool r245.xDown] 58, row A250 r245.xSafe.ls.length c251 (List.flatMap eS r245.xSafe.ls) 9 1, row A252 r245.xWait.ls.length c253 (List.flatMap eS r245.xWait.ls) 9 1, DiskO g117 r229] ∧ (i.2.length = l184.length ∧ i.1 ≤ l184.length ∧ w06_DiskGoes_L2 x148 r229 r245 l184.length = w06_DiskGoes_L2 x148 r229 r245 (l184.length - i.1)) := ⟨_, rfl⟩
 have dm270 : ∀ {k261 : Nat} {l262 : List UInt8} {w' : World}, I268 (k261, l262) w' ↔ Own w D w' [row A215 l184.length c216 (List.flatMap eB l184) 5 1, blk g151 (OpD.cells x148) 32, row A182 l184.length c183 (List.flatMap eB l262) 5 1, blk g50 [.slice A250 r245.xSafe.ls.length c251, .slice A252 r245.xWait.ls.length c253, .int .i64 r245.xFused, .bool r245.xDown] 58, row A250 r245.xSafe.ls.length c251 (List.flatMap eS r245.xSafe.ls) 9 1, row A252 r245.xWait.ls.length c253 (List.flatMap eS r245.xWait.ls) 9 1, DiskO g117 r229] ∧ l262.length = l184.length ∧ k261 ≤ l184.length ∧ w06_DiskGoes_L2 x148 r229 r245 l184.length = w06_DiskGoes_L2 x148 r229 r245 (l184.length - k261) := by intros; subst hI269; exact Iff.rfl
 refine Wp.loop (fun i : Nat × (List UInt8) => [(93, .int .i64 ((i.1 : Nat) : Int)), (92, .int .i64 ((l184.length : Nat) : Int)), (91, .slice A182 l184.length c183), (12, .bool true), (90, .bool true), (89, .bool true), (88, .string ⟨List.toArray l184⟩), (87, .slice A215 l184.length c216), (86, .string ⟨List.toArray l184⟩), (85, .slice A182 l184.length c183), (84, .bool (decide (r228 = r244))), (83, .bool (decide (r228 = r244))), (82, .int .i64 r244), (77, .int .i64 r228), (81, .slice A215 l184.length c216), (80, .int .i64 x148.xN), (79, .pointer (some ⟨g151, 1, none⟩)), (78, .pointer (some ⟨g50, 0, none⟩)), (76, .slice A182 l184.length c183), (75, .int .i64 x148.xN), (74, .pointer (some ⟨g151, 1, none⟩)), (73, .pointer (some ⟨g117, 0, none⟩)), (14, .slice A215 l184.length c216), (72, .slice A215 l184.length c216), (71, .slice A182 l184.length c183), (13, .slice A182 l184.length c183), (66, .bool (decide (x148.xDo = 1))), (65, .int .i64 x148.xDo), (64, .pointer (some ⟨g151, 0, none⟩)), (63, .slice A178 r173.length c179), (62, .int .u8 ((x148.xV.toNat : Nat) : Int)), (61, .pointer (some ⟨g151, 3, none⟩)), (58, .bool b156), (59, .bool (decide (x148.xDo = 0))), (57, .int .i64 x148.xDo), (56, .pointer (some ⟨g151, 0, none⟩)), (11, .pointer (some ⟨g151, 0, none⟩)), (55, .agg (OpD.cells x148).toArray), (54, .pointer (some ⟨ab A1, ao A1 + k119 * 6, none⟩)), (53, .bool (decide (((k119 : Nat) : Int) < ((l1.length : Nat) : Int)))), (4, .bool false), (6, .pointer (some ⟨g117, 0, none⟩)), (52, .int .i64 ((k119 : Nat) : Int)), (51, .int .i64 ((l1.length : Nat) : Int)), (50, .slice A1 l1.length c1), (8, .pointer (some ⟨g50, 0, none⟩)), (5, .bool r26)]) I268 (fun i => l184.length - i.1) (0, l184) ⟨rfl, rfl, rfl, rfl, rfl, rfl, rfl, rfl, rfl, rfl, rfl, rfl, rfl, rfl, rfl, rfl, rfl, rfl, rfl, rfl, rfl, rfl, rfl, rfl, rfl, rfl, rfl, rfl, rfl, rfl, rfl, rfl, rfl, rfl, rfl, rfl, rfl, rfl, rfl, rfl, rfl, rfl, rfl, rfl, rfl, rfl, rfl, trivial⟩ (dm270.2 ⟨H264, by first | omega | (simp only [List.length_set]; omega) | (simp only [List.length_replicate]), by omega, rfl⟩) ?_
 rintro ⟨k261, l262⟩ w265 hf267
 show Wp _ _ _ [(93, .int .i64 ((k261 : Nat) : Int)), (92, .int .i64 ((l184.length : Nat) : Int)), (91, .slice A182 l184.length c183), (12, .bool true), (90, .bool true), (89, .bool true), (88, .string ⟨List.toArray l184⟩), (87, .slice A215 l184.length c216), (86, .string ⟨List.toArray l184⟩), (85, .slice A182 l184.length c183), (84, .bool (decide (r228 = r244))), (83, .bool (decide (r228 = r244))), (82, .int .i64 r244), (77, .int .i64 r228), (81, .slice A215 l184.length c216), (80, .int .i64 x148.xN), (79, .pointer (some ⟨g151, 1, none⟩)), (78, .pointer (some ⟨g50, 0, none⟩)), (76, .slice A182 l184.length c183), (75, .int .i64 x148.xN), (74, .pointer (some ⟨g151, 1, none⟩)), (73, .pointer (some ⟨g117, 0, none⟩)), (14, .slice A215 l184.length c216), (72, .slice A215 l184.length c216), (71, .slice A182 l184.length c183), (13, .slice A182 l184.length c183), (66, .bool (decide (x148.xDo = 1))), (65, .int .i64 x148.xDo), (64, .pointer (some ⟨g151, 0, none⟩)), (63, .slice A178 r173.length c179), (62, .int .u8 ((x148.xV.toNat : Nat) : Int)), (61, .pointer (some ⟨g151, 3, none⟩)), (58, .bool b156), (59, .bool (decide (x148.xDo = 0))), (57, .int .i64 x148.xDo), (56, .pointer (some ⟨g151, 0, none⟩)), (11, .pointer (some ⟨g151, 0, none⟩)), (55, .agg (OpD.cells x148).toArray), (54, .pointer (some ⟨ab A1, ao A1 + k119 * 6, none⟩)), (53, .bool (decide (((k119 : Nat) : Int) < ((l1.length : Nat) : Int)))), (4, .bool false), (6, .pointer (some ⟨g117, 0, none⟩)), (52, .int .i64 ((k119 : Nat) : Int)), (51, .int .i64 ((l1.length : Nat) : Int)), (50, .slice A1 l1.length c1), (8, .pointer (some ⟨g50, 0, none⟩)), (5, .bool r26)] _ _
 obtain ⟨H266, hi272, hi273, hq271⟩ := dm270.1 hf267
 refine sr (Kz (.bool (decide (((k261 : Nat) : Int) < ((l184.length : Nat) : Int)))) (nt (Wp.seq ?_)))
 by_cases h274 : ((k261 : Nat) : Int) < ((l184.length : Nat) : Int)
 refine jT (dT h274) (sk (Wp.seq (bo (sr (Mz rfl (An rfl (Wp.region (Mz rfl (Mz rfl ?_)))))))))
 obtain ⟨x275, hx276⟩ := rds_at (ls := l262) (i := k261) eB_len (by decide) (H266.rds (i := 2) rfl) (by first | omega | (simp; done) | (simp; omega))
 refine fw (.pointer (some ⟨ab A182, ao A182 + k261 * 1, none⟩)) (Yl.indexAddr (El33) rfl rfl ((H266.rds (i := 2) rfl).addr (i := k261) (by omega)) (by omega)) ?_
 have H277 := H266.pk [2, 0, 1, 3, 4, 5, 6]
 refine WL.do0 (Do.storeRow (vs := [.int .u8 255]) (o := k261 * 1 + 0) (q := ao A182 + k261 * 1) H277 rfl (by omega) rfl Try.sizeOf5 rfl rfl (Nat.le_of_ble_eq_true rfl) (store_fits eB_len hx276 (Nat.le_of_ble_eq_true rfl)) (flat_set (y := 255) eB_len rfl (Nat.le_of_ble_eq_true rfl) hx276) ?_)
 intro w278 H279
 refine WL.nil (bN (Fin.then (Wp.region (fw (.int .i64 ((k261 + 1 : Nat) : Int)) (Yl.int (e := IntKind.i64.wrap (((k261 : Nat) : Int) + 1)) yk (by rw [IntWalk.i64_in _ (by omega)]; omega)) (Mz rfl (WL.nil ?_))))))
 have H280 := H279.pk [1, 2, 0, 3, 4, 5, 6]
 exact Fin.round (k261 + 1, (List.set l262 k261 255)) ⟨rfl, rfl, rfl, rfl, rfl, rfl, rfl, rfl, rfl, rfl, rfl, rfl, rfl, rfl, rfl, rfl, rfl, rfl, rfl, rfl, rfl, rfl, rfl, rfl, rfl, rfl, rfl, rfl, rfl, rfl, rfl, rfl, rfl, rfl, rfl, rfl, rfl, rfl, rfl, rfl, rfl, rfl, rfl, rfl, rfl, rfl, rfl, trivial⟩ (dm270.2 ⟨H280, by first | omega | (simp only [List.length_set]; omega) | (simp only [List.length_replicate]), by omega, Eq.trans (hq271) (Eq.trans (congrArg (fun q => w06_DiskGoes_L2 x148 r229 r245 q) (sub_at (n := l184.length) (i := k261) (by omega))) rfl)⟩) (by show l184.length - (k261 + 1) < l184.length - k261; omega)
 refine jF (dF h274) (Wp.exit (Fin.thenX ?_))
 have hL281 : w06_DiskGoes_L2 x148 r229 r245 l184.length = () := et (hq271) (et (congrArg (fun q => w06_DiskGoes_L2 x148 r229 r245 q) (sub_end (n := l184.length) (i := k261) (by omega))) rfl)
 refine Fin.thenX (Fin.blockX (bN (Fin.then (Wp.seq (sr (Mz rfl (Kz (.bool false) (Mz rfl (gw (.pointer (some ⟨g117, 0, none⟩)) rfl (Yl.move rfl) (gw (.pointer (some ⟨g50, 0, none⟩)) rfl (Yl.move rfl) ?_))))))))))
 have H282 := H266.pk [6, 3, 0, 1, 2, 4, 5]
 have hb288 := H282.rowC (i := 5) rfl
 have hb289 := H282.rowC (i := 6) rfl
 obtain ⟨r290, hr291⟩ : ∃ q, w06_same r229 r245 = q := ⟨_, rfl⟩
 obtain ⟨D283, HP284, ro285, bk286, rr287⟩ := Own.enter2 H282
 refine clG rfl Try.call23 (w06_same_ok _ _ g117 r229 g50 r245 A250 c251 A252 c253 r290 HP284 (rr287 _ 3 _ rfl row_rds) (show r245.xSafe.ls.length ≤ c251 ∧ r245.xSafe.ls.length ≤ 9223372036854775807 from by omega) (rr287 _ 4 _ rfl row_rds) (show r245.xWait.ls.length ≤ c253 ∧ r245.xWait.ls.length ≤ 9223372036854775807 from by omega) (by first | omega | (dsimp only; omega)) (by first | assumption) (by first | assumption) hr291) ?_
 rintro _ w292 ⟨rfl, HQ293⟩
 have H294 := bk286 _ _ HQ293
 refine Gz (.bool (!r290)) rfl (fw (.bool (!r290)) (Yl.pickF rfl rfl rfl) (nt ?_))
 rcases Bool.eq_false_or_eq_true (r290) with h295 | h295
 refine jF (cn h295) (sk (sr (Kz (.pointer (some ⟨g151, 5, none⟩)) (Lz (.bool x148.xClone) H294 3 Try.isAgg4 (nt ?_)))))
 rcases Bool.eq_false_or_eq_true (x148.xClone) with h296 | h296
 refine jT h296 (sr (Mz rfl ?_))
 have H297 := H294.pk [1, 0, 2, 3, 4, 5, 6]
 obtain ⟨r303, hr304⟩ : ∃ q, disk_Disk_Clone r229 = q := ⟨_, rfl⟩
 obtain ⟨D298, HP299, ro300, bk301, rr302⟩ := Own.enter1 H297
 refine cl Try.call24 (disk_Disk_Clone_ok _ _ g117 r229 r303 HP299 hr304) ?_
 rintro _ w305 ⟨g308, rfl, HQ306, hk309⟩
 have H307 := bk301 _ _ HQ306
 replace hk309 : r303.xsectors = r229.xsectors := hk309
 refine An rfl (Wp.seq (sr (Mz rfl (Kz (.bool false) (nt (jf (sk (sr (Mz rfl ?_)))))))))
 obtain ⟨r315, hr316⟩ : ∃ q, w06_full (99 : UInt8) = q := ⟨_, rfl⟩
 obtain ⟨D310, HP311, ro312, bk313, rr314⟩ := Own.enter0 H307
 refine cl Try.call11 (w06_full_ok _ _ (99 : UInt8) r315 HP311 hr316) ?_
 rintro _ w317 ⟨A320, c321, rfl, HQ318, hk322⟩
 have H319 := bk313 _ _ HQ318
 have hb323 := H319.rowC (i := 0) rfl
 replace hk322 : r315.length = 64 := hk322
 have H324 := H319.pk [2, 0, 1, 3, 4, 5, 6, 7, 8]
 obtain ⟨⟨r330, r331⟩, hr332⟩ : ∃ q : Int × DiskT, disk_Disk_Write r229 0 r315 = q := ⟨_, rfl⟩
 obtain ⟨D325, HP326, ro327, bk328, rr329⟩ := Own.enter1 H324
 refine cl Try.call13 (disk_Disk_Write_ok _ _ g117 r229 0 A320 r315.length c321 r315 r330 r331 HP326 (rr329 _ 0 _ rfl row_rds) rfl (by omega) hr332) ?_
 rintro _ w333 ⟨rfl, HQ334, hk336, hk337⟩
 have H335 := bk328 _ _ HQ334
 replace hk336 : r331.xsectors = r229.xsectors := hk336
 replace hk337 : ¬ (r330 = 0) ∨ ((0 : Int) ≤ 0 ∧ (0 : Int) < r229.xsectors) := hk337
 have hz338 : r331.xsectors = r229.xsectors := by omega
 clear hk336 hk337
 refine ns (Mz rfl ?_)
 obtain ⟨⟨r344, r345⟩, hr346⟩ : ∃ q : Int × DiskT, disk_Disk_Sync r331 = q := ⟨_, rfl⟩
 obtain ⟨D339, HP340, ro341, bk342, rr343⟩ := Own.enter1 H335
 refine cl Try.call15 (disk_Disk_Sync_ok _ _ g117 r331 r344 r345 HP340 hr346) ?_
 rintro _ w347 ⟨rfl, HQ348, hk350⟩
 have H349 := bk342 _ _ HQ348
 replace hk350 : r345.xsectors = r331.xsectors := hk350
 refine nt (Wp.region (Mz rfl (Az rfl (WL.nil (bN (Fin.then (Wp.region (fw (.int .i64 ((k119 + 1 : Nat) : Int)) (Yl.int (e := IntKind.i64.wrap (((k119 : Nat) : Int) + 1)) yk (by rw [IntWalk.i64_in _ (by omega)]; omega)) (Mz rfl (WL.nil ?_))))))))))
 have H351 := H349.pk [3, 2, 7, 8]
 exact Fin.round (g308, r303, k119 + 1, A250, c251, r245.xSafe.ls, A252, c253, r245.xWait.ls, r245.xFused, r245.xDown) ⟨rfl, rfl, rfl, rfl, rfl, rfl, rfl, trivial⟩ (dm135.2 ⟨H351, by omega, by omega, by omega, by omega, by omega, by assumption, by assumption, by omega, by omega, by omega, et (hq136) (et (congrArg (fun q => w06_DiskGoes_L1 r26 q m118 l122 l125 z126 b127) hd150) (et (bnd_of hj166) (et (ip h167) (et (bnd_of hr174) (et (bnd_of hj212) (et (bnd_of hr230) (et (bnd_of hr246) (et (ip h260) (et (bnd_of hL281) (et (bnd_of hr291) (et (ip h295) (et (ip h296) (bnd_of hr304)))))))))))))⟩) (by show l1.length - (k119 + 1) < l1.length - k119; omega)
 refine jF h296 (Wp.skip (bN (Fin.then (Wp.region (fw (.int .i64 ((k119 + 1 : Nat) : Int)) (Yl.int (e := IntKind.i64.wrap (((k119 : Nat) : Int) + 1)) yk (by rw [IntWalk.i64_in _ (by omega)]; omega)) (Mz rfl (WL.nil ?_)))))))
 have H352 := H294.pk [0, 1, 5, 6]
 exact Fin.round (g117, r229, k119 + 1, A250, c251, r245.xSafe.ls, A252, c253, r245.xWait.ls, r245.xFused, r245.xDown) ⟨rfl, rfl, rfl, rfl, rfl, rfl, rfl, trivial⟩ (dm135.2 ⟨H352, by omega, by omega, by omega, by omega, by omega, by assumption, by assumption, by omega, by omega, by omega, et (hq136) (et (congrArg (fun q => w06_DiskGoes_L1 r26 q m118 l122 l125 z126 b127) hd150) (et (bnd_of hj166) (et (ip h167) (et (bnd_of hr174) (et (bnd_of hj212) (et (bnd_of hr230) (et (bnd_of hr246) (et (ip h260) (et (bnd_of hL281) (et (bnd_of hr291) (et (ip h295) (ifF h296))))))))))))⟩) (by show l1.length - (k119 + 1) < l1.length - k119; omega)
 refine jT (cn h295) (sr (An rfl (rt (tR (bR (tR (tR (bR (tR (rs ?_))))))))))
 have H353 := H294.pk []
 obtain rfl : _ = false := hr.symm.trans (et (bnd_of hr27) (et (iN h31) (et (iN h33) (et (bnd_of hm47) (et (bnd_of hL112) (et (iN h113) (et (iN h115) (lp_r (et (hq136) (et (congrArg (fun q => w06_DiskGoes_L1 r26 q m118 l122 l125 z126 b127) hd150) (et (bnd_of hj166) (et (ip h167) (et (bnd_of hr174) (et (bnd_of hj212) (et (bnd_of hr230) (et (bnd_of hr246) (et (ip h260) (et (bnd_of hL281) (et (bnd_of hr291) (ifF h295))))))))))))))))))))
 exact ⟨rfl, H353⟩
 refine GX.skipG (rs := []) 12 rfl rfl rfl (dF h260) (by kernel_rfl) (GX.skipG (rs := []) 13 rfl rfl rfl (dF h260) (by kernel_rfl) (GX.skipG (rs := []) 14 rfl rfl rfl (dF h260) (by kernel_rfl) (GX.skipG (rs := []) 15 rfl rfl rfl (dF h260) (by kernel_rfl) (GX.skipG (rs := []) 16 rfl rfl rfl (dF h260) (by kernel_rfl) (GX.take (v := .bool false) (rs := []) 17 rfl (by kernel_rfl) (fun _ _ => Yl.pickF rfl (dF h260) rfl) (GX.take (v := .bool false) (rs := []) 18 rfl (by kernel_rfl) (fun _ _ => Yl.assign rfl) (GX.done (by kernel_rfl) (Fin.then (sr (Mz rfl (Kz (.int .i64 ((l184.length : Nat) : Int)) (Mn rfl (bo ?_)))))))))))))
 have H357 := H259.pk [0, 1, 2, 3, 4, 5, 6]
 obtain ⟨I361, hI362⟩ : ∃ q : (Nat × (List UInt8)) → World → Prop, q = fun (i : Nat × (List UInt8)) w' => Own w D w' [row A215 l184.length c216 (List.flatMap eB l184) 5 1, blk g151 (OpD.cells x148) 32, row A182 l184.length c183 (List.flatMap eB i.2) 5 1, blk g50 [.slice A250 r245.xSafe.ls.length c251, .slice A252 r245.xWait.ls.length c253, .int .i64 r245.xFused, .bool r245.xDown] 58, row A250 r245.xSafe.ls.length c251 (List.flatMap eS r245.xSafe.ls) 9 1, row A252 r245.xWait.ls.length c253 (List.flatMap eS r245.xWait.ls) 9 1, DiskO g117 r229] ∧ (i.2.length = l184.length ∧ i.1 ≤ l184.length ∧ w06_DiskGoes_L3 l184.length = w06_DiskGoes_L3 (l184.length - i.1)) := ⟨_, rfl⟩
 have dm363 : ∀ {k354 : Nat} {l355 : List UInt8} {w' : World}, I361 (k354, l355) w' ↔ Own w D w' [row A215 l184.length c216 (List.flatMap eB l184) 5 1, blk g151 (OpD.cells x148) 32, row A182 l184.length c183 (List.flatMap eB l355) 5 1, blk g50 [.slice A250 r245.xSafe.ls.length c251, .slice A252 r245.xWait.ls.length c253, .int .i64 r245.xFused, .bool r245.xDown] 58, row A250 r245.xSafe.ls.length c251 (List.flatMap eS r245.xSafe.ls) 9 1, row A252 r245.xWait.ls.length c253 (List.flatMap eS r245.xWait.ls) 9 1, DiskO g117 r229] ∧ l355.length = l184.length ∧ k354 ≤ l184.length ∧ w06_DiskGoes_L3 l184.length = w06_DiskGoes_L3 (l184.length - k354) := by intros; subst hI362; exact Iff.rfl
 refine Wp.loop (fun i : Nat × (List UInt8) => [(93, .int .i64 ((i.1 : Nat) : Int)), (92, .int .i64 ((l184.length : Nat) : Int)), (91, .slice A182 l184.length c183), (12, .bool false), (90, .bool false), (89, undef), (88, undef), (87, undef), (86, undef), (85, undef), (84, .bool (decide (r228 = r244))), (83, .bool (decide (r228 = r244))), (82, .int .i64 r244), (77, .int .i64 r228), (81, .slice A215 l184.length c216), (80, .int .i64 x148.xN), (79, .pointer (some ⟨g151, 1, none⟩)), (78, .pointer (some ⟨g50, 0, none⟩)), (76, .slice A182 l184.length c183), (75, .int .i64 x148.xN), (74, .pointer (some ⟨g151, 1, none⟩)), (73, .pointer (some ⟨g117, 0, none⟩)), (14, .slice A215 l184.length c216), (72, .slice A215 l184.length c216), (71, .slice A182 l184.length c183), (13, .slice A182 l184.length c183), (66, .bool (decide (x148.xDo = 1))), (65, .int .i64 x148.xDo), (64, .pointer (some ⟨g151, 0, none⟩)), (63, .slice A178 r173.length c179), (62, .int .u8 ((x148.xV.toNat : Nat) : Int)), (61, .pointer (some ⟨g151, 3, none⟩)), (58, .bool b156), (59, .bool (decide (x148.xDo = 0))), (57, .int .i64 x148.xDo), (56, .pointer (some ⟨g151, 0, none⟩)), (11, .pointer (some ⟨g151, 0, none⟩)), (55, .agg (OpD.cells x148).toArray), (54, .pointer (some ⟨ab A1, ao A1 + k119 * 6, none⟩)), (53, .bool (decide (((k119 : Nat) : Int) < ((l1.length : Nat) : Int)))), (4, .bool false), (6, .pointer (some ⟨g117, 0, none⟩)), (52, .int .i64 ((k119 : Nat) : Int)), (51, .int .i64 ((l1.length : Nat) : Int)), (50, .slice A1 l1.length c1), (8, .pointer (some ⟨g50, 0, none⟩)), (5, .bool r26)]) I361 (fun i => l184.length - i.1) (0, l184) ⟨rfl, rfl, rfl, rfl, rfl, rfl, rfl, rfl, rfl, rfl, rfl, rfl, rfl, rfl, rfl, rfl, rfl, rfl, rfl, rfl, rfl, rfl, rfl, rfl, rfl, rfl, rfl, rfl, rfl, rfl, rfl, rfl, rfl, rfl, rfl, rfl, rfl, rfl, rfl, rfl, rfl, rfl, rfl, rfl, rfl, rfl, rfl, trivial⟩ (dm363.2 ⟨H357, by first | omega | (simp only [List.length_set]; omega) | (simp only [List.length_replicate]), by omega, rfl⟩) ?_
 rintro ⟨k354, l355⟩ w358 hf360
 show Wp _ _ _ [(93, .int .i64 ((k354 : Nat) : Int)), (92, .int .i64 ((l184.length : Nat) : Int)), (91, .slice A182 l184.length c183), (12, .bool false), (90, .bool false), (89, undef), (88, undef), (87, undef), (86, undef), (85, undef), (84, .bool (decide (r228 = r244))), (83, .bool (decide (r228 = r244))), (82, .int .i64 r244), (77, .int .i64 r228), (81, .slice A215 l184.length c216), (80, .int .i64 x148.xN), (79, .pointer (some ⟨g151, 1, none⟩)), (78, .pointer (some ⟨g50, 0, none⟩)), (76, .slice A182 l184.length c183), (75, .int .i64 x148.xN), (74, .pointer (some ⟨g151, 1, none⟩)), (73, .pointer (some ⟨g117, 0, none⟩)), (14, .slice A215 l184.length c216), (72, .slice A215 l184.length c216), (71, .slice A182 l184.length c183), (13, .slice A182 l184.length c183), (66, .bool (decide (x148.xDo = 1))), (65, .int .i64 x148.xDo), (64, .pointer (some ⟨g151, 0, none⟩)), (63, .slice A178 r173.length c179), (62, .int .u8 ((x148.xV.toNat : Nat) : Int)), (61, .pointer (some ⟨g151, 3, none⟩)), (58, .bool b156), (59, .bool (decide (x148.xDo = 0))), (57, .int .i64 x148.xDo), (56, .pointer (some ⟨g151, 0, none⟩)), (11, .pointer (some ⟨g151, 0, none⟩)), (55, .agg (OpD.cells x148).toArray), (54, .pointer (some ⟨ab A1, ao A1 + k119 * 6, none⟩)), (53, .bool (decide (((k119 : Nat) : Int) < ((l1.length : Nat) : Int)))), (4, .bool false), (6, .pointer (some ⟨g117, 0, none⟩)), (52, .int .i64 ((k119 : Nat) : Int)), (51, .int .i64 ((l1.length : Nat) : Int)), (50, .slice A1 l1.length c1), (8, .pointer (some ⟨g50, 0, none⟩)), (5, .bool r26)] _ _
 obtain ⟨H359, hi365, hi366, hq364⟩ := dm363.1 hf360
 refine sr (Kz (.bool (decide (((k354 : Nat) : Int) < ((l184.length : Nat) : Int)))) (nt (Wp.seq ?_)))
 by_cases h367 : ((k354 : Nat) : Int) < ((l184.length : Nat) : Int)
 refine jT (dT h367) (sk (Wp.seq (bo (sr (Mz rfl (An rfl (Wp.region (Mz rfl (Mz rfl ?_)))))))))
 obtain ⟨x368, hx369⟩ := rds_at (ls := l355) (i := k354) eB_len (by decide) (H359.rds (i := 2) rfl) (by first | omega | (simp; done) | (simp; omega))
 refine fw (.pointer (some ⟨ab A182, ao A182 + k354 * 1, none⟩)) (Yl.indexAddr (El33) rfl rfl ((H359.rds (i := 2) rfl).addr (i := k354) (by omega)) (by omega)) ?_
 have H370 := H359.pk [2, 0, 1, 3, 4, 5, 6]
 refine WL.do0 (Do.storeRow (vs := [.int .u8 255]) (o := k354 * 1 + 0) (q := ao A182 + k354 * 1) H370 rfl (by omega) rfl Try.sizeOf5 rfl rfl (Nat.le_of_ble_eq_true rfl) (store_fits eB_len hx369 (Nat.le_of_ble_eq_true rfl)) (flat_set (y := 255) eB_len rfl (Nat.le_of_ble_eq_true rfl) hx369) ?_)
 intro w371 H372
 refine WL.nil (bN (Fin.then (Wp.region (fw (.int .i64 ((k354 + 1 : Nat) : Int)) (Yl.int (e := IntKind.i64.wrap (((k354 : Nat) : Int) + 1)) yk (by rw [IntWalk.i64_in _ (by omega)]; omega)) (Mz rfl (WL.nil ?_))))))
 have H373 := H372.pk [1, 2, 0, 3, 4, 5, 6]
 exact Fin.round (k354 + 1, (List.set l355 k354 255)) ⟨rfl, rfl, rfl, rfl, rfl, rfl, rfl, rfl, rfl, rfl, rfl, rfl, rfl, rfl, rfl, rfl, rfl, rfl, rfl, rfl, rfl, rfl, rfl, rfl, rfl, rfl, rfl, rfl, rfl, rfl, rfl, rfl, rfl, rfl, rfl, rfl, rfl, rfl, rfl, rfl, rfl, rfl, rfl, rfl, rfl, rfl, rfl, trivial⟩ (dm363.2 ⟨H373, by first | omega | (simp only [List.length_set]; omega) | (simp only [List.length_replicate]), by omega, Eq.trans (hq364) (Eq.trans (congrArg (fun q => w06_DiskGoes_L3 q) (sub_at (n := l184.length) (i := k354) (by omega))) rfl)⟩) (by show l184.length - (k354 + 1) < l184.length - k354; omega)
 refine jF (dF h367) (Wp.exit (Fin.thenX ?_))
 have hL374 : w06_DiskGoes_L3 l184.length = () := et (hq364) (et (congrArg (fun q => w06_DiskGoes_L3 q) (sub_end (n := l184.length) (i := k354) (by omega))) rfl)
 refine Fin.thenX (Fin.blockX (bN (Fin.then (Wp.seq (sr (Mz rfl (Kz (.bool true) (Mz rfl (Sz rfl (Sz rfl (Sz rfl (Sz rfl (fw (.bool true) (Yl.pickT rfl rfl rfl) (nt (jt (sr (An rfl (rt (tR (bR (tR (tR (bR (tR (rs ?_)))))))))))))))))))))))))
 have H375 := H359.pk []
 obtain rfl : _ = false := hr.symm.trans (et (bnd_of hr27) (et (iN h31) (et (iN h33) (et (bnd_of hm47) (et (bnd_of hL112) (et (iN h113) (et (iN h115) (lp_r (et (hq136) (et (congrArg (fun q => w06_DiskGoes_L1 r26 q m118 l122 l125 z126 b127) hd150) (et (bnd_of hj166) (et (ip h167) (et (bnd_of hr174) (et (bnd_of hj212) (et (bnd_of hr230) (et (bnd_of hr246) (et (iN h260) (bnd_of hL374))))))))))))))))))
 exact ⟨rfl, H375⟩
 refine jF h167 (sr (Kz (.bool (decide (x148.xDo = 2))) (An rfl ?_)))
 by_cases h376 : x148.xDo = 2
 refine jT (dT h376) (Wp.region (Mz rfl ?_))
 have H377 := H164.pk [2, 0, 1, 3, 4]
 obtain ⟨⟨r383, r384⟩, hr385⟩ : ∃ q : Int × DiskT, disk_Disk_Sync m118 = q := ⟨_, rfl⟩
 obtain ⟨D378, HP379, ro380, bk381, rr382⟩ := Own.enter1 H377
 refine cl Try.call15 (disk_Disk_Sync_ok _ _ g117 m118 r383 r384 HP379 hr385) ?_
 rintro _ w386 ⟨rfl, HQ387, hk389⟩
 have H388 := bk381 _ _ HQ387
 replace hk389 : r384.xsectors = m118.xsectors := hk389
 refine Mz rfl ?_
 have H390 := H388.pk [2, 3, 4, 0, 1]
 obtain ⟨⟨r396, r397⟩, hr398⟩ : ∃ q : Int × DiskDT, r06_Disk_Sync (DiskDT.mk (Ll.mk l122) (Ll.mk l125) z126 b127) = q := ⟨_, rfl⟩
 obtain ⟨D391, HP392, ro393, bk394, rr395⟩ := Own.enter3 H390
 refine cl Try.call16 (r06_Disk_Sync_ok _ _ g50 (DiskDT.mk (Ll.mk l122) (Ll.mk l125) z126 b127) A120 c121 A123 c124 r396 r397 HP392 (by first | omega | (dsimp only; omega)) (by first | assumption) (by first | assumption) hr398) ?_
 rintro _ w399 ⟨A402, c403, A404, c405, rfl, HQ400, hk406, hk407, hk408⟩
 have H401 := bk394 _ _ HQ400
 have hb409 := H401.rowC (i := 1) rfl
 have hb410 := H401.rowC (i := 2) rfl
 replace hk406 : r397.xSafe.ls.length = l122.length ∧ r397.xWait.ls.length = l125.length := hk406
 replace hk407 : Sm r397.xSafe.ls := hk407
 replace hk408 : Sm r397.xWait.ls := hk408
 refine Kz (.bool (decide (r383 = r396))) (Az rfl (WL.nil (bN (Fin.then (Wp.seq (sr (Mz rfl (fw (.bool (decide (¬ (r383 = r396)))) (Yl.bool (e := !(decide (r383 = r396))) yk decide_not.symm) (Mz rfl ?_)))))))))
 by_cases h411 : r383 = r396
 refine gw (.pointer (some ⟨g117, 0, none⟩)) (dF (not_not_intro h411)) (Yl.move rfl) (gw (.pointer (some ⟨g50, 0, none⟩)) (dF (not_not_intro h411)) (Yl.move rfl) ?_)
 have H412 := H401.pk [3, 0, 1, 2, 4]
 have hb418 := H412.rowC (i := 2) rfl
 have hb419 := H412.rowC (i := 3) rfl
 obtain ⟨r420, hr421⟩ : ∃ q, w06_same r384 r397 = q := ⟨_, rfl⟩
 obtain ⟨D413, HP414, ro415, bk416, rr417⟩ := Own.enter2 H412
 refine clG (decide_eq_false (not_not_intro h411)) Try.call23 (w06_same_ok _ _ g117 r384 g50 r397 A402 c403 A404 c405 r420 HP414 (rr417 _ 0 _ rfl row_rds) (show r397.xSafe.ls.length ≤ c403 ∧ r397.xSafe.ls.length ≤ 9223372036854775807 from by omega) (rr417 _ 1 _ rfl row_rds) (show r397.xWait.ls.length ≤ c405 ∧ r397.xWait.ls.length ≤ 9223372036854775807 from by omega) (by first | omega | (dsimp only; omega)) (by first | assumption) (by first | assumption) hr421) ?_
 rintro _ w422 ⟨rfl, HQ423⟩
 have H424 := bk416 _ _ HQ423
 refine gw (.bool (!r420)) (dF (not_not_intro h411)) yk (fw (.bool (!r420)) (Yl.pickF rfl (dF (not_not_intro h411)) rfl) (nt ?_))
 rcases Bool.eq_false_or_eq_true (r420) with h425 | h425
 refine jF (cn h425) (sk (sr (Kz (.pointer (some ⟨g151, 5, none⟩)) (Lz (.bool x148.xClone) H424 4 Try.isAgg4 (nt ?_)))))
 rcases Bool.eq_false_or_eq_true (x148.xClone) with h426 | h426
 refine jT h426 (sr (Mz rfl ?_))
 have H427 := H424.pk [1, 0, 2, 3, 4]
 obtain ⟨r433, hr434⟩ : ∃ q, disk_Disk_Clone r384 = q := ⟨_, rfl⟩
 obtain ⟨D428, HP429, ro430, bk431, rr432⟩ := Own.enter1 H427
 refine cl Try.call24 (disk_Disk_Clone_ok _ _ g117 r384 r433 HP429 hr434) ?_
 rintro _ w435 ⟨g438, rfl, HQ436, hk439⟩
 have H437 := bk431 _ _ HQ436
 replace hk439 : r433.xsectors = r384.xsectors := hk439
 refine An rfl (Wp.seq (sr (Mz rfl (Kz (.bool false) (nt (jf (sk (sr (Mz rfl ?_)))))))))
 obtain ⟨r445, hr446⟩ : ∃ q, w06_full (99 : UInt8) = q := ⟨_, rfl⟩
 obtain ⟨D440, HP441, ro442, bk443, rr444⟩ := Own.enter0 H437
 refine cl Try.call11 (w06_full_ok _ _ (99 : UInt8) r445 HP441 hr446) ?_
 rintro _ w447 ⟨A450, c451, rfl, HQ448, hk452⟩
 have H449 := bk443 _ _ HQ448
 have hb453 := H449.rowC (i := 0) rfl
 replace hk452 : r445.length = 64 := hk452
 have H454 := H449.pk [2, 0, 1, 3, 4, 5, 6]
 obtain ⟨⟨r460, r461⟩, hr462⟩ : ∃ q : Int × DiskT, disk_Disk_Write r384 0 r445 = q := ⟨_, rfl⟩
 obtain ⟨D455, HP456, ro457, bk458, rr459⟩ := Own.enter1 H454
 refine cl Try.call13 (disk_Disk_Write_ok _ _ g117 r384 0 A450 r445.length c451 r445 r460 r461 HP456 (rr459 _ 0 _ rfl row_rds) rfl (by omega) hr462) ?_
 rintro _ w463 ⟨rfl, HQ464, hk466, hk467⟩
 have H465 := bk458 _ _ HQ464
 replace hk466 : r461.xsectors = r384.xsectors := hk466
 replace hk467 : ¬ (r460 = 0) ∨ ((0 : Int) ≤ 0 ∧ (0 : Int) < r384.xsectors) := hk467
 have hz468 : r461.xsectors = r384.xsectors := by omega
 clear hk466 hk467
 refine ns (Mz rfl ?_)
 obtain ⟨⟨r474, r475⟩, hr476⟩ : ∃ q : Int × DiskT, disk_Disk_Sync r461 = q := ⟨_, rfl⟩
 obtain ⟨D469, HP470, ro471, bk472, rr473⟩ := Own.enter1 H465
 refine cl Try.call15 (disk_Disk_Sync_ok _ _ g117 r461 r474 r475 HP470 hr476) ?_
 rintro _ w477 ⟨rfl, HQ478, hk480⟩
 have H479 := bk472 _ _ HQ478
 replace hk480 : r475.xsectors = r461.xsectors := hk480
 refine nt (Wp.region (Mz rfl (Az rfl (WL.nil (bN (Fin.then (Wp.region (fw (.int .i64 ((k119 + 1 : Nat) : Int)) (Yl.int (e := IntKind.i64.wrap (((k119 : Nat) : Int) + 1)) yk (by rw [IntWalk.i64_in _ (by omega)]; omega)) (Mz rfl (WL.nil ?_))))))))))
 have H481 := H479.pk [3, 2, 4, 5]
 exact Fin.round (g438, r433, k119 + 1, A402, c403, r397.xSafe.ls, A404, c405, r397.xWait.ls, r397.xFused, r397.xDown) ⟨rfl, rfl, rfl, rfl, rfl, rfl, rfl, trivial⟩ (dm135.2 ⟨H481, by omega, by omega, by omega, by omega, by omega, by assumption, by assumption, by omega, by omega, by omega, et (hq136) (et (congrArg (fun q => w06_DiskGoes_L1 r26 q m118 l122 l125 z126 b127) hd150) (et (bnd_of hj166) (et (ifF h167) (et (ip h376) (et (bnd_of hr385) (et (bnd_of hr398) (et (ip h411) (et (bnd_of hr421) (et (ip h425) (et (ip h426) (bnd_of hr434)))))))))))⟩) (by show l1.length - (k119 + 1) < l1.length - k119; omega)
 refine jF h426 (Wp.skip (bN (Fin.then (Wp.region (fw (.int .i64 ((k119 + 1 : Nat) : Int)) (Yl.int (e := IntKind.i64.wrap (((k119 : Nat) : Int) + 1)) yk (by rw [IntWalk.i64_in _ (by omega)]; omega)) (Mz rfl (WL.nil ?_)))))))
 have H482 := H424.pk [0, 1, 2, 3]
 exact Fin.round (g117, r384, k119 + 1, A402, c403, r397.xSafe.ls, A404, c405, r397.xWait.ls, r397.xFused, r397.xDown) ⟨rfl, rfl, rfl, rfl, rfl, rfl, rfl, trivial⟩ (dm135.2 ⟨H482, by omega, by omega, by omega, by omega, by omega, by assumption, by assumption, by omega, by omega, by omega, et (hq136) (et (congrArg (fun q => w06_DiskGoes_L1 r26 q m118 l122 l125 z126 b127) hd150) (et (bnd_of hj166) (et (ifF h167) (et (ip h376) (et (bnd_of hr385) (et (bnd_of hr398) (et (ip h411) (et (bnd_of hr421) (et (ip h425) (ifF h426))))))))))⟩) (by show l1.length - (k119 + 1) < l1.length - k119; omega)
 refine jT (cn h425) (sr (An rfl (rt (tR (bR (tR (tR (bR (tR (rs ?_))))))))))
 have H483 := H424.pk []
 obtain rfl : _ = false := hr.symm.trans (et (bnd_of hr27) (et (iN h31) (et (iN h33) (et (bnd_of hm47) (et (bnd_of hL112) (et (iN h113) (et (iN h115) (lp_r (et (hq136) (et (congrArg (fun q => w06_DiskGoes_L1 r26 q m118 l122 l125 z126 b127) hd150) (et (bnd_of hj166) (et (ifF h167) (et (ip h376) (et (bnd_of hr385) (et (bnd_of hr398) (et (ip h411) (et (bnd_of hr421) (ifF h425))))))))))))))))))
 exact ⟨rfl, H483⟩
 refine Sz (dT h411) (Sz (dT h411) (Sz (dT h411) (Sz (dT h411) (fw (.bool true) (Yl.pickT rfl (dT h411) rfl) (nt (jt (sr (An rfl (rt (tR (bR (tR (tR (bR (tR (rs ?_))))))))))))))))
 have H484 := H401.pk []
 obtain rfl : _ = false := hr.symm.trans (et (bnd_of hr27) (et (iN h31) (et (iN h33) (et (bnd_of hm47) (et (bnd_of hL112) (et (iN h113) (et (iN h115) (lp_r (et (hq136) (et (congrArg (fun q => w06_DiskGoes_L1 r26 q m118 l122 l125 z126 b127) hd150) (et (bnd_of hj166) (et (ifF h167) (et (ip h376) (et (bnd_of hr385) (et (bnd_of hr398) (iN h411))))))))))))))))
 exact ⟨rfl, H484⟩
 refine jF (dF h376) (sr (Kz (.bool (decide (x148.xDo = 3))) (An rfl ?_)))
 by_cases h485 : x148.xDo = 3
 refine jT (dT h485) (sr (Mz rfl (Kz (.pointer (some ⟨g151, 1, none⟩)) (Lz (.int .i64 x148.xN) H164 0 Try.isAgg3 ?_))))
 have H486 := H164.pk [2, 0, 1, 3, 4]
 obtain ⟨r492, hr493⟩ : ∃ q, disk_Disk_Fuse m118 x148.xN = q := ⟨_, rfl⟩
 obtain ⟨D487, HP488, ro489, bk490, rr491⟩ := Own.enter1 H486
 refine cl Try.call17 (disk_Disk_Fuse_ok _ _ g117 m118 x148.xN r492 HP488 hr493) ?_
 rintro _ w494 ⟨rfl, HQ495, hk497⟩
 have H496 := bk490 _ _ HQ495
 replace hk497 : r492.xsectors = m118.xsectors := hk497
 refine nt (Wp.region (Mz rfl (Kz (.pointer (some ⟨g151, 1, none⟩)) (Lz (.int .i64 x148.xN) H496 1 Try.isAgg3 ?_))))
 have H498 := H496.pk [2, 3, 4, 0, 1]
 obtain ⟨r504, hr505⟩ : ∃ q, r06_Disk_Fuse (DiskDT.mk (Ll.mk l122) (Ll.mk l125) z126 b127) x148.xN = q := ⟨_, rfl⟩
 obtain ⟨D499, HP500, ro501, bk502, rr503⟩ := Own.enter3 H498
 refine cl Try.call18 (r06_Disk_Fuse_ok _ _ g50 (DiskDT.mk (Ll.mk l122) (Ll.mk l125) z126 b127) A120 c121 A123 c124 x148.xN r504 HP500 (by first | omega | (dsimp only; omega)) (by first | assumption) (by first | assumption) hr505) ?_
 rintro _ w506 ⟨A509, c510, A511, c512, rfl, HQ507, hk513, hk514, hk515⟩
 have H508 := bk502 _ _ HQ507
 have hb516 := H508.rowC (i := 1) rfl
 have hb517 := H508.rowC (i := 2) rfl
 replace hk513 : r504.xSafe.ls.length = l122.length ∧ r504.xWait.ls.length = l125.length := hk513
 replace hk514 : Sm r504.xSafe.ls := hk514
 replace hk515 : Sm r504.xWait.ls := hk515
 refine WL.nil (bN (Fin.then (Wp.seq (sr (Mz rfl (Kz (.bool false) (Mz rfl (gw (.pointer (some ⟨g117, 0, none⟩)) rfl (Yl.move rfl) (gw (.pointer (some ⟨g50, 0, none⟩)) rfl (Yl.move rfl) ?_)))))))))
 have H518 := H508.pk [3, 0, 1, 2, 4]
 have hb524 := H518.rowC (i := 2) rfl
 have hb525 := H518.rowC (i := 3) rfl
 obtain ⟨r526, hr527⟩ : ∃ q, w06_same r492 r504 = q := ⟨_, rfl⟩
 obtain ⟨D519, HP520, ro521, bk522, rr523⟩ := Own.enter2 H518
 refine clG rfl Try.call23 (w06_same_ok _ _ g117 r492 g50 r504 A509 c510 A511 c512 r526 HP520 (rr523 _ 0 _ rfl row_rds) (show r504.xSafe.ls.length ≤ c510 ∧ r504.xSafe.ls.length ≤ 9223372036854775807 from by omega) (rr523 _ 1 _ rfl row_rds) (show r504.xWait.ls.length ≤ c512 ∧ r504.xWait.ls.length ≤ 9223372036854775807 from by omega) (by first | omega | (dsimp only; omega)) (by first | assumption) (by first | assumption) hr527) ?_
 rintro _ w528 ⟨rfl, HQ529⟩
 have H530 := bk522 _ _ HQ529
 refine Gz (.bool (!r526)) rfl (fw (.bool (!r526)) (Yl.pickF rfl rfl rfl) (nt ?_))
 rcases Bool.eq_false_or_eq_true (r526) with h531 | h531
 refine jF (cn h531) (sk (sr (Kz (.pointer (some ⟨g151, 5, none⟩)) (Lz (.bool x148.xClone) H530 4 Try.isAgg4 (nt ?_)))))
 rcases Bool.eq_false_or_eq_true (x148.xClone) with h532 | h532
 refine jT h532 (sr (Mz rfl ?_))
 have H533 := H530.pk [1, 0, 2, 3, 4]
 obtain ⟨r539, hr540⟩ : ∃ q, disk_Disk_Clone r492 = q := ⟨_, rfl⟩
 obtain ⟨D534, HP535, ro536, bk537, rr538⟩ := Own.enter1 H533
 refine cl Try.call24 (disk_Disk_Clone_ok _ _ g117 r492 r539 HP535 hr540) ?_
 rintro _ w541 ⟨g544, rfl, HQ542, hk545⟩
 have H543 := bk537 _ _ HQ542
 replace hk545 : r539.xsectors = r492.xsectors := hk545
 refine An rfl (Wp.seq (sr (Mz rfl (Kz (.bool false) (nt (jf (sk (sr (Mz rfl ?_)))))))))
 obtain ⟨r551, hr552⟩ : ∃ q, w06_full (99 : UInt8) = q := ⟨_, rfl⟩
 obtain ⟨D546, HP547, ro548, bk549, rr550⟩ := Own.enter0 H543
 refine cl Try.call11 (w06_full_ok _ _ (99 : UInt8) r551 HP547 hr552) ?_
 rintro _ w553 ⟨A556, c557, rfl, HQ554, hk558⟩
 have H555 := bk549 _ _ HQ554
 have hb559 := H555.rowC (i := 0) rfl
 replace hk558 : r551.length = 64 := hk558
 have H560 := H555.pk [2, 0, 1, 3, 4, 5, 6]
 obtain ⟨⟨r566, r567⟩, hr568⟩ : ∃ q : Int × DiskT, disk_Disk_Write r492 0 r551 = q := ⟨_, rfl⟩
 obtain ⟨D561, HP562, ro563, bk564, rr565⟩ := Own.enter1 H560
 refine cl Try.call13 (disk_Disk_Write_ok _ _ g117 r492 0 A556 r551.length c557 r551 r566 r567 HP562 (rr565 _ 0 _ rfl row_rds) rfl (by omega) hr568) ?_
 rintro _ w569 ⟨rfl, HQ570, hk572, hk573⟩
 have H571 := bk564 _ _ HQ570
 replace hk572 : r567.xsectors = r492.xsectors := hk572
 replace hk573 : ¬ (r566 = 0) ∨ ((0 : Int) ≤ 0 ∧ (0 : Int) < r492.xsectors) := hk573
 have hz574 : r567.xsectors = r492.xsectors := by omega
 clear hk572 hk573
 refine ns (Mz rfl ?_)
 obtain ⟨⟨r580, r581⟩, hr582⟩ : ∃ q : Int × DiskT, disk_Disk_Sync r567 = q := ⟨_, rfl⟩
 obtain ⟨D575, HP576, ro577, bk578, rr579⟩ := Own.enter1 H571
 refine cl Try.call15 (disk_Disk_Sync_ok _ _ g117 r567 r580 r581 HP576 hr582) ?_
 rintro _ w583 ⟨rfl, HQ584, hk586⟩
 have H585 := bk578 _ _ HQ584
 replace hk586 : r581.xsectors = r567.xsectors := hk586
 refine nt (Wp.region (Mz rfl (Az rfl (WL.nil (bN (Fin.then (Wp.region (fw (.int .i64 ((k119 + 1 : Nat) : Int)) (Yl.int (e := IntKind.i64.wrap (((k119 : Nat) : Int) + 1)) yk (by rw [IntWalk.i64_in _ (by omega)]; omega)) (Mz rfl (WL.nil ?_))))))))))
 have H587 := H585.pk [3, 2, 4, 5]
 exact Fin.round (g544, r539, k119 + 1, A509, c510, r504.xSafe.ls, A511, c512, r504.xWait.ls, r504.xFused, r504.xDown) ⟨rfl, rfl, rfl, rfl, rfl, rfl, rfl, trivial⟩ (dm135.2 ⟨H587, by omega, by omega, by omega, by omega, by omega, by assumption, by assumption, by omega, by omega, by omega, et (hq136) (et (congrArg (fun q => w06_DiskGoes_L1 r26 q m118 l122 l125 z126 b127) hd150) (et (bnd_of hj166) (et (ifF h167) (et (iN h376) (et (ip h485) (et (bnd_of hr493) (et (bnd_of hr505) (et (bnd_of hr527) (et (ip h531) (et (ip h532) (bnd_of hr540)))))))))))⟩) (by show l1.length - (k119 + 1) < l1.length - k119; omega)
 refine jF h532 (Wp.skip (bN (Fin.then (Wp.region (fw (.int .i64 ((k119 + 1 : Nat) : Int)) (Yl.int (e := IntKind.i64.wrap (((k119 : Nat) : Int) + 1)) yk (by rw [IntWalk.i64_in _ (by omega)]; omega)) (Mz rfl (WL.nil ?_)))))))
 have H588 := H530.pk [0, 1, 2, 3]
 exact Fin.round (g117, r492, k119 + 1, A509, c510, r504.xSafe.ls, A511, c512, r504.xWait.ls, r504.xFused, r504.xDown) ⟨rfl, rfl, rfl, rfl, rfl, rfl, rfl, trivial⟩ (dm135.2 ⟨H588, by omega, by omega, by omega, by omega, by omega, by assumption, by assumption, by omega, by omega, by omega, et (hq136) (et (congrArg (fun q => w06_DiskGoes_L1 r26 q m118 l122 l125 z126 b127) hd150) (et (bnd_of hj166) (et (ifF h167) (et (iN h376) (et (ip h485) (et (bnd_of hr493) (et (bnd_of hr505) (et (bnd_of hr527) (et (ip h531) (ifF h532))))))))))⟩) (by show l1.length - (k119 + 1) < l1.length - k119; omega)
 refine jT (cn h531) (sr (An rfl (rt (tR (bR (tR (tR (bR (tR (rs ?_))))))))))
 have H589 := H530.pk []
 obtain rfl : _ = false := hr.symm.trans (et (bnd_of hr27) (et (iN h31) (et (iN h33) (et (bnd_of hm47) (et (bnd_of hL112) (et (iN h113) (et (iN h115) (lp_r (et (hq136) (et (congrArg (fun q => w06_DiskGoes_L1 r26 q m118 l122 l125 z126 b127) hd150) (et (bnd_of hj166) (et (ifF h167) (et (iN h376) (et (ip h485) (et (bnd_of hr493) (et (bnd_of hr505) (et (bnd_of hr527) (ifF h531))))))))))))))))))
 exact ⟨rfl, H589⟩
 refine jF (dF h485) (sr (Kz (.bool (decide (x148.xDo = 4))) (An rfl ?_)))
 by_cases h590 : x148.xDo = 4
 refine jT (dT h590) (sr (Mz rfl (Kz (.pointer (some ⟨g151, 4, none⟩)) (Lz (.string ⟨List.toArray x148.xMask⟩) H164 0 Try.isAgg9 ?_))))
 have H591 := H164.pk [2, 0, 1, 3, 4]
 obtain ⟨r597, hr598⟩ : ∃ q, disk_Disk_Crash m118 x148.xMask = q := ⟨_, rfl⟩
 obtain ⟨D592, HP593, ro594, bk595, rr596⟩ := Own.enter1 H591
 refine cl Try.call19 (disk_Disk_Crash_ok _ _ g117 m118 x148.xMask r597 HP593 hr598) ?_
 rintro _ w599 ⟨rfl, HQ600, hk602⟩
 have H601 := bk595 _ _ HQ600
 replace hk602 : r597.xsectors = m118.xsectors := hk602
 refine nt (Wp.region (Mz rfl (Kz (.pointer (some ⟨g151, 4, none⟩)) (Lz (.string ⟨List.toArray x148.xMask⟩) H601 1 Try.isAgg9 ?_))))
 have H603 := H601.pk [2, 3, 4, 0, 1]
 obtain ⟨r609, hr610⟩ : ∃ q, r06_Disk_Crash (DiskDT.mk (Ll.mk l122) (Ll.mk l125) z126 b127) x148.xMask = q := ⟨_, rfl⟩
 obtain ⟨D604, HP605, ro606, bk607, rr608⟩ := Own.enter3 H603
 refine cl Try.call20 (r06_Disk_Crash_ok _ _ g50 (DiskDT.mk (Ll.mk l122) (Ll.mk l125) z126 b127) A120 c121 A123 c124 x148.xMask r609 HP605 (by first | omega | (dsimp only; omega)) (by first | assumption) (by first | assumption) hr610) ?_
 rintro _ w611 ⟨A614, c615, A616, c617, rfl, HQ612, hk618, hk619, hk620⟩
 have H613 := bk607 _ _ HQ612
 have hb621 := H613.rowC (i := 1) rfl
 have hb622 := H613.rowC (i := 2) rfl
 replace hk618 : r609.xSafe.ls.length = l122.length ∧ r609.xWait.ls.length = l125.length := hk618
 replace hk619 : Sm r609.xSafe.ls := hk619
 replace hk620 : Sm r609.xWait.ls := hk620
 refine WL.nil (bN (Fin.then (Wp.seq (sr (Mz rfl (Kz (.bool false) (Mz rfl (gw (.pointer (some ⟨g117, 0, none⟩)) rfl (Yl.move rfl) (gw (.pointer (some ⟨g50, 0, none⟩)) rfl (Yl.move rfl) ?_)))))))))
 have H623 := H613.pk [3, 0, 1, 2, 4]
 have hb629 := H623.rowC (i := 2) rfl
 have hb630 := H623.rowC (i := 3) rfl
 obtain ⟨r631, hr632⟩ : ∃ q, w06_same r597 r609 = q := ⟨_, rfl⟩
 obtain ⟨D624, HP625, ro626, bk627, rr628⟩ := Own.enter2 H623
 refine clG rfl Try.call23 (w06_same_ok _ _ g117 r597 g50 r609 A614 c615 A616 c617 r631 HP625 (rr628 _ 0 _ rfl row_rds) (show r609.xSafe.ls.length ≤ c615 ∧ r609.xSafe.ls.length ≤ 9223372036854775807 from by omega) (rr628 _ 1 _ rfl row_rds) (show r609.xWait.ls.length ≤ c617 ∧ r609.xWait.ls.length ≤ 9223372036854775807 from by omega) (by first | omega | (dsimp only; omega)) (by first | assumption) (by first | assumption) hr632) ?_
 rintro _ w633 ⟨rfl, HQ634⟩
 have H635 := bk627 _ _ HQ634
 refine Gz (.bool (!r631)) rfl (fw (.bool (!r631)) (Yl.pickF rfl rfl rfl) (nt ?_))
 rcases Bool.eq_false_or_eq_true (r631) with h636 | h636
 refine jF (cn h636) (sk (sr (Kz (.pointer (some ⟨g151, 5, none⟩)) (Lz (.bool x148.xClone) H635 4 Try.isAgg4 (nt ?_)))))
 rcases Bool.eq_false_or_eq_true (x148.xClone) with h637 | h637
 refine jT h637 (sr (Mz rfl ?_))
 have H638 := H635.pk [1, 0, 2, 3, 4]
 obtain ⟨r644, hr645⟩ : ∃ q, disk_Disk_Clone r597 = q := ⟨_, rfl⟩
 obtain ⟨D639, HP640, ro641, bk642, rr643⟩ := Own.enter1 H638
 refine cl Try.call24 (disk_Disk_Clone_ok _ _ g117 r597 r644 HP640 hr645) ?_
 rintro _ w646 ⟨g649, rfl, HQ647, hk650⟩
 have H648 := bk642 _ _ HQ647
 replace hk650 : r644.xsectors = r597.xsectors := hk650
 refine An rfl (Wp.seq (sr (Mz rfl (Kz (.bool false) (nt (jf (sk (sr (Mz rfl ?_)))))))))
 obtain ⟨r656, hr657⟩ : ∃ q, w06_full (99 : UInt8) = q := ⟨_, rfl⟩
 obtain ⟨D651, HP652, ro653, bk654, rr655⟩ := Own.enter0 H648
 refine cl Try.call11 (w06_full_ok _ _ (99 : UInt8) r656 HP652 hr657) ?_
 rintro _ w658 ⟨A661, c662, rfl, HQ659, hk663⟩
 have H660 := bk654 _ _ HQ659
 have hb664 := H660.rowC (i := 0) rfl
 replace hk663 : r656.length = 64 := hk663
 have H665 := H660.pk [2, 0, 1, 3, 4, 5, 6]
 obtain ⟨⟨r671, r672⟩, hr673⟩ : ∃ q : Int × DiskT, disk_Disk_Write r597 0 r656 = q := ⟨_, rfl⟩
 obtain ⟨D666, HP667, ro668, bk669, rr670⟩ := Own.enter1 H665
 refine cl Try.call13 (disk_Disk_Write_ok _ _ g117 r597 0 A661 r656.length c662 r656 r671 r672 HP667 (rr670 _ 0 _ rfl row_rds) rfl (by omega) hr673) ?_
 rintro _ w674 ⟨rfl, HQ675, hk677, hk678⟩
 have H676 := bk669 _ _ HQ675
 replace hk677 : r672.xsectors = r597.xsectors := hk677
 replace hk678 : ¬ (r671 = 0) ∨ ((0 : Int) ≤ 0 ∧ (0 : Int) < r597.xsectors) := hk678
 have hz679 : r672.xsectors = r597.xsectors := by omega
 clear hk677 hk678
 refine ns (Mz rfl ?_)
 obtain ⟨⟨r685, r686⟩, hr687⟩ : ∃ q : Int × DiskT, disk_Disk_Sync r672 = q := ⟨_, rfl⟩
 obtain ⟨D680, HP681, ro682, bk683, rr684⟩ := Own.enter1 H676
 refine cl Try.call15 (disk_Disk_Sync_ok _ _ g117 r672 r685 r686 HP681 hr687) ?_
 rintro _ w688 ⟨rfl, HQ689, hk691⟩
 have H690 := bk683 _ _ HQ689
 replace hk691 : r686.xsectors = r672.xsectors := hk691
 refine nt (Wp.region (Mz rfl (Az rfl (WL.nil (bN (Fin.then (Wp.region (fw (.int .i64 ((k119 + 1 : Nat) : Int)) (Yl.int (e := IntKind.i64.wrap (((k119 : Nat) : Int) + 1)) yk (by rw [IntWalk.i64_in _ (by omega)]; omega)) (Mz rfl (WL.nil ?_))))))))))
 have H692 := H690.pk [3, 2, 4, 5]
 exact Fin.round (g649, r644, k119 + 1, A614, c615, r609.xSafe.ls, A616, c617, r609.xWait.ls, r609.xFused, r609.xDown) ⟨rfl, rfl, rfl, rfl, rfl, rfl, rfl, trivial⟩ (dm135.2 ⟨H692, by omega, by omega, by omega, by omega, by omega, by assumption, by assumption, by omega, by omega, by omega, et (hq136) (et (congrArg (fun q => w06_DiskGoes_L1 r26 q m118 l122 l125 z126 b127) hd150) (et (bnd_of hj166) (et (ifF h167) (et (iN h376) (et (iN h485) (et (ip h590) (et (bnd_of hr598) (et (bnd_of hr610) (et (bnd_of hr632) (et (ip h636) (et (ip h637) (bnd_of hr645))))))))))))⟩) (by show l1.length - (k119 + 1) < l1.length - k119; omega)
 refine jF h637 (Wp.skip (bN (Fin.then (Wp.region (fw (.int .i64 ((k119 + 1 : Nat) : Int)) (Yl.int (e := IntKind.i64.wrap (((k119 : Nat) : Int) + 1)) yk (by rw [IntWalk.i64_in _ (by omega)]; omega)) (Mz rfl (WL.nil ?_)))))))
 have H693 := H635.pk [0, 1, 2, 3]
 exact Fin.round (g117, r597, k119 + 1, A614, c615, r609.xSafe.ls, A616, c617, r609.xWait.ls, r609.xFused, r609.xDown) ⟨rfl, rfl, rfl, rfl, rfl, rfl, rfl, trivial⟩ (dm135.2 ⟨H693, by omega, by omega, by omega, by omega, by omega, by assumption, by assumption, by omega, by omega, by omega, et (hq136) (et (congrArg (fun q => w06_DiskGoes_L1 r26 q m118 l122 l125 z126 b127) hd150) (et (bnd_of hj166) (et (ifF h167) (et (iN h376) (et (iN h485) (et (ip h590) (et (bnd_of hr598) (et (bnd_of hr610) (et (bnd_of hr632) (et (ip h636) (ifF h637)))))))))))⟩) (by show l1.length - (k119 + 1) < l1.length - k119; omega)
 refine jT (cn h636) (sr (An rfl (rt (tR (bR (tR (tR (bR (tR (rs ?_))))))))))
 have H694 := H635.pk []
 obtain rfl : _ = false := hr.symm.trans (et (bnd_of hr27) (et (iN h31) (et (iN h33) (et (bnd_of hm47) (et (bnd_of hL112) (et (iN h113) (et (iN h115) (lp_r (et (hq136) (et (congrArg (fun q => w06_DiskGoes_L1 r26 q m118 l122 l125 z126 b127) hd150) (et (bnd_of hj166) (et (ifF h167) (et (iN h376) (et (iN h485) (et (ip h590) (et (bnd_of hr598) (et (bnd_of hr610) (et (bnd_of hr632) (ifF h636)))))))))))))))))))
 exact ⟨rfl, H694⟩
 refine jF (dF h590) (sr (Kz (.bool (decide (x148.xDo = 5))) (An rfl ?_)))
 by_cases h695 : x148.xDo = 5
 refine jT (dT h695) (sr (Mz rfl ?_))
 have H696 := H164.pk [2, 0, 1, 3, 4]
 obtain ⟨r702, hr703⟩ : ∃ q, disk_Disk_Start m118 = q := ⟨_, rfl⟩
 obtain ⟨D697, HP698, ro699, bk700, rr701⟩ := Own.enter1 H696
 refine cl Try.call21 (disk_Disk_Start_ok _ _ g117 m118 r702 HP698 hr703) ?_
 rintro _ w704 ⟨rfl, HQ705, hk707⟩
 have H706 := bk700 _ _ HQ705
 replace hk707 : r702.xsectors = m118.xsectors := hk707
 refine nt (Wp.region (Mz rfl ?_))
 have H708 := H706.pk [2, 3, 4, 0, 1]
 obtain ⟨r714, hr715⟩ : ∃ q, r06_Disk_Start (DiskDT.mk (Ll.mk l122) (Ll.mk l125) z126 b127) = q := ⟨_, rfl⟩
 obtain ⟨D709, HP710, ro711, bk712, rr713⟩ := Own.enter3 H708
 refine cl Try.call22 (r06_Disk_Start_ok _ _ g50 (DiskDT.mk (Ll.mk l122) (Ll.mk l125) z126 b127) A120 c121 A123 c124 r714 HP710 (by first | omega | (dsimp only; omega)) (by first | assumption) (by first | assumption) hr715) ?_
 rintro _ w716 ⟨A719, c720, A721, c722, rfl, HQ717, hk723, hk724, hk725⟩
 have H718 := bk712 _ _ HQ717
 have hb726 := H718.rowC (i := 1) rfl
 have hb727 := H718.rowC (i := 2) rfl
 replace hk723 : r714.xSafe.ls.length = l122.length ∧ r714.xWait.ls.length = l125.length := hk723
 replace hk724 : Sm r714.xSafe.ls := hk724
 replace hk725 : Sm r714.xWait.ls := hk725
 refine WL.nil (bN (Fin.then (Wp.seq (sr (Mz rfl (Kz (.bool false) (Mz rfl (gw (.pointer (some ⟨g117, 0, none⟩)) rfl (Yl.move rfl) (gw (.pointer (some ⟨g50, 0, none⟩)) rfl (Yl.move rfl) ?_)))))))))
 have H728 := H718.pk [3, 0, 1, 2, 4]
 have hb734 := H728.rowC (i := 2) rfl
 have hb735 := H728.rowC (i := 3) rfl
 obtain ⟨r736, hr737⟩ : ∃ q, w06_same r702 r714 = q := ⟨_, rfl⟩
 obtain ⟨D729, HP730, ro731, bk732, rr733⟩ := Own.enter2 H728
 refine clG rfl Try.call23 (w06_same_ok _ _ g117 r702 g50 r714 A719 c720 A721 c722 r736 HP730 (rr733 _ 0 _ rfl row_rds) (show r714.xSafe.ls.length ≤ c720 ∧ r714.xSafe.ls.length ≤ 9223372036854775807 from by omega) (rr733 _ 1 _ rfl row_rds) (show r714.xWait.ls.length ≤ c722 ∧ r714.xWait.ls.length ≤ 9223372036854775807 from by omega) (by first | omega | (dsimp only; omega)) (by first | assumption) (by first | assumption) hr737) ?_
 rintro _ w738 ⟨rfl, HQ739⟩
 have H740 := bk732 _ _ HQ739
 refine Gz (.bool (!r736)) rfl (fw (.bool (!r736)) (Yl.pickF rfl rfl rfl) (nt ?_))
 rcases Bool.eq_false_or_eq_true (r736) with h741 | h741
 refine jF (cn h741) (sk (sr (Kz (.pointer (some ⟨g151, 5, none⟩)) (Lz (.bool x148.xClone) H740 4 Try.isAgg4 (nt ?_)))))
 rcases Bool.eq_false_or_eq_true (x148.xClone) with h742 | h742
 refine jT h742 (sr (Mz rfl ?_))
 have H743 := H740.pk [1, 0, 2, 3, 4]
 obtain ⟨r749, hr750⟩ : ∃ q, disk_Disk_Clone r702 = q := ⟨_, rfl⟩
 obtain ⟨D744, HP745, ro746, bk747, rr748⟩ := Own.enter1 H743
 refine cl Try.call24 (disk_Disk_Clone_ok _ _ g117 r702 r749 HP745 hr750) ?_
 rintro _ w751 ⟨g754, rfl, HQ752, hk755⟩
 have H753 := bk747 _ _ HQ752
 replace hk755 : r749.xsectors = r702.xsectors := hk755
 refine An rfl (Wp.seq (sr (Mz rfl (Kz (.bool false) (nt (jf (sk (sr (Mz rfl ?_)))))))))
 obtain ⟨r761, hr762⟩ : ∃ q, w06_full (99 : UInt8) = q := ⟨_, rfl⟩
 obtain ⟨D756, HP757, ro758, bk759, rr760⟩ := Own.enter0 H753
 refine cl Try.call11 (w06_full_ok _ _ (99 : UInt8) r761 HP757 hr762) ?_
 rintro _ w763 ⟨A766, c767, rfl, HQ764, hk768⟩
 have H765 := bk759 _ _ HQ764
 have hb769 := H765.rowC (i := 0) rfl
 replace hk768 : r761.length = 64 := hk768
 have H770 := H765.pk [2, 0, 1, 3, 4, 5, 6]
 obtain ⟨⟨r776, r777⟩, hr778⟩ : ∃ q : Int × DiskT, disk_Disk_Write r702 0 r761 = q := ⟨_, rfl⟩
 obtain ⟨D771, HP772, ro773, bk774, rr775⟩ := Own.enter1 H770
 refine cl Try.call13 (disk_Disk_Write_ok _ _ g117 r702 0 A766 r761.length c767 r761 r776 r777 HP772 (rr775 _ 0 _ rfl row_rds) rfl (by omega) hr778) ?_
 rintro _ w779 ⟨rfl, HQ780, hk782, hk783⟩
 have H781 := bk774 _ _ HQ780
 replace hk782 : r777.xsectors = r702.xsectors := hk782
 replace hk783 : ¬ (r776 = 0) ∨ ((0 : Int) ≤ 0 ∧ (0 : Int) < r702.xsectors) := hk783
 have hz784 : r777.xsectors = r702.xsectors := by omega
 clear hk782 hk783
 refine ns (Mz rfl ?_)
 obtain ⟨⟨r790, r791⟩, hr792⟩ : ∃ q : Int × DiskT, disk_Disk_Sync r777 = q := ⟨_, rfl⟩
 obtain ⟨D785, HP786, ro787, bk788, rr789⟩ := Own.enter1 H781
 refine cl Try.call15 (disk_Disk_Sync_ok _ _ g117 r777 r790 r791 HP786 hr792) ?_
 rintro _ w793 ⟨rfl, HQ794, hk796⟩
 have H795 := bk788 _ _ HQ794
 replace hk796 : r791.xsectors = r777.xsectors := hk796
 refine nt (Wp.region (Mz rfl (Az rfl (WL.nil (bN (Fin.then (Wp.region (fw (.int .i64 ((k119 + 1 : Nat) : Int)) (Yl.int (e := IntKind.i64.wrap (((k119 : Nat) : Int) + 1)) yk (by rw [IntWalk.i64_in _ (by omega)]; omega)) (Mz rfl (WL.nil ?_))))))))))
 have H797 := H795.pk [3, 2, 4, 5]
 exact Fin.round (g754, r749, k119 + 1, A719, c720, r714.xSafe.ls, A721, c722, r714.xWait.ls, r714.xFused, r714.xDown) ⟨rfl, rfl, rfl, rfl, rfl, rfl, rfl, trivial⟩ (dm135.2 ⟨H797, by omega, by omega, by omega, by omega, by omega, by assumption, by assumption, by omega, by omega, by omega, et (hq136) (et (congrArg (fun q => w06_DiskGoes_L1 r26 q m118 l122 l125 z126 b127) hd150) (et (bnd_of hj166) (et (ifF h167) (et (iN h376) (et (iN h485) (et (iN h590) (et (ip h695) (et (bnd_of hr703) (et (bnd_of hr715) (et (bnd_of hr737) (et (ip h741) (et (ip h742) (bnd_of hr750)))))))))))))⟩) (by show l1.length - (k119 + 1) < l1.length - k119; omega)
 refine jF h742 (Wp.skip (bN (Fin.then (Wp.region (fw (.int .i64 ((k119 + 1 : Nat) : Int)) (Yl.int (e := IntKind.i64.wrap (((k119 : Nat) : Int) + 1)) yk (by rw [IntWalk.i64_in _ (by omega)]; omega)) (Mz rfl (WL.nil ?_)))))))
 have H798 := H740.pk [0, 1, 2, 3]
 exact Fin.round (g117, r702, k119 + 1, A719, c720, r714.xSafe.ls, A721, c722, r714.xWait.ls, r714.xFused, r714.xDown) ⟨rfl, rfl, rfl, rfl, rfl, rfl, rfl, trivial⟩ (dm135.2 ⟨H798, by omega, by omega, by omega, by omega, by omega, by assumption, by assumption, by omega, by omega, by omega, et (hq136) (et (congrArg (fun q => w06_DiskGoes_L1 r26 q m118 l122 l125 z126 b127) hd150) (et (bnd_of hj166) (et (ifF h167) (et (iN h376) (et (iN h485) (et (iN h590) (et (ip h695) (et (bnd_of hr703) (et (bnd_of hr715) (et (bnd_of hr737) (et (ip h741) (ifF h742))))))))))))⟩) (by show l1.length - (k119 + 1) < l1.length - k119; omega)
 refine jT (cn h741) (sr (An rfl (rt (tR (bR (tR (tR (bR (tR (rs ?_))))))))))
 have H799 := H740.pk []
 obtain rfl : _ = false := hr.symm.trans (et (bnd_of hr27) (et (iN h31) (et (iN h33) (et (bnd_of hm47) (et (bnd_of hL112) (et (iN h113) (et (iN h115) (lp_r (et (hq136) (et (congrArg (fun q => w06_DiskGoes_L1 r26 q m118 l122 l125 z126 b127) hd150) (et (bnd_of hj166) (et (ifF h167) (et (iN h376) (et (iN h485) (et (iN h590) (et (ip h695) (et (bnd_of hr703) (et (bnd_of hr715) (et (bnd_of hr737) (ifF h741))))))))))))))))))))
 exact ⟨rfl, H799⟩
 refine jF (dF h695) (Wp.skip (bN (Fin.then (Wp.seq (sr (Mz rfl (Kz (.bool false) (Mz rfl (gw (.pointer (some ⟨g117, 0, none⟩)) rfl (Yl.move rfl) (gw (.pointer (some ⟨g50, 0, none⟩)) rfl (Yl.move rfl) ?_))))))))))
 have H800 := H164.pk [2, 1, 0, 3, 4]
 have hb806 := H800.rowC (i := 3) rfl
 have hb807 := H800.rowC (i := 4) rfl
 obtain ⟨r808, hr809⟩ : ∃ q, w06_same m118 (DiskDT.mk (Ll.mk l122) (Ll.mk l125) z126 b127) = q := ⟨_, rfl⟩
 obtain ⟨D801, HP802, ro803, bk804, rr805⟩ := Own.enter2 H800
 refine clG rfl Try.call23 (w06_same_ok _ _ g117 m118 g50 (DiskDT.mk (Ll.mk l122) (Ll.mk l125) z126 b127) A120 c121 A123 c124 r808 HP802 (rr805 _ 1 _ rfl row_rds) (show l122.length ≤ c121 ∧ l122.length ≤ 9223372036854775807 from by omega) (rr805 _ 2 _ rfl row_rds) (show l125.length ≤ c124 ∧ l125.length ≤ 9223372036854775807 from by omega) (by first | omega | (dsimp only; omega)) (by first | assumption) (by first | assumption) hr809) ?_
 rintro _ w810 ⟨rfl, HQ811⟩
 have H812 := bk804 _ _ HQ811
 refine Gz (.bool (!r808)) rfl (fw (.bool (!r808)) (Yl.pickF rfl rfl rfl) (nt ?_))
 rcases Bool.eq_false_or_eq_true (r808) with h813 | h813
 refine jF (cn h813) (sk (sr (Kz (.pointer (some ⟨g151, 5, none⟩)) (Lz (.bool x148.xClone) H812 2 Try.isAgg4 (nt ?_)))))
 rcases Bool.eq_false_or_eq_true (x148.xClone) with h814 | h814
 refine jT h814 (sr (Mz rfl ?_))
 have H815 := H812.pk [1, 0, 2, 3, 4]
 obtain ⟨r821, hr822⟩ : ∃ q, disk_Disk_Clone m118 = q := ⟨_, rfl⟩
 obtain ⟨D816, HP817, ro818, bk819, rr820⟩ := Own.enter1 H815
 refine cl Try.call24 (disk_Disk_Clone_ok _ _ g117 m118 r821 HP817 hr822) ?_
 rintro _ w823 ⟨g826, rfl, HQ824, hk827⟩
 have H825 := bk819 _ _ HQ824
 replace hk827 : r821.xsectors = m118.xsectors := hk827
 refine An rfl (Wp.seq (sr (Mz rfl (Kz (.bool false) (nt (jf (sk (sr (Mz rfl ?_)))))))))
 obtain ⟨r833, hr834⟩ : ∃ q, w06_full (99 : UInt8) = q := ⟨_, rfl⟩
 obtain ⟨D828, HP829, ro830, bk831, rr832⟩ := Own.enter0 H825
 refine cl Try.call11 (w06_full_ok _ _ (99 : UInt8) r833 HP829 hr834) ?_
 rintro _ w835 ⟨A838, c839, rfl, HQ836, hk840⟩
 have H837 := bk831 _ _ HQ836
 have hb841 := H837.rowC (i := 0) rfl
 replace hk840 : r833.length = 64 := hk840
 have H842 := H837.pk [2, 0, 1, 3, 4, 5, 6]
 obtain ⟨⟨r848, r849⟩, hr850⟩ : ∃ q : Int × DiskT, disk_Disk_Write m118 0 r833 = q := ⟨_, rfl⟩
 obtain ⟨D843, HP844, ro845, bk846, rr847⟩ := Own.enter1 H842
 refine cl Try.call13 (disk_Disk_Write_ok _ _ g117 m118 0 A838 r833.length c839 r833 r848 r849 HP844 (rr847 _ 0 _ rfl row_rds) rfl (by omega) hr850) ?_
 rintro _ w851 ⟨rfl, HQ852, hk854, hk855⟩
 have H853 := bk846 _ _ HQ852
 replace hk854 : r849.xsectors = m118.xsectors := hk854
 replace hk855 : ¬ (r848 = 0) ∨ ((0 : Int) ≤ 0 ∧ (0 : Int) < m118.xsectors) := hk855
 have hz856 : r849.xsectors = m118.xsectors := by omega
 clear hk854 hk855
 refine ns (Mz rfl ?_)
 obtain ⟨⟨r862, r863⟩, hr864⟩ : ∃ q : Int × DiskT, disk_Disk_Sync r849 = q := ⟨_, rfl⟩
 obtain ⟨D857, HP858, ro859, bk860, rr861⟩ := Own.enter1 H853
 refine cl Try.call15 (disk_Disk_Sync_ok _ _ g117 r849 r862 r863 HP858 hr864) ?_
 rintro _ w865 ⟨rfl, HQ866, hk868⟩
 have H867 := bk860 _ _ HQ866
 replace hk868 : r863.xsectors = r849.xsectors := hk868
 refine nt (Wp.region (Mz rfl (Az rfl (WL.nil (bN (Fin.then (Wp.region (fw (.int .i64 ((k119 + 1 : Nat) : Int)) (Yl.int (e := IntKind.i64.wrap (((k119 : Nat) : Int) + 1)) yk (by rw [IntWalk.i64_in _ (by omega)]; omega)) (Mz rfl (WL.nil ?_))))))))))
 have H869 := H867.pk [3, 2, 5, 6]
 exact Fin.round (g826, r821, k119 + 1, A120, c121, l122, A123, c124, l125, z126, b127) ⟨rfl, rfl, rfl, rfl, rfl, rfl, rfl, trivial⟩ (dm135.2 ⟨H869, by omega, by omega, by omega, by omega, by omega, by assumption, by assumption, by omega, by omega, by omega, et (hq136) (et (congrArg (fun q => w06_DiskGoes_L1 r26 q m118 l122 l125 z126 b127) hd150) (et (bnd_of hj166) (et (ifF h167) (et (iN h376) (et (iN h485) (et (iN h590) (et (iN h695) (et (bnd_of hr809) (et (ip h813) (et (ip h814) (bnd_of hr822)))))))))))⟩) (by show l1.length - (k119 + 1) < l1.length - k119; omega)
 refine jF h814 (Wp.skip (bN (Fin.then (Wp.region (fw (.int .i64 ((k119 + 1 : Nat) : Int)) (Yl.int (e := IntKind.i64.wrap (((k119 : Nat) : Int) + 1)) yk (by rw [IntWalk.i64_in _ (by omega)]; omega)) (Mz rfl (WL.nil ?_)))))))
 have H870 := H812.pk [0, 1, 3, 4]
 exact Fin.round (g117, m118, k119 + 1, A120, c121, l122, A123, c124, l125, z126, b127) ⟨rfl, rfl, rfl, rfl, rfl, rfl, rfl, trivial⟩ (dm135.2 ⟨H870, by omega, by omega, by omega, by omega, by omega, by assumption, by assumption, by omega, by omega, by omega, et (hq136) (et (congrArg (fun q => w06_DiskGoes_L1 r26 q m118 l122 l125 z126 b127) hd150) (et (bnd_of hj166) (et (ifF h167) (et (iN h376) (et (iN h485) (et (iN h590) (et (iN h695) (et (bnd_of hr809) (et (ip h813) (ifF h814))))))))))⟩) (by show l1.length - (k119 + 1) < l1.length - k119; omega)
 refine jT (cn h813) (sr (An rfl (rt (tR (bR (tR (tR (bR (tR (rs ?_))))))))))
 have H871 := H812.pk []
 obtain rfl : _ = false := hr.symm.trans (et (bnd_of hr27) (et (iN h31) (et (iN h33) (et (bnd_of hm47) (et (bnd_of hL112) (et (iN h113) (et (iN h115) (lp_r (et (hq136) (et (congrArg (fun q => w06_DiskGoes_L1 r26 q m118 l122 l125 z126 b127) hd150) (et (bnd_of hj166) (et (ifF h167) (et (iN h376) (et (iN h485) (et (iN h590) (et (iN h695) (et (bnd_of hr809) (ifF h813))))))))))))))))))
 exact ⟨rfl, H871⟩
 refine jF (dF h147) (Wp.exit (Fin.thenX ?_))
 have hL872 : w06_DiskGoes_L1 r26 l1 m46 l58 l61 (-1) false = Sum.inl () := et (hq136) (et (congrArg (fun q => w06_DiskGoes_L1 r26 q m118 l122 l125 z126 b127) (drop_end (ls := l1) (i := k119) (by omega))) rfl)
 refine Fin.thenX (Fin.blockX (Fin.then (Wp.seq ?_)))
 have H873 := H131.pk []
 refine Wp.region (Mz rfl (An rfl (rt (rs ?_))))
 have H874 := H873.pk []
 obtain rfl : _ = r26 := hr.symm.trans (et (bnd_of hr27) (et (iN h31) (et (iN h33) (et (bnd_of hm47) (et (bnd_of hL112) (et (iN h113) (et (iN h115) (lp_l hL872))))))))
 exact ⟨rfl, H874⟩
end Go.Proofs.Ytmhhmhaigmjekaa
