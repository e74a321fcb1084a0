/-
 disk: the law DiskClone
-/
import Derived.Test.YtmhhmhaigmjekaaDl
namespace Go.Proofs.Ytmhhmhaigmjekaa
open Go.RowKit
set_option linter.unusedVariables false
set_option linter.unusedSectionVars false
set_option linter.unusedSimpArgs false

theorem El22 : Elem Try.prog 22 32 6 56 := elem_of (z := .agg #[.int .i64 0, .int .i64 0, .int .i64 0, .int .u8 0, .string ⟨List.toArray ([])⟩, .bool false]) Try.underlying22 (by kernel_rfl) rfl (by decide)

structure OpD where
 xDo : Int
 xN : Int
 xShort : Int
 xV : UInt8
 xMask : List UInt8
 xClone : Bool

def OpD.cells (x : OpD) : List Value := [.int .i64 x.xDo, .int .i64 x.xN, .int .i64 x.xShort, .int .u8 ((x.xV.toNat : Nat) : Int), .string ⟨List.toArray x.xMask⟩, .bool x.xClone]

instance : Bk OpD := ⟨fun x _ => bk x.xDo + (bk x.xN + (bk x.xShort + (bk x.xV + (bk x.xMask + (bk x.xClone + (0))))))⟩

theorem OpD.len : ∀ x, (OpD.cells x).length = 6 := fun _ => rfl

theorem OpD.one : ∀ x, ∀ u ∈ OpD.cells x, u.oneCell' = true := fun x u hu => by
 simp only [OpD.cells, List.mem_cons, List.not_mem_nil, or_false] at hu
 rcases hu with rfl | rfl | rfl | rfl | rfl | rfl <;> rfl

def OpD.Ok (w : World) (x : OpD) : Prop := ((-9223372036854775808) ≤ x.xDo ∧ x.xDo ≤ 9223372036854775807) ∧ ((-9223372036854775808) ≤ x.xN ∧ x.xN ≤ 9223372036854775807) ∧ ((-9223372036854775808) ≤ x.xShort ∧ x.xShort ≤ 9223372036854775807) ∧ (True) ∧ (x.xMask.length ≤ 140737488351232) ∧ (True)

set_option maxRecDepth 100000 in
theorem opens_OpD (w : World) : Opens Try.prog w 32 6 OpD.cells (OpD.Ok w) :=
 (opens_struct (sz := 6) Try.underlying32 (by kernel_rfl) (OpensF.cons (i := 0) (off := 0) (s := 1) rfl rfl (opens_int (k := .i64) (lo := -9223372036854775808) (hi := 9223372036854775807) Try.underlying3 (by kernel_rfl) (by decide) (by decide)) (OpensF.cons (i := 1) (off := 1) (s := 1) rfl rfl (opens_int (k := .i64) (lo := -9223372036854775808) (hi := 9223372036854775807) Try.underlying3 (by kernel_rfl) (by decide) (by decide)) (OpensF.cons (i := 2) (off := 2) (s := 1) rfl rfl (opens_int (k := .i64) (lo := -9223372036854775808) (hi := 9223372036854775807) Try.underlying3 (by kernel_rfl) (by decide) (by decide)) (OpensF.cons (i := 3) (off := 3) (s := 1) rfl rfl (opens_u8 Try.underlying5 (by kernel_rfl)) (OpensF.cons (i := 4) (off := 4) (s := 1) rfl rfl (opens_string Try.underlying9 (by kernel_rfl)) (OpensF.cons (i := 5) (off := 5) (s := 1) rfl rfl (opens_bool Try.underlying4 (by kernel_rfl)) OpensF.nil))))))).map (fun p => ⟨p.1, p.2.1, p.2.2.1, p.2.2.2.1, p.2.2.2.2.1, p.2.2.2.2.2.1⟩) OpD.len (fun _ => rfl) (fun _ h => ⟨h.1, h.2.1, h.2.2.1, h.2.2.2.1, h.2.2.2.2.1, h.2.2.2.2.2.1⟩) fun _ => Nat.le_refl _

instance : Inhabited OpD := ⟨⟨default, default, default, default, default, default⟩⟩

def w06_DiskClone_1_L0 : List OpD → DiskT → DiskT
  | [], m22 => m22
  | x35 :: q23, m22 => if x35.xDo = 2 then bnd (disk_Disk_Sync m22) fun yr50 => w06_DiskClone_1_L0 q23 yr50.2 else if x35.xDo = 4 then bnd (disk_Disk_Crash m22 x35.xMask) fun yr65 => w06_DiskClone_1_L0 q23 yr65 else if x35.xDo = 5 then bnd (disk_Disk_Start m22) fun yr79 => w06_DiskClone_1_L0 q23 yr79 else bnd (w06_full x35.xV) fun yr93 => bnd (disk_Disk_Write m22 x35.xN yr93) fun yr109 => w06_DiskClone_1_L0 q23 yr109.2

def w06_DiskClone_1 (p0 : DiskT) (l1 : List OpD) : DiskT :=
 bnd (w06_DiskClone_1_L0 l1 p0) fun sLrL => sLrL

set_option maxRecDepth 100000 in
set_option maxHeartbeats 2000000 in
theorem w06_DiskClone_1_ok (w : World) (D : Nat → Prop) (g0 : Nat) (p0 : DiskT) (A1 : Option Addr) (n1 c1 : Nat) (l1 : List OpD) (r0 : DiskT) (H : Own w D w [DiskO g0 p0]) (hx1 : Ro w D fun w' => Rds w' 6 A1 n1 (List.flatMap OpD.cells l1)) (hn1 : n1 = l1.length) (hl1 : l1.length * 56 ≤ 211106232532992) (hr : w06_DiskClone_1 p0 l1 = r0) :
    Calls Try.prog 28 #[.pointer (some ⟨g0, 0, none⟩), .slice A1 n1 c1] w (Ret fun v w' => v = .tuple #[] ∧ Own w D w' [DiskO g0 r0] ∧ (r0.xsectors = p0.xsectors)) := by
 subst hn1
 refine Calls.body (args := [.pointer (some ⟨g0, 0, none⟩), .slice A1 l1.length c1]) Try.func28 rfl rfl rfl ?_
 show Wp _ _ _ [(0, .pointer (some ⟨g0, 0, none⟩)), (1, .slice A1 l1.length c1)] _ _
 refine sr (Mz rfl (Kz (.int .i64 ((l1.length : Nat) : Int)) (Mn rfl (bo ?_))))
 have H24 : Own w D w [DiskO g0 p0] := H.pk [0]
 obtain ⟨I28, hI29⟩ : ∃ q : (Nat × DiskT) → World → Prop, q = fun (i : Nat × DiskT) w' => Own w D w' [DiskO g0 i.2] ∧ (i.1 ≤ l1.length ∧ i.2.xsectors = p0.xsectors ∧ w06_DiskClone_1_L0 l1 p0 = w06_DiskClone_1_L0 (List.drop i.1 l1) i.2) := ⟨_, rfl⟩
 have dm30 : ∀ {k21 : Nat} {m22 : DiskT} {w' : World}, I28 (k21, m22) w' ↔ Own w D w' [DiskO g0 m22] ∧ k21 ≤ l1.length ∧ m22.xsectors = p0.xsectors ∧ w06_DiskClone_1_L0 l1 p0 = w06_DiskClone_1_L0 (List.drop k21 l1) m22 := by intros; subst hI29; exact Iff.rfl
 refine Wp.loop (fun i : Nat × DiskT => [(8, .int .i64 ((i.1 : Nat) : Int)), (7, .int .i64 ((l1.length : Nat) : Int)), (6, .slice A1 l1.length c1), (0, .pointer (some ⟨g0, 0, none⟩))]) I28 (fun i => l1.length - i.1) (0, p0) ⟨rfl, rfl, rfl, rfl, trivial⟩ (dm30.2 ⟨H24, by omega, by omega, rfl⟩) ?_
 rintro ⟨k21, m22⟩ w25 hf27
 show Wp _ _ _ [(8, .int .i64 ((k21 : Nat) : Int)), (7, .int .i64 ((l1.length : Nat) : Int)), (6, .slice A1 l1.length c1), (0, .pointer (some ⟨g0, 0, none⟩))] _ _
 obtain ⟨H26, hi32, hi33, hq31⟩ := dm30.1 hf27
 refine sr (Kz (.bool (decide (((k21 : Nat) : Int) < ((l1.length : Nat) : Int)))) (nt (Wp.seq ?_)))
 by_cases h34 : ((k21 : Nat) : Int) < ((l1.length : Nat) : Int)
 obtain ⟨x35, hx36⟩ := rds_at (ls := l1) (i := k21) OpD.len (by decide) (H26.ro hx1) (by first | omega | (simp; done) | (simp; omega))
 have hd37 := drop_at hx36
 refine jT (dT h34) (sk (Wp.seq (bo (sr (fw (.pointer (some ⟨ab A1, ao A1 + k21 * 6, none⟩)) (Yl.indexAddr (El22) rfl rfl ((H26.ro hx1).addr (i := k21) (by omega)) (by omega)) (fw (.agg (OpD.cells x35).toArray) (Yl.load rfl (Lds.agg (cs := (OpD.cells x35)) Try.isAgg32 Try.sizeOf32 ((H26.ro hx1).elem OpD.len hx36 (by decide)))) ?_))))))
 refine npw [.int .i64 0, .int .i64 0, .int .i64 0, .int .u8 0, .string ⟨List.toArray ([])⟩, .bool false] 32 H26 ?_
 intro g38 w39 H40
 refine sto (OpD.cells x35) 0 H40 Try.sizeOf32 ?_
 intro w41 H42
 refine ns (Kz (.pointer (some ⟨g38, 0, none⟩)) (Lz (.int .i64 x35.xDo) H42 0 Try.isAgg3 (nt (bo (sr (Kz (.bool (decide (x35.xDo = 2))) (An rfl ?_)))))))
 by_cases h43 : x35.xDo = 2
 refine jT (dT h43) (Wp.region (Mz rfl ?_))
 have H44 := H42.pk [1, 0]
 obtain ⟨⟨r50, r51⟩, hr52⟩ : ∃ q : Int × DiskT, disk_Disk_Sync m22 = q := ⟨_, rfl⟩
 obtain ⟨D45, HP46, ro47, bk48, rr49⟩ := Own.enter1 H44
 refine cl Try.call15 (disk_Disk_Sync_ok _ _ g0 m22 r50 r51 HP46 hr52) ?_
 rintro _ w53 ⟨rfl, HQ54, hk56⟩
 have H55 := bk48 _ _ HQ54
 replace hk56 : r51.xsectors = m22.xsectors := hk56
 refine WL.nil (bN (bN (Fin.then (Wp.region (fw (.int .i64 ((k21 + 1 : Nat) : Int)) (Yl.int (e := IntKind.i64.wrap (((k21 : Nat) : Int) + 1)) yk (by rw [IntWalk.i64_in _ (by omega)]; omega)) (Mz rfl (WL.nil ?_)))))))
 have H57 := H55.pk [0]
 exact Fin.round (k21 + 1, r51) ⟨rfl, rfl, rfl, rfl, trivial⟩ (dm30.2 ⟨H57, by omega, by omega, et (hq31) (et (congrArg (fun q => w06_DiskClone_1_L0 q m22) hd37) (et (ip h43) (bnd_of hr52)))⟩) (by show l1.length - (k21 + 1) < l1.length - k21; omega)
 refine jF (dF h43) (sr (Kz (.bool (decide (x35.xDo = 4))) (An rfl ?_)))
 by_cases h58 : x35.xDo = 4
 refine jT (dT h58) (Wp.region (Mz rfl (Kz (.pointer (some ⟨g38, 4, none⟩)) (Lz (.string ⟨List.toArray x35.xMask⟩) H42 0 Try.isAgg9 ?_))))
 have H59 := H42.pk [1, 0]
 obtain ⟨r65, hr66⟩ : ∃ q, disk_Disk_Crash m22 x35.xMask = q := ⟨_, rfl⟩
 obtain ⟨D60, HP61, ro62, bk63, rr64⟩ := Own.enter1 H59
 refine cl Try.call19 (disk_Disk_Crash_ok _ _ g0 m22 x35.xMask r65 HP61 hr66) ?_
 rintro _ w67 ⟨rfl, HQ68, hk70⟩
 have H69 := bk63 _ _ HQ68
 replace hk70 : r65.xsectors = m22.xsectors := hk70
 refine WL.nil (bN (bN (Fin.then (Wp.region (fw (.int .i64 ((k21 + 1 : Nat) : Int)) (Yl.int (e := IntKind.i64.wrap (((k21 : Nat) : Int) + 1)) yk (by rw [IntWalk.i64_in _ (by omega)]; omega)) (Mz rfl (WL.nil ?_)))))))
 have H71 := H69.pk [0]
 exact Fin.round (k21 + 1, r65) ⟨rfl, rfl, rfl, rfl, trivial⟩ (dm30.2 ⟨H71, by omega, by omega, et (hq31) (et (congrArg (fun q => w06_DiskClone_1_L0 q m22) hd37) (et (iN h43) (et (ip h58) (bnd_of hr66))))⟩) (by show l1.length - (k21 + 1) < l1.length - k21; omega)
 refine jF (dF h58) (sr (Kz (.bool (decide (x35.xDo = 5))) (An rfl ?_)))
 by_cases h72 : x35.xDo = 5
 refine jT (dT h72) (Wp.region (Mz rfl ?_))
 have H73 := H42.pk [1, 0]
 obtain ⟨r79, hr80⟩ : ∃ q, disk_Disk_Start m22 = q := ⟨_, rfl⟩
 obtain ⟨D74, HP75, ro76, bk77, rr78⟩ := Own.enter1 H73
 refine cl Try.call21 (disk_Disk_Start_ok _ _ g0 m22 r79 HP75 hr80) ?_
 rintro _ w81 ⟨rfl, HQ82, hk84⟩
 have H83 := bk77 _ _ HQ82
 replace hk84 : r79.xsectors = m22.xsectors := hk84
 refine WL.nil (bN (bN (Fin.then (Wp.region (fw (.int .i64 ((k21 + 1 : Nat) : Int)) (Yl.int (e := IntKind.i64.wrap (((k21 : Nat) : Int) + 1)) yk (by rw [IntWalk.i64_in _ (by omega)]; omega)) (Mz rfl (WL.nil ?_)))))))
 have H85 := H83.pk [0]
 exact Fin.round (k21 + 1, r79) ⟨rfl, rfl, rfl, rfl, trivial⟩ (dm30.2 ⟨H85, by omega, by omega, et (hq31) (et (congrArg (fun q => w06_DiskClone_1_L0 q m22) hd37) (et (iN h43) (et (iN h58) (et (ip h72) (bnd_of hr80)))))⟩) (by show l1.length - (k21 + 1) < l1.length - k21; omega)
 refine jF (dF h72) ?_
 have H87 := H42.drew
 refine Wp.drawnX [] (fun W => ∃ L', Own w D W ([blk g38 (OpD.cells x35) 32] ++ L')) (by kernel_rfl) (by kernel_rfl) (NoP.block (NoP.block (NoP.then (NoP.then (NoP.block NoP.base))))) ⟨_, H87⟩ ?_
 revert H87
 generalize World.drew w41 = w86
 intro H87
 refine GX.take (v := .pointer (some ⟨g0, 0, none⟩)) (rs := []) 0 rfl (by kernel_rfl) (fun _ _ => Yl.move rfl) (GX.take (v := .pointer (some ⟨g38, 1, none⟩)) (rs := []) 1 rfl (by kernel_rfl) (fun _ _ => yk) (GX.take (v := .int .i64 x35.xN) (rs := []) 2 rfl (by kernel_rfl) (fun _ ⟨_, H9⟩ => Yl.load rfl (Lds.one Try.isAgg3 (Cls.of (H9.cls (i := 0) rfl) rfl))) (GX.take (v := .pointer (some ⟨g38, 3, none⟩)) (rs := []) 3 rfl (by kernel_rfl) (fun _ _ => yk) (GX.take (v := .int .u8 ((x35.xV.toNat : Nat) : Int)) (rs := []) 4 rfl (by kernel_rfl) (fun _ ⟨_, H9⟩ => Yl.load rfl (Lds.one Try.isAgg5 (Cls.of (H9.cls (i := 0) rfl) rfl))) ?_))))
 obtain ⟨r93, hr94⟩ : ∃ q, w06_full x35.xV = q := ⟨_, rfl⟩
 obtain ⟨D88, HP89, ro90, bk91, rr92⟩ := Own.enter0 H87
 refine GX.do 5 rfl (by kernel_rfl) (Do.call Try.call11 rfl (w06_full_ok _ _ x35.xV r93 HP89 hr94) ?_)
 rintro _ w95 ⟨A98, c99, rfl, HQ96, hk100⟩
 have H97 := bk91 _ _ HQ96
 have hb101 := H97.rowC (i := 0) rfl
 replace hk100 : r93.length = 64 := hk100
 have H102 := H97.pk [1, 0, 2]
 refine ⟨.inr ⟨_, H102⟩, ?_⟩
 have H103 := H102.pk [2, 0, 1]
 obtain ⟨⟨r109, r110⟩, hr111⟩ : ∃ q : Int × DiskT, disk_Disk_Write m22 x35.xN r93 = q := ⟨_, rfl⟩
 obtain ⟨D104, HP105, ro106, bk107, rr108⟩ := Own.enter1 H103
 refine GX.do 6 rfl (by kernel_rfl) (Do.call Try.call13 rfl (disk_Disk_Write_ok _ _ g0 m22 x35.xN A98 r93.length c99 r93 r109 r110 HP105 (rr108 _ 1 _ rfl row_rds) rfl (by omega) hr111) ?_)
 rintro _ w112 ⟨rfl, HQ113, hk115, hk116⟩
 have H114 := bk107 _ _ HQ113
 replace hk115 : r110.xsectors = m22.xsectors := hk115
 replace hk116 : ¬ (r109 = 0) ∨ ((0 : Int) ≤ x35.xN ∧ (x35.xN : Int) < m22.xsectors) := hk116
 have H117 := H114.pk [1, 0, 2]
 refine ⟨.inr ⟨_, H117⟩, ?_⟩
 refine GX.done (by kernel_rfl) (bN (bN (Fin.then (Wp.region (fw (.int .i64 ((k21 + 1 : Nat) : Int)) (Yl.int (e := IntKind.i64.wrap (((k21 : Nat) : Int) + 1)) yk (by rw [IntWalk.i64_in _ (by omega)]; omega)) (Mz rfl (WL.nil ?_)))))))
 have H118 := H117.pk [1]
 exact Fin.round (k21 + 1, r110) ⟨rfl, rfl, rfl, rfl, trivial⟩ (dm30.2 ⟨H118, by omega, by omega, et (hq31) (et (congrArg (fun q => w06_DiskClone_1_L0 q m22) hd37) (et (iN h43) (et (iN h58) (et (iN h72) (et (bnd_of hr94) (bnd_of hr111))))))⟩) (by show l1.length - (k21 + 1) < l1.length - k21; omega)
 refine jF (dF h34) (Wp.exit (Fin.thenX ?_))
 have hL119 : w06_DiskClone_1_L0 l1 p0 = m22 := et (hq31) (et (congrArg (fun q => w06_DiskClone_1_L0 q m22) (drop_end (ls := l1) (i := k21) (by omega))) rfl)
 refine Fin.thenX (Fin.blockX (Fin.res0 (res0 rfl) ?_))
 have H120 := H26.pk [0]
 obtain rfl : _ = m22 := hr.symm.trans (bnd_of hL119)
 exact ⟨rfl, H120, (by first | rfl | omega)⟩

def w06_DiskClone_L0 (r26 : Bool) (r129 : DiskT) (r141 : DiskT) : Nat → Nat → Unit ⊕ Bool
  | 0, k147 => Sum.inl ()
  | q148 + 1, k147 => bnd (disk_Disk_Read r129 ((k147 : Nat) : Int)) fun yr165 => bnd (disk_Disk_Read r141 ((k147 : Nat) : Int)) fun yr181 => if yr165.2 = yr181.2 then if yr165.1 ≠ yr181.1 then Sum.inr (false) else w06_DiskClone_L0 r26 r129 r141 q148 (k147 + 1) else Sum.inr (false)

def w06_DiskClone (l0 : List OpD) (l1 : List OpD) (l2 : List OpD) : Bool :=
 bnd (w06_live) fun yr26 => bnd ((DiskT.mk 12 ([]) ([]) true (-1))) fun ym42 => if (((l0.length + l1.length) + l2.length : Nat) : Int) > 150 then if yr26 = true then true else false else bnd (w06_DiskClone_1 ym42 l0) fun yr55 => bnd (disk_Disk_Clone yr55) fun yr79 => bnd (w06_DiskClone_1 yr55 l1) fun yr92 => bnd (w06_DiskClone_1 yr79 l1) fun yr117 => bnd (disk_Disk_Start yr92) fun yr129 => bnd (disk_Disk_Start yr117) fun yr141 => lp (w06_DiskClone_L0 yr26 yr129 yr141 12 0) fun _ => yr26

set_option maxRecDepth 100000 in
set_option maxHeartbeats 2000000 in
theorem w06_DiskClone_ok (w : World) (D : Nat → Prop) (A0 : Option Addr) (n0 c0 : Nat) (l0 : List OpD) (A1 : Option Addr) (n1 c1 : Nat) (l1 : List OpD) (A2 : Option Addr) (n2 c2 : Nat) (l2 : List OpD) (r0 : Bool) (H : Own w D w []) (hx0 : Ro w D fun w' => Rds w' 6 A0 n0 (List.flatMap OpD.cells l0)) (hn0 : n0 = l0.length) (hl0 : l0.length * 56 ≤ 211106232532992) (hx1 : Ro w D fun w' => Rds w' 6 A1 n1 (List.flatMap OpD.cells l1)) (hn1 : n1 = l1.length) (hl1 : l1.length * 56 ≤ 211106232532992) (hx2 : Ro w D fun w' => Rds w' 6 A2 n2 (List.flatMap OpD.cells l2)) (hn2 : n2 = l2.length) (hl2 : l2.length * 56 ≤ 211106232532992) (hh0 : l0.length * 56 ≤ 140737488351232) (hh1 : l1.length * 56 ≤ 140737488351232) (hh2 : l2.length * 56 ≤ 140737488351232) (hr : w06_DiskClone l0 l1 l2 = r0) :
    Calls Try.prog 7 #[.slice A0 n0 c0, .slice A1 n1 c1, .slice A2 n2 c2] w (Ret fun v w' => v = .bool r0 ∧ Own w D w' []) := by
 subst hn0 hn1 hn2
 refine Calls.body (args := [.slice A0 l0.length c0, .slice A1 l1.length c1, .slice A2 l2.length c2]) Try.func7 rfl rfl rfl ?_
 show Wp _ _ _ [(0, .slice A0 l0.length c0), (1, .slice A1 l1.length c1), (2, .slice A2 l2.length c2)] _ _
 refine sr (Ar rfl ?_)
 obtain ⟨r26, hr27⟩ : ∃ q, w06_live = q := ⟨_, rfl⟩
 obtain ⟨D21, HP22, ro23, bk24, rr25⟩ := Own.enter0 H
 refine cl Try.call8 (w06_live_ok _ _ r26 HP22 hr27) ?_
 rintro _ w28 ⟨rfl, HQ29⟩
 have H30 := bk24 _ _ HQ29
 refine Ar rfl ?_
 refine WL.do rfl (Do.call Try.call9 rfl ?_ (fun _ _ k => k))
 refine Calls.body (args := [.int .i64 12]) Try.func9 rfl rfl rfl ?_
 show Wp _ _ _ [(0, .int .i64 12)] _ _
 refine sr (Az rfl (An rfl (Wp.seq (sr (Mz rfl (Kz (.bool false) (Mz rfl (gw (.int .i64 12) rfl (Yl.move rfl) (Gz (.bool false) rfl (fw (.bool false) (Yl.pickF rfl rfl rfl) (nt (jf (sk (sr (Mz rfl ?_)))))))))))))))
 refine WL.do rfl (Do.makeMapQ H30 ?_)
 intro g31 w32 H33
 refine WL.do rfl (Do.makeMapQ H33 ?_)
 intro g34 w35 H36
 refine Kz (.agg #[.int .i64 12, .map (some g31), .map (some g34), .bool true, .int .i64 (-1)]) ?_
 refine npw [.int .i64 12, .map (some g31), .map (some g34), .bool true, .int .i64 (-1)] 55 H36 ?_
 intro g37 w38 H39
 refine Az rfl (An rfl (rt (Fin.res (res2 rfl rfl rfl) ?_)))
 have H40 := H39.pk [0, 2, 1]
 have H41 : Own w D w38 [DiskO g37 (DiskT.mk 12 ([]) ([]) true (-1))] := Own.exFold (g31, g34) (show 1 ≤ (DiskT.mk 12 ([]) ([]) true (-1)).xsectors ∧ (DiskT.mk 12 ([]) ([]) true (-1)).xsectors ≤ 4096 from (show 1 ≤ 12 ∧ 12 ≤ 4096 from by omega)) (show Own w D w38 [blk g37 [.int .i64 ((DiskT.mk 12 ([]) ([]) true (-1)).xsectors), .map (some g31), .map (some g34), .bool ((DiskT.mk 12 ([]) ([]) true (-1)).xup), .int .i64 ((DiskT.mk 12 ([]) ([]) true (-1)).xfuse)] 55, mapq g31 ((DiskT.mk 12 ([]) ([]) true (-1)).xsafe), mapq g34 ((DiskT.mk 12 ([]) ([]) true (-1)).xwaits)] from H40)
 obtain ⟨m42, hm43⟩ : ∃ q, (DiskT.mk 12 ([]) ([]) true (-1)) = q := ⟨_, rfl⟩
 have H44 : Own w D w38 [DiskO g37 m42] := by rw [← hm43]; exact H41
 have hz45 : m42.xsectors = 12 := by rw [← hm43]
 refine Mz rfl (Kz (.pointer (some ⟨g37, 0, none⟩)) (Kz (.int .i64 0) (Az rfl (An rfl (Wp.seq (sr (Mz rfl (Kz (.bool false) (Mz rfl (gw (.int .i64 0) rfl (Yl.move rfl) (Gz (.bool false) rfl (fw (.bool false) (Yl.pickF rfl rfl rfl) (Mz rfl (gw (.slice A0 l0.length c0) rfl (Yl.move rfl) (Gz (.int .i64 ((l0.length : Nat) : Int)) rfl (gw (.slice A1 l1.length c1) rfl (Yl.move rfl) (Gz (.int .i64 ((l1.length : Nat) : Int)) rfl (gw (.int .i64 ((l0.length + l1.length : Nat) : Int)) rfl (Yl.int (e := IntKind.i64.wrap (((l0.length : Nat) : Int) + ((l1.length : Nat) : Int))) yk (by rw [IntWalk.i64_in _ (by omega)]; omega)) (gw (.slice A2 l2.length c2) rfl (Yl.move rfl) (Gz (.int .i64 ((l2.length : Nat) : Int)) rfl (gw (.int .i64 (((l0.length + l1.length) + l2.length : Nat) : Int)) rfl (Yl.int (e := IntKind.i64.wrap (((l0.length + l1.length : Nat) : Int) + ((l2.length : Nat) : Int))) yk (by rw [IntWalk.i64_in _ (by omega)]; omega)) (Gz (.bool (decide ((((l0.length + l1.length) + l2.length : Nat) : Int) > 150))) rfl (fw (.bool (decide ((((l0.length + l1.length) + l2.length : Nat) : Int) > 150))) (Yl.pickF rfl rfl rfl) (nt ?_))))))))))))))))))))))))
 by_cases h46 : (((l0.length + l1.length) + l2.length : Nat) : Int) > 150
 refine jT (dT h46) (sr (Mz rfl (Mz rfl ?_)))
 rcases Bool.eq_false_or_eq_true (r26) with h47 | h47
 refine WL.valG (v := .pointer (some ⟨g37, 0, none⟩)) rfl rfl h47 rfl (Yl.move rfl) (Gz (.bool true) h47 (fw (.bool true) (Yl.pickT rfl h47 rfl) (An rfl (rt (tR (rs ?_))))))
 have H48 := H44.pk []
 obtain rfl : _ = true := hr.symm.trans (et (bnd_of hr27) (et (bnd_of hm43) (et (ip h46) (ip h47))))
 exact ⟨rfl, H48⟩
 refine Sz h47 (Sz h47 (fw (.bool false) (Yl.pickF rfl h47 rfl) (An rfl (rt (tR (rs ?_))))))
 have H49 := H44.pk []
 obtain rfl : _ = false := hr.symm.trans (et (bnd_of hr27) (et (bnd_of hm43) (et (ip h46) (ifF h47))))
 exact ⟨rfl, H49⟩
 refine jF (dF h46) (sk (sr (Ar rfl (Mz rfl (Mz rfl (Mz rfl ?_))))))
 obtain ⟨r55, hr56⟩ : ∃ q, w06_DiskClone_1 m42 l0 = q := ⟨_, rfl⟩
 obtain ⟨D50, HP51, ro52, bk53, rr54⟩ := Own.enter1 H44
 refine WL.do rfl (Do.callV Try.call28 rfl rfl (w06_DiskClone_1_ok _ _ g37 m42 A0 l0.length c0 l0 r55 HP51 (ro52 _ hx0) rfl (by omega) hr56) ?_)
 rintro _ w57 ⟨rfl, HQ58, hk60⟩
 have H59 := bk53 _ _ HQ58
 replace hk60 : r55.xsectors = m42.xsectors := hk60
 refine ns (Mz rfl ?_)
 obtain ⟨r66, hr67⟩ : ∃ q, disk_Disk_Clone r55 = q := ⟨_, rfl⟩
 obtain ⟨D61, HP62, ro63, bk64, rr65⟩ := Own.enter1 H59
 refine cl Try.call24 (disk_Disk_Clone_ok _ _ g37 r55 r66 HP62 hr67) ?_
 rintro _ w68 ⟨g71, rfl, HQ69, hk72⟩
 have H70 := bk64 _ _ HQ69
 replace hk72 : r66.xsectors = r55.xsectors := hk72
 refine Ar rfl (Mz rfl ?_)
 have H73 := H70.pk [1, 0]
 obtain ⟨r79, hr80⟩ : ∃ q, disk_Disk_Clone r55 = q := ⟨_, rfl⟩
 obtain ⟨D74, HP75, ro76, bk77, rr78⟩ := Own.enter1 H73
 refine cl Try.call24 (disk_Disk_Clone_ok _ _ g37 r55 r79 HP75 hr80) ?_
 rintro _ w81 ⟨g84, rfl, HQ82, hk85⟩
 have H83 := bk77 _ _ HQ82
 replace hk85 : r79.xsectors = r55.xsectors := hk85
 refine An rfl (Wp.seq (sr (Mz rfl (Kz (.bool false) (Mz rfl (gw (.pointer (some ⟨g84, 0, none⟩)) rfl (Yl.move rfl) (Gz (.bool false) rfl (fw (.bool false) (Yl.pickF rfl rfl rfl) (nt (jf (sk (sr (Mz rfl (Mz rfl (Mz rfl ?_)))))))))))))))
 have H86 := H83.pk [1, 0, 2]
 obtain ⟨r92, hr93⟩ : ∃ q, w06_DiskClone_1 r55 l1 = q := ⟨_, rfl⟩
 obtain ⟨D87, HP88, ro89, bk90, rr91⟩ := Own.enter1 H86
 refine WL.do rfl (Do.callV Try.call28 rfl rfl (w06_DiskClone_1_ok _ _ g37 r55 A1 l1.length c1 l1 r92 HP88 (ro89 _ hx1) rfl (by omega) hr93) ?_)
 rintro _ w94 ⟨rfl, HQ95, hk97⟩
 have H96 := bk90 _ _ HQ95
 replace hk97 : r92.xsectors = r55.xsectors := hk97
 refine ns (Mz rfl (Mz rfl (Mz rfl ?_)))
 have H98 := H96.pk [2, 0, 1]
 obtain ⟨r104, hr105⟩ : ∃ q, w06_DiskClone_1 r66 l2 = q := ⟨_, rfl⟩
 obtain ⟨D99, HP100, ro101, bk102, rr103⟩ := Own.enter1 H98
 refine WL.do rfl (Do.callV Try.call28 rfl rfl (w06_DiskClone_1_ok _ _ g71 r66 A2 l2.length c2 l2 r104 HP100 (ro101 _ hx2) rfl (by omega) hr105) ?_)
 rintro _ w106 ⟨rfl, HQ107, hk109⟩
 have H108 := bk102 _ _ HQ107
 replace hk109 : r104.xsectors = r66.xsectors := hk109
 refine nt (Wp.seq ?_)
 have H110 := H108.pk [1, 2]
 refine Wp.region (Mz rfl (Mz rfl (Mz rfl ?_)))
 have H111 := H110.pk [1, 0]
 obtain ⟨r117, hr118⟩ : ∃ q, w06_DiskClone_1 r79 l1 = q := ⟨_, rfl⟩
 obtain ⟨D112, HP113, ro114, bk115, rr116⟩ := Own.enter1 H111
 refine WL.do rfl (Do.callV Try.call28 rfl rfl (w06_DiskClone_1_ok _ _ g84 r79 A1 l1.length c1 l1 r117 HP113 (ro114 _ hx1) rfl (by omega) hr118) ?_)
 rintro _ w119 ⟨rfl, HQ120, hk122⟩
 have H121 := bk115 _ _ HQ120
 replace hk122 : r117.xsectors = r79.xsectors := hk122
 refine ns (Mz rfl ?_)
 have H123 := H121.pk [1, 0]
 obtain ⟨r129, hr130⟩ : ∃ q, disk_Disk_Start r92 = q := ⟨_, rfl⟩
 obtain ⟨D124, HP125, ro126, bk127, rr128⟩ := Own.enter1 H123
 refine cl Try.call21 (disk_Disk_Start_ok _ _ g37 r92 r129 HP125 hr130) ?_
 rintro _ w131 ⟨rfl, HQ132, hk134⟩
 have H133 := bk127 _ _ HQ132
 replace hk134 : r129.xsectors = r92.xsectors := hk134
 refine ns (Mz rfl ?_)
 have H135 := H133.pk [1, 0]
 obtain ⟨r141, hr142⟩ : ∃ q, disk_Disk_Start r117 = q := ⟨_, rfl⟩
 obtain ⟨D136, HP137, ro138, bk139, rr140⟩ := Own.enter1 H135
 refine cl Try.call21 (disk_Disk_Start_ok _ _ g84 r117 r141 HP137 hr142) ?_
 rintro _ w143 ⟨rfl, HQ144, hk146⟩
 have H145 := bk139 _ _ HQ144
 replace hk146 : r141.xsectors = r117.xsectors := hk146
 refine nt (Wp.seq (sr (Mn rfl (bo ?_))))
 have H149 := H145.pk [0, 1]
 obtain ⟨I153, hI154⟩ : ∃ q : Nat → World → Prop, q = fun (i : Nat) w' => Own w D w' [DiskO g84 r141, DiskO g37 r129] ∧ (i ≤ 12 ∧ w06_DiskClone_L0 r26 r129 r141 12 0 = w06_DiskClone_L0 r26 r129 r141 (12 - i) i) := ⟨_, rfl⟩
 have dm155 : ∀ {k147 : Nat} {w' : World}, I153 k147 w' ↔ Own w D w' [DiskO g84 r141, DiskO g37 r129] ∧ k147 ≤ 12 ∧ w06_DiskClone_L0 r26 r129 r141 12 0 = w06_DiskClone_L0 r26 r129 r141 (12 - k147) k147 := by intros; subst hI154; exact Iff.rfl
 refine Wp.loop (fun i : Nat => [(6, .bool false), (75, .int .i64 ((i : Nat) : Int)), (12, .pointer (some ⟨g84, 0, none⟩)), (8, .pointer (some ⟨g37, 0, none⟩)), (7, .bool r26)]) I153 (fun i => 12 - i) 0 ⟨rfl, rfl, rfl, rfl, rfl, trivial⟩ (dm155.2 ⟨H149, by omega, rfl⟩) ?_
 rintro k147 w150 hf152
 show Wp _ _ _ [(6, .bool false), (75, .int .i64 ((k147 : Nat) : Int)), (12, .pointer (some ⟨g84, 0, none⟩)), (8, .pointer (some ⟨g37, 0, none⟩)), (7, .bool r26)] _ _
 obtain ⟨H151, hi157, hq156⟩ := dm155.1 hf152
 refine sr (Kz (.bool (decide (((k147 : Nat) : Int) < 12))) (nt (Wp.seq ?_)))
 by_cases h158 : ((k147 : Nat) : Int) < 12
 refine jT (dT h158) (sk (Wp.seq (bo (sr (Mz rfl (Ar rfl (Mz rfl (Mz rfl ?_))))))))
 have H159 := H151.pk [1, 0]
 obtain ⟨⟨r165, r166⟩, hr167⟩ : ∃ q : (List UInt8) × Int, disk_Disk_Read r129 ((k147 : Nat) : Int) = q := ⟨_, rfl⟩
 obtain ⟨D160, HP161, ro162, bk163, rr164⟩ := Own.enter1 H159
 refine cl Try.call25 (disk_Disk_Read_ok _ _ g37 r129 ((k147 : Nat) : Int) r165 r166 HP161 hr167) ?_
 rintro _ w168 ⟨A171, c172, rfl, HQ169, hk173⟩
 have H170 := bk163 _ _ HQ169
 have hb174 := H170.rowC (i := 0) rfl
 replace hk173 : r165.length ≤ 64 := hk173
 refine Mz rfl (Kz (.slice A171 r165.length c172) (Kz (.int .i64 r166) (Az rfl (Ar rfl (Mz rfl (Mz rfl ?_))))))
 have H175 := H170.pk [2, 0, 1]
 obtain ⟨⟨r181, r182⟩, hr183⟩ : ∃ q : (List UInt8) × Int, disk_Disk_Read r141 ((k147 : Nat) : Int) = q := ⟨_, rfl⟩
 obtain ⟨D176, HP177, ro178, bk179, rr180⟩ := Own.enter1 H175
 refine cl Try.call25 (disk_Disk_Read_ok _ _ g84 r141 ((k147 : Nat) : Int) r181 r182 HP177 hr183) ?_
 rintro _ w184 ⟨A187, c188, rfl, HQ185, hk189⟩
 have H186 := bk179 _ _ HQ185
 have hb190 := H186.rowC (i := 0) rfl
 replace hk189 : r181.length ≤ 64 := hk189
 refine Mz rfl (Kz (.slice A187 r181.length c188) (Kz (.int .i64 r182) (Az rfl (Ar rfl (Mz rfl (Mz rfl (fw (.bool (decide (¬ (r166 = r182)))) (Yl.bool (e := !(decide (r166 = r182))) yk decide_not.symm) (Mz rfl ?_))))))))
 by_cases h191 : r166 = r182
 refine gw (.slice A171 r165.length c172) (dF (not_not_intro h191)) (Yl.move rfl) (gw (.string ⟨List.toArray r165⟩) (dF (not_not_intro h191)) (Yl.toStringE (l := r165) Try.underlying33 Try.underlying5 Try.underlying9 (H186.rds (i := 2) rfl) rfl) (gw (.slice A187 r181.length c188) (dF (not_not_intro h191)) (Yl.move rfl) (gw (.string ⟨List.toArray r181⟩) (dF (not_not_intro h191)) (Yl.toStringE (l := r181) Try.underlying33 Try.underlying5 Try.underlying9 (H186.rds (i := 0) rfl) rfl) (gw (.bool (decide (r165 ≠ r181))) (dF (not_not_intro h191)) (Yl.strNe rfl rfl) (fw (.bool (decide (r165 ≠ r181))) (Yl.pickF rfl (dF (not_not_intro h191)) rfl) (nt ?_))))))
 by_cases h192 : r165 ≠ r181
 refine jT (dT h192) (sr (An rfl (rt (bR (tR (tR (bR (tR (rs ?_)))))))))
 have H193 := H186.pk []
 obtain rfl : _ = false := hr.symm.trans (et (bnd_of hr27) (et (bnd_of hm43) (et (iN h46) (et (bnd_of hr56) (et (bnd_of hr80) (et (bnd_of hr93) (et (bnd_of hr118) (et (bnd_of hr130) (et (bnd_of hr142) (lp_r (et (hq156) (et (congrArg (fun q => w06_DiskClone_L0 r26 r129 r141 q k147) (sub_at (n := 12) (i := k147) (by omega))) (et (bnd_of hr167) (et (bnd_of hr183) (et (ip h191) (ip h192))))))))))))))))
 exact ⟨rfl, H193⟩
 refine jF (dF h192) (Wp.skip (bN (Fin.then (Wp.region (fw (.int .i64 ((k147 + 1 : Nat) : Int)) (Yl.int (e := IntKind.i64.wrap (((k147 : Nat) : Int) + 1)) yk (by rw [IntWalk.i64_in _ (by omega)]; omega)) (Mz rfl (WL.nil ?_)))))))
 have H194 := H186.pk [1, 3]
 exact Fin.round (k147 + 1) ⟨rfl, rfl, rfl, rfl, rfl, trivial⟩ (dm155.2 ⟨H194, by omega, et (hq156) (et (congrArg (fun q => w06_DiskClone_L0 r26 r129 r141 q k147) (sub_at (n := 12) (i := k147) (by omega))) (et (bnd_of hr167) (et (bnd_of hr183) (et (ip h191) (iN h192)))))⟩) (by show 12 - (k147 + 1) < 12 - k147; omega)
 refine Sz (dT h191) (Sz (dT h191) (Sz (dT h191) (Sz (dT h191) (Sz (dT h191) (fw (.bool true) (Yl.pickT rfl (dT h191) rfl) (nt (jt (sr (An rfl (rt (bR (tR (tR (bR (tR (rs ?_))))))))))))))))
 have H195 := H186.pk []
 obtain rfl : _ = false := hr.symm.trans (et (bnd_of hr27) (et (bnd_of hm43) (et (iN h46) (et (bnd_of hr56) (et (bnd_of hr80) (et (bnd_of hr93) (et (bnd_of hr118) (et (bnd_of hr130) (et (bnd_of hr142) (lp_r (et (hq156) (et (congrArg (fun q => w06_DiskClone_L0 r26 r129 r141 q k147) (sub_at (n := 12) (i := k147) (by omega))) (et (bnd_of hr167) (et (bnd_of hr183) (iN h191)))))))))))))))
 exact ⟨rfl, H195⟩
 refine jF (dF h158) (Wp.exit (Fin.thenX ?_))
 have hL196 : w06_DiskClone_L0 r26 r129 r141 12 0 = Sum.inl () := et (hq156) (et (congrArg (fun q => w06_DiskClone_L0 r26 r129 r141 q k147) (sub_end (n := 12) (i := k147) (by omega))) rfl)
 refine Fin.thenX (Fin.blockX (Fin.then (Wp.seq ?_)))
 have H197 := H151.pk []
 refine Wp.region (Mz rfl (An rfl (rt (rs ?_))))
 have H198 := H197.pk []
 obtain rfl : _ = r26 := hr.symm.trans (et (bnd_of hr27) (et (bnd_of hm43) (et (iN h46) (et (bnd_of hr56) (et (bnd_of hr80) (et (bnd_of hr93) (et (bnd_of hr118) (et (bnd_of hr130) (et (bnd_of hr142) (lp_l hL196))))))))))
 exact ⟨rfl, H198⟩
end Go.Proofs.Ytmhhmhaigmjekaa
