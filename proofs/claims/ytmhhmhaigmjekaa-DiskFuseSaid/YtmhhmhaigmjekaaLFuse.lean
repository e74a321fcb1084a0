/-
 disk: the law DiskFuse
-/
import Derived.Test.YtmhhmhaigmjekaaDl
namespace Go.Proofs.Ytmhhmhaigmjekaa
open Go.RowKit
set_option linter.unusedVariables false
set_option linter.unusedSectionVars false
set_option linter.unusedSimpArgs false

theorem El22 : Elem Try.prog 22 32 6 56 := elem_of (z := .agg #[.int .i64 0, .int .i64 0, .int .i64 0, .int .u8 0, .string ⟨List.toArray ([])⟩, .bool false]) Try.underlying22 (by kernel_rfl) rfl (by decide)

structure OpD where
 xDo : Int
 xN : Int
 xShort : Int
 xV : UInt8
 xMask : List UInt8
 xClone : Bool

def OpD.cells (x : OpD) : List Value := [.int .i64 x.xDo, .int .i64 x.xN, .int .i64 x.xShort, .int .u8 ((x.xV.toNat : Nat) : Int), .string ⟨List.toArray x.xMask⟩, .bool x.xClone]

instance : Bk OpD := ⟨fun x _ => bk x.xDo + (bk x.xN + (bk x.xShort + (bk x.xV + (bk x.xMask + (bk x.xClone + (0))))))⟩

theorem OpD.len : ∀ x, (OpD.cells x).length = 6 := fun _ => rfl

theorem OpD.one : ∀ x, ∀ u ∈ OpD.cells x, u.oneCell' = true := fun x u hu => by
 simp only [OpD.cells, List.mem_cons, List.not_mem_nil, or_false] at hu
 rcases hu with rfl | rfl | rfl | rfl | rfl | rfl <;> rfl

def OpD.Ok (w : World) (x : OpD) : Prop := ((-9223372036854775808) ≤ x.xDo ∧ x.xDo ≤ 9223372036854775807) ∧ ((-9223372036854775808) ≤ x.xN ∧ x.xN ≤ 9223372036854775807) ∧ ((-9223372036854775808) ≤ x.xShort ∧ x.xShort ≤ 9223372036854775807) ∧ (True) ∧ (x.xMask.length ≤ 140737488351232) ∧ (True)

set_option maxRecDepth 100000 in
theorem opens_OpD (w : World) : Opens Try.prog w 32 6 OpD.cells (OpD.Ok w) :=
 (opens_struct (sz := 6) Try.underlying32 (by kernel_rfl) (OpensF.cons (i := 0) (off := 0) (s := 1) rfl rfl (opens_int (k := .i64) (lo := -9223372036854775808) (hi := 9223372036854775807) Try.underlying3 (by kernel_rfl) (by decide) (by decide)) (OpensF.cons (i := 1) (off := 1) (s := 1) rfl rfl (opens_int (k := .i64) (lo := -9223372036854775808) (hi := 9223372036854775807) Try.underlying3 (by kernel_rfl) (by decide) (by decide)) (OpensF.cons (i := 2) (off := 2) (s := 1) rfl rfl (opens_int (k := .i64) (lo := -9223372036854775808) (hi := 9223372036854775807) Try.underlying3 (by kernel_rfl) (by decide) (by decide)) (OpensF.cons (i := 3) (off := 3) (s := 1) rfl rfl (opens_u8 Try.underlying5 (by kernel_rfl)) (OpensF.cons (i := 4) (off := 4) (s := 1) rfl rfl (opens_string Try.underlying9 (by kernel_rfl)) (OpensF.cons (i := 5) (off := 5) (s := 1) rfl rfl (opens_bool Try.underlying4 (by kernel_rfl)) OpensF.nil))))))).map (fun p => ⟨p.1, p.2.1, p.2.2.1, p.2.2.2.1, p.2.2.2.2.1, p.2.2.2.2.2.1⟩) OpD.len (fun _ => rfl) (fun _ h => ⟨h.1, h.2.1, h.2.2.1, h.2.2.2.1, h.2.2.2.2.1, h.2.2.2.2.2.1⟩) fun _ => Nat.le_refl _

instance : Inhabited OpD := ⟨⟨default, default, default, default, default, default⟩⟩

def w06_DiskFuse_L0 (l1 : List OpD) (r26 : Bool) (r51 : Int) : List OpD → Int → DiskT → Int ⊕ Bool
  | [], z68, m70 => Sum.inl z68
  | x82 :: q71, z68, m70 => bnd (if x82.xDo = 2 then bnd (disk_Disk_Sync m70) fun yr102 => (yr102.1, yr102.2) else bnd (w06_full x82.xV) fun yr119 => bnd (disk_Disk_Write m70 (((Int.toNat ((remI x82.xN 12) + 12)) % 12 : Nat) : Int) yr119) fun yr135 => (yr135.1, yr135.2)) fun sJrbbbbLsJ => if sJrbbbbLsJ.1 = 0 then w06_DiskFuse_L0 l1 r26 r51 q71 (IntKind.i64.wrap (z68 + 1)) sJrbbbbLsJ.2 else if sJrbbbbLsJ.1 = 60 then if z68 = r51 then bnd (disk_Disk_Up sJrbbbbLsJ.2) fun yr159 => if yr159 = true then Sum.inr (false) else w06_DiskFuse_L0 l1 r26 r51 q71 z68 sJrbbbbLsJ.2 else Sum.inr (false) else Sum.inr (false)

def w06_DiskFuse (p0 : Int) (l1 : List OpD) : Bool :=
 bnd (w06_live) fun yr26 => bnd ((DiskT.mk 12 ([]) ([]) true (-1))) fun ym42 => bnd (w06_short p0) fun yr51 => bnd (disk_Disk_Fuse ym42 yr51) fun yr62 => lp (w06_DiskFuse_L0 l1 yr26 yr51 l1 0 yr62) fun sLrbbbbL => if yr26 = true then decide (sLrbbbbL = min yr51 ((l1.length : Nat) : Int)) else false

set_option maxRecDepth 100000 in
set_option maxHeartbeats 2000000 in
theorem w06_DiskFuse_ok (w : World) (D : Nat → Prop) (p0 : Int) (A1 : Option Addr) (n1 c1 : Nat) (l1 : List OpD) (r0 : Bool) (H : Own w D w []) (hx1 : Ro w D fun w' => Rds w' 6 A1 n1 (List.flatMap OpD.cells l1)) (hn1 : n1 = l1.length) (hl1 : l1.length * 56 ≤ 211106232532992) (hh0 : (-9223372036854775808) ≤ p0 ∧ p0 ≤ 9223372036854775807) (hh1 : l1.length * 56 ≤ 140737488351232) (hr : w06_DiskFuse p0 l1 = r0) :
    Calls Try.prog 5 #[.int .i64 p0, .slice A1 n1 c1] w (Ret fun v w' => v = .bool r0 ∧ Own w D w' []) := by
 subst hn1
 refine Calls.body (args := [.int .i64 p0, .slice A1 l1.length c1]) Try.func5 rfl rfl rfl ?_
 show Wp _ _ _ [(0, .int .i64 p0), (1, .slice A1 l1.length c1)] _ _
 refine sr (Ar rfl ?_)
 obtain ⟨r26, hr27⟩ : ∃ q, w06_live = q := ⟨_, rfl⟩
 obtain ⟨D21, HP22, ro23, bk24, rr25⟩ := Own.enter0 H
 refine cl Try.call8 (w06_live_ok _ _ r26 HP22 hr27) ?_
 rintro _ w28 ⟨rfl, HQ29⟩
 have H30 := bk24 _ _ HQ29
 refine Ar rfl ?_
 refine WL.do rfl (Do.call Try.call9 rfl ?_ (fun _ _ k => k))
 refine Calls.body (args := [.int .i64 12]) Try.func9 rfl rfl rfl ?_
 show Wp _ _ _ [(0, .int .i64 12)] _ _
 refine sr (Az rfl (An rfl (Wp.seq (sr (Mz rfl (Kz (.bool false) (Mz rfl (gw (.int .i64 12) rfl (Yl.move rfl) (Gz (.bool false) rfl (fw (.bool false) (Yl.pickF rfl rfl rfl) (nt (jf (sk (sr (Mz rfl ?_)))))))))))))))
 refine WL.do rfl (Do.makeMapQ H30 ?_)
 intro g31 w32 H33
 refine WL.do rfl (Do.makeMapQ H33 ?_)
 intro g34 w35 H36
 refine Kz (.agg #[.int .i64 12, .map (some g31), .map (some g34), .bool true, .int .i64 (-1)]) ?_
 refine npw [.int .i64 12, .map (some g31), .map (some g34), .bool true, .int .i64 (-1)] 55 H36 ?_
 intro g37 w38 H39
 refine Az rfl (An rfl (rt (Fin.res (res2 rfl rfl rfl) ?_)))
 have H40 := H39.pk [0, 2, 1]
 have H41 : Own w D w38 [DiskO g37 (DiskT.mk 12 ([]) ([]) true (-1))] := Own.exFold (g31, g34) (show 1 ≤ (DiskT.mk 12 ([]) ([]) true (-1)).xsectors ∧ (DiskT.mk 12 ([]) ([]) true (-1)).xsectors ≤ 4096 from (show 1 ≤ 12 ∧ 12 ≤ 4096 from by omega)) (show Own w D w38 [blk g37 [.int .i64 ((DiskT.mk 12 ([]) ([]) true (-1)).xsectors), .map (some g31), .map (some g34), .bool ((DiskT.mk 12 ([]) ([]) true (-1)).xup), .int .i64 ((DiskT.mk 12 ([]) ([]) true (-1)).xfuse)] 55, mapq g31 ((DiskT.mk 12 ([]) ([]) true (-1)).xsafe), mapq g34 ((DiskT.mk 12 ([]) ([]) true (-1)).xwaits)] from H40)
 obtain ⟨m42, hm43⟩ : ∃ q, (DiskT.mk 12 ([]) ([]) true (-1)) = q := ⟨_, rfl⟩
 have H44 : Own w D w38 [DiskO g37 m42] := by rw [← hm43]; exact H41
 have hz45 : m42.xsectors = 12 := by rw [← hm43]
 refine Mz rfl (Kz (.pointer (some ⟨g37, 0, none⟩)) (Kz (.int .i64 0) (Az rfl (An rfl (Wp.seq (sr (Mz rfl (Kz (.bool false) (Mz rfl (gw (.int .i64 0) rfl (Yl.move rfl) (Gz (.bool false) rfl (fw (.bool false) (Yl.pickF rfl rfl rfl) (nt (jf (sk (sr (Mz rfl ?_)))))))))))))))))
 obtain ⟨r51, hr52⟩ : ∃ q, w06_short p0 = q := ⟨_, rfl⟩
 obtain ⟨D46, HP47, ro48, bk49, rr50⟩ := Own.enter0 H44
 refine cl Try.call12 (w06_short_ok _ _ p0 r51 HP47 hr52) ?_
 rintro _ w53 ⟨rfl, HQ54, hk56⟩
 have H55 := bk49 _ _ HQ54
 replace hk56 : 0 ≤ r51 ∧ r51 < 130 := hk56
 refine Ar rfl (Mz rfl (Mz rfl ?_))
 obtain ⟨r62, hr63⟩ : ∃ q, disk_Disk_Fuse m42 r51 = q := ⟨_, rfl⟩
 obtain ⟨D57, HP58, ro59, bk60, rr61⟩ := Own.enter1 H55
 refine cl Try.call17 (disk_Disk_Fuse_ok _ _ g37 m42 r51 r62 HP58 hr63) ?_
 rintro _ w64 ⟨rfl, HQ65, hk67⟩
 have H66 := bk60 _ _ HQ65
 replace hk67 : r62.xsectors = m42.xsectors := hk67
 refine ns (An rfl (Wp.seq (sr (Mz rfl (Kz (.int .i64 ((l1.length : Nat) : Int)) (Mn rfl (bo ?_)))))))
 have H72 := H66.pk [0]
 obtain ⟨I76, hI77⟩ : ∃ q : (Int × Nat × DiskT) → World → Prop, q = fun (i : Int × Nat × DiskT) w' => Own w D w' [DiskO g37 i.2.2] ∧ (i.2.1 ≤ l1.length ∧ w06_DiskFuse_L0 l1 r26 r51 l1 0 r62 = w06_DiskFuse_L0 l1 r26 r51 (List.drop i.2.1 l1) i.1 i.2.2) := ⟨_, rfl⟩
 have dm78 : ∀ {z68 : Int} {k69 : Nat} {m70 : DiskT} {w' : World}, I76 (z68, k69, m70) w' ↔ Own w D w' [DiskO g37 m70] ∧ k69 ≤ l1.length ∧ w06_DiskFuse_L0 l1 r26 r51 l1 0 r62 = w06_DiskFuse_L0 l1 r26 r51 (List.drop k69 l1) z68 m70 := by intros; subst hI77; exact Iff.rfl
 refine Wp.loop (fun i : Int × Nat × DiskT => [(4, .bool false), (8, .int .i64 i.1), (30, .int .i64 ((i.2.1 : Nat) : Int)), (29, .int .i64 ((l1.length : Nat) : Int)), (28, .slice A1 l1.length c1), (0, .int .i64 r51), (6, .pointer (some ⟨g37, 0, none⟩)), (5, .bool r26), (1, .slice A1 l1.length c1)]) I76 (fun i => l1.length - i.2.1) (0, 0, r62) ⟨rfl, rfl, rfl, rfl, rfl, rfl, rfl, rfl, rfl, trivial⟩ (dm78.2 ⟨H72, by omega, rfl⟩) ?_
 rintro ⟨z68, k69, m70⟩ w73 hf75
 show Wp _ _ _ [(4, .bool false), (8, .int .i64 z68), (30, .int .i64 ((k69 : Nat) : Int)), (29, .int .i64 ((l1.length : Nat) : Int)), (28, .slice A1 l1.length c1), (0, .int .i64 r51), (6, .pointer (some ⟨g37, 0, none⟩)), (5, .bool r26), (1, .slice A1 l1.length c1)] _ _
 obtain ⟨H74, hi80, hq79⟩ := dm78.1 hf75
 refine sr (Kz (.bool (decide (((k69 : Nat) : Int) < ((l1.length : Nat) : Int)))) (nt (Wp.seq ?_)))
 by_cases h81 : ((k69 : Nat) : Int) < ((l1.length : Nat) : Int)
 obtain ⟨x82, hx83⟩ := rds_at (ls := l1) (i := k69) OpD.len (by decide) (H74.ro hx1) (by first | omega | (simp; done) | (simp; omega))
 have hd84 := drop_at hx83
 refine jT (dT h81) (sk (Wp.seq (bo (sr (fw (.pointer (some ⟨ab A1, ao A1 + k69 * 6, none⟩)) (Yl.indexAddr (El22) rfl rfl ((H74.ro hx1).addr (i := k69) (by omega)) (by omega)) (fw (.agg (OpD.cells x82).toArray) (Yl.load rfl (Lds.agg (cs := (OpD.cells x82)) Try.isAgg32 Try.sizeOf32 ((H74.ro hx1).elem OpD.len hx83 (by decide)))) ?_))))))
 refine npw [.int .i64 0, .int .i64 0, .int .i64 0, .int .u8 0, .string ⟨List.toArray ([])⟩, .bool false] 32 H74 ?_
 intro g85 w86 H87
 refine sto (OpD.cells x82) 0 H87 Try.sizeOf32 ?_
 intro w88 H89
 refine ns (An rfl (Wp.seq (sr (Kz (.pointer (some ⟨g85, 0, none⟩)) (Lz (.int .i64 x82.xDo) H89 0 Try.isAgg3 (Kz (.bool (decide (x82.xDo = 2))) (nt ?_)))))))
 obtain ⟨I92, hI93⟩ : ∃ q : (Int × DiskT) → World → Prop, q = fun (i : Int × DiskT) w' => Own w D w' [blk g85 (OpD.cells x82) 32, DiskO g37 i.2] ∧ ((if x82.xDo = 2 then bnd (disk_Disk_Sync m70) fun yr102 => (yr102.1, yr102.2) else bnd (w06_full x82.xV) fun yr119 => bnd (disk_Disk_Write m70 (((Int.toNat ((remI x82.xN 12) + 12)) % 12 : Nat) : Int) yr119) fun yr135 => (yr135.1, yr135.2)) = (i.1, i.2)) := ⟨_, rfl⟩
 have dm94 : ∀ {z90 : Int} {m91 : DiskT} {w' : World}, I92 (z90, m91) w' ↔ Own w D w' [blk g85 (OpD.cells x82) 32, DiskO g37 m91] ∧ (if x82.xDo = 2 then bnd (disk_Disk_Sync m70) fun yr102 => (yr102.1, yr102.2) else bnd (w06_full x82.xV) fun yr119 => bnd (disk_Disk_Write m70 (((Int.toNat ((remI x82.xN 12) + 12)) % 12 : Nat) : Int) yr119) fun yr135 => (yr135.1, yr135.2)) = (z90, m91) := by intros; subst hI93; exact Iff.rfl
 refine Wp.joinT (fun i : Int × DiskT => [(11, .int .i64 i.1), (36, .bool (decide (x82.xDo = 2))), (35, .int .i64 x82.xDo), (34, .pointer (some ⟨g85, 0, none⟩)), (10, .pointer (some ⟨g85, 0, none⟩)), (33, .agg (OpD.cells x82).toArray), (32, .pointer (some ⟨ab A1, ao A1 + k69 * 6, none⟩)), (31, .bool (decide (((k69 : Nat) : Int) < ((l1.length : Nat) : Int)))), (4, .bool false), (8, .int .i64 z68), (30, .int .i64 ((k69 : Nat) : Int)), (29, .int .i64 ((l1.length : Nat) : Int)), (28, .slice A1 l1.length c1), (0, .int .i64 r51), (6, .pointer (some ⟨g37, 0, none⟩)), (5, .bool r26), (1, .slice A1 l1.length c1)]) I92 ?_ ?_
 by_cases h95 : x82.xDo = 2
 refine jT (dT h95) (Wp.region (Mz rfl ?_))
 have H96 := H89.pk [1, 0]
 obtain ⟨⟨r102, r103⟩, hr104⟩ : ∃ q : Int × DiskT, disk_Disk_Sync m70 = q := ⟨_, rfl⟩
 obtain ⟨D97, HP98, ro99, bk100, rr101⟩ := Own.enter1 H96
 refine cl Try.call15 (disk_Disk_Sync_ok _ _ g37 m70 r102 r103 HP98 hr104) ?_
 rintro _ w105 ⟨rfl, HQ106, hk108⟩
 have H107 := bk100 _ _ HQ106
 replace hk108 : r103.xsectors = m70.xsectors := hk108
 refine Az rfl (WL.nil ?_)
 have H109 := H107.pk [1, 0]
 exact Fin.join (r102, r103) ⟨rfl, rfl, rfl, rfl, rfl, rfl, rfl, rfl, rfl, rfl, rfl, rfl, rfl, rfl, rfl, rfl, rfl, trivial⟩ (dm94.2 ⟨H109, et (ip h95) (bnd_of hr104)⟩)
 refine jF (dF h95) ?_
 have H111 := H89.drew
 refine Wp.drawnX [] (fun W => ∃ L', Own w D W ([blk g85 (OpD.cells x82) 32] ++ L')) (by kernel_rfl) (by kernel_rfl) (NoP.then (NoP.block (NoP.then (NoP.then (NoP.block (NoP.then NoP.base)))))) ⟨_, H111⟩ ?_
 revert H111
 generalize World.drew w88 = w110
 intro H111
 refine GX.take (v := .pointer (some ⟨g37, 0, none⟩)) (rs := []) 0 rfl (by kernel_rfl) (fun _ _ => Yl.move rfl) (GX.take (v := .pointer (some ⟨g85, 1, none⟩)) (rs := []) 1 rfl (by kernel_rfl) (fun _ _ => yk) (GX.take (v := .int .i64 x82.xN) (rs := []) 2 rfl (by kernel_rfl) (fun _ ⟨_, H9⟩ => Yl.load rfl (Lds.one Try.isAgg3 (Cls.of (H9.cls (i := 0) rfl) rfl))) ?_))
 have hz112 := remI_bd x82.xN (n := 12) (by omega)
 refine GX.take (v := .int .i64 (remI x82.xN 12)) (rs := []) 3 rfl (by kernel_rfl) (fun _ _ => yk) (GX.take (v := .int .i64 ((remI x82.xN 12) + 12)) (rs := []) 4 rfl (by kernel_rfl) (fun _ _ => Yl.int (e := IntKind.i64.wrap ((remI x82.xN 12) + 12)) yk (by rw [IntWalk.i64_in _ (by omega)])) ?_)
 have hz113 : ((Int.toNat ((remI x82.xN 12) + 12) : Nat) : Int) = (remI x82.xN 12) + 12 := by omega
 refine GX.take (v := .int .i64 (((Int.toNat ((remI x82.xN 12) + 12)) % 12 : Nat) : Int)) (rs := []) 5 rfl (by kernel_rfl) (fun _ _ => Yl.int (e := Int.tmod ((remI x82.xN 12) + 12) 12) yk (tmodT (n := 12) (show 0 ≤ (remI x82.xN 12) + 12 by omega))) (GX.take (v := .pointer (some ⟨g85, 3, none⟩)) (rs := []) 6 rfl (by kernel_rfl) (fun _ _ => yk) (GX.take (v := .int .u8 ((x82.xV.toNat : Nat) : Int)) (rs := []) 7 rfl (by kernel_rfl) (fun _ ⟨_, H9⟩ => Yl.load rfl (Lds.one Try.isAgg5 (Cls.of (H9.cls (i := 0) rfl) rfl))) ?_))
 obtain ⟨r119, hr120⟩ : ∃ q, w06_full x82.xV = q := ⟨_, rfl⟩
 obtain ⟨D114, HP115, ro116, bk117, rr118⟩ := Own.enter0 H111
 refine GX.do 8 rfl (by kernel_rfl) (Do.call Try.call11 rfl (w06_full_ok _ _ x82.xV r119 HP115 hr120) ?_)
 rintro _ w121 ⟨A124, c125, rfl, HQ122, hk126⟩
 have H123 := bk117 _ _ HQ122
 have hb127 := H123.rowC (i := 0) rfl
 replace hk126 : r119.length = 64 := hk126
 have H128 := H123.pk [1, 0, 2]
 refine ⟨.inr ⟨_, H128⟩, ?_⟩
 have H129 := H128.pk [2, 0, 1]
 obtain ⟨⟨r135, r136⟩, hr137⟩ : ∃ q : Int × DiskT, disk_Disk_Write m70 (((Int.toNat ((remI x82.xN 12) + 12)) % 12 : Nat) : Int) r119 = q := ⟨_, rfl⟩
 obtain ⟨D130, HP131, ro132, bk133, rr134⟩ := Own.enter1 H129
 refine GX.do 9 rfl (by kernel_rfl) (Do.call Try.call13 rfl (disk_Disk_Write_ok _ _ g37 m70 (((Int.toNat ((remI x82.xN 12) + 12)) % 12 : Nat) : Int) A124 r119.length c125 r119 r135 r136 HP131 (rr134 _ 1 _ rfl row_rds) rfl (by omega) hr137) ?_)
 rintro _ w138 ⟨rfl, HQ139, hk141, hk142⟩
 have H140 := bk133 _ _ HQ139
 replace hk141 : r136.xsectors = m70.xsectors := hk141
 replace hk142 : ¬ (r135 = 0) ∨ ((0 : Int) ≤ (((Int.toNat ((remI x82.xN 12) + 12)) % 12 : Nat) : Int) ∧ ((((Int.toNat ((remI x82.xN 12) + 12)) % 12 : Nat) : Int) : Int) < m70.xsectors) := hk142
 have H143 := H140.pk [1, 0, 2]
 refine ⟨.inr ⟨_, H143⟩, ?_⟩
 refine GX.take (v := .int .i64 r135) (rs := []) 10 rfl (by kernel_rfl) (fun _ _ => Yl.assign rfl) (GX.done (by kernel_rfl) ?_)
 have H144 := H143.pk [0, 1]
 exact Fin.join (r135, r136) ⟨rfl, rfl, rfl, rfl, rfl, rfl, rfl, rfl, rfl, rfl, rfl, rfl, rfl, rfl, rfl, rfl, rfl, trivial⟩ (dm94.2 ⟨H144, et (iN h95) (et (bnd_of hr120) (bnd_of hr137))⟩)
 rintro ⟨z90, m91⟩ w145 hf147
 show Wp _ _ _ [(11, .int .i64 z90), (36, .bool (decide (x82.xDo = 2))), (35, .int .i64 x82.xDo), (34, .pointer (some ⟨g85, 0, none⟩)), (10, .pointer (some ⟨g85, 0, none⟩)), (33, .agg (OpD.cells x82).toArray), (32, .pointer (some ⟨ab A1, ao A1 + k69 * 6, none⟩)), (31, .bool (decide (((k69 : Nat) : Int) < ((l1.length : Nat) : Int)))), (4, .bool false), (8, .int .i64 z68), (30, .int .i64 ((k69 : Nat) : Int)), (29, .int .i64 ((l1.length : Nat) : Int)), (28, .slice A1 l1.length c1), (0, .int .i64 r51), (6, .pointer (some ⟨g37, 0, none⟩)), (5, .bool r26), (1, .slice A1 l1.length c1)] _ _
 obtain ⟨H146, hj148⟩ := dm94.1 hf147
 refine bo (sr (Mz rfl (Kz (.bool (decide (z90 = 0))) (An rfl ?_))))
 by_cases h149 : z90 = 0
 refine jT (dT h149) (Wp.region (Mz rfl (Kz (.int .i64 (IntKind.i64.wrap (z68 + 1))) (Az rfl (WL.nil (bN (bN (Fin.then (Wp.region (fw (.int .i64 ((k69 + 1 : Nat) : Int)) (Yl.int (e := IntKind.i64.wrap (((k69 : Nat) : Int) + 1)) yk (by rw [IntWalk.i64_in _ (by omega)]; omega)) (Mz rfl (WL.nil ?_))))))))))))
 have H150 := H146.pk [1]
 exact Fin.round (IntKind.i64.wrap (z68 + 1), k69 + 1, m91) ⟨rfl, rfl, rfl, rfl, rfl, rfl, rfl, rfl, rfl, trivial⟩ (dm78.2 ⟨H150, by omega, et (hq79) (et (congrArg (fun q => w06_DiskFuse_L0 l1 r26 r51 q z68 m70) hd84) (et (bnd_of hj148) (ip h149)))⟩) (by show l1.length - (k69 + 1) < l1.length - k69; omega)
 refine jF (dF h149) (sr (Mz rfl (fw (.bool (decide (¬ (z90 = 60)))) (Yl.bool (e := !(decide (z90 = 60))) yk decide_not.symm) (Mz rfl ?_))))
 by_cases h151 : z90 = 60
 refine gw (.int .i64 z68) (dF (not_not_intro h151)) (Yl.move rfl) (gw (.int .i64 r51) (dF (not_not_intro h151)) (Yl.move rfl) (gw (.bool (decide (¬ (z68 = r51)))) (dF (not_not_intro h151)) (Yl.bool (e := !(decide (z68 = r51))) yk decide_not.symm) (fw (.bool (decide (¬ (z68 = r51)))) (Yl.pickF rfl (dF (not_not_intro h151)) rfl) (Mz rfl ?_))))
 by_cases h152 : z68 = r51
 refine gw (.pointer (some ⟨g37, 0, none⟩)) (dF (not_not_intro h152)) (Yl.move rfl) ?_
 have H153 := H146.pk [1, 0]
 obtain ⟨r159, hr160⟩ : ∃ q, disk_Disk_Up m91 = q := ⟨_, rfl⟩
 obtain ⟨D154, HP155, ro156, bk157, rr158⟩ := Own.enter1 H153
 refine clG (dF (not_not_intro h152)) Try.call27 (disk_Disk_Up_ok _ _ g37 m91 r159 HP155 hr160) ?_
 rintro _ w161 ⟨rfl, HQ162⟩
 have H163 := bk157 _ _ HQ162
 refine fw (.bool r159) (Yl.pickF rfl (dF (not_not_intro h152)) rfl) (An rfl ?_)
 rcases Bool.eq_false_or_eq_true (r159) with h164 | h164
 refine jT h164 (sr (An rfl (rt (bR (bR (tR (tR (bR (tR (rs ?_))))))))))
 have H165 := H163.pk []
 obtain rfl : _ = false := hr.symm.trans (et (bnd_of hr27) (et (bnd_of hm43) (et (bnd_of hr52) (et (bnd_of hr63) (lp_r (et (hq79) (et (congrArg (fun q => w06_DiskFuse_L0 l1 r26 r51 q z68 m70) hd84) (et (bnd_of hj148) (et (iN h149) (et (ip h151) (et (ip h152) (et (bnd_of hr160) (ip h164)))))))))))))
 exact ⟨rfl, H165⟩
 refine jF h164 (Wp.skip (bN (bN (Fin.then (Wp.region (fw (.int .i64 ((k69 + 1 : Nat) : Int)) (Yl.int (e := IntKind.i64.wrap (((k69 : Nat) : Int) + 1)) yk (by rw [IntWalk.i64_in _ (by omega)]; omega)) (Mz rfl (WL.nil ?_))))))))
 have H166 := H163.pk [0]
 exact Fin.round (z68, k69 + 1, m91) ⟨rfl, rfl, rfl, rfl, rfl, rfl, rfl, rfl, rfl, trivial⟩ (dm78.2 ⟨H166, by omega, et (hq79) (et (congrArg (fun q => w06_DiskFuse_L0 l1 r26 r51 q z68 m70) hd84) (et (bnd_of hj148) (et (iN h149) (et (ip h151) (et (ip h152) (et (bnd_of hr160) (ifF h164)))))))⟩) (by show l1.length - (k69 + 1) < l1.length - k69; omega)
 refine Sz (dT h152) (Sz (dT h152) (fw (.bool true) (Yl.pickT rfl (dT h152) rfl) (An rfl (jt (sr (An rfl (rt (bR (bR (tR (tR (bR (tR (rs ?_))))))))))))))
 have H167 := H146.pk []
 obtain rfl : _ = false := hr.symm.trans (et (bnd_of hr27) (et (bnd_of hm43) (et (bnd_of hr52) (et (bnd_of hr63) (lp_r (et (hq79) (et (congrArg (fun q => w06_DiskFuse_L0 l1 r26 r51 q z68 m70) hd84) (et (bnd_of hj148) (et (iN h149) (et (ip h151) (iN h152)))))))))))
 exact ⟨rfl, H167⟩
 refine Sz (dT h151) (Sz (dT h151) (Sz (dT h151) (fw (.bool true) (Yl.pickT rfl (dT h151) rfl) (Mz rfl (Sz rfl (Sz rfl (fw (.bool true) (Yl.pickT rfl rfl rfl) (An rfl (jt (sr (An rfl (rt (bR (bR (tR (tR (bR (tR (rs ?_)))))))))))))))))))
 have H168 := H146.pk []
 obtain rfl : _ = false := hr.symm.trans (et (bnd_of hr27) (et (bnd_of hm43) (et (bnd_of hr52) (et (bnd_of hr63) (lp_r (et (hq79) (et (congrArg (fun q => w06_DiskFuse_L0 l1 r26 r51 q z68 m70) hd84) (et (bnd_of hj148) (et (iN h149) (iN h151))))))))))
 exact ⟨rfl, H168⟩
 refine jF (dF h81) (Wp.exit (Fin.thenX ?_))
 have hL169 : w06_DiskFuse_L0 l1 r26 r51 l1 0 r62 = Sum.inl z68 := et (hq79) (et (congrArg (fun q => w06_DiskFuse_L0 l1 r26 r51 q z68 m70) (drop_end (ls := l1) (i := k69) (by omega))) rfl)
 refine Fin.thenX (Fin.blockX (Fin.then (sr (Mz rfl (Mz rfl ?_)))))
 rcases Bool.eq_false_or_eq_true (r26) with h170 | h170
 refine WL.valG (v := .int .i64 z68) rfl rfl h170 rfl (Yl.move rfl) (WL.valG (v := .int .i64 r51) rfl rfl h170 rfl (Yl.move rfl) (WL.valG (v := .slice A1 l1.length c1) rfl rfl h170 rfl (Yl.move rfl) (Gz (.int .i64 ((l1.length : Nat) : Int)) h170 (WL.valG (v := .int .i64 (min r51 ((l1.length : Nat) : Int))) rfl rfl h170 rfl (Yl.int (e := if ((l1.length : Nat) : Int) < r51 then ((l1.length : Nat) : Int) else r51) yk (by omega)) (Gz (.bool (decide (z68 = min r51 ((l1.length : Nat) : Int)))) h170 (fw (.bool (decide (z68 = min r51 ((l1.length : Nat) : Int)))) (Yl.pickT rfl h170 rfl) (An rfl (rt (rs ?_)))))))))
 have H171 := H74.pk []
 obtain rfl : _ = decide (z68 = min r51 ((l1.length : Nat) : Int)) := hr.symm.trans (et (bnd_of hr27) (et (bnd_of hm43) (et (bnd_of hr52) (et (bnd_of hr63) (et (lp_l hL169) (ip h170))))))
 exact ⟨rfl, H171⟩
 refine Sz h170 (Sz h170 (Sz h170 (Sz h170 (Sz h170 (Sz h170 (fw (.bool false) (Yl.pickF rfl h170 rfl) (An rfl (rt (rs ?_)))))))))
 have H172 := H74.pk []
 obtain rfl : _ = false := hr.symm.trans (et (bnd_of hr27) (et (bnd_of hm43) (et (bnd_of hr52) (et (bnd_of hr63) (et (lp_l hL169) (ifF h170))))))
 exact ⟨rfl, H172⟩
end Go.Proofs.Ytmhhmhaigmjekaa
