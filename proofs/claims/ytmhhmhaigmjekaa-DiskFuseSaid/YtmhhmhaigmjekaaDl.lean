/-
 disk: the chapter's examples; two devices compared.
-/
import Derived.Test.YtmhhmhaigmjekaaDr
namespace Go.Proofs.Ytmhhmhaigmjekaa
open Go.RowKit
set_option linter.unusedVariables false
set_option linter.unusedSectionVars false
set_option linter.unusedSimpArgs false

def w06_full_L0 (p0 : UInt8) : Nat → Nat → List UInt8 → (List UInt8)
  | 0, k25, l26 => l26
  | q27 + 1, k25, l26 => w06_full_L0 p0 q27 (k25 + 1) (List.set l26 k25 (p0 + (UInt8.ofNat k25)))

def w06_full (p0 : UInt8) : (List UInt8) :=
 bnd (w06_full_L0 p0 64 0 (List.replicate 64 (0 : UInt8))) fun sLrL => sLrL

set_option maxRecDepth 100000 in
theorem w06_full_ok (w : World) (D : Nat → Prop) (p0 : UInt8) (r0 : List UInt8) (H : Own w D w [])  (hr : w06_full p0 = r0) :
    Calls Try.prog 11 #[.int .u8 ((p0.toNat : Nat) : Int)] w (Ret fun v w' => ∃ (B0 : Option Addr) (b0 : Nat), v = .slice B0 r0.length b0 ∧ Own w D w' [row B0 r0.length b0 (List.flatMap eB r0) 5 1] ∧ (r0.length = 64)) := by
 refine Calls.body (args := [.int .u8 ((p0.toNat : Nat) : Int)]) Try.func11 rfl rfl rfl ?_
 show Wp _ _ _ [(0, .int .u8 ((p0.toNat : Nat) : Int))] _ _
 refine sr (Ar rfl ?_)
 refine WL.do rfl (Do.makeE (x0 := (0 : UInt8)) (z := .int .u8 0) (k := 64) (size := 1) (bytes := 1) eB_len (by decide) rfl Try.underlying33 (by kernel_rfl) H rfl rfl (by omega) (by unfold maxLen; omega) ?_)
 intro A21 w22 H23
 have hl24 : List.length (List.replicate 64 (0 : UInt8)) = 64 := List.length_replicate
 refine An rfl (Wp.seq (sr (Mz rfl (Kz (.int .i64 64) (Mn rfl (bo ?_))))))
 have H28 := H23.pk [0]
 obtain ⟨I32, hI33⟩ : ∃ q : (Nat × (List UInt8)) → World → Prop, q = fun (i : Nat × (List UInt8)) w' => Own w D w' [row A21 64 64 (List.flatMap eB i.2) 5 1] ∧ (i.2.length = 64 ∧ i.1 ≤ 64 ∧ w06_full_L0 p0 64 0 (List.replicate 64 (0 : UInt8)) = w06_full_L0 p0 (64 - i.1) i.1 i.2) := ⟨_, rfl⟩
 have dm34 : ∀ {k25 : Nat} {l26 : List UInt8} {w' : World}, I32 (k25, l26) w' ↔ Own w D w' [row A21 64 64 (List.flatMap eB l26) 5 1] ∧ l26.length = 64 ∧ k25 ≤ 64 ∧ w06_full_L0 p0 64 0 (List.replicate 64 (0 : UInt8)) = w06_full_L0 p0 (64 - k25) k25 l26 := by intros; subst hI33; exact Iff.rfl
 refine Wp.loop (fun i : Nat × (List UInt8) => [(8, .int .i64 ((i.1 : Nat) : Int)), (7, .int .i64 64), (3, .slice A21 64 64), (2, .slice none 0 0), (0, .int .u8 ((p0.toNat : Nat) : Int))]) I32 (fun i => 64 - i.1) (0, (List.replicate 64 (0 : UInt8))) ⟨rfl, rfl, rfl, rfl, rfl, trivial⟩ (dm34.2 ⟨H28, by first | omega | (simp only [List.length_set]; omega) | (simp only [List.length_replicate]), by omega, rfl⟩) ?_
 rintro ⟨k25, l26⟩ w29 hf31
 show Wp _ _ _ [(8, .int .i64 ((k25 : Nat) : Int)), (7, .int .i64 64), (3, .slice A21 64 64), (2, .slice none 0 0), (0, .int .u8 ((p0.toNat : Nat) : Int))] _ _
 obtain ⟨H30, hi36, hi37, hq35⟩ := dm34.1 hf31
 refine sr (Kz (.bool (decide (((k25 : Nat) : Int) < 64))) (nt (Wp.seq ?_)))
 by_cases h38 : ((k25 : Nat) : Int) < 64
 refine jT (dT h38) (sk (Wp.seq (bo (sr (Mz rfl (An rfl (Wp.region (Mz rfl (Mz rfl (Mz rfl (Mz rfl (fw (.int .u8 (((UInt8.ofNat k25).toNat : Nat) : Int)) (Yl.int (e := IntKind.u8.wrap ((k25 : Nat) : Int)) yk (u8_wrap _)) (fw (.int .u8 (((p0 + (UInt8.ofNat k25)).toNat : Nat) : Int)) (Yl.int (e := IntKind.u8.wrap (((p0.toNat : Nat) : Int) + (((UInt8.ofNat k25).toNat : Nat) : Int))) yk (u8_add p0 (UInt8.ofNat k25))) ?_)))))))))))))
 obtain ⟨x39, hx40⟩ := rds_at (ls := l26) (i := k25) eB_len (by decide) (H30.rds (i := 0) rfl) (by first | omega | (simp; done) | (simp; omega))
 refine fw (.pointer (some ⟨ab A21, ao A21 + k25 * 1, none⟩)) (Yl.indexAddr (El33) rfl rfl ((H30.rds (i := 0) rfl).addr (i := k25) (by omega)) (by omega)) ?_
 refine WL.do0 (Do.storeRow (vs := [.int .u8 (((p0 + (UInt8.ofNat k25)).toNat : Nat) : Int)]) (o := k25 * 1 + 0) (q := ao A21 + k25 * 1) H30 rfl (by omega) rfl Try.sizeOf5 rfl rfl (Nat.le_of_ble_eq_true rfl) (store_fits eB_len hx40 (Nat.le_of_ble_eq_true rfl)) (flat_set (y := (p0 + (UInt8.ofNat k25))) eB_len rfl (Nat.le_of_ble_eq_true rfl) hx40) ?_)
 intro w41 H42
 refine WL.nil (bN (Fin.then (Wp.region (fw (.int .i64 ((k25 + 1 : Nat) : Int)) (Yl.int (e := IntKind.i64.wrap (((k25 : Nat) : Int) + 1)) yk (by rw [IntWalk.i64_in _ (by omega)]; omega)) (Mz rfl (WL.nil ?_))))))
 have H43 := H42.pk [0]
 exact Fin.round (k25 + 1, (List.set l26 k25 (p0 + (UInt8.ofNat k25)))) ⟨rfl, rfl, rfl, rfl, rfl, trivial⟩ (dm34.2 ⟨H43, by first | omega | (simp only [List.length_set]; omega) | (simp only [List.length_replicate]), by omega, Eq.trans (hq35) (Eq.trans (congrArg (fun q => w06_full_L0 p0 q k25 l26) (sub_at (n := 64) (i := k25) (by omega))) rfl)⟩) (by show 64 - (k25 + 1) < 64 - k25; omega)
 refine jF (dF h38) (Wp.exit (Fin.thenX ?_))
 have hL44 : w06_full_L0 p0 64 0 (List.replicate 64 (0 : UInt8)) = l26 := et (hq35) (et (congrArg (fun q => w06_full_L0 p0 q k25 l26) (sub_end (n := 64) (i := k25) (by omega))) rfl)
 refine Fin.thenX (Fin.blockX (Fin.then (sr (Mz rfl (An rfl (rt (rs ?_)))))))
 have hn45 : 64 = l26.length := by first | omega | (simp only [List.length_set]; done) | (simp only [List.length_set, List.length_append, List.length_cons, List.length_nil, List.length_take, List.length_drop, List.length_replicate]; omega)
 have H46 : Own w D w29 [row A21 l26.length 64 (List.flatMap eB l26) 5 1] := by rw [← hn45]; exact H30
 have H47 := H46.pk [0]
 obtain rfl : _ = l26 := hr.symm.trans (bnd_of hL44)
 exact ⟨A21, 64, (by first | rfl | (rw [← hn45]; done) | (rw [← hn45]; rfl)), H47, (by omega)⟩

def w06_short (p0 : Int) : Int :=
 (((Int.toNat ((remI p0 130) + 130)) % 130 : Nat) : Int)

set_option maxRecDepth 100000 in
theorem w06_short_ok (w : World) (D : Nat → Prop) (p0 : Int) (r0 : Int) (H : Own w D w [])  (hr : w06_short p0 = r0) :
    Calls Try.prog 12 #[.int .i64 p0] w (Ret fun v w' => v = .int .i64 r0 ∧ Own w D w' [] ∧ (0 ≤ r0 ∧ r0 < 130)) := by
 refine Calls.body (args := [.int .i64 p0]) Try.func12 rfl rfl rfl ?_
 show Wp _ _ _ [(0, .int .i64 p0)] _ _
 refine sr (Ar rfl (Mz rfl ?_))
 have hz21 := remI_bd p0 (n := 130) (by omega)
 refine Kz (.int .i64 (remI p0 130)) (fw (.int .i64 ((remI p0 130) + 130)) (Yl.int (e := IntKind.i64.wrap ((remI p0 130) + 130)) yk (by rw [IntWalk.i64_in _ (by omega)])) ?_)
 have hz22 : ((Int.toNat ((remI p0 130) + 130) : Nat) : Int) = (remI p0 130) + 130 := by omega
 refine fw (.int .i64 (((Int.toNat ((remI p0 130) + 130)) % 130 : Nat) : Int)) (Yl.int (e := Int.tmod ((remI p0 130) + 130) 130) yk (tmodT (n := 130) (show 0 ≤ (remI p0 130) + 130 by omega))) (An rfl (rt (rs ?_)))
 have H23 : Own w D w [] := H.pk []
 obtain rfl : _ = (((Int.toNat ((remI p0 130) + 130)) % 130 : Nat) : Int) := hr.symm.trans rfl
 exact ⟨rfl, H23, (by omega)⟩

def w06_live  : Bool :=
 bnd ((DiskT.mk 4 ([]) ([]) true (-1))) fun ym32 => bnd (w06_full (7 : UInt8)) fun yr41 => bnd (disk_Disk_Write ym32 1 yr41) fun yr56 => bnd (w06_full (9 : UInt8)) fun yr70 => bnd (disk_Disk_Write yr56.2 3 yr70) fun yr85 => bnd (disk_Disk_Waits yr85.2) fun yr99 => bnd (disk_Disk_Crash yr85.2 ([0, 1])) fun yr114 => bnd (disk_Disk_Up yr114) fun yr125 => bnd (disk_Disk_Start yr114) fun yr135 => bnd (disk_Disk_Read yr135 1) fun yr146 => bnd (disk_Disk_Read yr135 3) fun yr162 => bnd (disk_Disk_Fuse yr135 1) fun yr178 => bnd (w06_full (1 : UInt8)) fun yr189 => bnd (disk_Disk_Write yr178 2 yr189) fun yr204 => bnd (disk_Disk_Sync yr204.2) fun yr218 => bnd (disk_Disk_Read yr218.2 2) fun yr230 => if ((yr99.length : Nat) : Int) = 2 then bnd (List.getD yr99 1 default) fun yx244 => if yx244 = 3 then if yr125 = true then false else if ((yr146.1.length : Nat) : Int) = 64 then bnd (List.getD yr146.1 1 default) fun yx250 => if ((yx250.toNat : Nat) : Int) = 0 then if yr146.2 = 0 then bnd (w06_full (9 : UInt8)) fun yr259 => if yr162.1 = yr259 then if yr162.2 = 0 then if yr204.1 = 0 then if yr218.1 = 60 then decide (yr230.2 = 60) else false else false else false else false else false else false else false else false else false

set_option maxRecDepth 100000 in
theorem w06_live_ok (w : World) (D : Nat → Prop)  (r0 : Bool) (H : Own w D w [])  (hr : w06_live = r0) :
    Calls Try.prog 8 #[] w (Ret fun v w' => v = .bool r0 ∧ Own w D w' []) := by
 refine Calls.body (args := []) Try.func8 rfl rfl rfl ?_
 show Wp _ _ _ [] _ _
 refine sr (Ar rfl ?_)
 refine WL.do rfl (Do.call Try.call9 rfl ?_ (fun _ _ k => k))
 refine Calls.body (args := [.int .i64 4]) Try.func9 rfl rfl rfl ?_
 show Wp _ _ _ [(0, .int .i64 4)] _ _
 refine sr (Az rfl (An rfl (Wp.seq (sr (Mz rfl (Kz (.bool false) (Mz rfl (gw (.int .i64 4) rfl (Yl.move rfl) (Gz (.bool false) rfl (fw (.bool false) (Yl.pickF rfl rfl rfl) (nt (jf (sk (sr (Mz rfl ?_)))))))))))))))
 refine WL.do rfl (Do.makeMapQ H ?_)
 intro g21 w22 H23
 refine WL.do rfl (Do.makeMapQ H23 ?_)
 intro g24 w25 H26
 refine Kz (.agg #[.int .i64 4, .map (some g21), .map (some g24), .bool true, .int .i64 (-1)]) ?_
 refine npw [.int .i64 4, .map (some g21), .map (some g24), .bool true, .int .i64 (-1)] 55 H26 ?_
 intro g27 w28 H29
 refine Az rfl (An rfl (rt (Fin.res (res2 rfl rfl rfl) ?_)))
 have H30 := H29.pk [0, 2, 1]
 have H31 : Own w D w28 [DiskO g27 (DiskT.mk 4 ([]) ([]) true (-1))] := Own.exFold (g21, g24) (show 1 ≤ (DiskT.mk 4 ([]) ([]) true (-1)).xsectors ∧ (DiskT.mk 4 ([]) ([]) true (-1)).xsectors ≤ 4096 from (show 1 ≤ 4 ∧ 4 ≤ 4096 from by omega)) (show Own w D w28 [blk g27 [.int .i64 ((DiskT.mk 4 ([]) ([]) true (-1)).xsectors), .map (some g21), .map (some g24), .bool ((DiskT.mk 4 ([]) ([]) true (-1)).xup), .int .i64 ((DiskT.mk 4 ([]) ([]) true (-1)).xfuse)] 55, mapq g21 ((DiskT.mk 4 ([]) ([]) true (-1)).xsafe), mapq g24 ((DiskT.mk 4 ([]) ([]) true (-1)).xwaits)] from H30)
 obtain ⟨m32, hm33⟩ : ∃ q, (DiskT.mk 4 ([]) ([]) true (-1)) = q := ⟨_, rfl⟩
 have H34 : Own w D w28 [DiskO g27 m32] := by rw [← hm33]; exact H31
 have hz35 : m32.xsectors = 4 := by rw [← hm33]
 refine Mz rfl (Kz (.pointer (some ⟨g27, 0, none⟩)) (Kz (.int .i64 0) (Az rfl (An rfl (Wp.seq (sr (Mz rfl (Kz (.bool false) (Mz rfl (gw (.int .i64 0) rfl (Yl.move rfl) (Gz (.bool false) rfl (fw (.bool false) (Yl.pickF rfl rfl rfl) (nt (jf (sk (sr (Mz rfl ?_)))))))))))))))))
 obtain ⟨r41, hr42⟩ : ∃ q, w06_full (7 : UInt8) = q := ⟨_, rfl⟩
 obtain ⟨D36, HP37, ro38, bk39, rr40⟩ := Own.enter0 H34
 refine cl Try.call11 (w06_full_ok _ _ (7 : UInt8) r41 HP37 hr42) ?_
 rintro _ w43 ⟨A46, c47, rfl, HQ44, hk48⟩
 have H45 := bk39 _ _ HQ44
 have hb49 := H45.rowC (i := 0) rfl
 replace hk48 : r41.length = 64 := hk48
 have H50 := H45.pk [1, 0]
 obtain ⟨⟨r56, r57⟩, hr58⟩ : ∃ q : Int × DiskT, disk_Disk_Write m32 1 r41 = q := ⟨_, rfl⟩
 obtain ⟨D51, HP52, ro53, bk54, rr55⟩ := Own.enter1 H50
 refine cl Try.call13 (disk_Disk_Write_ok _ _ g27 m32 1 A46 r41.length c47 r41 r56 r57 HP52 (rr55 _ 0 _ rfl row_rds) rfl (by omega) hr58) ?_
 rintro _ w59 ⟨rfl, HQ60, hk62, hk63⟩
 have H61 := bk54 _ _ HQ60
 replace hk62 : r57.xsectors = m32.xsectors := hk62
 replace hk63 : ¬ (r56 = 0) ∨ ((0 : Int) ≤ 1 ∧ (1 : Int) < m32.xsectors) := hk63
 refine nt (Wp.seq ?_)
 have H64 := H61.pk [0]
 refine Wp.region (Mz rfl ?_)
 obtain ⟨r70, hr71⟩ : ∃ q, w06_full (9 : UInt8) = q := ⟨_, rfl⟩
 obtain ⟨D65, HP66, ro67, bk68, rr69⟩ := Own.enter0 H64
 refine cl Try.call11 (w06_full_ok _ _ (9 : UInt8) r70 HP66 hr71) ?_
 rintro _ w72 ⟨A75, c76, rfl, HQ73, hk77⟩
 have H74 := bk68 _ _ HQ73
 have hb78 := H74.rowC (i := 0) rfl
 replace hk77 : r70.length = 64 := hk77
 have H79 := H74.pk [1, 0]
 obtain ⟨⟨r85, r86⟩, hr87⟩ : ∃ q : Int × DiskT, disk_Disk_Write r57 3 r70 = q := ⟨_, rfl⟩
 obtain ⟨D80, HP81, ro82, bk83, rr84⟩ := Own.enter1 H79
 refine cl Try.call13 (disk_Disk_Write_ok _ _ g27 r57 3 A75 r70.length c76 r70 r85 r86 HP81 (rr84 _ 0 _ rfl row_rds) rfl (by omega) hr87) ?_
 rintro _ w88 ⟨rfl, HQ89, hk91, hk92⟩
 have H90 := bk83 _ _ HQ89
 replace hk91 : r86.xsectors = r57.xsectors := hk91
 replace hk92 : ¬ (r85 = 0) ∨ ((0 : Int) ≤ 3 ∧ (3 : Int) < r57.xsectors) := hk92
 refine nt (Wp.seq ?_)
 have H93 := H90.pk [0]
 refine Wp.region (Mz rfl ?_)
 obtain ⟨r99, hr100⟩ : ∃ q, disk_Disk_Waits r86 = q := ⟨_, rfl⟩
 obtain ⟨D94, HP95, ro96, bk97, rr98⟩ := Own.enter1 H93
 refine cl Try.call26 (disk_Disk_Waits_ok _ _ g27 r86 r99 HP95 hr100) ?_
 rintro _ w101 ⟨A104, c105, rfl, HQ102, hk106⟩
 have H103 := bk97 _ _ HQ102
 have hb107 := H103.rowC (i := 0) rfl
 replace hk106 : ∀ x ∈ r99, 0 ≤ x ∧ x < 4096 := hk106
 refine Ar rfl (Mz rfl ?_)
 have H108 := H103.pk [1, 0]
 obtain ⟨r114, hr115⟩ : ∃ q, disk_Disk_Crash r86 ([0, 1]) = q := ⟨_, rfl⟩
 obtain ⟨D109, HP110, ro111, bk112, rr113⟩ := Own.enter1 H108
 refine cl Try.call19 (disk_Disk_Crash_ok _ _ g27 r86 ([0, 1]) r114 HP110 hr115) ?_
 rintro _ w116 ⟨rfl, HQ117, hk119⟩
 have H118 := bk112 _ _ HQ117
 replace hk119 : r114.xsectors = r86.xsectors := hk119
 refine ns (Mz rfl ?_)
 obtain ⟨r125, hr126⟩ : ∃ q, disk_Disk_Up r114 = q := ⟨_, rfl⟩
 obtain ⟨D120, HP121, ro122, bk123, rr124⟩ := Own.enter1 H118
 refine cl Try.call27 (disk_Disk_Up_ok _ _ g27 r114 r125 HP121 hr126) ?_
 rintro _ w127 ⟨rfl, HQ128⟩
 have H129 := bk123 _ _ HQ128
 refine Ar rfl (Mz rfl ?_)
 obtain ⟨r135, hr136⟩ : ∃ q, disk_Disk_Start r114 = q := ⟨_, rfl⟩
 obtain ⟨D130, HP131, ro132, bk133, rr134⟩ := Own.enter1 H129
 refine cl Try.call21 (disk_Disk_Start_ok _ _ g27 r114 r135 HP131 hr136) ?_
 rintro _ w137 ⟨rfl, HQ138, hk140⟩
 have H139 := bk133 _ _ HQ138
 replace hk140 : r135.xsectors = r114.xsectors := hk140
 refine ns (Mz rfl ?_)
 obtain ⟨⟨r146, r147⟩, hr148⟩ : ∃ q : (List UInt8) × Int, disk_Disk_Read r135 1 = q := ⟨_, rfl⟩
 obtain ⟨D141, HP142, ro143, bk144, rr145⟩ := Own.enter1 H139
 refine cl Try.call25 (disk_Disk_Read_ok _ _ g27 r135 1 r146 r147 HP142 hr148) ?_
 rintro _ w149 ⟨A152, c153, rfl, HQ150, hk154⟩
 have H151 := bk144 _ _ HQ150
 have hb155 := H151.rowC (i := 0) rfl
 replace hk154 : r146.length ≤ 64 := hk154
 refine Mz rfl (Kz (.slice A152 r146.length c153) (Kz (.int .i64 r147) (Az rfl (Ar rfl (Mz rfl ?_)))))
 have H156 := H151.pk [1, 0, 2]
 obtain ⟨⟨r162, r163⟩, hr164⟩ : ∃ q : (List UInt8) × Int, disk_Disk_Read r135 3 = q := ⟨_, rfl⟩
 obtain ⟨D157, HP158, ro159, bk160, rr161⟩ := Own.enter1 H156
 refine cl Try.call25 (disk_Disk_Read_ok _ _ g27 r135 3 r162 r163 HP158 hr164) ?_
 rintro _ w165 ⟨A168, c169, rfl, HQ166, hk170⟩
 have H167 := bk160 _ _ HQ166
 have hb171 := H167.rowC (i := 0) rfl
 replace hk170 : r162.length ≤ 64 := hk170
 refine Mz rfl (Kz (.slice A168 r162.length c169) (Kz (.int .i64 r163) (Az rfl (Ar rfl (Mz rfl ?_)))))
 have H172 := H167.pk [1, 0, 2, 3]
 obtain ⟨r178, hr179⟩ : ∃ q, disk_Disk_Fuse r135 1 = q := ⟨_, rfl⟩
 obtain ⟨D173, HP174, ro175, bk176, rr177⟩ := Own.enter1 H172
 refine cl Try.call17 (disk_Disk_Fuse_ok _ _ g27 r135 1 r178 HP174 hr179) ?_
 rintro _ w180 ⟨rfl, HQ181, hk183⟩
 have H182 := bk176 _ _ HQ181
 replace hk183 : r178.xsectors = r135.xsectors := hk183
 refine ns (Mz rfl ?_)
 obtain ⟨r189, hr190⟩ : ∃ q, w06_full (1 : UInt8) = q := ⟨_, rfl⟩
 obtain ⟨D184, HP185, ro186, bk187, rr188⟩ := Own.enter0 H182
 refine cl Try.call11 (w06_full_ok _ _ (1 : UInt8) r189 HP185 hr190) ?_
 rintro _ w191 ⟨A194, c195, rfl, HQ192, hk196⟩
 have H193 := bk187 _ _ HQ192
 have hb197 := H193.rowC (i := 0) rfl
 replace hk196 : r189.length = 64 := hk196
 have H198 := H193.pk [1, 0, 2, 3, 4]
 obtain ⟨⟨r204, r205⟩, hr206⟩ : ∃ q : Int × DiskT, disk_Disk_Write r178 2 r189 = q := ⟨_, rfl⟩
 obtain ⟨D199, HP200, ro201, bk202, rr203⟩ := Own.enter1 H198
 refine cl Try.call13 (disk_Disk_Write_ok _ _ g27 r178 2 A194 r189.length c195 r189 r204 r205 HP200 (rr203 _ 0 _ rfl row_rds) rfl (by omega) hr206) ?_
 rintro _ w207 ⟨rfl, HQ208, hk210, hk211⟩
 have H209 := bk202 _ _ HQ208
 replace hk210 : r205.xsectors = r178.xsectors := hk210
 replace hk211 : ¬ (r204 = 0) ∨ ((0 : Int) ≤ 2 ∧ (2 : Int) < r178.xsectors) := hk211
 refine An rfl (Wp.seq ?_)
 have H212 := H209.pk [0, 2, 3, 4]
 refine Wp.region (Mz rfl ?_)
 obtain ⟨⟨r218, r219⟩, hr220⟩ : ∃ q : Int × DiskT, disk_Disk_Sync r205 = q := ⟨_, rfl⟩
 obtain ⟨D213, HP214, ro215, bk216, rr217⟩ := Own.enter1 H212
 refine cl Try.call15 (disk_Disk_Sync_ok _ _ g27 r205 r218 r219 HP214 hr220) ?_
 rintro _ w221 ⟨rfl, HQ222, hk224⟩
 have H223 := bk216 _ _ HQ222
 replace hk224 : r219.xsectors = r205.xsectors := hk224
 refine Ar rfl (Mz rfl ?_)
 obtain ⟨⟨r230, r231⟩, hr232⟩ : ∃ q : (List UInt8) × Int, disk_Disk_Read r219 2 = q := ⟨_, rfl⟩
 obtain ⟨D225, HP226, ro227, bk228, rr229⟩ := Own.enter1 H223
 refine cl Try.call25 (disk_Disk_Read_ok _ _ g27 r219 2 r230 r231 HP226 hr232) ?_
 rintro _ w233 ⟨A236, c237, rfl, HQ234, hk238⟩
 have H235 := bk228 _ _ HQ234
 have hb239 := H235.rowC (i := 0) rfl
 replace hk238 : r230.length ≤ 64 := hk238
 refine Mz rfl (Kz (.slice A236 r230.length c237) (Kz (.int .i64 r231) (Az rfl (An rfl (Wp.seq ?_)))))
 have H240 := H235.pk [2, 3, 4]
 have H242 := H240.drew
 refine Wp.drawnX [] (fun W => ∃ L', Own w D W ([row A168 r162.length c169 (List.flatMap eB r162) 61 1, row A152 r146.length c153 (List.flatMap eB r146) 61 1, row A104 r99.length c105 (List.flatMap (eI .i64) r99) 3 1] ++ L')) (by kernel_rfl) (by kernel_rfl) (NoP.then NoP.base) ⟨_, H242⟩ ?_
 revert H242
 generalize World.drew w233 = w241
 intro H242
 refine GX.take (v := .slice A104 r99.length c105) (rs := []) 0 rfl (by kernel_rfl) (fun _ _ => Yl.move rfl) (GX.take (v := .int .i64 ((r99.length : Nat) : Int)) (rs := []) 1 rfl (by kernel_rfl) (fun _ _ => yk) (GX.take (v := .bool (decide (((r99.length : Nat) : Int) = 2))) (rs := []) 2 rfl (by kernel_rfl) (fun _ _ => yk) (GX.take (v := .bool (decide (((r99.length : Nat) : Int) = 2))) (rs := []) 3 rfl (by kernel_rfl) (fun _ _ => Yl.move rfl) ?_)))
 by_cases h243 : ((r99.length : Nat) : Int) = 2
 refine GX.takeG (v := .slice A104 r99.length c105) (rs := []) 4 rfl rfl rfl (dT h243) (by kernel_rfl) (fun _ _ => Yl.move rfl) ?_
 obtain ⟨x244, hx245⟩ := at_of (ls := r99) (i := 1) (by first | omega | (simp; done) | (simp; omega))
 refine GX.takeG (v := .pointer (some ⟨ab A104, ao A104 + 1 * 1, none⟩)) (rs := []) 5 rfl rfl rfl (dT h243) (by kernel_rfl) (fun _ ⟨_, H9⟩ => Yl.indexAddr (El46) rfl rfl ((H9.rds (i := 2) rfl).addr (i := 1) (by omega)) (by omega)) (GX.takeG (v := .int .i64 x244) (rs := []) 6 rfl rfl rfl (dT h243) (by kernel_rfl) (fun _ ⟨_, H9⟩ => Yl.load rfl (Lds.one Try.isAgg3 (((H9.rds (i := 2) rfl).elem eI_len hx245 (by decide)).at_ (k := 0) rfl))) (GX.takeG (v := .bool (decide (x244 = 3))) (rs := []) 7 rfl rfl rfl (dT h243) (by kernel_rfl) (fun _ _ => yk) (GX.take (v := .bool (decide (x244 = 3))) (rs := []) 8 rfl (by kernel_rfl) (fun _ _ => Yl.pickT rfl (dT h243) rfl) (GX.take (v := .bool (decide (x244 = 3))) (rs := []) 9 rfl (by kernel_rfl) (fun _ _ => Yl.move rfl) ?_))))
 by_cases h246 : x244 = 3
 refine GX.takeG (v := .bool r125) (rs := []) 10 rfl rfl rfl (dT h246) (by kernel_rfl) (fun _ _ => Yl.move rfl) (GX.takeG (v := .bool (!r125)) (rs := []) 11 rfl rfl rfl (dT h246) (by kernel_rfl) (fun _ _ => yk) (GX.take (v := .bool (!r125)) (rs := []) 12 rfl (by kernel_rfl) (fun _ _ => Yl.pickT rfl (dT h246) rfl) (GX.take (v := .bool (!r125)) (rs := []) 13 rfl (by kernel_rfl) (fun _ _ => Yl.move rfl) ?_)))
 rcases Bool.eq_false_or_eq_true (r125) with h247 | h247
 refine GX.skipG (rs := []) 14 rfl rfl rfl (cn h247) (by kernel_rfl) (GX.skipG (rs := []) 15 rfl rfl rfl (cn h247) (by kernel_rfl) (GX.skipG (rs := []) 16 rfl rfl rfl (cn h247) (by kernel_rfl) (GX.take (v := .bool false) (rs := []) 17 rfl (by kernel_rfl) (fun _ _ => Yl.pickF rfl (cn h247) rfl) (GX.take (v := .bool false) (rs := []) 18 rfl (by kernel_rfl) (fun _ _ => Yl.move rfl) (GX.skipG (rs := []) 19 rfl rfl rfl rfl (by kernel_rfl) (GX.skipG (rs := []) 20 rfl rfl rfl rfl (by kernel_rfl) (GX.skipG (rs := []) 21 rfl rfl rfl rfl (by kernel_rfl) (GX.skipG (rs := []) 22 rfl rfl rfl rfl (by kernel_rfl) (GX.take (v := .bool false) (rs := []) 23 rfl (by kernel_rfl) (fun _ _ => Yl.pickF rfl rfl rfl) (GX.take (v := .bool false) (rs := []) 24 rfl (by kernel_rfl) (fun _ _ => Yl.move rfl) (GX.skipG (rs := []) 25 rfl rfl rfl rfl (by kernel_rfl) (GX.skipG (rs := []) 26 rfl rfl rfl rfl (by kernel_rfl) (GX.take (v := .bool false) (rs := []) 27 rfl (by kernel_rfl) (fun _ _ => Yl.pickF rfl rfl rfl) (GX.take (v := .bool false) (rs := []) 28 rfl (by kernel_rfl) (fun _ _ => Yl.move rfl) (GX.skipG (rs := []) 29 rfl rfl rfl rfl (by kernel_rfl) (GX.skipG (rs := []) 30 rfl rfl rfl rfl (by kernel_rfl) (GX.skipG (rs := []) 31 rfl rfl rfl rfl (by kernel_rfl) (GX.skipG (rs := []) 32 rfl rfl rfl rfl (by kernel_rfl) (GX.skipG (rs := []) 33 rfl rfl rfl rfl (by kernel_rfl) (GX.take (v := .bool false) (rs := []) 34 rfl (by kernel_rfl) (fun _ _ => Yl.pickF rfl rfl rfl) (GX.take (v := .bool false) (rs := []) 35 rfl (by kernel_rfl) (fun _ _ => Yl.move rfl) (GX.skipG (rs := []) 36 rfl rfl rfl rfl (by kernel_rfl) (GX.skipG (rs := []) 37 rfl rfl rfl rfl (by kernel_rfl) (GX.take (v := .bool false) (rs := []) 38 rfl (by kernel_rfl) (fun _ _ => Yl.pickF rfl rfl rfl) (GX.take (v := .bool false) (rs := []) 39 rfl (by kernel_rfl) (fun _ _ => Yl.move rfl) (GX.skipG (rs := []) 40 rfl rfl rfl rfl (by kernel_rfl) (GX.skipG (rs := []) 41 rfl rfl rfl rfl (by kernel_rfl) (GX.take (v := .bool false) (rs := []) 42 rfl (by kernel_rfl) (fun _ _ => Yl.pickF rfl rfl rfl) (GX.take (v := .bool false) (rs := []) 43 rfl (by kernel_rfl) (fun _ _ => Yl.move rfl) (GX.skipG (rs := []) 44 rfl rfl rfl rfl (by kernel_rfl) (GX.skipG (rs := []) 45 rfl rfl rfl rfl (by kernel_rfl) (GX.take (v := .bool false) (rs := []) 46 rfl (by kernel_rfl) (fun _ _ => Yl.pickF rfl rfl rfl) (GX.take (v := .bool false) (rs := []) 47 rfl (by kernel_rfl) (fun _ _ => Yl.move rfl) (GX.skipG (rs := []) 48 rfl rfl rfl rfl (by kernel_rfl) (GX.skipG (rs := []) 49 rfl rfl rfl rfl (by kernel_rfl) (GX.take (v := .bool false) (rs := []) 50 rfl (by kernel_rfl) (fun _ _ => Yl.pickF rfl rfl rfl) (GX.take (v := .bool false) (rs := []) 51 rfl (by kernel_rfl) (fun _ _ => Yl.assign rfl) (GX.done (by kernel_rfl) (Fin.then ?_)))))))))))))))))))))))))))))))))))))))
 refine rt (rs ?_)
 have H248 := H242.pk []
 obtain rfl : _ = false := hr.symm.trans (et (bnd_of hm33) (et (bnd_of hr42) (et (bnd_of hr58) (et (bnd_of hr71) (et (bnd_of hr87) (et (bnd_of hr100) (et (bnd_of hr115) (et (bnd_of hr126) (et (bnd_of hr136) (et (bnd_of hr148) (et (bnd_of hr164) (et (bnd_of hr179) (et (bnd_of hr190) (et (bnd_of hr206) (et (bnd_of hr220) (et (bnd_of hr232) (et (ip h243) (et (bnd_of (getD_of hx245)) (et (ip h246) (ip h247))))))))))))))))))))
 exact ⟨rfl, H248⟩
 refine GX.takeG (v := .slice A152 r146.length c153) (rs := []) 14 rfl rfl rfl (cn h247) (by kernel_rfl) (fun _ _ => Yl.move rfl) (GX.takeG (v := .int .i64 ((r146.length : Nat) : Int)) (rs := []) 15 rfl rfl rfl (cn h247) (by kernel_rfl) (fun _ _ => yk) (GX.takeG (v := .bool (decide (((r146.length : Nat) : Int) = 64))) (rs := []) 16 rfl rfl rfl (cn h247) (by kernel_rfl) (fun _ _ => yk) (GX.take (v := .bool (decide (((r146.length : Nat) : Int) = 64))) (rs := []) 17 rfl (by kernel_rfl) (fun _ _ => Yl.pickT rfl (cn h247) rfl) (GX.take (v := .bool (decide (((r146.length : Nat) : Int) = 64))) (rs := []) 18 rfl (by kernel_rfl) (fun _ _ => Yl.move rfl) ?_))))
 by_cases h249 : ((r146.length : Nat) : Int) = 64
 refine GX.takeG (v := .slice A152 r146.length c153) (rs := []) 19 rfl rfl rfl (dT h249) (by kernel_rfl) (fun _ _ => Yl.move rfl) ?_
 obtain ⟨x250, hx251⟩ := at_of (ls := r146) (i := 1) (by first | omega | (simp; done) | (simp; omega))
 refine GX.takeG (v := .pointer (some ⟨ab A152, ao A152 + 1 * 1, none⟩)) (rs := []) 20 rfl rfl rfl (dT h249) (by kernel_rfl) (fun _ ⟨_, H9⟩ => Yl.indexAddr (El33) rfl rfl ((H9.rds (i := 1) rfl).addr (i := 1) (by omega)) (by omega)) (GX.takeG (v := .int .u8 ((x250.toNat : Nat) : Int)) (rs := []) 21 rfl rfl rfl (dT h249) (by kernel_rfl) (fun _ ⟨_, H9⟩ => Yl.load rfl (Lds.one Try.isAgg5 (((H9.rds (i := 1) rfl).elem eB_len hx251 (by decide)).at_ (k := 0) rfl))) (GX.takeG (v := .bool (decide (((x250.toNat : Nat) : Int) = 0))) (rs := []) 22 rfl rfl rfl (dT h249) (by kernel_rfl) (fun _ _ => yk) (GX.take (v := .bool (decide (((x250.toNat : Nat) : Int) = 0))) (rs := []) 23 rfl (by kernel_rfl) (fun _ _ => Yl.pickT rfl (dT h249) rfl) (GX.take (v := .bool (decide (((x250.toNat : Nat) : Int) = 0))) (rs := []) 24 rfl (by kernel_rfl) (fun _ _ => Yl.move rfl) ?_))))
 by_cases h252 : ((x250.toNat : Nat) : Int) = 0
 refine GX.takeG (v := .int .i64 r147) (rs := []) 25 rfl rfl rfl (dT h252) (by kernel_rfl) (fun _ _ => Yl.move rfl) (GX.takeG (v := .bool (decide (r147 = 0))) (rs := []) 26 rfl rfl rfl (dT h252) (by kernel_rfl) (fun _ _ => yk) (GX.take (v := .bool (decide (r147 = 0))) (rs := []) 27 rfl (by kernel_rfl) (fun _ _ => Yl.pickT rfl (dT h252) rfl) (GX.take (v := .bool (decide (r147 = 0))) (rs := []) 28 rfl (by kernel_rfl) (fun _ _ => Yl.move rfl) ?_)))
 by_cases h253 : r147 = 0
 refine GX.takeG (v := .slice A168 r162.length c169) (rs := []) 29 rfl rfl rfl (dT h253) (by kernel_rfl) (fun _ _ => Yl.move rfl) (GX.takeG (v := .string ⟨List.toArray r162⟩) (rs := []) 30 rfl rfl rfl (dT h253) (by kernel_rfl) (fun _ ⟨_, H9⟩ => Yl.toStringE (l := r162) Try.underlying33 Try.underlying5 Try.underlying9 (H9.rds (i := 0) rfl) rfl) ?_)
 obtain ⟨r259, hr260⟩ : ∃ q, w06_full (9 : UInt8) = q := ⟨_, rfl⟩
 obtain ⟨D254, HP255, ro256, bk257, rr258⟩ := Own.enter0 H242
 refine GX.doG 31 rfl rfl rfl (dT h253) (by kernel_rfl) (Do.call Try.call11 rfl (w06_full_ok _ _ (9 : UInt8) r259 HP255 hr260) ?_)
 rintro _ w261 ⟨A264, c265, rfl, HQ262, hk266⟩
 have H263 := bk257 _ _ HQ262
 have hb267 := H263.rowC (i := 0) rfl
 replace hk266 : r259.length = 64 := hk266
 have H268 := H263.pk [1, 2, 3, 0]
 refine ⟨.inr ⟨_, H268⟩, ?_⟩
 refine GX.more (Good' := fun W => ∃ L', Own w D W ([row A168 r162.length c169 (List.flatMap eB r162) 61 1, row A152 r146.length c153 (List.flatMap eB r146) 61 1, row A104 r99.length c105 (List.flatMap (eI .i64) r99) 3 1, row A264 r259.length c265 (List.flatMap eB r259) 5 1] ++ L')) (fun _ ⟨L', h⟩ => ⟨[row A264 r259.length c265 (List.flatMap eB r259) 5 1] ++ L', h⟩) ⟨_, H268⟩ (GX.takeG (v := .string ⟨List.toArray r259⟩) (rs := []) 32 rfl rfl rfl (dT h253) (by kernel_rfl) (fun _ ⟨_, H9⟩ => Yl.toStringE (l := r259) Try.underlying33 Try.underlying5 Try.underlying9 (H9.rds (i := 3) rfl) rfl) (GX.takeG (v := .bool (decide (r162 = r259))) (rs := []) 33 rfl rfl rfl (dT h253) (by kernel_rfl) (fun _ _ => Yl.strEq rfl rfl) (GX.take (v := .bool (decide (r162 = r259))) (rs := []) 34 rfl (by kernel_rfl) (fun _ _ => Yl.pickT rfl (dT h253) rfl) (GX.take (v := .bool (decide (r162 = r259))) (rs := []) 35 rfl (by kernel_rfl) (fun _ _ => Yl.move rfl) ?_))))
 by_cases h269 : r162 = r259
 refine GX.takeG (v := .int .i64 r163) (rs := []) 36 rfl rfl rfl (dT h269) (by kernel_rfl) (fun _ _ => Yl.move rfl) (GX.takeG (v := .bool (decide (r163 = 0))) (rs := []) 37 rfl rfl rfl (dT h269) (by kernel_rfl) (fun _ _ => yk) (GX.take (v := .bool (decide (r163 = 0))) (rs := []) 38 rfl (by kernel_rfl) (fun _ _ => Yl.pickT rfl (dT h269) rfl) (GX.take (v := .bool (decide (r163 = 0))) (rs := []) 39 rfl (by kernel_rfl) (fun _ _ => Yl.move rfl) ?_)))
 by_cases h270 : r163 = 0
 refine GX.takeG (v := .int .i64 r204) (rs := []) 40 rfl rfl rfl (dT h270) (by kernel_rfl) (fun _ _ => Yl.move rfl) (GX.takeG (v := .bool (decide (r204 = 0))) (rs := []) 41 rfl rfl rfl (dT h270) (by kernel_rfl) (fun _ _ => yk) (GX.take (v := .bool (decide (r204 = 0))) (rs := []) 42 rfl (by kernel_rfl) (fun _ _ => Yl.pickT rfl (dT h270) rfl) (GX.take (v := .bool (decide (r204 = 0))) (rs := []) 43 rfl (by kernel_rfl) (fun _ _ => Yl.move rfl) ?_)))
 by_cases h271 : r204 = 0
 refine GX.takeG (v := .int .i64 r218) (rs := []) 44 rfl rfl rfl (dT h271) (by kernel_rfl) (fun _ _ => Yl.move rfl) (GX.takeG (v := .bool (decide (r218 = 60))) (rs := []) 45 rfl rfl rfl (dT h271) (by kernel_rfl) (fun _ _ => yk) (GX.take (v := .bool (decide (r218 = 60))) (rs := []) 46 rfl (by kernel_rfl) (fun _ _ => Yl.pickT rfl (dT h271) rfl) (GX.take (v := .bool (decide (r218 = 60))) (rs := []) 47 rfl (by kernel_rfl) (fun _ _ => Yl.move rfl) ?_)))
 by_cases h272 : r218 = 60
 refine GX.takeG (v := .int .i64 r231) (rs := []) 48 rfl rfl rfl (dT h272) (by kernel_rfl) (fun _ _ => Yl.move rfl) (GX.takeG (v := .bool (decide (r231 = 60))) (rs := []) 49 rfl rfl rfl (dT h272) (by kernel_rfl) (fun _ _ => yk) (GX.take (v := .bool (decide (r231 = 60))) (rs := []) 50 rfl (by kernel_rfl) (fun _ _ => Yl.pickT rfl (dT h272) rfl) (GX.take (v := .bool (decide (r231 = 60))) (rs := []) 51 rfl (by kernel_rfl) (fun _ _ => Yl.assign rfl) (GX.done (by kernel_rfl) (Fin.then (rt (rs ?_)))))))
 have H273 := H268.pk []
 obtain rfl : _ = decide (r231 = 60) := hr.symm.trans (et (bnd_of hm33) (et (bnd_of hr42) (et (bnd_of hr58) (et (bnd_of hr71) (et (bnd_of hr87) (et (bnd_of hr100) (et (bnd_of hr115) (et (bnd_of hr126) (et (bnd_of hr136) (et (bnd_of hr148) (et (bnd_of hr164) (et (bnd_of hr179) (et (bnd_of hr190) (et (bnd_of hr206) (et (bnd_of hr220) (et (bnd_of hr232) (et (ip h243) (et (bnd_of (getD_of hx245)) (et (ip h246) (et (ifF h247) (et (ip h249) (et (bnd_of (getD_of hx251)) (et (ip h252) (et (ip h253) (et (bnd_of hr260) (et (ip h269) (et (ip h270) (et (ip h271) (ip h272)))))))))))))))))))))))))))))
 exact ⟨rfl, H273⟩
 refine GX.skipG (rs := []) 48 rfl rfl rfl (dF h272) (by kernel_rfl) (GX.skipG (rs := []) 49 rfl rfl rfl (dF h272) (by kernel_rfl) (GX.take (v := .bool false) (rs := []) 50 rfl (by kernel_rfl) (fun _ _ => Yl.pickF rfl (dF h272) rfl) (GX.take (v := .bool false) (rs := []) 51 rfl (by kernel_rfl) (fun _ _ => Yl.assign rfl) (GX.done (by kernel_rfl) (Fin.then (rt (rs ?_)))))))
 have H274 := H268.pk []
 obtain rfl : _ = false := hr.symm.trans (et (bnd_of hm33) (et (bnd_of hr42) (et (bnd_of hr58) (et (bnd_of hr71) (et (bnd_of hr87) (et (bnd_of hr100) (et (bnd_of hr115) (et (bnd_of hr126) (et (bnd_of hr136) (et (bnd_of hr148) (et (bnd_of hr164) (et (bnd_of hr179) (et (bnd_of hr190) (et (bnd_of hr206) (et (bnd_of hr220) (et (bnd_of hr232) (et (ip h243) (et (bnd_of (getD_of hx245)) (et (ip h246) (et (ifF h247) (et (ip h249) (et (bnd_of (getD_of hx251)) (et (ip h252) (et (ip h253) (et (bnd_of hr260) (et (ip h269) (et (ip h270) (et (ip h271) (iN h272)))))))))))))))))))))))))))))
 exact ⟨rfl, H274⟩
 refine GX.skipG (rs := []) 44 rfl rfl rfl (dF h271) (by kernel_rfl) (GX.skipG (rs := []) 45 rfl rfl rfl (dF h271) (by kernel_rfl) (GX.take (v := .bool false) (rs := []) 46 rfl (by kernel_rfl) (fun _ _ => Yl.pickF rfl (dF h271) rfl) (GX.take (v := .bool false) (rs := []) 47 rfl (by kernel_rfl) (fun _ _ => Yl.move rfl) (GX.skipG (rs := []) 48 rfl rfl rfl rfl (by kernel_rfl) (GX.skipG (rs := []) 49 rfl rfl rfl rfl (by kernel_rfl) (GX.take (v := .bool false) (rs := []) 50 rfl (by kernel_rfl) (fun _ _ => Yl.pickF rfl rfl rfl) (GX.take (v := .bool false) (rs := []) 51 rfl (by kernel_rfl) (fun _ _ => Yl.assign rfl) (GX.done (by kernel_rfl) (Fin.then (rt (rs ?_)))))))))))
 have H275 := H268.pk []
 obtain rfl : _ = false := hr.symm.trans (et (bnd_of hm33) (et (bnd_of hr42) (et (bnd_of hr58) (et (bnd_of hr71) (et (bnd_of hr87) (et (bnd_of hr100) (et (bnd_of hr115) (et (bnd_of hr126) (et (bnd_of hr136) (et (bnd_of hr148) (et (bnd_of hr164) (et (bnd_of hr179) (et (bnd_of hr190) (et (bnd_of hr206) (et (bnd_of hr220) (et (bnd_of hr232) (et (ip h243) (et (bnd_of (getD_of hx245)) (et (ip h246) (et (ifF h247) (et (ip h249) (et (bnd_of (getD_of hx251)) (et (ip h252) (et (ip h253) (et (bnd_of hr260) (et (ip h269) (et (ip h270) (iN h271))))))))))))))))))))))))))))
 exact ⟨rfl, H275⟩
 refine GX.skipG (rs := []) 40 rfl rfl rfl (dF h270) (by kernel_rfl) (GX.skipG (rs := []) 41 rfl rfl rfl (dF h270) (by kernel_rfl) (GX.take (v := .bool false) (rs := []) 42 rfl (by kernel_rfl) (fun _ _ => Yl.pickF rfl (dF h270) rfl) (GX.take (v := .bool false) (rs := []) 43 rfl (by kernel_rfl) (fun _ _ => Yl.move rfl) (GX.skipG (rs := []) 44 rfl rfl rfl rfl (by kernel_rfl) (GX.skipG (rs := []) 45 rfl rfl rfl rfl (by kernel_rfl) (GX.take (v := .bool false) (rs := []) 46 rfl (by kernel_rfl) (fun _ _ => Yl.pickF rfl rfl rfl) (GX.take (v := .bool false) (rs := []) 47 rfl (by kernel_rfl) (fun _ _ => Yl.move rfl) (GX.skipG (rs := []) 48 rfl rfl rfl rfl (by kernel_rfl) (GX.skipG (rs := []) 49 rfl rfl rfl rfl (by kernel_rfl) (GX.take (v := .bool false) (rs := []) 50 rfl (by kernel_rfl) (fun _ _ => Yl.pickF rfl rfl rfl) (GX.take (v := .bool false) (rs := []) 51 rfl (by kernel_rfl) (fun _ _ => Yl.assign rfl) (GX.done (by kernel_rfl) (Fin.then (rt (rs ?_)))))))))))))))
 have H276 := H268.pk []
 obtain rfl : _ = false := hr.symm.trans (et (bnd_of hm33) (et (bnd_of hr42) (et (bnd_of hr58) (et (bnd_of hr71) (et (bnd_of hr87) (et (bnd_of hr100) (et (bnd_of hr115) (et (bnd_of hr126) (et (bnd_of hr136) (et (bnd_of hr148) (et (bnd_of hr164) (et (bnd_of hr179) (et (bnd_of hr190) (et (bnd_of hr206) (et (bnd_of hr220) (et (bnd_of hr232) (et (ip h243) (et (bnd_of (getD_of hx245)) (et (ip h246) (et (ifF h247) (et (ip h249) (et (bnd_of (getD_of hx251)) (et (ip h252) (et (ip h253) (et (bnd_of hr260) (et (ip h269) (iN h270)))))))))))))))))))))))))))
 exact ⟨rfl, H276⟩
 refine GX.skipG (rs := []) 36 rfl rfl rfl (dF h269) (by kernel_rfl) (GX.skipG (rs := []) 37 rfl rfl rfl (dF h269) (by kernel_rfl) (GX.take (v := .bool false) (rs := []) 38 rfl (by kernel_rfl) (fun _ _ => Yl.pickF rfl (dF h269) rfl) (GX.take (v := .bool false) (rs := []) 39 rfl (by kernel_rfl) (fun _ _ => Yl.move rfl) (GX.skipG (rs := []) 40 rfl rfl rfl rfl (by kernel_rfl) (GX.skipG (rs := []) 41 rfl rfl rfl rfl (by kernel_rfl) (GX.take (v := .bool false) (rs := []) 42 rfl (by kernel_rfl) (fun _ _ => Yl.pickF rfl rfl rfl) (GX.take (v := .bool false) (rs := []) 43 rfl (by kernel_rfl) (fun _ _ => Yl.move rfl) (GX.skipG (rs := []) 44 rfl rfl rfl rfl (by kernel_rfl) (GX.skipG (rs := []) 45 rfl rfl rfl rfl (by kernel_rfl) (GX.take (v := .bool false) (rs := []) 46 rfl (by kernel_rfl) (fun _ _ => Yl.pickF rfl rfl rfl) (GX.take (v := .bool false) (rs := []) 47 rfl (by kernel_rfl) (fun _ _ => Yl.move rfl) (GX.skipG (rs := []) 48 rfl rfl rfl rfl (by kernel_rfl) (GX.skipG (rs := []) 49 rfl rfl rfl rfl (by kernel_rfl) (GX.take (v := .bool false) (rs := []) 50 rfl (by kernel_rfl) (fun _ _ => Yl.pickF rfl rfl rfl) (GX.take (v := .bool false) (rs := []) 51 rfl (by kernel_rfl) (fun _ _ => Yl.assign rfl) (GX.done (by kernel_rfl) (Fin.then (rt (rs ?_)))))))))))))))))))
 have H277 := H268.pk []
 obtain rfl : _ = false := hr.symm.trans (et (bnd_of hm33) (et (bnd_of hr42) (et (bnd_of hr58) (et (bnd_of hr71) (et (bnd_of hr87) (et (bnd_of hr100) (et (bnd_of hr115) (et (bnd_of hr126) (et (bnd_of hr136) (et (bnd_of hr148) (et (bnd_of hr164) (et (bnd_of hr179) (et (bnd_of hr190) (et (bnd_of hr206) (et (bnd_of hr220) (et (bnd_of hr232) (et (ip h243) (et (bnd_of (getD_of hx245)) (et (ip h246) (et (ifF h247) (et (ip h249) (et (bnd_of (getD_of hx251)) (et (ip h252) (et (ip h253) (et (bnd_of hr260) (iN h269))))))))))))))))))))))))))
 exact ⟨rfl, H277⟩
 refine GX.skipG (rs := []) 29 rfl rfl rfl (dF h253) (by kernel_rfl) (GX.skipG (rs := []) 30 rfl rfl rfl (dF h253) (by kernel_rfl) (GX.skipG (rs := []) 31 rfl rfl rfl (dF h253) (by kernel_rfl) (GX.skipG (rs := []) 32 rfl rfl rfl (dF h253) (by kernel_rfl) (GX.skipG (rs := []) 33 rfl rfl rfl (dF h253) (by kernel_rfl) (GX.take (v := .bool false) (rs := []) 34 rfl (by kernel_rfl) (fun _ _ => Yl.pickF rfl (dF h253) rfl) (GX.take (v := .bool false) (rs := []) 35 rfl (by kernel_rfl) (fun _ _ => Yl.move rfl) (GX.skipG (rs := []) 36 rfl rfl rfl rfl (by kernel_rfl) (GX.skipG (rs := []) 37 rfl rfl rfl rfl (by kernel_rfl) (GX.take (v := .bool false) (rs := []) 38 rfl (by kernel_rfl) (fun _ _ => Yl.pickF rfl rfl rfl) (GX.take (v := .bool false) (rs := []) 39 rfl (by kernel_rfl) (fun _ _ => Yl.move rfl) (GX.skipG (rs := []) 40 rfl rfl rfl rfl (by kernel_rfl) (GX.skipG (rs := []) 41 rfl rfl rfl rfl (by kernel_rfl) (GX.take (v := .bool false) (rs := []) 42 rfl (by kernel_rfl) (fun _ _ => Yl.pickF rfl rfl rfl) (GX.take (v := .bool false) (rs := []) 43 rfl (by kernel_rfl) (fun _ _ => Yl.move rfl) (GX.skipG (rs := []) 44 rfl rfl rfl rfl (by kernel_rfl) (GX.skipG (rs := []) 45 rfl rfl rfl rfl (by kernel_rfl) (GX.take (v := .bool false) (rs := []) 46 rfl (by kernel_rfl) (fun _ _ => Yl.pickF rfl rfl rfl) (GX.take (v := .bool false) (rs := []) 47 rfl (by kernel_rfl) (fun _ _ => Yl.move rfl) (GX.skipG (rs := []) 48 rfl rfl rfl rfl (by kernel_rfl) (GX.skipG (rs := []) 49 rfl rfl rfl rfl (by kernel_rfl) (GX.take (v := .bool false) (rs := []) 50 rfl (by kernel_rfl) (fun _ _ => Yl.pickF rfl rfl rfl) (GX.take (v := .bool false) (rs := []) 51 rfl (by kernel_rfl) (fun _ _ => Yl.assign rfl) (GX.done (by kernel_rfl) (Fin.then (rt (rs ?_))))))))))))))))))))))))))
 have H278 := H242.pk []
 obtain rfl : _ = false := hr.symm.trans (et (bnd_of hm33) (et (bnd_of hr42) (et (bnd_of hr58) (et (bnd_of hr71) (et (bnd_of hr87) (et (bnd_of hr100) (et (bnd_of hr115) (et (bnd_of hr126) (et (bnd_of hr136) (et (bnd_of hr148) (et (bnd_of hr164) (et (bnd_of hr179) (et (bnd_of hr190) (et (bnd_of hr206) (et (bnd_of hr220) (et (bnd_of hr232) (et (ip h243) (et (bnd_of (getD_of hx245)) (et (ip h246) (et (ifF h247) (et (ip h249) (et (bnd_of (getD_of hx251)) (et (ip h252) (iN h253))))))))))))))))))))))))
 exact ⟨rfl, H278⟩
 refine GX.skipG (rs := []) 25 rfl rfl rfl (dF h252) (by kernel_rfl) (GX.skipG (rs := []) 26 rfl rfl rfl (dF h252) (by kernel_rfl) (GX.take (v := .bool false) (rs := []) 27 rfl (by kernel_rfl) (fun _ _ => Yl.pickF rfl (dF h252) rfl) (GX.take (v := .bool false) (rs := []) 28 rfl (by kernel_rfl) (fun _ _ => Yl.move rfl) (GX.skipG (rs := []) 29 rfl rfl rfl rfl (by kernel_rfl) (GX.skipG (rs := []) 30 rfl rfl rfl rfl (by kernel_rfl) (GX.skipG (rs := []) 31 rfl rfl rfl rfl (by kernel_rfl) (GX.skipG (rs := []) 32 rfl rfl rfl rfl (by kernel_rfl) (GX.skipG (rs := []) 33 rfl rfl rfl rfl (by kernel_rfl) (GX.take (v := .bool false) (rs := []) 34 rfl (by kernel_rfl) (fun _ _ => Yl.pickF rfl rfl rfl) (GX.take (v := .bool false) (rs := []) 35 rfl (by kernel_rfl) (fun _ _ => Yl.move rfl) (GX.skipG (rs := []) 36 rfl rfl rfl rfl (by kernel_rfl) (GX.skipG (rs := []) 37 rfl rfl rfl rfl (by kernel_rfl) (GX.take (v := .bool false) (rs := []) 38 rfl (by kernel_rfl) (fun _ _ => Yl.pickF rfl rfl rfl) (GX.take (v := .bool false) (rs := []) 39 rfl (by kernel_rfl) (fun _ _ => Yl.move rfl) (GX.skipG (rs := []) 40 rfl rfl rfl rfl (by kernel_rfl) (GX.skipG (rs := []) 41 rfl rfl rfl rfl (by kernel_rfl) (GX.take (v := .bool false) (rs := []) 42 rfl (by kernel_rfl) (fun _ _ => Yl.pickF rfl rfl rfl) (GX.take (v := .bool false) (rs := []) 43 rfl (by kernel_rfl) (fun _ _ => Yl.move rfl) (GX.skipG (rs := []) 44 rfl rfl rfl rfl (by kernel_rfl) (GX.skipG (rs := []) 45 rfl rfl rfl rfl (by kernel_rfl) (GX.take (v := .bool false) (rs := []) 46 rfl (by kernel_rfl) (fun _ _ => Yl.pickF rfl rfl rfl) (GX.take (v := .bool false) (rs := []) 47 rfl (by kernel_rfl) (fun _ _ => Yl.move rfl) (GX.skipG (rs := []) 48 rfl rfl rfl rfl (by kernel_rfl) (GX.skipG (rs := []) 49 rfl rfl rfl rfl (by kernel_rfl) (GX.take (v := .bool false) (rs := []) 50 rfl (by kernel_rfl) (fun _ _ => Yl.pickF rfl rfl rfl) (GX.take (v := .bool false) (rs := []) 51 rfl (by kernel_rfl) (fun _ _ => Yl.assign rfl) (GX.done (by kernel_rfl) (Fin.then (rt (rs ?_))))))))))))))))))))))))))))))
 have H279 := H242.pk []
 obtain rfl : _ = false := hr.symm.trans (et (bnd_of hm33) (et (bnd_of hr42) (et (bnd_of hr58) (et (bnd_of hr71) (et (bnd_of hr87) (et (bnd_of hr100) (et (bnd_of hr115) (et (bnd_of hr126) (et (bnd_of hr136) (et (bnd_of hr148) (et (bnd_of hr164) (et (bnd_of hr179) (et (bnd_of hr190) (et (bnd_of hr206) (et (bnd_of hr220) (et (bnd_of hr232) (et (ip h243) (et (bnd_of (getD_of hx245)) (et (ip h246) (et (ifF h247) (et (ip h249) (et (bnd_of (getD_of hx251)) (iN h252)))))))))))))))))))))))
 exact ⟨rfl, H279⟩
 refine GX.skipG (rs := []) 19 rfl rfl rfl (dF h249) (by kernel_rfl) (GX.skipG (rs := []) 20 rfl rfl rfl (dF h249) (by kernel_rfl) (GX.skipG (rs := []) 21 rfl rfl rfl (dF h249) (by kernel_rfl) (GX.skipG (rs := []) 22 rfl rfl rfl (dF h249) (by kernel_rfl) (GX.take (v := .bool false) (rs := []) 23 rfl (by kernel_rfl) (fun _ _ => Yl.pickF rfl (dF h249) rfl) (GX.take (v := .bool false) (rs := []) 24 rfl (by kernel_rfl) (fun _ _ => Yl.move rfl) (GX.skipG (rs := []) 25 rfl rfl rfl rfl (by kernel_rfl) (GX.skipG (rs := []) 26 rfl rfl rfl rfl (by kernel_rfl) (GX.take (v := .bool false) (rs := []) 27 rfl (by kernel_rfl) (fun _ _ => Yl.pickF rfl rfl rfl) (GX.take (v := .bool false) (rs := []) 28 rfl (by kernel_rfl) (fun _ _ => Yl.move rfl) (GX.skipG (rs := []) 29 rfl rfl rfl rfl (by kernel_rfl) (GX.skipG (rs := []) 30 rfl rfl rfl rfl (by kernel_rfl) (GX.skipG (rs := []) 31 rfl rfl rfl rfl (by kernel_rfl) (GX.skipG (rs := []) 32 rfl rfl rfl rfl (by kernel_rfl) (GX.skipG (rs := []) 33 rfl rfl rfl rfl (by kernel_rfl) (GX.take (v := .bool false) (rs := []) 34 rfl (by kernel_rfl) (fun _ _ => Yl.pickF rfl rfl rfl) (GX.take (v := .bool false) (rs := []) 35 rfl (by kernel_rfl) (fun _ _ => Yl.move rfl) (GX.skipG (rs := []) 36 rfl rfl rfl rfl (by kernel_rfl) (GX.skipG (rs := []) 37 rfl rfl rfl rfl (by kernel_rfl) (GX.take (v := .bool false) (rs := []) 38 rfl (by kernel_rfl) (fun _ _ => Yl.pickF rfl rfl rfl) (GX.take (v := .bool false) (rs := []) 39 rfl (by kernel_rfl) (fun _ _ => Yl.move rfl) (GX.skipG (rs := []) 40 rfl rfl rfl rfl (by kernel_rfl) (GX.skipG (rs := []) 41 rfl rfl rfl rfl (by kernel_rfl) (GX.take (v := .bool false) (rs := []) 42 rfl (by kernel_rfl) (fun _ _ => Yl.pickF rfl rfl rfl) (GX.take (v := .bool false) (rs := []) 43 rfl (by kernel_rfl) (fun _ _ => Yl.move rfl) (GX.skipG (rs := []) 44 rfl rfl rfl rfl (by kernel_rfl) (GX.skipG (rs := []) 45 rfl rfl rfl rfl (by kernel_rfl) (GX.take (v := .bool false) (rs := []) 46 rfl (by kernel_rfl) (fun _ _ => Yl.pickF rfl rfl rfl) (GX.take (v := .bool false) (rs := []) 47 rfl (by kernel_rfl) (fun _ _ => Yl.move rfl) (GX.skipG (rs := []) 48 rfl rfl rfl rfl (by kernel_rfl) (GX.skipG (rs := []) 49 rfl rfl rfl rfl (by kernel_rfl) (GX.take (v := .bool false) (rs := []) 50 rfl (by kernel_rfl) (fun _ _ => Yl.pickF rfl rfl rfl) (GX.take (v := .bool false) (rs := []) 51 rfl (by kernel_rfl) (fun _ _ => Yl.assign rfl) (GX.done (by kernel_rfl) (Fin.then (rt (rs ?_))))))))))))))))))))))))))))))))))))
 have H280 := H242.pk []
 obtain rfl : _ = false := hr.symm.trans (et (bnd_of hm33) (et (bnd_of hr42) (et (bnd_of hr58) (et (bnd_of hr71) (et (bnd_of hr87) (et (bnd_of hr100) (et (bnd_of hr115) (et (bnd_of hr126) (et (bnd_of hr136) (et (bnd_of hr148) (et (bnd_of hr164) (et (bnd_of hr179) (et (bnd_of hr190) (et (bnd_of hr206) (et (bnd_of hr220) (et (bnd_of hr232) (et (ip h243) (et (bnd_of (getD_of hx245)) (et (ip h246) (et (ifF h247) (iN h249)))))))))))))))))))))
 exact ⟨rfl, H280⟩
 refine GX.skipG (rs := []) 10 rfl rfl rfl (dF h246) (by kernel_rfl) (GX.skipG (rs := []) 11 rfl rfl rfl (dF h246) (by kernel_rfl) (GX.take (v := .bool false) (rs := []) 12 rfl (by kernel_rfl) (fun _ _ => Yl.pickF rfl (dF h246) rfl) (GX.take (v := .bool false) (rs := []) 13 rfl (by kernel_rfl) (fun _ _ => Yl.move rfl) (GX.skipG (rs := []) 14 rfl rfl rfl rfl (by kernel_rfl) (GX.skipG (rs := []) 15 rfl rfl rfl rfl (by kernel_rfl) (GX.skipG (rs := []) 16 rfl rfl rfl rfl (by kernel_rfl) (GX.take (v := .bool false) (rs := []) 17 rfl (by kernel_rfl) (fun _ _ => Yl.pickF rfl rfl rfl) (GX.take (v := .bool false) (rs := []) 18 rfl (by kernel_rfl) (fun _ _ => Yl.move rfl) (GX.skipG (rs := []) 19 rfl rfl rfl rfl (by kernel_rfl) (GX.skipG (rs := []) 20 rfl rfl rfl rfl (by kernel_rfl) (GX.skipG (rs := []) 21 rfl rfl rfl rfl (by kernel_rfl) (GX.skipG (rs := []) 22 rfl rfl rfl rfl (by kernel_rfl) (GX.take (v := .bool false) (rs := []) 23 rfl (by kernel_rfl) (fun _ _ => Yl.pickF rfl rfl rfl) (GX.take (v := .bool false) (rs := []) 24 rfl (by kernel_rfl) (fun _ _ => Yl.move rfl) (GX.skipG (rs := []) 25 rfl rfl rfl rfl (by kernel_rfl) (GX.skipG (rs := []) 26 rfl rfl rfl rfl (by kernel_rfl) (GX.take (v := .bool false) (rs := []) 27 rfl (by kernel_rfl) (fun _ _ => Yl.pickF rfl rfl rfl) (GX.take (v := .bool false) (rs := []) 28 rfl (by kernel_rfl) (fun _ _ => Yl.move rfl) (GX.skipG (rs := []) 29 rfl rfl rfl rfl (by kernel_rfl) (GX.skipG (rs := []) 30 rfl rfl rfl rfl (by kernel_rfl) (GX.skipG (rs := []) 31 rfl rfl rfl rfl (by kernel_rfl) (GX.skipG (rs := []) 32 rfl rfl rfl rfl (by kernel_rfl) (GX.skipG (rs := []) 33 rfl rfl rfl rfl (by kernel_rfl) (GX.take (v := .bool false) (rs := []) 34 rfl (by kernel_rfl) (fun _ _ => Yl.pickF rfl rfl rfl) (GX.take (v := .bool false) (rs := []) 35 rfl (by kernel_rfl) (fun _ _ => Yl.move rfl) (GX.skipG (rs := []) 36 rfl rfl rfl rfl (by kernel_rfl) (GX.skipG (rs := []) 37 rfl rfl rfl rfl (by kernel_rfl) (GX.take (v := .bool false) (rs := []) 38 rfl (by kernel_rfl) (fun _ _ => Yl.pickF rfl rfl rfl) (GX.take (v := .bool false) (rs := []) 39 rfl (by kernel_rfl) (fun _ _ => Yl.move rfl) (GX.skipG (rs := []) 40 rfl rfl rfl rfl (by kernel_rfl) (GX.skipG (rs := []) 41 rfl rfl rfl rfl (by kernel_rfl) (GX.take (v := .bool false) (rs := []) 42 rfl (by kernel_rfl) (fun _ _ => Yl.pickF rfl rfl rfl) (GX.take (v := .bool false) (rs := []) 43 rfl (by kernel_rfl) (fun _ _ => Yl.move rfl) (GX.skipG (rs := []) 44 rfl rfl rfl rfl (by kernel_rfl) (GX.skipG (rs := []) 45 rfl rfl rfl rfl (by kernel_rfl) (GX.take (v := .bool false) (rs := []) 46 rfl (by kernel_rfl) (fun _ _ => Yl.pickF rfl rfl rfl) (GX.take (v := .bool false) (rs := []) 47 rfl (by kernel_rfl) (fun _ _ => Yl.move rfl) (GX.skipG (rs := []) 48 rfl rfl rfl rfl (by kernel_rfl) (GX.skipG (rs := []) 49 rfl rfl rfl rfl (by kernel_rfl) ?_)))))))))))))))))))))))))))))))))))))))
 refine GX.take (v := .bool false) (rs := []) 50 rfl (by kernel_rfl) (fun _ _ => Yl.pickF rfl rfl rfl) (GX.take (v := .bool false) (rs := []) 51 rfl (by kernel_rfl) (fun _ _ => Yl.assign rfl) (GX.done (by kernel_rfl) (Fin.then (rt (rs ?_)))))
 have H281 := H242.pk []
 obtain rfl : _ = false := hr.symm.trans (et (bnd_of hm33) (et (bnd_of hr42) (et (bnd_of hr58) (et (bnd_of hr71) (et (bnd_of hr87) (et (bnd_of hr100) (et (bnd_of hr115) (et (bnd_of hr126) (et (bnd_of hr136) (et (bnd_of hr148) (et (bnd_of hr164) (et (bnd_of hr179) (et (bnd_of hr190) (et (bnd_of hr206) (et (bnd_of hr220) (et (bnd_of hr232) (et (ip h243) (et (bnd_of (getD_of hx245)) (iN h246)))))))))))))))))))
 exact ⟨rfl, H281⟩
 refine GX.skipG (rs := []) 4 rfl rfl rfl (dF h243) (by kernel_rfl) (GX.skipG (rs := []) 5 rfl rfl rfl (dF h243) (by kernel_rfl) (GX.skipG (rs := []) 6 rfl rfl rfl (dF h243) (by kernel_rfl) (GX.skipG (rs := []) 7 rfl rfl rfl (dF h243) (by kernel_rfl) (GX.take (v := .bool false) (rs := []) 8 rfl (by kernel_rfl) (fun _ _ => Yl.pickF rfl (dF h243) rfl) (GX.take (v := .bool false) (rs := []) 9 rfl (by kernel_rfl) (fun _ _ => Yl.move rfl) (GX.skipG (rs := []) 10 rfl rfl rfl rfl (by kernel_rfl) (GX.skipG (rs := []) 11 rfl rfl rfl rfl (by kernel_rfl) (GX.take (v := .bool false) (rs := []) 12 rfl (by kernel_rfl) (fun _ _ => Yl.pickF rfl rfl rfl) (GX.take (v := .bool false) (rs := []) 13 rfl (by kernel_rfl) (fun _ _ => Yl.move rfl) (GX.skipG (rs := []) 14 rfl rfl rfl rfl (by kernel_rfl) (GX.skipG (rs := []) 15 rfl rfl rfl rfl (by kernel_rfl) (GX.skipG (rs := []) 16 rfl rfl rfl rfl (by kernel_rfl) (GX.take (v := .bool false) (rs := []) 17 rfl (by kernel_rfl) (fun _ _ => Yl.pickF rfl rfl rfl) (GX.take (v := .bool false) (rs := []) 18 rfl (by kernel_rfl) (fun _ _ => Yl.move rfl) (GX.skipG (rs := []) 19 rfl rfl rfl rfl (by kernel_rfl) (GX.skipG (rs := []) 20 rfl rfl rfl rfl (by kernel_rfl) (GX.skipG (rs := []) 21 rfl rfl rfl rfl (by kernel_rfl) (GX.skipG (rs := []) 22 rfl rfl rfl rfl (by kernel_rfl) (GX.take (v := .bool false) (rs := []) 23 rfl (by kernel_rfl) (fun _ _ => Yl.pickF rfl rfl rfl) (GX.take (v := .bool false) (rs := []) 24 rfl (by kernel_rfl) (fun _ _ => Yl.move rfl) (GX.skipG (rs := []) 25 rfl rfl rfl rfl (by kernel_rfl) (GX.skipG (rs := []) 26 rfl rfl rfl rfl (by kernel_rfl) (GX.take (v := .bool false) (rs := []) 27 rfl (by kernel_rfl) (fun _ _ => Yl.pickF rfl rfl rfl) (GX.take (v := .bool false) (rs := []) 28 rfl (by kernel_rfl) (fun _ _ => Yl.move rfl) (GX.skipG (rs := []) 29 rfl rfl rfl rfl (by kernel_rfl) (GX.skipG (rs := []) 30 rfl rfl rfl rfl (by kernel_rfl) (GX.skipG (rs := []) 31 rfl rfl rfl rfl (by kernel_rfl) (GX.skipG (rs := []) 32 rfl rfl rfl rfl (by kernel_rfl) (GX.skipG (rs := []) 33 rfl rfl rfl rfl (by kernel_rfl) (GX.take (v := .bool false) (rs := []) 34 rfl (by kernel_rfl) (fun _ _ => Yl.pickF rfl rfl rfl) (GX.take (v := .bool false) (rs := []) 35 rfl (by kernel_rfl) (fun _ _ => Yl.move rfl) (GX.skipG (rs := []) 36 rfl rfl rfl rfl (by kernel_rfl) (GX.skipG (rs := []) 37 rfl rfl rfl rfl (by kernel_rfl) (GX.take (v := .bool false) (rs := []) 38 rfl (by kernel_rfl) (fun _ _ => Yl.pickF rfl rfl rfl) (GX.take (v := .bool false) (rs := []) 39 rfl (by kernel_rfl) (fun _ _ => Yl.move rfl) (GX.skipG (rs := []) 40 rfl rfl rfl rfl (by kernel_rfl) (GX.skipG (rs := []) 41 rfl rfl rfl rfl (by kernel_rfl) (GX.take (v := .bool false) (rs := []) 42 rfl (by kernel_rfl) (fun _ _ => Yl.pickF rfl rfl rfl) (GX.take (v := .bool false) (rs := []) 43 rfl (by kernel_rfl) (fun _ _ => Yl.move rfl) ?_)))))))))))))))))))))))))))))))))))))))
 refine GX.skipG (rs := []) 44 rfl rfl rfl rfl (by kernel_rfl) (GX.skipG (rs := []) 45 rfl rfl rfl rfl (by kernel_rfl) (GX.take (v := .bool false) (rs := []) 46 rfl (by kernel_rfl) (fun _ _ => Yl.pickF rfl rfl rfl) (GX.take (v := .bool false) (rs := []) 47 rfl (by kernel_rfl) (fun _ _ => Yl.move rfl) (GX.skipG (rs := []) 48 rfl rfl rfl rfl (by kernel_rfl) (GX.skipG (rs := []) 49 rfl rfl rfl rfl (by kernel_rfl) (GX.take (v := .bool false) (rs := []) 50 rfl (by kernel_rfl) (fun _ _ => Yl.pickF rfl rfl rfl) (GX.take (v := .bool false) (rs := []) 51 rfl (by kernel_rfl) (fun _ _ => Yl.assign rfl) (GX.done (by kernel_rfl) (Fin.then (rt (rs ?_)))))))))))
 have H282 := H242.pk []
 obtain rfl : _ = false := hr.symm.trans (et (bnd_of hm33) (et (bnd_of hr42) (et (bnd_of hr58) (et (bnd_of hr71) (et (bnd_of hr87) (et (bnd_of hr100) (et (bnd_of hr115) (et (bnd_of hr126) (et (bnd_of hr136) (et (bnd_of hr148) (et (bnd_of hr164) (et (bnd_of hr179) (et (bnd_of hr190) (et (bnd_of hr206) (et (bnd_of hr220) (et (bnd_of hr232) (iN h243)))))))))))))))))
 exact ⟨rfl, H282⟩

def w06_same_L0 (p0 : DiskT) (p1 : DiskDT) (r41 : List Int) : Nat → Nat → List Int → Unit ⊕ Bool
  | 0, k81, l82 => Sum.inl ()
  | q83 + 1, k81, l82 => bnd (List.getD l82 k81 default) fun yx97 => bnd (List.getD r41 k81 default) fun yx99 => if yx97 = yx99 then w06_same_L0 p0 p1 r41 q83 (k81 + 1) (List.set l82 k81 (-7)) else Sum.inr (false)

def w06_same_L2 (z109 : Int) : Nat → Unit
  | 0 => ()
  | q161 + 1 => w06_same_L2 z109 q161

def w06_same_L1 (p0 : DiskT) (p1 : DiskDT) : Nat → Int → Unit ⊕ Bool
  | 0, z109 => Sum.inl default
  | q110 + 1, z109 => if z109 ≤ ((p1.xSafe.ls.length : Nat) : Int) then bnd (disk_Disk_Read p0 z109) fun yr131 => bnd (r06_Disk_Read p1 z109) fun yr147 => if yr131.1 ≠ yr147.1 then Sum.inr (false) else if yr131.2 = yr147.2 then bnd (w06_same_L2 z109 yr131.1.length) fun _ => w06_same_L1 p0 p1 q110 (z109 + 1) else Sum.inr (false) else Sum.inl ()

def w06_same (p0 : DiskT) (p1 : DiskDT) : Bool :=
 bnd (disk_Disk_Waits p0) fun yr26 => bnd (r06_Disk_Waits p1) fun yr41 => bnd (disk_Disk_Up p0) fun yr58 => if yr58 = p1.xDown then false else bnd (disk_Disk_Sectors p0) fun yr72 => if yr72 = ((p1.xSafe.ls.length : Nat) : Int) then if ((yr26.length : Nat) : Int) = ((yr41.length : Nat) : Int) then lp (w06_same_L0 p0 p1 yr41 yr26.length 0 yr26) fun _ => lp (w06_same_L1 p0 p1 ((Int.toNat (((p1.xSafe.ls.length : Nat) : Int) + 1 - (-1))) + 1) (-1)) fun _ => true else false else false

set_option maxRecDepth 100000 in
theorem w06_same_ok (w : World) (D : Nat → Prop) (g0 : Nat) (p0 : DiskT) (g1 : Nat) (p1 : DiskDT) (A1x0 : Option Addr) (c1x0 : Nat) (A1x1 : Option Addr) (c1x1 : Nat) (r0 : Bool) (H : Own w D w [DiskO g0 p0, blk g1 [.slice A1x0 p1.xSafe.ls.length c1x0, .slice A1x1 p1.xWait.ls.length c1x1, .int .i64 p1.xFused, .bool p1.xDown] 58]) (hx1x0 : Ro w D fun w' => Rds w' 1 A1x0 p1.xSafe.ls.length (List.flatMap eS p1.xSafe.ls)) (hb1x0 : p1.xSafe.ls.length ≤ c1x0 ∧ p1.xSafe.ls.length ≤ 9223372036854775807) (hx1x1 : Ro w D fun w' => Rds w' 1 A1x1 p1.xWait.ls.length (List.flatMap eS p1.xWait.ls)) (hb1x1 : p1.xWait.ls.length ≤ c1x1 ∧ p1.xWait.ls.length ≤ 9223372036854775807) (hh0 : p1.xSafe.ls.length = p1.xWait.ls.length ∧ p1.xSafe.ls.length ≤ 4096) (hh1 : Sm p1.xSafe.ls) (hh2 : Sm p1.xWait.ls) (hr : w06_same p0 p1 = r0) :
    Calls Try.prog 23 #[.pointer (some ⟨g0, 0, none⟩), .pointer (some ⟨g1, 0, none⟩)] w (Ret fun v w' => v = .bool r0 ∧ Own w D w' [blk g1 [.slice A1x0 p1.xSafe.ls.length c1x0, .slice A1x1 p1.xWait.ls.length c1x1, .int .i64 p1.xFused, .bool p1.xDown] 58, DiskO g0 p0]) := by
 refine Calls.body (args := [.pointer (some ⟨g0, 0, none⟩), .pointer (some ⟨g1, 0, none⟩)]) Try.func23 rfl rfl rfl ?_
 show Wp _ _ _ [(0, .pointer (some ⟨g0, 0, none⟩)), (1, .pointer (some ⟨g1, 0, none⟩))] _ _
 refine sr (Ar rfl (Mz rfl ?_))
 obtain ⟨r26, hr27⟩ : ∃ q, disk_Disk_Waits p0 = q := ⟨_, rfl⟩
 obtain ⟨D21, HP22, ro23, bk24, rr25⟩ := Own.enter1 H
 refine cl Try.call26 (disk_Disk_Waits_ok _ _ g0 p0 r26 HP22 hr27) ?_
 rintro _ w28 ⟨A31, c32, rfl, HQ29, hk33⟩
 have H30 := bk24 _ _ HQ29
 have hb34 := H30.rowC (i := 0) rfl
 replace hk33 : ∀ x ∈ r26, 0 ≤ x ∧ x < 4096 := hk33
 refine Ar rfl (Mz rfl ?_)
 have H35 := H30.pk [2, 0, 1]
 obtain ⟨r41, hr42⟩ : ∃ q, r06_Disk_Waits p1 = q := ⟨_, rfl⟩
 obtain ⟨D36, HP37, ro38, bk39, rr40⟩ := Own.enter1 H35
 refine cl Try.call33 (r06_Disk_Waits_ok _ _ g1 p1 A1x0 c1x0 A1x1 c1x1 r41 HP37 (ro38 _ hx1x0) (show p1.xSafe.ls.length ≤ c1x0 ∧ p1.xSafe.ls.length ≤ 9223372036854775807 from by omega) (ro38 _ hx1x1) (show p1.xWait.ls.length ≤ c1x1 ∧ p1.xWait.ls.length ≤ 9223372036854775807 from by omega) (by first | omega | (dsimp only; omega)) hr42) ?_
 rintro _ w43 ⟨A46, c47, rfl, HQ44, hk48⟩
 have H45 := bk39 _ _ HQ44
 have hb49 := H45.rowC (i := 0) rfl
 replace hk48 : r41.length ≤ p1.xWait.ls.length := hk48
 refine An rfl (Wp.seq (Wp.seq ?_))
 have H51 := H45.drew
 refine Wp.drawnX [] (fun W => ∃ L', Own w D W ([row A46 r41.length c47 (List.flatMap (eI .i64) r41) 3 1, blk g1 [.slice A1x0 p1.xSafe.ls.length c1x0, .slice A1x1 p1.xWait.ls.length c1x1, .int .i64 p1.xFused, .bool p1.xDown] 58, row A31 r26.length c32 (List.flatMap (eI .i64) r26) 3 1, DiskO g0 p0] ++ L')) (by kernel_rfl) (by kernel_rfl) (NoP.then (NoP.then NoP.base)) ⟨_, H51⟩ ?_
 revert H51
 generalize World.drew w43 = w50
 intro H51
 refine GX.take (v := .pointer (some ⟨g0, 0, none⟩)) (rs := []) 0 rfl (by kernel_rfl) (fun _ _ => Yl.move rfl) (GX.take (v := .pointer (some ⟨g1, 0, none⟩)) (rs := []) 2 rfl (by kernel_rfl) (fun _ _ => Yl.move rfl) (GX.take (v := .pointer (some ⟨g1, 0, none⟩)) (rs := []) 3 rfl (by kernel_rfl) (fun _ _ => yk) (GX.take (v := .pointer (some ⟨g1, 3, none⟩)) (rs := []) 4 rfl (by kernel_rfl) (fun _ _ => yk) (GX.take (v := .bool p1.xDown) (rs := []) 5 rfl (by kernel_rfl) (fun _ ⟨_, H9⟩ => Yl.load rfl (Lds.one Try.isAgg4 (Cls.of (H9.cls (i := 1) rfl) rfl))) ?_))))
 have H52 := H51.pk [3, 0, 1, 2]
 obtain ⟨r58, hr59⟩ : ∃ q, disk_Disk_Up p0 = q := ⟨_, rfl⟩
 obtain ⟨D53, HP54, ro55, bk56, rr57⟩ := Own.enter1 H52
 refine GX.do 1 rfl (by kernel_rfl) (Do.call Try.call27 rfl (disk_Disk_Up_ok _ _ g0 p0 r58 HP54 hr59) ?_)
 rintro _ w60 ⟨rfl, HQ61⟩
 have H62 := bk56 _ _ HQ61
 have H63 := H62.pk [1, 2, 3, 0]
 refine ⟨.inr ⟨_, H63⟩, ?_⟩
 refine GX.take (v := .bool (decide (r58 = p1.xDown))) (rs := []) 6 rfl (by kernel_rfl) (fun _ _ => Yl.bool (e := (r58 == p1.xDown)) yk (by first | exact Bool.beq_eq_decide_eq _ _ | (by_cases q : r58 = p1.xDown <;> simp [q]))) (GX.take (v := .bool (decide (r58 = p1.xDown))) (rs := []) 7 rfl (by kernel_rfl) (fun _ _ => Yl.move rfl) ?_)
 by_cases h64 : r58 = p1.xDown
 refine GX.skipG (rs := []) 8 rfl rfl rfl (dT h64) (by kernel_rfl) (GX.skipG (rs := []) 9 rfl rfl rfl (dT h64) (by kernel_rfl) (GX.skipG (rs := []) 10 rfl rfl rfl (dT h64) (by kernel_rfl) (GX.skipG (rs := []) 11 rfl rfl rfl (dT h64) (by kernel_rfl) (GX.skipG (rs := []) 12 rfl rfl rfl (dT h64) (by kernel_rfl) (GX.skipG (rs := []) 13 rfl rfl rfl (dT h64) (by kernel_rfl) (GX.skipG (rs := []) 14 rfl rfl rfl (dT h64) (by kernel_rfl) (GX.skipG (rs := []) 15 rfl rfl rfl (dT h64) (by kernel_rfl) (GX.take (v := .bool true) (rs := []) 16 rfl (by kernel_rfl) (fun _ _ => Yl.pickT rfl (dT h64) rfl) (GX.take (v := .bool true) (rs := []) 17 rfl (by kernel_rfl) (fun _ _ => Yl.move rfl) (GX.skipG (rs := []) 18 rfl rfl rfl rfl (by kernel_rfl) (GX.skipG (rs := []) 19 rfl rfl rfl rfl (by kernel_rfl) (GX.skipG (rs := []) 20 rfl rfl rfl rfl (by kernel_rfl) (GX.skipG (rs := []) 21 rfl rfl rfl rfl (by kernel_rfl) (GX.skipG (rs := []) 22 rfl rfl rfl rfl (by kernel_rfl) (GX.take (v := .bool true) (rs := []) 23 rfl (by kernel_rfl) (fun _ _ => Yl.pickT rfl rfl rfl) (GX.done (by kernel_rfl) (Fin.then (jt (sr (An rfl (rt (tR (rs ?_)))))))))))))))))))))))
 have H65 := H63.pk [1, 3]
 obtain rfl : _ = false := hr.symm.trans (et (bnd_of hr27) (et (bnd_of hr42) (et (bnd_of hr59) (ip h64))))
 exact ⟨rfl, H65⟩
 refine GX.takeG (v := .pointer (some ⟨g0, 0, none⟩)) (rs := []) 8 rfl rfl rfl (dF h64) (by kernel_rfl) (fun _ _ => Yl.move rfl) (GX.takeG (v := .pointer (some ⟨g1, 0, none⟩)) (rs := []) 10 rfl rfl rfl (dF h64) (by kernel_rfl) (fun _ _ => Yl.move rfl) (GX.takeG (v := .pointer (some ⟨g1, 0, none⟩)) (rs := []) 11 rfl rfl rfl (dF h64) (by kernel_rfl) (fun _ _ => yk) (GX.takeG (v := .pointer (some ⟨g1, 0, none⟩)) (rs := []) 12 rfl rfl rfl (dF h64) (by kernel_rfl) (fun _ _ => yk) (GX.takeG (v := .slice A1x0 p1.xSafe.ls.length c1x0) (rs := []) 13 rfl rfl rfl (dF h64) (by kernel_rfl) (fun _ ⟨_, H9⟩ => Yl.load rfl (Lds.one Try.isAgg56 (Cls.of (H9.cls (i := 1) rfl) rfl))) (GX.takeG (v := .int .i64 ((p1.xSafe.ls.length : Nat) : Int)) (rs := []) 14 rfl rfl rfl (dF h64) (by kernel_rfl) (fun _ _ => yk) ?_)))))
 have H66 := H63.pk [3, 0, 1, 2]
 obtain ⟨r72, hr73⟩ : ∃ q, disk_Disk_Sectors p0 = q := ⟨_, rfl⟩
 obtain ⟨D67, HP68, ro69, bk70, rr71⟩ := Own.enter1 H66
 refine GX.doG 9 rfl rfl rfl (dF h64) (by kernel_rfl) (Do.call Try.call34 rfl (disk_Disk_Sectors_ok _ _ g0 p0 r72 HP68 hr73) ?_)
 rintro _ w74 ⟨rfl, HQ75, hk77⟩
 have H76 := bk70 _ _ HQ75
 replace hk77 : r72 = p0.xsectors := hk77
 have H78 := H76.pk [1, 2, 3, 0]
 refine ⟨.inr ⟨_, H78⟩, ?_⟩
 refine GX.takeG (v := .bool (decide (¬ (r72 = ((p1.xSafe.ls.length : Nat) : Int))))) (rs := []) 15 rfl rfl rfl (dF h64) (by kernel_rfl) (fun _ _ => Yl.bool (e := !(decide (r72 = ((p1.xSafe.ls.length : Nat) : Int)))) yk decide_not.symm) (GX.take (v := .bool (decide (¬ (r72 = ((p1.xSafe.ls.length : Nat) : Int))))) (rs := []) 16 rfl (by kernel_rfl) (fun _ _ => Yl.pickF rfl (dF h64) rfl) (GX.take (v := .bool (decide (¬ (r72 = ((p1.xSafe.ls.length : Nat) : Int))))) (rs := []) 17 rfl (by kernel_rfl) (fun _ _ => Yl.move rfl) ?_))
 by_cases h79 : r72 = ((p1.xSafe.ls.length : Nat) : Int)
 refine GX.takeG (v := .slice A31 r26.length c32) (rs := []) 18 rfl rfl rfl (dF (not_not_intro h79)) (by kernel_rfl) (fun _ _ => Yl.move rfl) (GX.takeG (v := .int .i64 ((r26.length : Nat) : Int)) (rs := []) 19 rfl rfl rfl (dF (not_not_intro h79)) (by kernel_rfl) (fun _ _ => yk) (GX.takeG (v := .slice A46 r41.length c47) (rs := []) 20 rfl rfl rfl (dF (not_not_intro h79)) (by kernel_rfl) (fun _ _ => Yl.move rfl) (GX.takeG (v := .int .i64 ((r41.length : Nat) : Int)) (rs := []) 21 rfl rfl rfl (dF (not_not_intro h79)) (by kernel_rfl) (fun _ _ => yk) (GX.takeG (v := .bool (decide (¬ (((r26.length : Nat) : Int) = ((r41.length : Nat) : Int))))) (rs := []) 22 rfl rfl rfl (dF (not_not_intro h79)) (by kernel_rfl) (fun _ _ => Yl.bool (e := !(decide (((r26.length : Nat) : Int) = ((r41.length : Nat) : Int)))) yk decide_not.symm) (GX.take (v := .bool (decide (¬ (((r26.length : Nat) : Int) = ((r41.length : Nat) : Int))))) (rs := []) 23 rfl (by kernel_rfl) (fun _ _ => Yl.pickF rfl (dF (not_not_intro h79)) rfl) (GX.done (by kernel_rfl) (Fin.then ?_)))))))
 by_cases h80 : ((r26.length : Nat) : Int) = ((r41.length : Nat) : Int)
 refine jF (dF (not_not_intro h80)) (sk (Wp.seq (sr (Mz rfl (Kz (.int .i64 ((r26.length : Nat) : Int)) (Mn rfl (bo ?_)))))))
 have H84 := H78.pk [0, 1, 2, 3]
 obtain ⟨I88, hI89⟩ : ∃ q : (Nat × (List Int)) → World → Prop, q = fun (i : Nat × (List Int)) w' => Own w D w' [row A46 r41.length c47 (List.flatMap (eI .i64) r41) 3 1, blk g1 [.slice A1x0 p1.xSafe.ls.length c1x0, .slice A1x1 p1.xWait.ls.length c1x1, .int .i64 p1.xFused, .bool p1.xDown] 58, row A31 r26.length c32 (List.flatMap (eI .i64) i.2) 3 1, DiskO g0 p0] ∧ (i.2.length = r26.length ∧ i.1 ≤ r26.length ∧ w06_same_L0 p0 p1 r41 r26.length 0 r26 = w06_same_L0 p0 p1 r41 (r26.length - i.1) i.1 i.2) := ⟨_, rfl⟩
 have dm90 : ∀ {k81 : Nat} {l82 : List Int} {w' : World}, I88 (k81, l82) w' ↔ Own w D w' [row A46 r41.length c47 (List.flatMap (eI .i64) r41) 3 1, blk g1 [.slice A1x0 p1.xSafe.ls.length c1x0, .slice A1x1 p1.xWait.ls.length c1x1, .int .i64 p1.xFused, .bool p1.xDown] 58, row A31 r26.length c32 (List.flatMap (eI .i64) l82) 3 1, DiskO g0 p0] ∧ l82.length = r26.length ∧ k81 ≤ r26.length ∧ w06_same_L0 p0 p1 r41 r26.length 0 r26 = w06_same_L0 p0 p1 r41 (r26.length - k81) k81 l82 := by intros; subst hI89; exact Iff.rfl
 refine Wp.loop (fun i : Nat × (List Int) => [(4, .bool false), (44, .int .i64 ((i.1 : Nat) : Int)), (43, .int .i64 ((r26.length : Nat) : Int)), (6, .slice A46 r41.length c47), (5, .slice A31 r26.length c32), (0, .pointer (some ⟨g0, 0, none⟩)), (1, .pointer (some ⟨g1, 0, none⟩))]) I88 (fun i => r26.length - i.1) (0, r26) ⟨rfl, rfl, rfl, rfl, rfl, rfl, rfl, trivial⟩ (dm90.2 ⟨H84, by first | omega | (simp only [List.length_set]; omega) | (simp only [List.length_replicate]), by omega, rfl⟩) ?_
 rintro ⟨k81, l82⟩ w85 hf87
 show Wp _ _ _ [(4, .bool false), (44, .int .i64 ((k81 : Nat) : Int)), (43, .int .i64 ((r26.length : Nat) : Int)), (6, .slice A46 r41.length c47), (5, .slice A31 r26.length c32), (0, .pointer (some ⟨g0, 0, none⟩)), (1, .pointer (some ⟨g1, 0, none⟩))] _ _
 obtain ⟨H86, hi92, hi93, hq91⟩ := dm90.1 hf87
 refine sr (Kz (.bool (decide (((k81 : Nat) : Int) < ((r26.length : Nat) : Int)))) (nt (Wp.seq ?_)))
 by_cases h94 : ((k81 : Nat) : Int) < ((r26.length : Nat) : Int)
 refine jT (dT h94) (sk (Wp.seq (bo (sr (Mz rfl (An rfl (Wp.seq (Wp.seq ?_))))))))
 have H96 := H86.drew
 refine Wp.drawnX [] (fun W => ∃ L', Own w D W ([row A46 r41.length c47 (List.flatMap (eI .i64) r41) 3 1, blk g1 [.slice A1x0 p1.xSafe.ls.length c1x0, .slice A1x1 p1.xWait.ls.length c1x1, .int .i64 p1.xFused, .bool p1.xDown] 58, row A31 r26.length c32 (List.flatMap (eI .i64) l82) 3 1, DiskO g0 p0] ++ L')) (by kernel_rfl) (by kernel_rfl) (NoP.then (NoP.then (NoP.block (NoP.then (NoP.then (NoP.block (NoP.then NoP.base))))))) ⟨_, H96⟩ ?_
 revert H96
 generalize World.drew w85 = w95
 intro H96
 refine GX.take (v := .slice A31 r26.length c32) (rs := []) 0 rfl (by kernel_rfl) (fun _ _ => Yl.move rfl) (GX.take (v := .int .i64 ((k81 : Nat) : Int)) (rs := []) 1 rfl (by kernel_rfl) (fun _ _ => Yl.move rfl) ?_)
 obtain ⟨x97, hx98⟩ := at_of (ls := l82) (i := k81) (by first | omega | (simp; done) | (simp; omega))
 refine GX.take (v := .pointer (some ⟨ab A31, ao A31 + k81 * 1, none⟩)) (rs := []) 2 rfl (by kernel_rfl) (fun _ ⟨_, H9⟩ => Yl.indexAddr (El46) rfl rfl ((H9.rds (i := 2) rfl).addr (i := k81) (by omega)) (by omega)) (GX.take (v := .int .i64 x97) (rs := []) 3 rfl (by kernel_rfl) (fun _ ⟨_, H9⟩ => Yl.load rfl (Lds.one Try.isAgg3 (((H9.rds (i := 2) rfl).elem eI_len hx98 (by decide)).at_ (k := 0) rfl))) (GX.take (v := .slice A46 r41.length c47) (rs := []) 4 rfl (by kernel_rfl) (fun _ _ => Yl.move rfl) (GX.take (v := .int .i64 ((k81 : Nat) : Int)) (rs := []) 5 rfl (by kernel_rfl) (fun _ _ => Yl.move rfl) ?_)))
 obtain ⟨x99, hx100⟩ := at_of (ls := r41) (i := k81) (by first | omega | (simp; done) | (simp; omega))
 refine GX.take (v := .pointer (some ⟨ab A46, ao A46 + k81 * 1, none⟩)) (rs := []) 6 rfl (by kernel_rfl) (fun _ ⟨_, H9⟩ => Yl.indexAddr (El46) rfl rfl ((H9.rds (i := 0) rfl).addr (i := k81) (by omega)) (by omega)) (GX.take (v := .int .i64 x99) (rs := []) 7 rfl (by kernel_rfl) (fun _ ⟨_, H9⟩ => Yl.load rfl (Lds.one Try.isAgg3 (((H9.rds (i := 0) rfl).elem eI_len hx100 (by decide)).at_ (k := 0) rfl))) (GX.take (v := .bool (decide (¬ (x97 = x99)))) (rs := []) 8 rfl (by kernel_rfl) (fun _ _ => Yl.bool (e := !(decide (x97 = x99))) yk decide_not.symm) (GX.done (by kernel_rfl) (Fin.then ?_))))
 by_cases h101 : x97 = x99
 refine jF (dF (not_not_intro h101)) (sk (Wp.region (Mz rfl (Mz rfl (fw (.pointer (some ⟨ab A31, ao A31 + k81 * 1, none⟩)) (Yl.indexAddr (El46) rfl rfl ((H96.rds (i := 2) rfl).addr (i := k81) (by omega)) (by omega)) ?_)))))
 have H102 := H96.pk [2, 0, 1, 3]
 refine WL.do0 (Do.storeRow (vs := [.int .i64 (-7)]) (o := k81 * 1 + 0) (q := ao A31 + k81 * 1) H102 rfl (by omega) rfl Try.sizeOf3 rfl rfl (Nat.le_of_ble_eq_true rfl) (store_fits eI_len hx98 (Nat.le_of_ble_eq_true rfl)) (flat_set (y := (-7)) eI_len rfl (Nat.le_of_ble_eq_true rfl) hx98) ?_)
 intro w103 H104
 refine WL.nil (bN (Fin.then (Wp.region (fw (.int .i64 ((k81 + 1 : Nat) : Int)) (Yl.int (e := IntKind.i64.wrap (((k81 : Nat) : Int) + 1)) yk (by rw [IntWalk.i64_in _ (by omega)]; omega)) (Mz rfl (WL.nil ?_))))))
 have H105 := H104.pk [1, 2, 0, 3]
 exact Fin.round (k81 + 1, (List.set l82 k81 (-7))) ⟨rfl, rfl, rfl, rfl, rfl, rfl, rfl, trivial⟩ (dm90.2 ⟨H105, by first | omega | (simp only [List.length_set]; omega) | (simp only [List.length_replicate]), by omega, Eq.trans (hq91) (Eq.trans (congrArg (fun q => w06_same_L0 p0 p1 r41 q k81 l82) (sub_at (n := r26.length) (i := k81) (by omega))) (Eq.trans (bnd_of (getD_of hx98)) (Eq.trans (bnd_of (getD_of hx100)) (if_pos h101))))⟩) (by show r26.length - (k81 + 1) < r26.length - k81; omega)
 refine jT (dT h101) (sr (An rfl (rt (tR (bR (tR (tR (bR (tR (rs ?_))))))))))
 have H106 := H96.pk [1, 3]
 obtain rfl : _ = false := hr.symm.trans (et (bnd_of hr27) (et (bnd_of hr42) (et (bnd_of hr59) (et (iN h64) (et (bnd_of hr73) (et (ip h79) (et (ip h80) (lp_r (et (hq91) (et (congrArg (fun q => w06_same_L0 p0 p1 r41 q k81 l82) (sub_at (n := r26.length) (i := k81) (by omega))) (et (bnd_of (getD_of hx98)) (et (bnd_of (getD_of hx100)) (iN h101)))))))))))))
 exact ⟨rfl, H106⟩
 refine jF (dF h94) (Wp.exit (Fin.thenX ?_))
 have hL107 : w06_same_L0 p0 p1 r41 r26.length 0 r26 = Sum.inl () := et (hq91) (et (congrArg (fun q => w06_same_L0 p0 p1 r41 q k81 l82) (sub_end (n := r26.length) (i := k81) (by omega))) rfl)
 refine Fin.thenX (Fin.blockX (Fin.then (Wp.seq (Wp.seq ?_))))
 have H108 := H86.pk [1, 3]
 refine Wp.region (An rfl (bo ?_))
 have H112 := H108.pk [0, 1]
 obtain ⟨I116, hI117⟩ : ∃ q : (Int × Nat) → World → Prop, q = fun (i : Int × Nat) w' => Own w D w' [blk g1 [.slice A1x0 p1.xSafe.ls.length c1x0, .slice A1x1 p1.xWait.ls.length c1x1, .int .i64 p1.xFused, .bool p1.xDown] 58, DiskO g0 p0] ∧ (-1 ≤ i.1 ∧ Int.toNat (((p1.xSafe.ls.length : Nat) : Int) + 1 - i.1) < i.2 ∧ w06_same_L1 p0 p1 ((Int.toNat (((p1.xSafe.ls.length : Nat) : Int) + 1 - (-1))) + 1) (-1) = w06_same_L1 p0 p1 i.2 i.1) := ⟨_, rfl⟩
 have dm118 : ∀ {z109 : Int} {f111 : Nat} {w' : World}, I116 (z109, f111) w' ↔ Own w D w' [blk g1 [.slice A1x0 p1.xSafe.ls.length c1x0, .slice A1x1 p1.xWait.ls.length c1x1, .int .i64 p1.xFused, .bool p1.xDown] 58, DiskO g0 p0] ∧ -1 ≤ z109 ∧ Int.toNat (((p1.xSafe.ls.length : Nat) : Int) + 1 - z109) < f111 ∧ w06_same_L1 p0 p1 ((Int.toNat (((p1.xSafe.ls.length : Nat) : Int) + 1 - (-1))) + 1) (-1) = w06_same_L1 p0 p1 f111 z109 := by intros; subst hI117; exact Iff.rfl
 refine Wp.loop (fun i : Int × Nat => [(4, .bool false), (8, .int .i64 i.1), (0, .pointer (some ⟨g0, 0, none⟩)), (1, .pointer (some ⟨g1, 0, none⟩))]) I116 (fun i => i.2) ((-1), (Int.toNat (((p1.xSafe.ls.length : Nat) : Int) + 1 - (-1))) + 1) ⟨rfl, rfl, rfl, rfl, trivial⟩ (dm118.2 ⟨H112, by omega, by omega, rfl⟩) ?_
 rintro ⟨z109, f111⟩ w113 hf115
 show Wp _ _ _ [(4, .bool false), (8, .int .i64 z109), (0, .pointer (some ⟨g0, 0, none⟩)), (1, .pointer (some ⟨g1, 0, none⟩))] _ _
 obtain ⟨H114, hi120, hi121, hq119⟩ := dm118.1 hf115
 obtain ⟨f122, hf123⟩ : ∃ q, f111 = q + 1 := ⟨f111 - 1, by omega⟩
 subst hf123
 refine Wp.seq (sr (Mz rfl (Mz rfl (Kz (.pointer (some ⟨g1, 0, none⟩)) (Kz (.pointer (some ⟨g1, 0, none⟩)) (Lz (.slice A1x0 p1.xSafe.ls.length c1x0) H114 0 Try.isAgg56 (Kz (.int .i64 ((p1.xSafe.ls.length : Nat) : Int)) (Kz (.bool (decide (z109 ≤ ((p1.xSafe.ls.length : Nat) : Int)))) (nt ?_)))))))))
 by_cases h124 : z109 ≤ ((p1.xSafe.ls.length : Nat) : Int)
 refine jT (dT h124) (sk (Wp.seq (bo (sr (Mz rfl (Mz rfl ?_))))))
 have H125 := H114.pk [1, 0]
 obtain ⟨⟨r131, r132⟩, hr133⟩ : ∃ q : (List UInt8) × Int, disk_Disk_Read p0 z109 = q := ⟨_, rfl⟩
 obtain ⟨D126, HP127, ro128, bk129, rr130⟩ := Own.enter1 H125
 refine cl Try.call25 (disk_Disk_Read_ok _ _ g0 p0 z109 r131 r132 HP127 hr133) ?_
 rintro _ w134 ⟨A137, c138, rfl, HQ135, hk139⟩
 have H136 := bk129 _ _ HQ135
 have hb140 := H136.rowC (i := 0) rfl
 replace hk139 : r131.length ≤ 64 := hk139
 refine Mz rfl (Kz (.slice A137 r131.length c138) (Kz (.int .i64 r132) (Az rfl (Ar rfl (Mz rfl (Mz rfl ?_))))))
 have H141 := H136.pk [2, 0, 1]
 obtain ⟨⟨r147, r148⟩, hr149⟩ : ∃ q : (List UInt8) × Int, r06_Disk_Read p1 z109 = q := ⟨_, rfl⟩
 obtain ⟨D142, HP143, ro144, bk145, rr146⟩ := Own.enter1 H141
 refine cl Try.call35 (r06_Disk_Read_ok _ _ g1 p1 A1x0 c1x0 A1x1 c1x1 z109 r147 r148 HP143 (ro144 _ hx1x0) (show p1.xSafe.ls.length ≤ c1x0 ∧ p1.xSafe.ls.length ≤ 9223372036854775807 from by omega) (ro144 _ hx1x1) (show p1.xWait.ls.length ≤ c1x1 ∧ p1.xWait.ls.length ≤ 9223372036854775807 from by omega) (by first | omega | (dsimp only; omega)) (by first | assumption) (by first | assumption) hr149) ?_
 rintro _ w150 ⟨A153, c154, rfl, HQ151⟩
 have H152 := bk145 _ _ HQ151
 have hb155 := H152.rowC (i := 0) rfl
 refine Mz rfl (Kz (.slice A153 r147.length c154) (Kz (.int .i64 r148) (Az rfl (An rfl (Wp.seq (sr (Mz rfl (fw (.string ⟨List.toArray r131⟩) (Yl.toStringE (l := r131) Try.underlying33 Try.underlying5 Try.underlying9 (H152.rds (i := 2) rfl) rfl) (Mz rfl (fw (.string ⟨List.toArray r147⟩) (Yl.toStringE (l := r147) Try.underlying33 Try.underlying5 Try.underlying9 (H152.rds (i := 0) rfl) rfl) (fw (.bool (decide (r131 ≠ r147))) (Yl.strNe rfl rfl) (Mz rfl ?_))))))))))))
 by_cases h156 : r131 ≠ r147
 refine Sz (dT h156) (Sz (dT h156) (Sz (dT h156) (fw (.bool true) (Yl.pickT rfl (dT h156) rfl) (nt (jt (sr (An rfl (rt (tR (bR (tR (tR (bR (tR (rs ?_)))))))))))))))
 have H157 := H152.pk [1, 3]
 obtain rfl : _ = false := hr.symm.trans (et (bnd_of hr27) (et (bnd_of hr42) (et (bnd_of hr59) (et (iN h64) (et (bnd_of hr73) (et (ip h79) (et (ip h80) (et (lp_l hL107) (lp_r (et (hq119) (et (ip h124) (et (bnd_of hr133) (et (bnd_of hr149) (ip h156))))))))))))))
 exact ⟨rfl, H157⟩
 refine gw (.int .i64 r132) (dF h156) (Yl.move rfl) (gw (.int .i64 r148) (dF h156) (Yl.move rfl) (gw (.bool (decide (¬ (r132 = r148)))) (dF h156) (Yl.bool (e := !(decide (r132 = r148))) yk decide_not.symm) (fw (.bool (decide (¬ (r132 = r148)))) (Yl.pickF rfl (dF h156) rfl) (nt ?_))))
 by_cases h158 : r132 = r148
 refine jF (dF (not_not_intro h158)) (sk (sr (Mz rfl (Kz (.int .i64 ((r131.length : Nat) : Int)) (Mn rfl (bo ?_))))))
 have H162 := H152.pk [0, 1, 2, 3]
 obtain ⟨I166, hI167⟩ : ∃ q : (Nat × (List UInt8)) → World → Prop, q = fun (i : Nat × (List UInt8)) w' => Own w D w' [row A153 r147.length c154 (List.flatMap eB r147) 5 1, blk g1 [.slice A1x0 p1.xSafe.ls.length c1x0, .slice A1x1 p1.xWait.ls.length c1x1, .int .i64 p1.xFused, .bool p1.xDown] 58, row A137 r131.length c138 (List.flatMap eB i.2) 61 1, DiskO g0 p0] ∧ (i.2.length = r131.length ∧ i.1 ≤ r131.length ∧ w06_same_L2 z109 r131.length = w06_same_L2 z109 (r131.length - i.1)) := ⟨_, rfl⟩
 have dm168 : ∀ {k159 : Nat} {l160 : List UInt8} {w' : World}, I166 (k159, l160) w' ↔ Own w D w' [row A153 r147.length c154 (List.flatMap eB r147) 5 1, blk g1 [.slice A1x0 p1.xSafe.ls.length c1x0, .slice A1x1 p1.xWait.ls.length c1x1, .int .i64 p1.xFused, .bool p1.xDown] 58, row A137 r131.length c138 (List.flatMap eB l160) 61 1, DiskO g0 p0] ∧ l160.length = r131.length ∧ k159 ≤ r131.length ∧ w06_same_L2 z109 r131.length = w06_same_L2 z109 (r131.length - k159) := by intros; subst hI167; exact Iff.rfl
 refine Wp.loop (fun i : Nat × (List UInt8) => [(93, .int .i64 ((i.1 : Nat) : Int)), (92, .int .i64 ((r131.length : Nat) : Int)), (91, .slice A137 r131.length c138), (90, .bool (decide (¬ (r132 = r148)))), (89, .bool (decide (¬ (r132 = r148)))), (88, .int .i64 r148), (87, .int .i64 r132), (86, .bool (decide (r131 ≠ r147))), (85, .bool (decide (r131 ≠ r147))), (84, .string ⟨List.toArray r147⟩), (83, .slice A153 r147.length c154), (82, .string ⟨List.toArray r131⟩), (81, .slice A137 r131.length c138), (12, .int .i64 r148), (11, .slice A153 r147.length c154), (80, .int .i64 r148), (79, .slice A153 r147.length c154), (75, .tuple #[.slice A153 r147.length c154, .int .i64 r148]), (78, .tuple #[.slice A153 r147.length c154, .int .i64 r148]), (77, .int .i64 z109), (76, .pointer (some ⟨g1, 0, none⟩)), (10, .int .i64 r132), (9, .slice A137 r131.length c138), (74, .int .i64 r132), (73, .slice A137 r131.length c138), (69, .tuple #[.slice A137 r131.length c138, .int .i64 r132]), (72, .tuple #[.slice A137 r131.length c138, .int .i64 r132]), (71, .int .i64 z109), (70, .pointer (some ⟨g0, 0, none⟩)), (66, .bool (decide (z109 ≤ ((p1.xSafe.ls.length : Nat) : Int)))), (65, .int .i64 ((p1.xSafe.ls.length : Nat) : Int)), (64, .slice A1x0 p1.xSafe.ls.length c1x0), (63, .pointer (some ⟨g1, 0, none⟩)), (62, .pointer (some ⟨g1, 0, none⟩)), (61, .pointer (some ⟨g1, 0, none⟩)), (60, .int .i64 z109), (4, .bool false), (8, .int .i64 z109), (0, .pointer (some ⟨g0, 0, none⟩)), (1, .pointer (some ⟨g1, 0, none⟩))]) I166 (fun i => r131.length - i.1) (0, r131) ⟨rfl, rfl, rfl, rfl, rfl, rfl, rfl, rfl, rfl, rfl, rfl, rfl, rfl, rfl, rfl, rfl, rfl, rfl, rfl, rfl, rfl, rfl, rfl, rfl, rfl, rfl, rfl, rfl, rfl, rfl, rfl, rfl, rfl, rfl, rfl, rfl, rfl, rfl, rfl, rfl, trivial⟩ (dm168.2 ⟨H162, by first | omega | (simp only [List.length_set]; omega) | (simp only [List.length_replicate]), by omega, rfl⟩) ?_
 rintro ⟨k159, l160⟩ w163 hf165
 show Wp _ _ _ [(93, .int .i64 ((k159 : Nat) : Int)), (92, .int .i64 ((r131.length : Nat) : Int)), (91, .slice A137 r131.length c138), (90, .bool (decide (¬ (r132 = r148)))), (89, .bool (decide (¬ (r132 = r148)))), (88, .int .i64 r148), (87, .int .i64 r132), (86, .bool (decide (r131 ≠ r147))), (85, .bool (decide (r131 ≠ r147))), (84, .string ⟨List.toArray r147⟩), (83, .slice A153 r147.length c154), (82, .string ⟨List.toArray r131⟩), (81, .slice A137 r131.length c138), (12, .int .i64 r148), (11, .slice A153 r147.length c154), (80, .int .i64 r148), (79, .slice A153 r147.length c154), (75, .tuple #[.slice A153 r147.length c154, .int .i64 r148]), (78, .tuple #[.slice A153 r147.length c154, .int .i64 r148]), (77, .int .i64 z109), (76, .pointer (some ⟨g1, 0, none⟩)), (10, .int .i64 r132), (9, .slice A137 r131.length c138), (74, .int .i64 r132), (73, .slice A137 r131.length c138), (69, .tuple #[.slice A137 r131.length c138, .int .i64 r132]), (72, .tuple #[.slice A137 r131.length c138, .int .i64 r132]), (71, .int .i64 z109), (70, .pointer (some ⟨g0, 0, none⟩)), (66, .bool (decide (z109 ≤ ((p1.xSafe.ls.length : Nat) : Int)))), (65, .int .i64 ((p1.xSafe.ls.length : Nat) : Int)), (64, .slice A1x0 p1.xSafe.ls.length c1x0), (63, .pointer (some ⟨g1, 0, none⟩)), (62, .pointer (some ⟨g1, 0, none⟩)), (61, .pointer (some ⟨g1, 0, none⟩)), (60, .int .i64 z109), (4, .bool false), (8, .int .i64 z109), (0, .pointer (some ⟨g0, 0, none⟩)), (1, .pointer (some ⟨g1, 0, none⟩))] _ _
 obtain ⟨H164, hi170, hi171, hq169⟩ := dm168.1 hf165
 refine sr (Kz (.bool (decide (((k159 : Nat) : Int) < ((r131.length : Nat) : Int)))) (nt (Wp.seq ?_)))
 by_cases h172 : ((k159 : Nat) : Int) < ((r131.length : Nat) : Int)
 refine jT (dT h172) (sk (Wp.seq (bo (sr (Mz rfl (An rfl (Wp.region (Mz rfl (Mz rfl ?_)))))))))
 obtain ⟨x173, hx174⟩ := rds_at (ls := l160) (i := k159) eB_len (by decide) (H164.rds (i := 2) rfl) (by first | omega | (simp; done) | (simp; omega))
 refine fw (.pointer (some ⟨ab A137, ao A137 + k159 * 1, none⟩)) (Yl.indexAddr (El33) rfl rfl ((H164.rds (i := 2) rfl).addr (i := k159) (by omega)) (by omega)) ?_
 have H175 := H164.pk [2, 0, 1, 3]
 refine WL.do0 (Do.storeRow (vs := [.int .u8 255]) (o := k159 * 1 + 0) (q := ao A137 + k159 * 1) H175 rfl (by omega) rfl Try.sizeOf5 rfl rfl (Nat.le_of_ble_eq_true rfl) (store_fits eB_len hx174 (Nat.le_of_ble_eq_true rfl)) (flat_set (y := 255) eB_len rfl (Nat.le_of_ble_eq_true rfl) hx174) ?_)
 intro w176 H177
 refine WL.nil (bN (Fin.then (Wp.region (fw (.int .i64 ((k159 + 1 : Nat) : Int)) (Yl.int (e := IntKind.i64.wrap (((k159 : Nat) : Int) + 1)) yk (by rw [IntWalk.i64_in _ (by omega)]; omega)) (Mz rfl (WL.nil ?_))))))
 have H178 := H177.pk [1, 2, 0, 3]
 exact Fin.round (k159 + 1, (List.set l160 k159 255)) ⟨rfl, rfl, rfl, rfl, rfl, rfl, rfl, rfl, rfl, rfl, rfl, rfl, rfl, rfl, rfl, rfl, rfl, rfl, rfl, rfl, rfl, rfl, rfl, rfl, rfl, rfl, rfl, rfl, rfl, rfl, rfl, rfl, rfl, rfl, rfl, rfl, rfl, rfl, rfl, rfl, trivial⟩ (dm168.2 ⟨H178, by first | omega | (simp only [List.length_set]; omega) | (simp only [List.length_replicate]), by omega, Eq.trans (hq169) (Eq.trans (congrArg (fun q => w06_same_L2 z109 q) (sub_at (n := r131.length) (i := k159) (by omega))) rfl)⟩) (by show r131.length - (k159 + 1) < r131.length - k159; omega)
 refine jF (dF h172) (Wp.exit (Fin.thenX ?_))
 have hL179 : w06_same_L2 z109 r131.length = () := et (hq169) (et (congrArg (fun q => w06_same_L2 z109 q) (sub_end (n := r131.length) (i := k159) (by omega))) rfl)
 refine Fin.thenX (Fin.blockX (bN (Fin.then (Wp.region (Mz rfl (fw (.int .i64 (z109 + 1)) (Yl.int (e := IntKind.i64.wrap (z109 + 1)) yk (by rw [IntWalk.i64_in _ (by omega)])) (Az rfl (WL.nil ?_))))))))
 have H180 := H164.pk [1, 3]
 exact Fin.round (z109 + 1, f122) ⟨rfl, rfl, rfl, rfl, trivial⟩ (dm118.2 ⟨H180, by omega, by omega, et (hq119) (et (ip h124) (et (bnd_of hr133) (et (bnd_of hr149) (et (iN h156) (et (ip h158) (bnd_of hL179))))))⟩) (by show f122 < f122 + 1; omega)
 refine jT (dT h158) (sr (An rfl (rt (tR (bR (tR (tR (bR (tR (rs ?_))))))))))
 have H181 := H152.pk [1, 3]
 obtain rfl : _ = false := hr.symm.trans (et (bnd_of hr27) (et (bnd_of hr42) (et (bnd_of hr59) (et (iN h64) (et (bnd_of hr73) (et (ip h79) (et (ip h80) (et (lp_l hL107) (lp_r (et (hq119) (et (ip h124) (et (bnd_of hr133) (et (bnd_of hr149) (et (iN h156) (iN h158)))))))))))))))
 exact ⟨rfl, H181⟩
 refine jF (dF h124) (Wp.exit (Fin.thenX ?_))
 have hL182 : w06_same_L1 p0 p1 ((Int.toNat (((p1.xSafe.ls.length : Nat) : Int) + 1 - (-1))) + 1) (-1) = Sum.inl () := et (hq119) (iN h124)
 refine Fin.thenX (Fin.blockX (Fin.then (sr (An rfl (rt (rs ?_))))))
 have H183 := H114.pk [0, 1]
 obtain rfl : _ = true := hr.symm.trans (et (bnd_of hr27) (et (bnd_of hr42) (et (bnd_of hr59) (et (iN h64) (et (bnd_of hr73) (et (ip h79) (et (ip h80) (et (lp_l hL107) (lp_l hL182)))))))))
 exact ⟨rfl, H183⟩
 refine jT (dT h80) (sr (An rfl (rt (tR (rs ?_)))))
 have H184 := H78.pk [1, 3]
 obtain rfl : _ = false := hr.symm.trans (et (bnd_of hr27) (et (bnd_of hr42) (et (bnd_of hr59) (et (iN h64) (et (bnd_of hr73) (et (ip h79) (iN h80)))))))
 exact ⟨rfl, H184⟩
 refine GX.skipG (rs := []) 18 rfl rfl rfl (dT h79) (by kernel_rfl) (GX.skipG (rs := []) 19 rfl rfl rfl (dT h79) (by kernel_rfl) (GX.skipG (rs := []) 20 rfl rfl rfl (dT h79) (by kernel_rfl) (GX.skipG (rs := []) 21 rfl rfl rfl (dT h79) (by kernel_rfl) (GX.skipG (rs := []) 22 rfl rfl rfl (dT h79) (by kernel_rfl) (GX.take (v := .bool true) (rs := []) 23 rfl (by kernel_rfl) (fun _ _ => Yl.pickT rfl (dT h79) rfl) (GX.done (by kernel_rfl) (Fin.then (jt (sr (An rfl (rt (tR (rs ?_)))))))))))))
 have H185 := H78.pk [1, 3]
 obtain rfl : _ = false := hr.symm.trans (et (bnd_of hr27) (et (bnd_of hr42) (et (bnd_of hr59) (et (iN h64) (et (bnd_of hr73) (iN h79))))))
 exact ⟨rfl, H185⟩
end Go.Proofs.Ytmhhmhaigmjekaa
