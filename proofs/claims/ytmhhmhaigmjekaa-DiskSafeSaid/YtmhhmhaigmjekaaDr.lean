/-
 disk: the document's answers.
-/
import Derived.Test.YtmhhmhaigmjekaaDa
namespace Go.Proofs.Ytmhhmhaigmjekaa
open Go.RowKit
set_option linter.unusedVariables false
set_option linter.unusedSectionVars false
set_option linter.unusedSimpArgs false

def Sm (l : List (List UInt8)) : Prop := ∀ s ∈ l, s.length ≤ 64
theorem sm_nil : Sm [] := fun s h => (by cases h)
theorem sm_at {l : List (List UInt8)} {i : Nat} {x : List UInt8} (h : Sm l) (hx : l[i]? = some x) : x.length ≤ 64 := h x (List.mem_of_getElem? hx)
theorem sm_set {l : List (List UInt8)} {i : Nat} {v : List UInt8} (h : Sm l) (hv : v.length ≤ 64) : Sm (List.set l i v) := fun s hs => by
 rcases List.mem_or_eq_of_mem_set hs with h1 | h1
 · exact h s h1
 · rw [h1]; exact hv
theorem sm_app {l : List (List UInt8)} {v : List UInt8} (h : Sm l) (hv : v.length ≤ 64) : Sm (l ++ [v]) := fun s hs => by
 rcases List.mem_append.1 hs with h1 | h1
 · exact h s h1
 · rw [List.mem_singleton.1 h1]; exact hv

theorem El56 : Elem Try.prog 56 9 1 16 := elem_of (z := .string ⟨List.toArray ([])⟩) Try.underlying56 (by kernel_rfl) rfl (by decide)

structure DiskDx where
 xSafe : Sv (List UInt8)
 xWait : Sv (List UInt8)
 xFused : Int
 xDown : Bool

def DiskDx.cells (x : DiskDx) : List Value := [.slice x.xSafe.A x.xSafe.ls.length x.xSafe.c, .slice x.xWait.A x.xWait.ls.length x.xWait.c, .int .i64 x.xFused, .bool x.xDown]

instance : Bk DiskDx := ⟨fun x _ => bk x.xSafe + (bk x.xWait + (bk x.xFused + (bk x.xDown + (0))))⟩

theorem DiskDx.len : ∀ x, (DiskDx.cells x).length = 4 := fun _ => rfl

theorem DiskDx.one : ∀ x, ∀ u ∈ DiskDx.cells x, u.oneCell' = true := fun x u hu => by
 simp only [DiskDx.cells, List.mem_cons, List.not_mem_nil, or_false] at hu
 rcases hu with rfl | rfl | rfl | rfl <;> rfl

def DiskDx.Ok (w : World) (x : DiskDx) : Prop := (SvOk w 1 16 eS (fun s => s.length ≤ 140737488351232) x.xSafe) ∧ (SvOk w 1 16 eS (fun s => s.length ≤ 140737488351232) x.xWait) ∧ ((-9223372036854775808) ≤ x.xFused ∧ x.xFused ≤ 9223372036854775807) ∧ (True)

set_option maxRecDepth 100000 in
theorem opens_DiskDx (w : World) : Opens Try.prog w 58 4 DiskDx.cells (DiskDx.Ok w) :=
 (opens_struct (sz := 4) Try.underlying58 (by kernel_rfl) (OpensF.cons (i := 0) (off := 0) (s := 1) rfl rfl (opens_slice (bytes := 16) Try.underlying56 (by kernel_rfl) (by kernel_rfl) (by decide) (opens_string Try.underlying9 (by kernel_rfl))) (OpensF.cons (i := 1) (off := 1) (s := 1) rfl rfl (opens_slice (bytes := 16) Try.underlying56 (by kernel_rfl) (by kernel_rfl) (by decide) (opens_string Try.underlying9 (by kernel_rfl))) (OpensF.cons (i := 2) (off := 2) (s := 1) rfl rfl (opens_int (k := .i64) (lo := -9223372036854775808) (hi := 9223372036854775807) Try.underlying3 (by kernel_rfl) (by decide) (by decide)) (OpensF.cons (i := 3) (off := 3) (s := 1) rfl rfl (opens_bool Try.underlying4 (by kernel_rfl)) OpensF.nil))))).map (fun p => ⟨p.1, p.2.1, p.2.2.1, p.2.2.2.1⟩) DiskDx.len (fun _ => rfl) (fun _ h => ⟨h.1, h.2.1, h.2.2.1, h.2.2.2.1⟩) fun _ => Nat.le_refl _

instance : Inhabited DiskDx := ⟨⟨default, default, default, default⟩⟩

structure DiskDT where
 xSafe : Ll (List UInt8)
 xWait : Ll (List UInt8)
 xFused : Int
 xDown : Bool

instance : Inhabited DiskDT := ⟨⟨default, default, default, default⟩⟩

def DiskDx.abs (x : DiskDx) : DiskDT := ⟨⟨x.xSafe.ls⟩, ⟨x.xWait.ls⟩, x.xFused, x.xDown⟩

def DiskDx.own (x : DiskDx) : List HP := [row x.xSafe.A x.xSafe.ls.length x.xSafe.c (List.flatMap eS x.xSafe.ls) 9 1, row x.xWait.A x.xWait.ls.length x.xWait.c (List.flatMap eS x.xWait.ls) 9 1]

def r06_Disk_Fuse (p0 : DiskDT) (p1 : Int) : DiskDT :=
 DiskDT.mk (Ll.mk p0.xSafe.ls) (Ll.mk p0.xWait.ls) (max p1 (-1)) p0.xDown

set_option maxRecDepth 100000 in
theorem r06_Disk_Fuse_ok (w : World) (D : Nat → Prop) (g0 : Nat) (p0 : DiskDT) (A0x0 : Option Addr) (c0x0 : Nat) (A0x1 : Option Addr) (c0x1 : Nat) (p1 : Int) (r0 : DiskDT) (H : Own w D w [blk g0 [.slice A0x0 p0.xSafe.ls.length c0x0, .slice A0x1 p0.xWait.ls.length c0x1, .int .i64 p0.xFused, .bool p0.xDown] 58, row A0x0 p0.xSafe.ls.length c0x0 (List.flatMap eS p0.xSafe.ls) 9 1, row A0x1 p0.xWait.ls.length c0x1 (List.flatMap eS p0.xWait.ls) 9 1]) (hh0 : p0.xSafe.ls.length = p0.xWait.ls.length ∧ p0.xSafe.ls.length ≤ 4096) (hh1 : Sm p0.xSafe.ls) (hh2 : Sm p0.xWait.ls) (hr : r06_Disk_Fuse p0 p1 = r0) :
    Calls Try.prog 18 #[.pointer (some ⟨g0, 0, none⟩), .int .i64 p1] w (Ret fun v w' => ∃ (B0ox0 : Option Addr) (b0ox0 : Nat) (B0ox1 : Option Addr) (b0ox1 : Nat), v = .tuple #[] ∧ Own w D w' [blk g0 [.slice B0ox0 r0.xSafe.ls.length b0ox0, .slice B0ox1 r0.xWait.ls.length b0ox1, .int .i64 r0.xFused, .bool r0.xDown] 58, row B0ox0 r0.xSafe.ls.length b0ox0 (List.flatMap eS r0.xSafe.ls) 9 1, row B0ox1 r0.xWait.ls.length b0ox1 (List.flatMap eS r0.xWait.ls) 9 1] ∧ (r0.xSafe.ls.length = p0.xSafe.ls.length ∧ r0.xWait.ls.length = p0.xWait.ls.length) ∧ (Sm r0.xSafe.ls) ∧ (Sm r0.xWait.ls)) := by
 have hc0x0 := H.rowC (i := 1) rfl
 have hc0x1 := H.rowC (i := 2) rfl
 refine Calls.body (args := [.pointer (some ⟨g0, 0, none⟩), .int .i64 p1]) Try.func18 rfl rfl rfl ?_
 show Wp _ _ _ [(0, .pointer (some ⟨g0, 0, none⟩)), (1, .int .i64 p1)] _ _
 refine Wp.region (Mz rfl (Mz rfl (fw (.int .i64 (max p1 (-1))) (Yl.int (e := if (-1) > p1 then (-1) else p1) yk (by omega)) (Kz (.pointer (some ⟨g0, 0, none⟩)) (Kz (.pointer (some ⟨g0, 2, none⟩)) ?_)))))
 refine sto [.int .i64 (max p1 (-1))] 2 H Try.sizeOf3 ?_
 intro w21 H22
 refine WL.nil (Fin.res0 (res0 rfl) ?_)
 have H23 := H22.pk [0, 1, 2]
 obtain rfl : _ = DiskDT.mk (Ll.mk p0.xSafe.ls) (Ll.mk p0.xWait.ls) (max p1 (-1)) p0.xDown := hr.symm.trans rfl
 exact ⟨A0x0, c0x0, A0x1, c0x1, rfl, H23, (by first | exact ⟨rfl, rfl⟩ | exact ⟨rfl, List.length_set⟩ | (dsimp only; omega) | omega), (by first | assumption | exact sm_set (by assumption) (by simp only [List.length_nil]; omega) | exact sm_set (by assumption) (by omega)), (by first | assumption | exact sm_set (by assumption) (by simp only [List.length_nil]; omega) | exact sm_set (by assumption) (by omega))⟩

def r06_Disk_Write (p0 : DiskDT) (p1 : Int) (l2 : List UInt8) : Int × DiskDT :=
 if p0.xDown = true then (60, p0) else if p1 < 0 then (61, p0) else if p1 ≥ ((p0.xSafe.ls.length : Nat) : Int) then (61, p0) else if ((l2.length : Nat) : Int) = 64 then if p0.xFused = 0 then (60, DiskDT.mk (Ll.mk p0.xSafe.ls) (Ll.mk p0.xWait.ls) p0.xFused true) else if p0.xFused > 0 then (0, DiskDT.mk (Ll.mk p0.xSafe.ls) (Ll.mk (List.set p0.xWait.ls (Int.toNat p1) l2)) (IntKind.i64.wrap (p0.xFused - 1)) p0.xDown) else (0, DiskDT.mk (Ll.mk p0.xSafe.ls) (Ll.mk (List.set p0.xWait.ls (Int.toNat p1) l2)) p0.xFused p0.xDown) else (2, p0)

set_option maxRecDepth 100000 in
theorem r06_Disk_Write_ok (w : World) (D : Nat → Prop) (g0 : Nat) (p0 : DiskDT) (A0x0 : Option Addr) (c0x0 : Nat) (A0x1 : Option Addr) (c0x1 : Nat) (p1 : Int) (A2 : Option Addr) (n2 c2 : Nat) (l2 : List UInt8) (r0 : Int) (r1 : DiskDT) (H : Own w D w [blk g0 [.slice A0x0 p0.xSafe.ls.length c0x0, .slice A0x1 p0.xWait.ls.length c0x1, .int .i64 p0.xFused, .bool p0.xDown] 58, row A0x0 p0.xSafe.ls.length c0x0 (List.flatMap eS p0.xSafe.ls) 9 1, row A0x1 p0.xWait.ls.length c0x1 (List.flatMap eS p0.xWait.ls) 9 1]) (hx2 : Ro w D fun w' => Rds w' 1 A2 n2 (List.flatMap eB l2)) (hn2 : n2 = l2.length) (hl2 : l2.length * 1 ≤ 211106232532992) (hh0 : p0.xSafe.ls.length = p0.xWait.ls.length ∧ p0.xSafe.ls.length ≤ 4096) (hh1 : Sm p0.xSafe.ls) (hh2 : Sm p0.xWait.ls) (hr : r06_Disk_Write p0 p1 l2 = (r0, r1)) :
    Calls Try.prog 14 #[.pointer (some ⟨g0, 0, none⟩), .int .i64 p1, .slice A2 n2 c2] w (Ret fun v w' => ∃ (B1ox0 : Option Addr) (b1ox0 : Nat) (B1ox1 : Option Addr) (b1ox1 : Nat), v = .int .i64 r0 ∧ Own w D w' [blk g0 [.slice B1ox0 r1.xSafe.ls.length b1ox0, .slice B1ox1 r1.xWait.ls.length b1ox1, .int .i64 r1.xFused, .bool r1.xDown] 58, row B1ox0 r1.xSafe.ls.length b1ox0 (List.flatMap eS r1.xSafe.ls) 9 1, row B1ox1 r1.xWait.ls.length b1ox1 (List.flatMap eS r1.xWait.ls) 9 1] ∧ (r1.xSafe.ls.length = p0.xSafe.ls.length ∧ r1.xWait.ls.length = p0.xWait.ls.length) ∧ (Sm r1.xSafe.ls) ∧ (Sm r1.xWait.ls)) := by
 subst hn2
 have hc0x0 := H.rowC (i := 1) rfl
 have hc0x1 := H.rowC (i := 2) rfl
 refine Calls.body (args := [.pointer (some ⟨g0, 0, none⟩), .int .i64 p1, .slice A2 l2.length c2]) Try.func14 rfl rfl rfl ?_
 show Wp _ _ _ [(0, .pointer (some ⟨g0, 0, none⟩)), (1, .int .i64 p1), (2, .slice A2 l2.length c2)] _ _
 refine sr (An rfl (Wp.seq (bo (sr (Mz rfl (Kz (.pointer (some ⟨g0, 0, none⟩)) (Kz (.pointer (some ⟨g0, 3, none⟩)) (Lz (.bool p0.xDown) H 0 Try.isAgg4 (An rfl ?_)))))))))
 rcases Bool.eq_false_or_eq_true (p0.xDown) with h21 | h21
 refine jT h21 (sr (An rfl (rt (bR (tR (rs ?_))))))
 have H22 : Own w D w [blk g0 [.slice A0x0 p0.xSafe.ls.length c0x0, .slice A0x1 p0.xWait.ls.length c0x1, .int .i64 p0.xFused, .bool p0.xDown] 58, row A0x0 p0.xSafe.ls.length c0x0 (List.flatMap eS p0.xSafe.ls) 9 1, row A0x1 p0.xWait.ls.length c0x1 (List.flatMap eS p0.xWait.ls) 9 1] := H.pk [0, 1, 2]
 have e : r06_Disk_Write p0 p1 l2 = (60, p0) := ip h21
 obtain ⟨rfl, rfl⟩ := pj2 (e.symm.trans hr)
 exact ⟨A0x0, c0x0, A0x1, c0x1, rfl, H22, (by first | exact ⟨rfl, rfl⟩ | exact ⟨rfl, List.length_set⟩ | (dsimp only; omega) | omega), (by first | assumption | exact sm_set (by assumption) (by simp only [List.length_nil]; omega) | exact sm_set (by assumption) (by omega)), (by first | assumption | exact sm_set (by assumption) (by simp only [List.length_nil]; omega) | exact sm_set (by assumption) (by omega))⟩
 refine jF h21 (sr (Mz rfl (Kz (.bool (decide (p1 < 0))) (Mz rfl ?_))))
 by_cases h23 : p1 < 0
 refine Sz (dT h23) (Sz (dT h23) (Sz (dT h23) (Sz (dT h23) (Sz (dT h23) (Sz (dT h23) (Sz (dT h23) (fw (.bool true) (Yl.pickT rfl (dT h23) rfl) (An rfl (jt (sr (An rfl (rt (bR (tR (rs ?_)))))))))))))))
 have H24 : Own w D w [blk g0 [.slice A0x0 p0.xSafe.ls.length c0x0, .slice A0x1 p0.xWait.ls.length c0x1, .int .i64 p0.xFused, .bool p0.xDown] 58, row A0x0 p0.xSafe.ls.length c0x0 (List.flatMap eS p0.xSafe.ls) 9 1, row A0x1 p0.xWait.ls.length c0x1 (List.flatMap eS p0.xWait.ls) 9 1] := H.pk [0, 1, 2]
 have e : r06_Disk_Write p0 p1 l2 = (61, p0) := et (ifF h21) (ip h23)
 obtain ⟨rfl, rfl⟩ := pj2 (e.symm.trans hr)
 exact ⟨A0x0, c0x0, A0x1, c0x1, rfl, H24, (by first | exact ⟨rfl, rfl⟩ | exact ⟨rfl, List.length_set⟩ | (dsimp only; omega) | omega), (by first | assumption | exact sm_set (by assumption) (by simp only [List.length_nil]; omega) | exact sm_set (by assumption) (by omega)), (by first | assumption | exact sm_set (by assumption) (by simp only [List.length_nil]; omega) | exact sm_set (by assumption) (by omega))⟩
 refine gw (.int .i64 p1) (dF h23) (Yl.move rfl) (gw (.pointer (some ⟨g0, 0, none⟩)) (dF h23) (Yl.move rfl) (Gz (.pointer (some ⟨g0, 0, none⟩)) (dF h23) (Gz (.pointer (some ⟨g0, 0, none⟩)) (dF h23) (Gl (.slice A0x0 p0.xSafe.ls.length c0x0) (dF h23) H 0 Try.isAgg56 (Gz (.int .i64 ((p0.xSafe.ls.length : Nat) : Int)) (dF h23) (Gz (.bool (decide (p1 ≥ ((p0.xSafe.ls.length : Nat) : Int)))) (dF h23) (fw (.bool (decide (p1 ≥ ((p0.xSafe.ls.length : Nat) : Int)))) (Yl.pickF rfl (dF h23) rfl) (An rfl ?_))))))))
 by_cases h25 : p1 ≥ ((p0.xSafe.ls.length : Nat) : Int)
 refine jT (dT h25) (sr (An rfl (rt (bR (tR (rs ?_))))))
 have H26 : Own w D w [blk g0 [.slice A0x0 p0.xSafe.ls.length c0x0, .slice A0x1 p0.xWait.ls.length c0x1, .int .i64 p0.xFused, .bool p0.xDown] 58, row A0x0 p0.xSafe.ls.length c0x0 (List.flatMap eS p0.xSafe.ls) 9 1, row A0x1 p0.xWait.ls.length c0x1 (List.flatMap eS p0.xWait.ls) 9 1] := H.pk [0, 1, 2]
 have e : r06_Disk_Write p0 p1 l2 = (61, p0) := et (ifF h21) (et (iN h23) (ip h25))
 obtain ⟨rfl, rfl⟩ := pj2 (e.symm.trans hr)
 exact ⟨A0x0, c0x0, A0x1, c0x1, rfl, H26, (by first | exact ⟨rfl, rfl⟩ | exact ⟨rfl, List.length_set⟩ | (dsimp only; omega) | omega), (by first | assumption | exact sm_set (by assumption) (by simp only [List.length_nil]; omega) | exact sm_set (by assumption) (by omega)), (by first | assumption | exact sm_set (by assumption) (by simp only [List.length_nil]; omega) | exact sm_set (by assumption) (by omega))⟩
 refine jF (dF h25) (sr (Mz rfl (Kz (.int .i64 ((l2.length : Nat) : Int)) (fw (.bool (decide (¬ (((l2.length : Nat) : Int) = 64)))) (Yl.bool (e := !(decide (((l2.length : Nat) : Int) = 64))) yk decide_not.symm) (An rfl ?_)))))
 by_cases h27 : ((l2.length : Nat) : Int) = 64
 refine jF (dF (not_not_intro h27)) (sr (Mz rfl ?_))
 refine WL.do rfl (Do.call Try.call31 rfl ?_ (fun _ _ k => k))
 refine Calls.body (args := [.pointer (some ⟨g0, 0, none⟩)]) Try.func31 rfl rfl rfl ?_
 show Wp _ _ _ [(0, .pointer (some ⟨g0, 0, none⟩))] _ _
 refine sr (An rfl (Wp.seq (sr (Mz rfl (Kz (.pointer (some ⟨g0, 0, none⟩)) (Kz (.pointer (some ⟨g0, 2, none⟩)) (Lz (.int .i64 p0.xFused) H 0 Try.isAgg3 (Kz (.bool (decide (p0.xFused = 0))) (nt ?_)))))))))
 by_cases h28 : p0.xFused = 0
 refine jT (dT h28) (sr (Mz rfl (Kz (.pointer (some ⟨g0, 0, none⟩)) (Kz (.pointer (some ⟨g0, 3, none⟩)) ?_))))
 refine sto [.bool true] 3 H Try.sizeOf4 ?_
 intro w29 H30
 refine ns (An rfl (rt (tR (rs (Kz (.bool true) (An rfl (jt (sr (An rfl (rt (bR (tR (rs ?_)))))))))))))
 have H31 := H30.pk [0, 1, 2]
 have e : r06_Disk_Write p0 p1 l2 = (60, DiskDT.mk (Ll.mk p0.xSafe.ls) (Ll.mk p0.xWait.ls) p0.xFused true) := et (ifF h21) (et (iN h23) (et (iN h25) (et (ip h27) (ip h28))))
 obtain ⟨rfl, rfl⟩ := pj2 (e.symm.trans hr)
 exact ⟨A0x0, c0x0, A0x1, c0x1, rfl, H31, (by first | exact ⟨rfl, rfl⟩ | exact ⟨rfl, List.length_set⟩ | (dsimp only; omega) | omega), (by first | assumption | exact sm_set (by assumption) (by simp only [List.length_nil]; omega) | exact sm_set (by assumption) (by omega)), (by first | assumption | exact sm_set (by assumption) (by simp only [List.length_nil]; omega) | exact sm_set (by assumption) (by omega))⟩
 refine jF (dF h28) (sk (Wp.seq (sr (Mz rfl (Kz (.pointer (some ⟨g0, 0, none⟩)) (Kz (.pointer (some ⟨g0, 2, none⟩)) (Lz (.int .i64 p0.xFused) H 0 Try.isAgg3 (Kz (.bool (decide (p0.xFused > 0))) (nt ?_)))))))))
 by_cases h32 : p0.xFused > 0
 refine jT (dT h32) (Wp.region (Mz rfl (Kz (.pointer (some ⟨g0, 0, none⟩)) (Kz (.pointer (some ⟨g0, 2, none⟩)) (Lz (.int .i64 p0.xFused) H 0 Try.isAgg3 (Kz (.int .i64 (IntKind.i64.wrap (p0.xFused - 1))) (Kz (.pointer (some ⟨g0, 0, none⟩)) (Kz (.pointer (some ⟨g0, 2, none⟩)) ?_))))))))
 refine sto [.int .i64 (IntKind.i64.wrap (p0.xFused - 1))] 2 H Try.sizeOf3 ?_
 intro w33 H34
 refine ns (An rfl (rt (rs (Kz (.bool false) (An rfl (jf (Wp.skip (bN (Fin.then (Wp.seq ?_))))))))))
 have H36 := H34.drew
 refine Wp.drawnX [8] (fun W => ∃ L', Own w D W ([blk g0 [.slice A0x0 p0.xSafe.ls.length c0x0, .slice A0x1 p0.xWait.ls.length c0x1, .int .i64 (IntKind.i64.wrap (p0.xFused - 1)), .bool p0.xDown] 58, row A0x0 p0.xSafe.ls.length c0x0 (List.flatMap eS p0.xSafe.ls) 9 1, row A0x1 p0.xWait.ls.length c0x1 (List.flatMap eS p0.xWait.ls) 9 1] ++ L')) (by kernel_rfl) (by kernel_rfl) (NoP.then NoP.base) ⟨_, H36⟩ ?_
 revert H36
 generalize World.drew w33 = w35
 intro H36
 refine GX.take (v := .pointer (some ⟨g0, 0, none⟩)) (rs := [[]]) 0 rfl (by kernel_rfl) (fun _ _ => Yl.move rfl) (GX.take (v := .pointer (some ⟨g0, 0, none⟩)) (rs := [[]]) 1 rfl (by kernel_rfl) (fun _ _ => yk) (GX.take (v := .pointer (some ⟨g0, 1, none⟩)) (rs := [[]]) 2 rfl (by kernel_rfl) (fun _ _ => yk) (GX.take (v := .slice A0x1 p0.xWait.ls.length c0x1) (rs := [[]]) 3 rfl (by kernel_rfl) (fun _ ⟨_, H9⟩ => Yl.load rfl (Lds.one Try.isAgg56 (Cls.of (H9.cls (i := 0) rfl) rfl))) (GX.take (v := .int .i64 ((Int.toNat p1 : Nat) : Int)) (rs := [[]]) 4 rfl (by kernel_rfl) (fun _ _ => Yl.int (e := p1) (Yl.move rfl) (by omega)) (GX.take (v := .slice A2 l2.length c2) (rs := [[]]) 5 rfl (by kernel_rfl) (fun _ _ => Yl.move rfl) (GX.take (v := .string ⟨List.toArray l2⟩) (rs := [[]]) 6 rfl (by kernel_rfl) (fun _ ⟨_, H9⟩ => Yl.toStringE (l := l2) Try.underlying33 Try.underlying5 Try.underlying9 (H9.ro hx2) rfl) ?_))))))
 obtain ⟨x37, hx38⟩ := at_of (ls := p0.xWait.ls) (i := Int.toNat p1) (by first | omega | (simp; done) | (simp; omega))
 have hz39 : x37.length ≤ 64 := sm_at (by assumption) hx38
 refine GX.take (v := .pointer (some ⟨ab A0x1, ao A0x1 + (Int.toNat p1) * 1, none⟩)) (rs := [[]]) 7 rfl (by kernel_rfl) (fun _ ⟨_, H9⟩ => Yl.indexAddr (El56) rfl rfl ((H9.rds (i := 2) rfl).addr (i := Int.toNat p1) (by omega)) (by omega)) ?_
 have H40 := H36.pk [2, 0, 1]
 refine GX.do0 8 rfl (by kernel_rfl) (Do.storeRow (vs := [.string ⟨List.toArray l2⟩]) (o := (Int.toNat p1) * 1 + 0) (q := ao A0x1 + (Int.toNat p1) * 1) H40 rfl (by omega) rfl Try.sizeOf9 rfl rfl (Nat.le_of_ble_eq_true rfl) (store_fits eS_len hx38 (Nat.le_of_ble_eq_true rfl)) (flat_set (y := l2) eS_len rfl (Nat.le_of_ble_eq_true rfl) hx38) ?_)
 intro w41 H42
 refine ⟨.inl (by kernel_rfl), ?_⟩
 refine GX.done (by kernel_rfl) (Fin.then (sr (An rfl (rt (rs ?_)))))
 have hn43 : p0.xWait.ls.length = List.length (List.set p0.xWait.ls (Int.toNat p1) l2) := by first | omega | (simp only [List.length_set]; done) | (simp only [List.length_set, List.length_append, List.length_cons, List.length_nil, List.length_take, List.length_drop, List.length_replicate]; omega)
 have H44 : Own w D w41 [row A0x1 (List.length (List.set p0.xWait.ls (Int.toNat p1) l2)) c0x1 (List.flatMap eS (List.set p0.xWait.ls (Int.toNat p1) l2)) 9 1, blk g0 [.slice A0x0 p0.xSafe.ls.length c0x0, .slice A0x1 (List.length (List.set p0.xWait.ls (Int.toNat p1) l2)) c0x1, .int .i64 (IntKind.i64.wrap (p0.xFused - 1)), .bool p0.xDown] 58, row A0x0 p0.xSafe.ls.length c0x0 (List.flatMap eS p0.xSafe.ls) 9 1] := by rw [← hn43]; exact H42
 have H45 := H44.pk [1, 2, 0]
 have e : r06_Disk_Write p0 p1 l2 = (0, DiskDT.mk (Ll.mk p0.xSafe.ls) (Ll.mk (List.set p0.xWait.ls (Int.toNat p1) l2)) (IntKind.i64.wrap (p0.xFused - 1)) p0.xDown) := et (ifF h21) (et (iN h23) (et (iN h25) (et (ip h27) (et (iN h28) (ip h32)))))
 obtain ⟨rfl, rfl⟩ := pj2 (e.symm.trans hr)
 exact ⟨A0x0, c0x0, A0x1, c0x1, (by first | rfl | (rw [← hn43]; done) | (rw [← hn43]; rfl)), H45, (by first | exact ⟨rfl, rfl⟩ | exact ⟨rfl, List.length_set⟩ | (dsimp only; omega) | omega), (by first | assumption | exact sm_set (by assumption) (by simp only [List.length_nil]; omega) | exact sm_set (by assumption) (by omega)), (by first | assumption | exact sm_set (by assumption) (by simp only [List.length_nil]; omega) | exact sm_set (by assumption) (by omega))⟩
 refine jF (dF h32) (sk (sr (An rfl (rt (rs (Kz (.bool false) (An rfl (jf (Wp.skip (bN (Fin.then (Wp.seq ?_))))))))))))
 have H47 := H.drew
 refine Wp.drawnX [8] (fun W => ∃ L', Own w D W ([blk g0 [.slice A0x0 p0.xSafe.ls.length c0x0, .slice A0x1 p0.xWait.ls.length c0x1, .int .i64 p0.xFused, .bool p0.xDown] 58, row A0x0 p0.xSafe.ls.length c0x0 (List.flatMap eS p0.xSafe.ls) 9 1, row A0x1 p0.xWait.ls.length c0x1 (List.flatMap eS p0.xWait.ls) 9 1] ++ L')) (by kernel_rfl) (by kernel_rfl) (NoP.then NoP.base) ⟨_, H47⟩ ?_
 revert H47
 generalize World.drew w = w46
 intro H47
 refine GX.take (v := .pointer (some ⟨g0, 0, none⟩)) (rs := [[]]) 0 rfl (by kernel_rfl) (fun _ _ => Yl.move rfl) (GX.take (v := .pointer (some ⟨g0, 0, none⟩)) (rs := [[]]) 1 rfl (by kernel_rfl) (fun _ _ => yk) (GX.take (v := .pointer (some ⟨g0, 1, none⟩)) (rs := [[]]) 2 rfl (by kernel_rfl) (fun _ _ => yk) (GX.take (v := .slice A0x1 p0.xWait.ls.length c0x1) (rs := [[]]) 3 rfl (by kernel_rfl) (fun _ ⟨_, H9⟩ => Yl.load rfl (Lds.one Try.isAgg56 (Cls.of (H9.cls (i := 0) rfl) rfl))) (GX.take (v := .int .i64 ((Int.toNat p1 : Nat) : Int)) (rs := [[]]) 4 rfl (by kernel_rfl) (fun _ _ => Yl.int (e := p1) (Yl.move rfl) (by omega)) (GX.take (v := .slice A2 l2.length c2) (rs := [[]]) 5 rfl (by kernel_rfl) (fun _ _ => Yl.move rfl) (GX.take (v := .string ⟨List.toArray l2⟩) (rs := [[]]) 6 rfl (by kernel_rfl) (fun _ ⟨_, H9⟩ => Yl.toStringE (l := l2) Try.underlying33 Try.underlying5 Try.underlying9 (H9.ro hx2) rfl) ?_))))))
 obtain ⟨x48, hx49⟩ := at_of (ls := p0.xWait.ls) (i := Int.toNat p1) (by first | omega | (simp; done) | (simp; omega))
 have hz50 : x48.length ≤ 64 := sm_at (by assumption) hx49
 refine GX.take (v := .pointer (some ⟨ab A0x1, ao A0x1 + (Int.toNat p1) * 1, none⟩)) (rs := [[]]) 7 rfl (by kernel_rfl) (fun _ ⟨_, H9⟩ => Yl.indexAddr (El56) rfl rfl ((H9.rds (i := 2) rfl).addr (i := Int.toNat p1) (by omega)) (by omega)) ?_
 have H51 := H47.pk [2, 0, 1]
 refine GX.do0 8 rfl (by kernel_rfl) (Do.storeRow (vs := [.string ⟨List.toArray l2⟩]) (o := (Int.toNat p1) * 1 + 0) (q := ao A0x1 + (Int.toNat p1) * 1) H51 rfl (by omega) rfl Try.sizeOf9 rfl rfl (Nat.le_of_ble_eq_true rfl) (store_fits eS_len hx49 (Nat.le_of_ble_eq_true rfl)) (flat_set (y := l2) eS_len rfl (Nat.le_of_ble_eq_true rfl) hx49) ?_)
 intro w52 H53
 refine ⟨.inl (by kernel_rfl), ?_⟩
 refine GX.done (by kernel_rfl) (Fin.then (sr (An rfl (rt (rs ?_)))))
 have hn54 : p0.xWait.ls.length = List.length (List.set p0.xWait.ls (Int.toNat p1) l2) := by first | omega | (simp only [List.length_set]; done) | (simp only [List.length_set, List.length_append, List.length_cons, List.length_nil, List.length_take, List.length_drop, List.length_replicate]; omega)
 have H55 : Own w D w52 [row A0x1 (List.length (List.set p0.xWait.ls (Int.toNat p1) l2)) c0x1 (List.flatMap eS (List.set p0.xWait.ls (Int.toNat p1) l2)) 9 1, blk g0 [.slice A0x0 p0.xSafe.ls.length c0x0, .slice A0x1 (List.length (List.set p0.xWait.ls (Int.toNat p1) l2)) c0x1, .int .i64 p0.xFused, .bool p0.xDown] 58, row A0x0 p0.xSafe.ls.length c0x0 (List.flatMap eS p0.xSafe.ls) 9 1] := by rw [← hn54]; exact H53
 have H56 := H55.pk [1, 2, 0]
 have e : r06_Disk_Write p0 p1 l2 = (0, DiskDT.mk (Ll.mk p0.xSafe.ls) (Ll.mk (List.set p0.xWait.ls (Int.toNat p1) l2)) p0.xFused p0.xDown) := et (ifF h21) (et (iN h23) (et (iN h25) (et (ip h27) (et (iN h28) (iN h32)))))
 obtain ⟨rfl, rfl⟩ := pj2 (e.symm.trans hr)
 exact ⟨A0x0, c0x0, A0x1, c0x1, (by first | rfl | (rw [← hn54]; done) | (rw [← hn54]; rfl)), H56, (by first | exact ⟨rfl, rfl⟩ | exact ⟨rfl, List.length_set⟩ | (dsimp only; omega) | omega), (by first | assumption | exact sm_set (by assumption) (by simp only [List.length_nil]; omega) | exact sm_set (by assumption) (by omega)), (by first | assumption | exact sm_set (by assumption) (by simp only [List.length_nil]; omega) | exact sm_set (by assumption) (by omega))⟩
 refine jT (dT h27) (sr (An rfl (rt (bR (tR (rs ?_))))))
 have H57 : Own w D w [blk g0 [.slice A0x0 p0.xSafe.ls.length c0x0, .slice A0x1 p0.xWait.ls.length c0x1, .int .i64 p0.xFused, .bool p0.xDown] 58, row A0x0 p0.xSafe.ls.length c0x0 (List.flatMap eS p0.xSafe.ls) 9 1, row A0x1 p0.xWait.ls.length c0x1 (List.flatMap eS p0.xWait.ls) 9 1] := H.pk [0, 1, 2]
 have e : r06_Disk_Write p0 p1 l2 = (2, p0) := et (ifF h21) (et (iN h23) (et (iN h25) (iN h27)))
 obtain ⟨rfl, rfl⟩ := pj2 (e.symm.trans hr)
 exact ⟨A0x0, c0x0, A0x1, c0x1, rfl, H57, (by first | exact ⟨rfl, rfl⟩ | exact ⟨rfl, List.length_set⟩ | (dsimp only; omega) | omega), (by first | assumption | exact sm_set (by assumption) (by simp only [List.length_nil]; omega) | exact sm_set (by assumption) (by omega)), (by first | assumption | exact sm_set (by assumption) (by simp only [List.length_nil]; omega) | exact sm_set (by assumption) (by omega))⟩

def r06_Disk_Sync_L0 (p0 : DiskDT) : Nat → Nat → List (List UInt8) → List (List UInt8) → (List (List UInt8)) × (List (List UInt8))
  | 0, k30, l31, l32 => (l31, l32)
  | q33 + 1, k30, l31, l32 => bnd (List.getD l32 k30 default) fun yx48 => if yx48 ≠ ([]) then r06_Disk_Sync_L0 p0 q33 (k30 + 1) (List.set l31 k30 yx48) (List.set l32 k30 ([])) else r06_Disk_Sync_L0 p0 q33 (k30 + 1) l31 l32

def r06_Disk_Sync_L1 (p0 : DiskDT) : Nat → Nat → List (List UInt8) → List (List UInt8) → (List (List UInt8)) × (List (List UInt8))
  | 0, k69, l70, l71 => (l70, l71)
  | q72 + 1, k69, l70, l71 => bnd (List.getD l71 k69 default) fun yx87 => if yx87 ≠ ([]) then r06_Disk_Sync_L1 p0 q72 (k69 + 1) (List.set l70 k69 yx87) (List.set l71 k69 ([])) else r06_Disk_Sync_L1 p0 q72 (k69 + 1) l70 l71

def r06_Disk_Sync (p0 : DiskDT) : Int × DiskDT :=
 if p0.xDown = true then (60, p0) else if p0.xFused = 0 then (60, DiskDT.mk (Ll.mk p0.xSafe.ls) (Ll.mk p0.xWait.ls) p0.xFused true) else if p0.xFused > 0 then bnd (r06_Disk_Sync_L0 p0 p0.xWait.ls.length 0 p0.xSafe.ls p0.xWait.ls) fun sLrfftL => (0, DiskDT.mk (Ll.mk sLrfftL.1) (Ll.mk sLrfftL.2) (IntKind.i64.wrap (p0.xFused - 1)) p0.xDown) else bnd (r06_Disk_Sync_L1 p0 p0.xWait.ls.length 0 p0.xSafe.ls p0.xWait.ls) fun sLrfffL => (0, DiskDT.mk (Ll.mk sLrfffL.1) (Ll.mk sLrfffL.2) p0.xFused p0.xDown)

set_option maxRecDepth 100000 in
theorem r06_Disk_Sync_ok (w : World) (D : Nat → Prop) (g0 : Nat) (p0 : DiskDT) (A0x0 : Option Addr) (c0x0 : Nat) (A0x1 : Option Addr) (c0x1 : Nat) (r0 : Int) (r1 : DiskDT) (H : Own w D w [blk g0 [.slice A0x0 p0.xSafe.ls.length c0x0, .slice A0x1 p0.xWait.ls.length c0x1, .int .i64 p0.xFused, .bool p0.xDown] 58, row A0x0 p0.xSafe.ls.length c0x0 (List.flatMap eS p0.xSafe.ls) 9 1, row A0x1 p0.xWait.ls.length c0x1 (List.flatMap eS p0.xWait.ls) 9 1]) (hh0 : p0.xSafe.ls.length = p0.xWait.ls.length ∧ p0.xSafe.ls.length ≤ 4096) (hh1 : Sm p0.xSafe.ls) (hh2 : Sm p0.xWait.ls) (hr : r06_Disk_Sync p0 = (r0, r1)) :
    Calls Try.prog 16 #[.pointer (some ⟨g0, 0, none⟩)] w (Ret fun v w' => ∃ (B1ox0 : Option Addr) (b1ox0 : Nat) (B1ox1 : Option Addr) (b1ox1 : Nat), v = .int .i64 r0 ∧ Own w D w' [blk g0 [.slice B1ox0 r1.xSafe.ls.length b1ox0, .slice B1ox1 r1.xWait.ls.length b1ox1, .int .i64 r1.xFused, .bool r1.xDown] 58, row B1ox0 r1.xSafe.ls.length b1ox0 (List.flatMap eS r1.xSafe.ls) 9 1, row B1ox1 r1.xWait.ls.length b1ox1 (List.flatMap eS r1.xWait.ls) 9 1] ∧ (r1.xSafe.ls.length = p0.xSafe.ls.length ∧ r1.xWait.ls.length = p0.xWait.ls.length) ∧ (Sm r1.xSafe.ls) ∧ (Sm r1.xWait.ls)) := by
 have hc0x0 := H.rowC (i := 1) rfl
 have hc0x1 := H.rowC (i := 2) rfl
 refine Calls.body (args := [.pointer (some ⟨g0, 0, none⟩)]) Try.func16 rfl rfl rfl ?_
 show Wp _ _ _ [(0, .pointer (some ⟨g0, 0, none⟩))] _ _
 refine sr (An rfl (Wp.seq (sr (Mz rfl (Kz (.pointer (some ⟨g0, 0, none⟩)) (Kz (.pointer (some ⟨g0, 3, none⟩)) (Lz (.bool p0.xDown) H 0 Try.isAgg4 (Mz rfl ?_))))))))
 rcases Bool.eq_false_or_eq_true (p0.xDown) with h21 | h21
 refine Sz h21 (Sz h21 (Sz h21 (fw (.bool true) (Yl.pickT rfl h21 rfl) (nt (jt (sr (An rfl (rt (tR (rs ?_))))))))))
 have H22 : Own w D w [blk g0 [.slice A0x0 p0.xSafe.ls.length c0x0, .slice A0x1 p0.xWait.ls.length c0x1, .int .i64 p0.xFused, .bool p0.xDown] 58, row A0x0 p0.xSafe.ls.length c0x0 (List.flatMap eS p0.xSafe.ls) 9 1, row A0x1 p0.xWait.ls.length c0x1 (List.flatMap eS p0.xWait.ls) 9 1] := H.pk [0, 1, 2]
 have e : r06_Disk_Sync p0 = (60, p0) := ip h21
 obtain ⟨rfl, rfl⟩ := pj2 (e.symm.trans hr)
 exact ⟨A0x0, c0x0, A0x1, c0x1, rfl, H22, (by first | exact ⟨rfl, rfl⟩ | exact ⟨rfl, List.length_set⟩ | (dsimp only; omega) | omega), (by first | assumption | exact sm_set (by assumption) (by simp only [List.length_nil]; omega) | exact sm_set (by assumption) (by omega)), (by first | assumption | exact sm_set (by assumption) (by simp only [List.length_nil]; omega) | exact sm_set (by assumption) (by omega))⟩
 refine WL.valG (v := .pointer (some ⟨g0, 0, none⟩)) rfl rfl h21 rfl (Yl.move rfl) ?_
 refine WL.doG rfl rfl h21 rfl (Do.call Try.call31 rfl ?_ (fun _ _ k => k))
 refine Calls.body (args := [.pointer (some ⟨g0, 0, none⟩)]) Try.func31 rfl rfl rfl ?_
 show Wp _ _ _ [(0, .pointer (some ⟨g0, 0, none⟩))] _ _
 refine sr (An rfl (Wp.seq (sr (Mz rfl (Kz (.pointer (some ⟨g0, 0, none⟩)) (Kz (.pointer (some ⟨g0, 2, none⟩)) (Lz (.int .i64 p0.xFused) H 0 Try.isAgg3 (Kz (.bool (decide (p0.xFused = 0))) (nt ?_)))))))))
 by_cases h23 : p0.xFused = 0
 refine jT (dT h23) (sr (Mz rfl (Kz (.pointer (some ⟨g0, 0, none⟩)) (Kz (.pointer (some ⟨g0, 3, none⟩)) ?_))))
 refine sto [.bool true] 3 H Try.sizeOf4 ?_
 intro w24 H25
 refine ns (An rfl (rt (tR (rs (Gz (.bool true) h21 (fw (.bool true) (Yl.pickF rfl h21 rfl) (nt (jt (sr (An rfl (rt (tR (rs ?_)))))))))))))
 have H26 := H25.pk [0, 1, 2]
 have e : r06_Disk_Sync p0 = (60, DiskDT.mk (Ll.mk p0.xSafe.ls) (Ll.mk p0.xWait.ls) p0.xFused true) := et (ifF h21) (ip h23)
 obtain ⟨rfl, rfl⟩ := pj2 (e.symm.trans hr)
 exact ⟨A0x0, c0x0, A0x1, c0x1, rfl, H26, (by first | exact ⟨rfl, rfl⟩ | exact ⟨rfl, List.length_set⟩ | (dsimp only; omega) | omega), (by first | assumption | exact sm_set (by assumption) (by simp only [List.length_nil]; omega) | exact sm_set (by assumption) (by omega)), (by first | assumption | exact sm_set (by assumption) (by simp only [List.length_nil]; omega) | exact sm_set (by assumption) (by omega))⟩
 refine jF (dF h23) (sk (Wp.seq (sr (Mz rfl (Kz (.pointer (some ⟨g0, 0, none⟩)) (Kz (.pointer (some ⟨g0, 2, none⟩)) (Lz (.int .i64 p0.xFused) H 0 Try.isAgg3 (Kz (.bool (decide (p0.xFused > 0))) (nt ?_)))))))))
 by_cases h27 : p0.xFused > 0
 refine jT (dT h27) (Wp.region (Mz rfl (Kz (.pointer (some ⟨g0, 0, none⟩)) (Kz (.pointer (some ⟨g0, 2, none⟩)) (Lz (.int .i64 p0.xFused) H 0 Try.isAgg3 (Kz (.int .i64 (IntKind.i64.wrap (p0.xFused - 1))) (Kz (.pointer (some ⟨g0, 0, none⟩)) (Kz (.pointer (some ⟨g0, 2, none⟩)) ?_))))))))
 refine sto [.int .i64 (IntKind.i64.wrap (p0.xFused - 1))] 2 H Try.sizeOf3 ?_
 intro w28 H29
 refine ns (An rfl (rt (rs (Gz (.bool false) h21 (fw (.bool false) (Yl.pickF rfl h21 rfl) (nt (jf (sk (Wp.seq (sr (Mz rfl (Kz (.pointer (some ⟨g0, 0, none⟩)) (Kz (.pointer (some ⟨g0, 1, none⟩)) (Lz (.slice A0x1 p0.xWait.ls.length c0x1) H29 0 Try.isAgg56 (Kz (.int .i64 ((p0.xWait.ls.length : Nat) : Int)) (Mn rfl (bo ?_)))))))))))))))))
 have H34 := H29.pk [0, 1, 2]
 obtain ⟨I38, hI39⟩ : ∃ q : (Nat × (List (List UInt8)) × (List (List UInt8))) → World → Prop, q = fun (i : Nat × (List (List UInt8)) × (List (List UInt8))) w' => Own w D w' [blk g0 [.slice A0x0 p0.xSafe.ls.length c0x0, .slice A0x1 p0.xWait.ls.length c0x1, .int .i64 (IntKind.i64.wrap (p0.xFused - 1)), .bool p0.xDown] 58, row A0x0 p0.xSafe.ls.length c0x0 (List.flatMap eS i.2.1) 9 1, row A0x1 p0.xWait.ls.length c0x1 (List.flatMap eS i.2.2) 9 1] ∧ (i.2.1.length = p0.xSafe.ls.length ∧ i.2.2.length = p0.xWait.ls.length ∧ i.1 ≤ p0.xWait.ls.length ∧ Sm i.2.1 ∧ Sm i.2.2 ∧ r06_Disk_Sync_L0 p0 p0.xWait.ls.length 0 p0.xSafe.ls p0.xWait.ls = r06_Disk_Sync_L0 p0 (p0.xWait.ls.length - i.1) i.1 i.2.1 i.2.2) := ⟨_, rfl⟩
 have dm40 : ∀ {k30 : Nat} {l31 : List (List UInt8)} {l32 : List (List UInt8)} {w' : World}, I38 (k30, l31, l32) w' ↔ Own w D w' [blk g0 [.slice A0x0 p0.xSafe.ls.length c0x0, .slice A0x1 p0.xWait.ls.length c0x1, .int .i64 (IntKind.i64.wrap (p0.xFused - 1)), .bool p0.xDown] 58, row A0x0 p0.xSafe.ls.length c0x0 (List.flatMap eS l31) 9 1, row A0x1 p0.xWait.ls.length c0x1 (List.flatMap eS l32) 9 1] ∧ l31.length = p0.xSafe.ls.length ∧ l32.length = p0.xWait.ls.length ∧ k30 ≤ p0.xWait.ls.length ∧ Sm l31 ∧ Sm l32 ∧ r06_Disk_Sync_L0 p0 p0.xWait.ls.length 0 p0.xSafe.ls p0.xWait.ls = r06_Disk_Sync_L0 p0 (p0.xWait.ls.length - k30) k30 l31 l32 := by intros; subst hI39; exact Iff.rfl
 refine Wp.loop (fun i : Nat × (List (List UInt8)) × (List (List UInt8)) => [(19, .int .i64 ((i.1 : Nat) : Int)), (18, .int .i64 ((p0.xWait.ls.length : Nat) : Int)), (17, .slice A0x1 p0.xWait.ls.length c0x1), (2, .int .i64 0), (0, .pointer (some ⟨g0, 0, none⟩))]) I38 (fun i => p0.xWait.ls.length - i.1) (0, p0.xSafe.ls, p0.xWait.ls) ⟨rfl, rfl, rfl, rfl, rfl, trivial⟩ (dm40.2 ⟨H34, by first | omega | (simp only [List.length_set]; omega) | (simp only [List.length_replicate]), by first | omega | (simp only [List.length_set]; omega) | (simp only [List.length_replicate]), by omega, by first | assumption | exact sm_set (by assumption) (by simp only [List.length_nil]; omega) | exact sm_set (by assumption) (by omega), by first | assumption | exact sm_set (by assumption) (by simp only [List.length_nil]; omega) | exact sm_set (by assumption) (by omega), rfl⟩) ?_
 rintro ⟨k30, l31, l32⟩ w35 hf37
 show Wp _ _ _ [(19, .int .i64 ((k30 : Nat) : Int)), (18, .int .i64 ((p0.xWait.ls.length : Nat) : Int)), (17, .slice A0x1 p0.xWait.ls.length c0x1), (2, .int .i64 0), (0, .pointer (some ⟨g0, 0, none⟩))] _ _
 obtain ⟨H36, hi42, hi43, hi44, hi45, hi46, hq41⟩ := dm40.1 hf37
 refine sr (Kz (.bool (decide (((k30 : Nat) : Int) < ((p0.xWait.ls.length : Nat) : Int)))) (nt (Wp.seq ?_)))
 by_cases h47 : ((k30 : Nat) : Int) < ((p0.xWait.ls.length : Nat) : Int)
 refine jT (dT h47) (sk (Wp.seq (bo (sr (Mz rfl ?_)))))
 obtain ⟨x48, hx49⟩ := rds_at (ls := l32) (i := k30) eS_len (by decide) (H36.rds (i := 2) rfl) (by first | omega | (simp; done) | (simp; omega))
 have hz50 : x48.length ≤ 64 := sm_at (by assumption) hx49
 refine fw (.pointer (some ⟨ab A0x1, ao A0x1 + k30 * 1, none⟩)) (Yl.indexAddr (El56) rfl rfl ((H36.rds (i := 2) rfl).addr (i := k30) (by omega)) (by omega)) (fw (.string ⟨List.toArray x48⟩) (Yl.load rfl (Lds.one Try.isAgg9 (((H36.rds (i := 2) rfl).elem eS_len hx49 (by decide)).at_ (k := 0) rfl))) (Az rfl (Ar rfl (Mz rfl (fw (.bool (decide (x48 ≠ ([])))) (Yl.strNe rfl rfl) (nt ?_))))))
 by_cases h51 : x48 ≠ ([])
 refine jT (dT h51) (sr (Mz rfl (Kz (.pointer (some ⟨g0, 0, none⟩)) (Kz (.pointer (some ⟨g0, 0, none⟩)) (Lz (.slice A0x0 p0.xSafe.ls.length c0x0) H36 0 Try.isAgg56 (Mz rfl (Mz rfl ?_)))))))
 obtain ⟨x52, hx53⟩ := rds_at (ls := l31) (i := k30) eS_len (by decide) (H36.rds (i := 1) rfl) (by first | omega | (simp; done) | (simp; omega))
 have hz54 : x52.length ≤ 64 := sm_at (by assumption) hx53
 refine fw (.pointer (some ⟨ab A0x0, ao A0x0 + k30 * 1, none⟩)) (Yl.indexAddr (El56) rfl rfl ((H36.rds (i := 1) rfl).addr (i := k30) (by omega)) (by omega)) ?_
 have H55 := H36.pk [1, 0, 2]
 refine WL.do0 (Do.storeRow (vs := [.string ⟨List.toArray x48⟩]) (o := k30 * 1 + 0) (q := ao A0x0 + k30 * 1) H55 rfl (by omega) rfl Try.sizeOf9 rfl rfl (Nat.le_of_ble_eq_true rfl) (store_fits eS_len hx53 (Nat.le_of_ble_eq_true rfl)) (flat_set (y := x48) eS_len rfl (Nat.le_of_ble_eq_true rfl) hx53) ?_)
 intro w56 H57
 refine nt (Wp.region (Mz rfl (Kz (.pointer (some ⟨g0, 0, none⟩)) (Kz (.pointer (some ⟨g0, 1, none⟩)) (Lz (.slice A0x1 p0.xWait.ls.length c0x1) H57 1 Try.isAgg56 (Mz rfl (fw (.pointer (some ⟨ab A0x1, ao A0x1 + k30 * 1, none⟩)) (Yl.indexAddr (El56) rfl rfl ((H57.rds (i := 2) rfl).addr (i := k30) (by omega)) (by omega)) ?_)))))))
 have H58 := H57.pk [2, 0, 1]
 refine WL.do0 (Do.storeRow (vs := [.string ⟨List.toArray ([])⟩]) (o := k30 * 1 + 0) (q := ao A0x1 + k30 * 1) H58 rfl (by omega) rfl Try.sizeOf9 rfl rfl (Nat.le_of_ble_eq_true rfl) (store_fits eS_len hx49 (Nat.le_of_ble_eq_true rfl)) (flat_set (y := ([])) eS_len rfl (Nat.le_of_ble_eq_true rfl) hx49) ?_)
 intro w59 H60
 refine WL.nil (bN (Fin.then (Wp.region (fw (.int .i64 ((k30 + 1 : Nat) : Int)) (Yl.int (e := IntKind.i64.wrap (((k30 : Nat) : Int) + 1)) yk (by rw [IntWalk.i64_in _ (by omega)]; omega)) (Mz rfl (WL.nil ?_))))))
 have H61 := H60.pk [2, 1, 0]
 exact Fin.round (k30 + 1, (List.set l31 k30 x48), (List.set l32 k30 ([]))) ⟨rfl, rfl, rfl, rfl, rfl, trivial⟩ (dm40.2 ⟨H61, by first | omega | (simp only [List.length_set]; omega) | (simp only [List.length_replicate]), by first | omega | (simp only [List.length_set]; omega) | (simp only [List.length_replicate]), by omega, by first | assumption | exact sm_set (by assumption) (by simp only [List.length_nil]; omega) | exact sm_set (by assumption) (by omega), by first | assumption | exact sm_set (by assumption) (by simp only [List.length_nil]; omega) | exact sm_set (by assumption) (by omega), Eq.trans (hq41) (Eq.trans (congrArg (fun q => r06_Disk_Sync_L0 p0 q k30 l31 l32) (sub_at (n := p0.xWait.ls.length) (i := k30) (by omega))) (Eq.trans (bnd_of (getD_of hx49)) (if_pos h51)))⟩) (by show p0.xWait.ls.length - (k30 + 1) < p0.xWait.ls.length - k30; omega)
 refine jF (dF h51) (Wp.skip (bN (Fin.then (Wp.region (fw (.int .i64 ((k30 + 1 : Nat) : Int)) (Yl.int (e := IntKind.i64.wrap (((k30 : Nat) : Int) + 1)) yk (by rw [IntWalk.i64_in _ (by omega)]; omega)) (Mz rfl (WL.nil ?_)))))))
 have H62 := H36.pk [0, 1, 2]
 exact Fin.round (k30 + 1, l31, l32) ⟨rfl, rfl, rfl, rfl, rfl, trivial⟩ (dm40.2 ⟨H62, by first | omega | (simp only [List.length_set]; omega) | (simp only [List.length_replicate]), by first | omega | (simp only [List.length_set]; omega) | (simp only [List.length_replicate]), by omega, by first | assumption | exact sm_set (by assumption) (by simp only [List.length_nil]; omega) | exact sm_set (by assumption) (by omega), by first | assumption | exact sm_set (by assumption) (by simp only [List.length_nil]; omega) | exact sm_set (by assumption) (by omega), Eq.trans (hq41) (Eq.trans (congrArg (fun q => r06_Disk_Sync_L0 p0 q k30 l31 l32) (sub_at (n := p0.xWait.ls.length) (i := k30) (by omega))) (Eq.trans (bnd_of (getD_of hx49)) (if_neg h51)))⟩) (by show p0.xWait.ls.length - (k30 + 1) < p0.xWait.ls.length - k30; omega)
 refine jF (dF h47) (Wp.exit (Fin.thenX ?_))
 have hL63 : r06_Disk_Sync_L0 p0 p0.xWait.ls.length 0 p0.xSafe.ls p0.xWait.ls = (l31, l32) := et (hq41) (et (congrArg (fun q => r06_Disk_Sync_L0 p0 q k30 l31 l32) (sub_end (n := p0.xWait.ls.length) (i := k30) (by omega))) rfl)
 refine Fin.thenX (Fin.blockX (Fin.then (sr (An rfl (rt (rs ?_))))))
 have hn64 : p0.xSafe.ls.length = l31.length := by first | omega | (simp only [List.length_set]; done) | (simp only [List.length_set, List.length_append, List.length_cons, List.length_nil, List.length_take, List.length_drop, List.length_replicate]; omega)
 have H65 : Own w D w35 [blk g0 [.slice A0x0 l31.length c0x0, .slice A0x1 p0.xWait.ls.length c0x1, .int .i64 (IntKind.i64.wrap (p0.xFused - 1)), .bool p0.xDown] 58, row A0x0 l31.length c0x0 (List.flatMap eS l31) 9 1, row A0x1 p0.xWait.ls.length c0x1 (List.flatMap eS l32) 9 1] := by rw [← hn64]; exact H36
 have hn66 : p0.xWait.ls.length = l32.length := by first | omega | (simp only [List.length_set]; done) | (simp only [List.length_set, List.length_append, List.length_cons, List.length_nil, List.length_take, List.length_drop, List.length_replicate]; omega)
 have H67 : Own w D w35 [blk g0 [.slice A0x0 l31.length c0x0, .slice A0x1 l32.length c0x1, .int .i64 (IntKind.i64.wrap (p0.xFused - 1)), .bool p0.xDown] 58, row A0x0 l31.length c0x0 (List.flatMap eS l31) 9 1, row A0x1 l32.length c0x1 (List.flatMap eS l32) 9 1] := by rw [← hn66]; exact H65
 have H68 := H67.pk [0, 1, 2]
 have e : r06_Disk_Sync p0 = (0, DiskDT.mk (Ll.mk l31) (Ll.mk l32) (IntKind.i64.wrap (p0.xFused - 1)) p0.xDown) := et (ifF h21) (et (iN h23) (et (ip h27) (bnd_of hL63)))
 obtain ⟨rfl, rfl⟩ := pj2 (e.symm.trans hr)
 exact ⟨A0x0, c0x0, A0x1, c0x1, (by first | rw [← hn64] | skip; first | rw [← hn66] | skip; first | done | rfl), H68, (by first | exact ⟨rfl, rfl⟩ | exact ⟨rfl, List.length_set⟩ | (dsimp only; omega) | omega), (by first | assumption | exact sm_set (by assumption) (by simp only [List.length_nil]; omega) | exact sm_set (by assumption) (by omega)), (by first | assumption | exact sm_set (by assumption) (by simp only [List.length_nil]; omega) | exact sm_set (by assumption) (by omega))⟩
 refine jF (dF h27) (sk (sr (An rfl (rt (rs (Gz (.bool false) h21 (fw (.bool false) (Yl.pickF rfl h21 rfl) (nt (jf (sk (Wp.seq (sr (Mz rfl (Kz (.pointer (some ⟨g0, 0, none⟩)) (Kz (.pointer (some ⟨g0, 1, none⟩)) (Lz (.slice A0x1 p0.xWait.ls.length c0x1) H 0 Try.isAgg56 (Kz (.int .i64 ((p0.xWait.ls.length : Nat) : Int)) (Mn rfl (bo ?_)))))))))))))))))))
 have H73 : Own w D w [blk g0 [.slice A0x0 p0.xSafe.ls.length c0x0, .slice A0x1 p0.xWait.ls.length c0x1, .int .i64 p0.xFused, .bool p0.xDown] 58, row A0x0 p0.xSafe.ls.length c0x0 (List.flatMap eS p0.xSafe.ls) 9 1, row A0x1 p0.xWait.ls.length c0x1 (List.flatMap eS p0.xWait.ls) 9 1] := H.pk [0, 1, 2]
 obtain ⟨I77, hI78⟩ : ∃ q : (Nat × (List (List UInt8)) × (List (List UInt8))) → World → Prop, q = fun (i : Nat × (List (List UInt8)) × (List (List UInt8))) w' => Own w D w' [blk g0 [.slice A0x0 p0.xSafe.ls.length c0x0, .slice A0x1 p0.xWait.ls.length c0x1, .int .i64 p0.xFused, .bool p0.xDown] 58, row A0x0 p0.xSafe.ls.length c0x0 (List.flatMap eS i.2.1) 9 1, row A0x1 p0.xWait.ls.length c0x1 (List.flatMap eS i.2.2) 9 1] ∧ (i.2.1.length = p0.xSafe.ls.length ∧ i.2.2.length = p0.xWait.ls.length ∧ i.1 ≤ p0.xWait.ls.length ∧ Sm i.2.1 ∧ Sm i.2.2 ∧ r06_Disk_Sync_L1 p0 p0.xWait.ls.length 0 p0.xSafe.ls p0.xWait.ls = r06_Disk_Sync_L1 p0 (p0.xWait.ls.length - i.1) i.1 i.2.1 i.2.2) := ⟨_, rfl⟩
 have dm79 : ∀ {k69 : Nat} {l70 : List (List UInt8)} {l71 : List (List UInt8)} {w' : World}, I77 (k69, l70, l71) w' ↔ Own w D w' [blk g0 [.slice A0x0 p0.xSafe.ls.length c0x0, .slice A0x1 p0.xWait.ls.length c0x1, .int .i64 p0.xFused, .bool p0.xDown] 58, row A0x0 p0.xSafe.ls.length c0x0 (List.flatMap eS l70) 9 1, row A0x1 p0.xWait.ls.length c0x1 (List.flatMap eS l71) 9 1] ∧ l70.length = p0.xSafe.ls.length ∧ l71.length = p0.xWait.ls.length ∧ k69 ≤ p0.xWait.ls.length ∧ Sm l70 ∧ Sm l71 ∧ r06_Disk_Sync_L1 p0 p0.xWait.ls.length 0 p0.xSafe.ls p0.xWait.ls = r06_Disk_Sync_L1 p0 (p0.xWait.ls.length - k69) k69 l70 l71 := by intros; subst hI78; exact Iff.rfl
 refine Wp.loop (fun i : Nat × (List (List UInt8)) × (List (List UInt8)) => [(19, .int .i64 ((i.1 : Nat) : Int)), (18, .int .i64 ((p0.xWait.ls.length : Nat) : Int)), (17, .slice A0x1 p0.xWait.ls.length c0x1), (2, .int .i64 0), (0, .pointer (some ⟨g0, 0, none⟩))]) I77 (fun i => p0.xWait.ls.length - i.1) (0, p0.xSafe.ls, p0.xWait.ls) ⟨rfl, rfl, rfl, rfl, rfl, trivial⟩ (dm79.2 ⟨H73, by first | omega | (simp only [List.length_set]; omega) | (simp only [List.length_replicate]), by first | omega | (simp only [List.length_set]; omega) | (simp only [List.length_replicate]), by omega, by first | assumption | exact sm_set (by assumption) (by simp only [List.length_nil]; omega) | exact sm_set (by assumption) (by omega), by first | assumption | exact sm_set (by assumption) (by simp only [List.length_nil]; omega) | exact sm_set (by assumption) (by omega), rfl⟩) ?_
 rintro ⟨k69, l70, l71⟩ w74 hf76
 show Wp _ _ _ [(19, .int .i64 ((k69 : Nat) : Int)), (18, .int .i64 ((p0.xWait.ls.length : Nat) : Int)), (17, .slice A0x1 p0.xWait.ls.length c0x1), (2, .int .i64 0), (0, .pointer (some ⟨g0, 0, none⟩))] _ _
 obtain ⟨H75, hi81, hi82, hi83, hi84, hi85, hq80⟩ := dm79.1 hf76
 refine sr (Kz (.bool (decide (((k69 : Nat) : Int) < ((p0.xWait.ls.length : Nat) : Int)))) (nt (Wp.seq ?_)))
 by_cases h86 : ((k69 : Nat) : Int) < ((p0.xWait.ls.length : Nat) : Int)
 refine jT (dT h86) (sk (Wp.seq (bo (sr (Mz rfl ?_)))))
 obtain ⟨x87, hx88⟩ := rds_at (ls := l71) (i := k69) eS_len (by decide) (H75.rds (i := 2) rfl) (by first | omega | (simp; done) | (simp; omega))
 have hz89 : x87.length ≤ 64 := sm_at (by assumption) hx88
 refine fw (.pointer (some ⟨ab A0x1, ao A0x1 + k69 * 1, none⟩)) (Yl.indexAddr (El56) rfl rfl ((H75.rds (i := 2) rfl).addr (i := k69) (by omega)) (by omega)) (fw (.string ⟨List.toArray x87⟩) (Yl.load rfl (Lds.one Try.isAgg9 (((H75.rds (i := 2) rfl).elem eS_len hx88 (by decide)).at_ (k := 0) rfl))) (Az rfl (Ar rfl (Mz rfl (fw (.bool (decide (x87 ≠ ([])))) (Yl.strNe rfl rfl) (nt ?_))))))
 by_cases h90 : x87 ≠ ([])
 refine jT (dT h90) (sr (Mz rfl (Kz (.pointer (some ⟨g0, 0, none⟩)) (Kz (.pointer (some ⟨g0, 0, none⟩)) (Lz (.slice A0x0 p0.xSafe.ls.length c0x0) H75 0 Try.isAgg56 (Mz rfl (Mz rfl ?_)))))))
 obtain ⟨x91, hx92⟩ := rds_at (ls := l70) (i := k69) eS_len (by decide) (H75.rds (i := 1) rfl) (by first | omega | (simp; done) | (simp; omega))
 have hz93 : x91.length ≤ 64 := sm_at (by assumption) hx92
 refine fw (.pointer (some ⟨ab A0x0, ao A0x0 + k69 * 1, none⟩)) (Yl.indexAddr (El56) rfl rfl ((H75.rds (i := 1) rfl).addr (i := k69) (by omega)) (by omega)) ?_
 have H94 := H75.pk [1, 0, 2]
 refine WL.do0 (Do.storeRow (vs := [.string ⟨List.toArray x87⟩]) (o := k69 * 1 + 0) (q := ao A0x0 + k69 * 1) H94 rfl (by omega) rfl Try.sizeOf9 rfl rfl (Nat.le_of_ble_eq_true rfl) (store_fits eS_len hx92 (Nat.le_of_ble_eq_true rfl)) (flat_set (y := x87) eS_len rfl (Nat.le_of_ble_eq_true rfl) hx92) ?_)
 intro w95 H96
 refine nt (Wp.region (Mz rfl (Kz (.pointer (some ⟨g0, 0, none⟩)) (Kz (.pointer (some ⟨g0, 1, none⟩)) (Lz (.slice A0x1 p0.xWait.ls.length c0x1) H96 1 Try.isAgg56 (Mz rfl (fw (.pointer (some ⟨ab A0x1, ao A0x1 + k69 * 1, none⟩)) (Yl.indexAddr (El56) rfl rfl ((H96.rds (i := 2) rfl).addr (i := k69) (by omega)) (by omega)) ?_)))))))
 have H97 := H96.pk [2, 0, 1]
 refine WL.do0 (Do.storeRow (vs := [.string ⟨List.toArray ([])⟩]) (o := k69 * 1 + 0) (q := ao A0x1 + k69 * 1) H97 rfl (by omega) rfl Try.sizeOf9 rfl rfl (Nat.le_of_ble_eq_true rfl) (store_fits eS_len hx88 (Nat.le_of_ble_eq_true rfl)) (flat_set (y := ([])) eS_len rfl (Nat.le_of_ble_eq_true rfl) hx88) ?_)
 intro w98 H99
 refine WL.nil (bN (Fin.then (Wp.region (fw (.int .i64 ((k69 + 1 : Nat) : Int)) (Yl.int (e := IntKind.i64.wrap (((k69 : Nat) : Int) + 1)) yk (by rw [IntWalk.i64_in _ (by omega)]; omega)) (Mz rfl (WL.nil ?_))))))
 have H100 := H99.pk [2, 1, 0]
 exact Fin.round (k69 + 1, (List.set l70 k69 x87), (List.set l71 k69 ([]))) ⟨rfl, rfl, rfl, rfl, rfl, trivial⟩ (dm79.2 ⟨H100, by first | omega | (simp only [List.length_set]; omega) | (simp only [List.length_replicate]), by first | omega | (simp only [List.length_set]; omega) | (simp only [List.length_replicate]), by omega, by first | assumption | exact sm_set (by assumption) (by simp only [List.length_nil]; omega) | exact sm_set (by assumption) (by omega), by first | assumption | exact sm_set (by assumption) (by simp only [List.length_nil]; omega) | exact sm_set (by assumption) (by omega), Eq.trans (hq80) (Eq.trans (congrArg (fun q => r06_Disk_Sync_L1 p0 q k69 l70 l71) (sub_at (n := p0.xWait.ls.length) (i := k69) (by omega))) (Eq.trans (bnd_of (getD_of hx88)) (if_pos h90)))⟩) (by show p0.xWait.ls.length - (k69 + 1) < p0.xWait.ls.length - k69; omega)
 refine jF (dF h90) (Wp.skip (bN (Fin.then (Wp.region (fw (.int .i64 ((k69 + 1 : Nat) : Int)) (Yl.int (e := IntKind.i64.wrap (((k69 : Nat) : Int) + 1)) yk (by rw [IntWalk.i64_in _ (by omega)]; omega)) (Mz rfl (WL.nil ?_)))))))
 have H101 := H75.pk [0, 1, 2]
 exact Fin.round (k69 + 1, l70, l71) ⟨rfl, rfl, rfl, rfl, rfl, trivial⟩ (dm79.2 ⟨H101, by first | omega | (simp only [List.length_set]; omega) | (simp only [List.length_replicate]), by first | omega | (simp only [List.length_set]; omega) | (simp only [List.length_replicate]), by omega, by first | assumption | exact sm_set (by assumption) (by simp only [List.length_nil]; omega) | exact sm_set (by assumption) (by omega), by first | assumption | exact sm_set (by assumption) (by simp only [List.length_nil]; omega) | exact sm_set (by assumption) (by omega), Eq.trans (hq80) (Eq.trans (congrArg (fun q => r06_Disk_Sync_L1 p0 q k69 l70 l71) (sub_at (n := p0.xWait.ls.length) (i := k69) (by omega))) (Eq.trans (bnd_of (getD_of hx88)) (if_neg h90)))⟩) (by show p0.xWait.ls.length - (k69 + 1) < p0.xWait.ls.length - k69; omega)
 refine jF (dF h86) (Wp.exit (Fin.thenX ?_))
 have hL102 : r06_Disk_Sync_L1 p0 p0.xWait.ls.length 0 p0.xSafe.ls p0.xWait.ls = (l70, l71) := et (hq80) (et (congrArg (fun q => r06_Disk_Sync_L1 p0 q k69 l70 l71) (sub_end (n := p0.xWait.ls.length) (i := k69) (by omega))) rfl)
 refine Fin.thenX (Fin.blockX (Fin.then (sr (An rfl (rt (rs ?_))))))
 have hn103 : p0.xSafe.ls.length = l70.length := by first | omega | (simp only [List.length_set]; done) | (simp only [List.length_set, List.length_append, List.length_cons, List.length_nil, List.length_take, List.length_drop, List.length_replicate]; omega)
 have H104 : Own w D w74 [blk g0 [.slice A0x0 l70.length c0x0, .slice A0x1 p0.xWait.ls.length c0x1, .int .i64 p0.xFused, .bool p0.xDown] 58, row A0x0 l70.length c0x0 (List.flatMap eS l70) 9 1, row A0x1 p0.xWait.ls.length c0x1 (List.flatMap eS l71) 9 1] := by rw [← hn103]; exact H75
 have hn105 : p0.xWait.ls.length = l71.length := by first | omega | (simp only [List.length_set]; done) | (simp only [List.length_set, List.length_append, List.length_cons, List.length_nil, List.length_take, List.length_drop, List.length_replicate]; omega)
 have H106 : Own w D w74 [blk g0 [.slice A0x0 l70.length c0x0, .slice A0x1 l71.length c0x1, .int .i64 p0.xFused, .bool p0.xDown] 58, row A0x0 l70.length c0x0 (List.flatMap eS l70) 9 1, row A0x1 l71.length c0x1 (List.flatMap eS l71) 9 1] := by rw [← hn105]; exact H104
 have H107 := H106.pk [0, 1, 2]
 have e : r06_Disk_Sync p0 = (0, DiskDT.mk (Ll.mk l70) (Ll.mk l71) p0.xFused p0.xDown) := et (ifF h21) (et (iN h23) (et (iN h27) (bnd_of hL102)))
 obtain ⟨rfl, rfl⟩ := pj2 (e.symm.trans hr)
 exact ⟨A0x0, c0x0, A0x1, c0x1, (by first | rw [← hn103] | skip; first | rw [← hn105] | skip; first | done | rfl), H107, (by first | exact ⟨rfl, rfl⟩ | exact ⟨rfl, List.length_set⟩ | (dsimp only; omega) | omega), (by first | assumption | exact sm_set (by assumption) (by simp only [List.length_nil]; omega) | exact sm_set (by assumption) (by omega)), (by first | assumption | exact sm_set (by assumption) (by simp only [List.length_nil]; omega) | exact sm_set (by assumption) (by omega))⟩

def r06_Disk_Crash_L0 (p1 : List UInt8) : Nat → Nat → Nat → List (List UInt8) → List (List UInt8) → (List (List UInt8)) × (List (List UInt8))
  | 0, k21, k22, l23, l24 => (l23, l24)
  | q25 + 1, k21, k22, l23, l24 => bnd (List.getD l24 k22 default) fun yx44 => if yx44 = ([]) then r06_Disk_Crash_L0 p1 q25 k21 (k22 + 1) l23 l24 else if ((k21 : Nat) : Int) < ((p1.length : Nat) : Int) then bnd (List.getD p1 k21 default) fun yb50 => if ((yb50.toNat % 2 : Nat) : Int) = 1 then r06_Disk_Crash_L0 p1 q25 (k21 + 1) (k22 + 1) (List.set l23 k22 yx44) (List.set l24 k22 ([])) else r06_Disk_Crash_L0 p1 q25 (k21 + 1) (k22 + 1) l23 (List.set l24 k22 ([])) else r06_Disk_Crash_L0 p1 q25 (k21 + 1) (k22 + 1) l23 (List.set l24 k22 ([]))

def r06_Disk_Crash (p0 : DiskDT) (p1 : List UInt8) : DiskDT :=
 bnd (r06_Disk_Crash_L0 p1 p0.xWait.ls.length 0 0 p0.xSafe.ls p0.xWait.ls) fun sLrL => DiskDT.mk (Ll.mk sLrL.1) (Ll.mk sLrL.2) (-1) true

set_option maxRecDepth 100000 in
theorem r06_Disk_Crash_ok (w : World) (D : Nat → Prop) (g0 : Nat) (p0 : DiskDT) (A0x0 : Option Addr) (c0x0 : Nat) (A0x1 : Option Addr) (c0x1 : Nat) (p1 : List UInt8) (r0 : DiskDT) (H : Own w D w [blk g0 [.slice A0x0 p0.xSafe.ls.length c0x0, .slice A0x1 p0.xWait.ls.length c0x1, .int .i64 p0.xFused, .bool p0.xDown] 58, row A0x0 p0.xSafe.ls.length c0x0 (List.flatMap eS p0.xSafe.ls) 9 1, row A0x1 p0.xWait.ls.length c0x1 (List.flatMap eS p0.xWait.ls) 9 1]) (hh0 : p0.xSafe.ls.length = p0.xWait.ls.length ∧ p0.xSafe.ls.length ≤ 4096) (hh1 : Sm p0.xSafe.ls) (hh2 : Sm p0.xWait.ls) (hr : r06_Disk_Crash p0 p1 = r0) :
    Calls Try.prog 20 #[.pointer (some ⟨g0, 0, none⟩), .string ⟨List.toArray p1⟩] w (Ret fun v w' => ∃ (B0ox0 : Option Addr) (b0ox0 : Nat) (B0ox1 : Option Addr) (b0ox1 : Nat), v = .tuple #[] ∧ Own w D w' [blk g0 [.slice B0ox0 r0.xSafe.ls.length b0ox0, .slice B0ox1 r0.xWait.ls.length b0ox1, .int .i64 r0.xFused, .bool r0.xDown] 58, row B0ox0 r0.xSafe.ls.length b0ox0 (List.flatMap eS r0.xSafe.ls) 9 1, row B0ox1 r0.xWait.ls.length b0ox1 (List.flatMap eS r0.xWait.ls) 9 1] ∧ (r0.xSafe.ls.length = p0.xSafe.ls.length ∧ r0.xWait.ls.length = p0.xWait.ls.length) ∧ (Sm r0.xSafe.ls) ∧ (Sm r0.xWait.ls)) := by
 have hc0x0 := H.rowC (i := 1) rfl
 have hc0x1 := H.rowC (i := 2) rfl
 refine Calls.body (args := [.pointer (some ⟨g0, 0, none⟩), .string ⟨List.toArray p1⟩]) Try.func20 rfl rfl rfl ?_
 show Wp _ _ _ [(0, .pointer (some ⟨g0, 0, none⟩)), (1, .string ⟨List.toArray p1⟩)] _ _
 refine sr (An rfl (Wp.seq (sr (Mz rfl (Kz (.pointer (some ⟨g0, 0, none⟩)) (Kz (.pointer (some ⟨g0, 1, none⟩)) (Lz (.slice A0x1 p0.xWait.ls.length c0x1) H 0 Try.isAgg56 (Kz (.int .i64 ((p0.xWait.ls.length : Nat) : Int)) (Mn rfl (bo ?_))))))))))
 have H26 : Own w D w [blk g0 [.slice A0x0 p0.xSafe.ls.length c0x0, .slice A0x1 p0.xWait.ls.length c0x1, .int .i64 p0.xFused, .bool p0.xDown] 58, row A0x0 p0.xSafe.ls.length c0x0 (List.flatMap eS p0.xSafe.ls) 9 1, row A0x1 p0.xWait.ls.length c0x1 (List.flatMap eS p0.xWait.ls) 9 1] := H.pk [0, 1, 2]
 obtain ⟨I30, hI31⟩ : ∃ q : (Nat × Nat × (List (List UInt8)) × (List (List UInt8))) → World → Prop, q = fun (i : Nat × Nat × (List (List UInt8)) × (List (List UInt8))) w' => Own w D w' [blk g0 [.slice A0x0 p0.xSafe.ls.length c0x0, .slice A0x1 p0.xWait.ls.length c0x1, .int .i64 p0.xFused, .bool p0.xDown] 58, row A0x0 p0.xSafe.ls.length c0x0 (List.flatMap eS i.2.2.1) 9 1, row A0x1 p0.xWait.ls.length c0x1 (List.flatMap eS i.2.2.2) 9 1] ∧ (i.2.2.1.length = p0.xSafe.ls.length ∧ i.2.2.2.length = p0.xWait.ls.length ∧ i.2.1 ≤ p0.xWait.ls.length ∧ i.1 ≤ i.2.1 ∧ i.1 ≤ i.2.1 ∧ i.1 ≤ p0.xWait.ls.length ∧ i.1 ≤ i.2.1 ∧ Sm i.2.2.1 ∧ Sm i.2.2.2 ∧ r06_Disk_Crash_L0 p1 p0.xWait.ls.length 0 0 p0.xSafe.ls p0.xWait.ls = r06_Disk_Crash_L0 p1 (p0.xWait.ls.length - i.2.1) i.1 i.2.1 i.2.2.1 i.2.2.2) := ⟨_, rfl⟩
 have dm32 : ∀ {k21 : Nat} {k22 : Nat} {l23 : List (List UInt8)} {l24 : List (List UInt8)} {w' : World}, I30 (k21, k22, l23, l24) w' ↔ Own w D w' [blk g0 [.slice A0x0 p0.xSafe.ls.length c0x0, .slice A0x1 p0.xWait.ls.length c0x1, .int .i64 p0.xFused, .bool p0.xDown] 58, row A0x0 p0.xSafe.ls.length c0x0 (List.flatMap eS l23) 9 1, row A0x1 p0.xWait.ls.length c0x1 (List.flatMap eS l24) 9 1] ∧ l23.length = p0.xSafe.ls.length ∧ l24.length = p0.xWait.ls.length ∧ k22 ≤ p0.xWait.ls.length ∧ k21 ≤ k22 ∧ k21 ≤ k22 ∧ k21 ≤ p0.xWait.ls.length ∧ k21 ≤ k22 ∧ Sm l23 ∧ Sm l24 ∧ r06_Disk_Crash_L0 p1 p0.xWait.ls.length 0 0 p0.xSafe.ls p0.xWait.ls = r06_Disk_Crash_L0 p1 (p0.xWait.ls.length - k22) k21 k22 l23 l24 := by intros; subst hI31; exact Iff.rfl
 refine Wp.loop (fun i : Nat × Nat × (List (List UInt8)) × (List (List UInt8)) => [(4, .int .i64 ((i.1 : Nat) : Int)), (12, .int .i64 ((i.2.1 : Nat) : Int)), (11, .int .i64 ((p0.xWait.ls.length : Nat) : Int)), (10, .slice A0x1 p0.xWait.ls.length c0x1), (0, .pointer (some ⟨g0, 0, none⟩)), (1, .string ⟨List.toArray p1⟩)]) I30 (fun i => p0.xWait.ls.length - i.2.1) (0, 0, p0.xSafe.ls, p0.xWait.ls) ⟨rfl, rfl, rfl, rfl, rfl, rfl, trivial⟩ (dm32.2 ⟨H26, by first | omega | (simp only [List.length_set]; omega) | (simp only [List.length_replicate]), by first | omega | (simp only [List.length_set]; omega) | (simp only [List.length_replicate]), by omega, by omega, by omega, by omega, by omega, by first | assumption | exact sm_set (by assumption) (by simp only [List.length_nil]; omega) | exact sm_set (by assumption) (by omega), by first | assumption | exact sm_set (by assumption) (by simp only [List.length_nil]; omega) | exact sm_set (by assumption) (by omega), rfl⟩) ?_
 rintro ⟨k21, k22, l23, l24⟩ w27 hf29
 show Wp _ _ _ [(4, .int .i64 ((k21 : Nat) : Int)), (12, .int .i64 ((k22 : Nat) : Int)), (11, .int .i64 ((p0.xWait.ls.length : Nat) : Int)), (10, .slice A0x1 p0.xWait.ls.length c0x1), (0, .pointer (some ⟨g0, 0, none⟩)), (1, .string ⟨List.toArray p1⟩)] _ _
 obtain ⟨H28, hi34, hi35, hi36, hi37, hi38, hi39, hi40, hi41, hi42, hq33⟩ := dm32.1 hf29
 refine sr (Kz (.bool (decide (((k22 : Nat) : Int) < ((p0.xWait.ls.length : Nat) : Int)))) (nt (Wp.seq ?_)))
 by_cases h43 : ((k22 : Nat) : Int) < ((p0.xWait.ls.length : Nat) : Int)
 refine jT (dT h43) (sk (Wp.seq (bo (sr (Mz rfl ?_)))))
 obtain ⟨x44, hx45⟩ := rds_at (ls := l24) (i := k22) eS_len (by decide) (H28.rds (i := 2) rfl) (by first | omega | (simp; done) | (simp; omega))
 have hz46 : x44.length ≤ 64 := sm_at (by assumption) hx45
 refine fw (.pointer (some ⟨ab A0x1, ao A0x1 + k22 * 1, none⟩)) (Yl.indexAddr (El56) rfl rfl ((H28.rds (i := 2) rfl).addr (i := k22) (by omega)) (by omega)) (fw (.string ⟨List.toArray x44⟩) (Yl.load rfl (Lds.one Try.isAgg9 (((H28.rds (i := 2) rfl).elem eS_len hx45 (by decide)).at_ (k := 0) rfl))) (Az rfl (An rfl (Wp.seq (sr (Mz rfl (fw (.bool (decide (x44 = ([])))) (Yl.strEq rfl rfl) (nt ?_))))))))
 by_cases h47 : x44 = ([])
 refine jT (dT h47) (Wp.exit (Fin.thenX (Fin.blockX (Fin.then (Wp.region (fw (.int .i64 ((k22 + 1 : Nat) : Int)) (Yl.int (e := IntKind.i64.wrap (((k22 : Nat) : Int) + 1)) yk (by rw [IntWalk.i64_in _ (by omega)]; omega)) (Mz rfl (WL.nil ?_))))))))
 have H48 := H28.pk [0, 1, 2]
 exact Fin.round (k21, k22 + 1, l23, l24) ⟨rfl, rfl, rfl, rfl, rfl, rfl, trivial⟩ (dm32.2 ⟨H48, by first | omega | (simp only [List.length_set]; omega) | (simp only [List.length_replicate]), by first | omega | (simp only [List.length_set]; omega) | (simp only [List.length_replicate]), by omega, by omega, by omega, by omega, by omega, by first | assumption | exact sm_set (by assumption) (by simp only [List.length_nil]; omega) | exact sm_set (by assumption) (by omega), by first | assumption | exact sm_set (by assumption) (by simp only [List.length_nil]; omega) | exact sm_set (by assumption) (by omega), Eq.trans (hq33) (Eq.trans (congrArg (fun q => r06_Disk_Crash_L0 p1 q k21 k22 l23 l24) (sub_at (n := p0.xWait.ls.length) (i := k22) (by omega))) (Eq.trans (bnd_of (getD_of hx45)) (if_pos h47)))⟩) (by show p0.xWait.ls.length - (k22 + 1) < p0.xWait.ls.length - k22; omega)
 refine jF (dF h47) (sk (Wp.seq (sr (Mz rfl (Mz rfl (Kz (.int .i64 ((p1.length : Nat) : Int)) (Kz (.bool (decide (((k21 : Nat) : Int) < ((p1.length : Nat) : Int)))) (Mz rfl ?_))))))))
 by_cases h49 : ((k21 : Nat) : Int) < ((p1.length : Nat) : Int)
 refine gw (.string ⟨List.toArray p1⟩) (dT h49) (Yl.move rfl) (gw (.int .i64 ((k21 : Nat) : Int)) (dT h49) (Yl.move rfl) ?_)
 obtain ⟨b50, hx51⟩ := at_of (ls := p1) (i := k21) (by omega)
 refine gw (.int .u8 ((b50.toNat : Nat) : Int)) (dT h49) (Yl.strIndex Try.underlying9 rfl rfl hx51) (gw (.int .u8 ((b50.toNat % 2 : Nat) : Int)) (dT h49) (Yl.int (e := Int.tmod ((b50.toNat : Nat) : Int) 2) yk (tmodN _ _)) (Gz (.bool (decide (((b50.toNat % 2 : Nat) : Int) = 1))) (dT h49) (fw (.bool (decide (((b50.toNat % 2 : Nat) : Int) = 1))) (Yl.pickT rfl (dT h49) rfl) (nt ?_))))
 by_cases h52 : ((b50.toNat % 2 : Nat) : Int) = 1
 refine jT (dT h52) (Wp.region (Mz rfl (Kz (.pointer (some ⟨g0, 0, none⟩)) (Kz (.pointer (some ⟨g0, 0, none⟩)) (Lz (.slice A0x0 p0.xSafe.ls.length c0x0) H28 0 Try.isAgg56 (Mz rfl (Mz rfl ?_)))))))
 obtain ⟨x53, hx54⟩ := rds_at (ls := l23) (i := k22) eS_len (by decide) (H28.rds (i := 1) rfl) (by first | omega | (simp; done) | (simp; omega))
 have hz55 : x53.length ≤ 64 := sm_at (by assumption) hx54
 refine fw (.pointer (some ⟨ab A0x0, ao A0x0 + k22 * 1, none⟩)) (Yl.indexAddr (El56) rfl rfl ((H28.rds (i := 1) rfl).addr (i := k22) (by omega)) (by omega)) ?_
 have H56 := H28.pk [1, 0, 2]
 refine WL.do0 (Do.storeRow (vs := [.string ⟨List.toArray x44⟩]) (o := k22 * 1 + 0) (q := ao A0x0 + k22 * 1) H56 rfl (by omega) rfl Try.sizeOf9 rfl rfl (Nat.le_of_ble_eq_true rfl) (store_fits eS_len hx54 (Nat.le_of_ble_eq_true rfl)) (flat_set (y := x44) eS_len rfl (Nat.le_of_ble_eq_true rfl) hx54) ?_)
 intro w57 H58
 refine ns (Mz rfl (Kz (.pointer (some ⟨g0, 0, none⟩)) (Kz (.pointer (some ⟨g0, 1, none⟩)) (Lz (.slice A0x1 p0.xWait.ls.length c0x1) H58 1 Try.isAgg56 (Mz rfl (fw (.pointer (some ⟨ab A0x1, ao A0x1 + k22 * 1, none⟩)) (Yl.indexAddr (El56) rfl rfl ((H58.rds (i := 2) rfl).addr (i := k22) (by omega)) (by omega)) ?_))))))
 have H59 := H58.pk [2, 0, 1]
 refine WL.do0 (Do.storeRow (vs := [.string ⟨List.toArray ([])⟩]) (o := k22 * 1 + 0) (q := ao A0x1 + k22 * 1) H59 rfl (by omega) rfl Try.sizeOf9 rfl rfl (Nat.le_of_ble_eq_true rfl) (store_fits eS_len hx45 (Nat.le_of_ble_eq_true rfl)) (flat_set (y := ([])) eS_len rfl (Nat.le_of_ble_eq_true rfl) hx45) ?_)
 intro w60 H61
 refine nt (Wp.region (Mz rfl (fw (.int .i64 ((k21 + 1 : Nat) : Int)) (Yl.int (e := IntKind.i64.wrap (((k21 : Nat) : Int) + 1)) yk (by rw [IntWalk.i64_in _ (by omega)]; omega)) (Az rfl (WL.nil (bN (Fin.then (Wp.region (fw (.int .i64 ((k22 + 1 : Nat) : Int)) (Yl.int (e := IntKind.i64.wrap (((k22 : Nat) : Int) + 1)) yk (by rw [IntWalk.i64_in _ (by omega)]; omega)) (Mz rfl (WL.nil ?_)))))))))))
 have H62 := H61.pk [2, 1, 0]
 exact Fin.round (k21 + 1, k22 + 1, (List.set l23 k22 x44), (List.set l24 k22 ([]))) ⟨rfl, rfl, rfl, rfl, rfl, rfl, trivial⟩ (dm32.2 ⟨H62, by first | omega | (simp only [List.length_set]; omega) | (simp only [List.length_replicate]), by first | omega | (simp only [List.length_set]; omega) | (simp only [List.length_replicate]), by omega, by omega, by omega, by omega, by omega, by first | assumption | exact sm_set (by assumption) (by simp only [List.length_nil]; omega) | exact sm_set (by assumption) (by omega), by first | assumption | exact sm_set (by assumption) (by simp only [List.length_nil]; omega) | exact sm_set (by assumption) (by omega), Eq.trans (hq33) (Eq.trans (congrArg (fun q => r06_Disk_Crash_L0 p1 q k21 k22 l23 l24) (sub_at (n := p0.xWait.ls.length) (i := k22) (by omega))) (Eq.trans (bnd_of (getD_of hx45)) (Eq.trans (if_neg h47) (Eq.trans (if_pos h49) (Eq.trans (bnd_of (getD_of hx51)) (if_pos h52))))))⟩) (by show p0.xWait.ls.length - (k22 + 1) < p0.xWait.ls.length - k22; omega)
 refine jF (dF h52) (sk (sr (Mz rfl (Kz (.pointer (some ⟨g0, 0, none⟩)) (Kz (.pointer (some ⟨g0, 1, none⟩)) (Lz (.slice A0x1 p0.xWait.ls.length c0x1) H28 0 Try.isAgg56 (Mz rfl (fw (.pointer (some ⟨ab A0x1, ao A0x1 + k22 * 1, none⟩)) (Yl.indexAddr (El56) rfl rfl ((H28.rds (i := 2) rfl).addr (i := k22) (by omega)) (by omega)) ?_))))))))
 have H63 := H28.pk [2, 0, 1]
 refine WL.do0 (Do.storeRow (vs := [.string ⟨List.toArray ([])⟩]) (o := k22 * 1 + 0) (q := ao A0x1 + k22 * 1) H63 rfl (by omega) rfl Try.sizeOf9 rfl rfl (Nat.le_of_ble_eq_true rfl) (store_fits eS_len hx45 (Nat.le_of_ble_eq_true rfl)) (flat_set (y := ([])) eS_len rfl (Nat.le_of_ble_eq_true rfl) hx45) ?_)
 intro w64 H65
 refine nt (Wp.region (Mz rfl (fw (.int .i64 ((k21 + 1 : Nat) : Int)) (Yl.int (e := IntKind.i64.wrap (((k21 : Nat) : Int) + 1)) yk (by rw [IntWalk.i64_in _ (by omega)]; omega)) (Az rfl (WL.nil (bN (Fin.then (Wp.region (fw (.int .i64 ((k22 + 1 : Nat) : Int)) (Yl.int (e := IntKind.i64.wrap (((k22 : Nat) : Int) + 1)) yk (by rw [IntWalk.i64_in _ (by omega)]; omega)) (Mz rfl (WL.nil ?_)))))))))))
 have H66 := H65.pk [1, 2, 0]
 exact Fin.round (k21 + 1, k22 + 1, l23, (List.set l24 k22 ([]))) ⟨rfl, rfl, rfl, rfl, rfl, rfl, trivial⟩ (dm32.2 ⟨H66, by first | omega | (simp only [List.length_set]; omega) | (simp only [List.length_replicate]), by first | omega | (simp only [List.length_set]; omega) | (simp only [List.length_replicate]), by omega, by omega, by omega, by omega, by omega, by first | assumption | exact sm_set (by assumption) (by simp only [List.length_nil]; omega) | exact sm_set (by assumption) (by omega), by first | assumption | exact sm_set (by assumption) (by simp only [List.length_nil]; omega) | exact sm_set (by assumption) (by omega), Eq.trans (hq33) (Eq.trans (congrArg (fun q => r06_Disk_Crash_L0 p1 q k21 k22 l23 l24) (sub_at (n := p0.xWait.ls.length) (i := k22) (by omega))) (Eq.trans (bnd_of (getD_of hx45)) (Eq.trans (if_neg h47) (Eq.trans (if_pos h49) (Eq.trans (bnd_of (getD_of hx51)) (if_neg h52))))))⟩) (by show p0.xWait.ls.length - (k22 + 1) < p0.xWait.ls.length - k22; omega)
 refine Sz (dF h49) (Sz (dF h49) (Sz (dF h49) (Sz (dF h49) (Sz (dF h49) (fw (.bool false) (Yl.pickF rfl (dF h49) rfl) (nt (jf (sk (sr (Mz rfl (Kz (.pointer (some ⟨g0, 0, none⟩)) (Kz (.pointer (some ⟨g0, 1, none⟩)) (Lz (.slice A0x1 p0.xWait.ls.length c0x1) H28 0 Try.isAgg56 (Mz rfl (fw (.pointer (some ⟨ab A0x1, ao A0x1 + k22 * 1, none⟩)) (Yl.indexAddr (El56) rfl rfl ((H28.rds (i := 2) rfl).addr (i := k22) (by omega)) (by omega)) ?_)))))))))))))))
 have H67 := H28.pk [2, 0, 1]
 refine WL.do0 (Do.storeRow (vs := [.string ⟨List.toArray ([])⟩]) (o := k22 * 1 + 0) (q := ao A0x1 + k22 * 1) H67 rfl (by omega) rfl Try.sizeOf9 rfl rfl (Nat.le_of_ble_eq_true rfl) (store_fits eS_len hx45 (Nat.le_of_ble_eq_true rfl)) (flat_set (y := ([])) eS_len rfl (Nat.le_of_ble_eq_true rfl) hx45) ?_)
 intro w68 H69
 refine nt (Wp.region (Mz rfl (fw (.int .i64 ((k21 + 1 : Nat) : Int)) (Yl.int (e := IntKind.i64.wrap (((k21 : Nat) : Int) + 1)) yk (by rw [IntWalk.i64_in _ (by omega)]; omega)) (Az rfl (WL.nil (bN (Fin.then (Wp.region (fw (.int .i64 ((k22 + 1 : Nat) : Int)) (Yl.int (e := IntKind.i64.wrap (((k22 : Nat) : Int) + 1)) yk (by rw [IntWalk.i64_in _ (by omega)]; omega)) (Mz rfl (WL.nil ?_)))))))))))
 have H70 := H69.pk [1, 2, 0]
 exact Fin.round (k21 + 1, k22 + 1, l23, (List.set l24 k22 ([]))) ⟨rfl, rfl, rfl, rfl, rfl, rfl, trivial⟩ (dm32.2 ⟨H70, by first | omega | (simp only [List.length_set]; omega) | (simp only [List.length_replicate]), by first | omega | (simp only [List.length_set]; omega) | (simp only [List.length_replicate]), by omega, by omega, by omega, by omega, by omega, by first | assumption | exact sm_set (by assumption) (by simp only [List.length_nil]; omega) | exact sm_set (by assumption) (by omega), by first | assumption | exact sm_set (by assumption) (by simp only [List.length_nil]; omega) | exact sm_set (by assumption) (by omega), Eq.trans (hq33) (Eq.trans (congrArg (fun q => r06_Disk_Crash_L0 p1 q k21 k22 l23 l24) (sub_at (n := p0.xWait.ls.length) (i := k22) (by omega))) (Eq.trans (bnd_of (getD_of hx45)) (Eq.trans (if_neg h47) (if_neg h49))))⟩) (by show p0.xWait.ls.length - (k22 + 1) < p0.xWait.ls.length - k22; omega)
 refine jF (dF h43) (Wp.exit (Fin.thenX ?_))
 have hL71 : r06_Disk_Crash_L0 p1 p0.xWait.ls.length 0 0 p0.xSafe.ls p0.xWait.ls = (l23, l24) := et (hq33) (et (congrArg (fun q => r06_Disk_Crash_L0 p1 q k21 k22 l23 l24) (sub_end (n := p0.xWait.ls.length) (i := k22) (by omega))) rfl)
 refine Fin.thenX (Fin.blockX (Fin.then (sr (Mz rfl (Kz (.pointer (some ⟨g0, 0, none⟩)) (Kz (.pointer (some ⟨g0, 3, none⟩)) ?_))))))
 refine sto [.bool true] 3 H28 Try.sizeOf4 ?_
 intro w72 H73
 refine nt (Wp.region (Mz rfl (Kz (.pointer (some ⟨g0, 0, none⟩)) (Kz (.pointer (some ⟨g0, 2, none⟩)) ?_))))
 refine sto [.int .i64 (-1)] 2 H73 Try.sizeOf3 ?_
 intro w74 H75
 refine WL.nil (Fin.res0 (res0 rfl) ?_)
 have hn76 : p0.xSafe.ls.length = l23.length := by first | omega | (simp only [List.length_set]; done) | (simp only [List.length_set, List.length_append, List.length_cons, List.length_nil, List.length_take, List.length_drop, List.length_replicate]; omega)
 have H77 : Own w D w74 [blk g0 [.slice A0x0 l23.length c0x0, .slice A0x1 p0.xWait.ls.length c0x1, .int .i64 (-1), .bool true] 58, row A0x0 l23.length c0x0 (List.flatMap eS l23) 9 1, row A0x1 p0.xWait.ls.length c0x1 (List.flatMap eS l24) 9 1] := by rw [← hn76]; exact H75
 have hn78 : p0.xWait.ls.length = l24.length := by first | omega | (simp only [List.length_set]; done) | (simp only [List.length_set, List.length_append, List.length_cons, List.length_nil, List.length_take, List.length_drop, List.length_replicate]; omega)
 have H79 : Own w D w74 [blk g0 [.slice A0x0 l23.length c0x0, .slice A0x1 l24.length c0x1, .int .i64 (-1), .bool true] 58, row A0x0 l23.length c0x0 (List.flatMap eS l23) 9 1, row A0x1 l24.length c0x1 (List.flatMap eS l24) 9 1] := by rw [← hn78]; exact H77
 have H80 := H79.pk [0, 1, 2]
 obtain rfl : _ = DiskDT.mk (Ll.mk l23) (Ll.mk l24) (-1) true := hr.symm.trans (bnd_of hL71)
 exact ⟨A0x0, c0x0, A0x1, c0x1, (by first | rw [← hn76] | skip; first | rw [← hn78] | skip; first | done | rfl), H80, (by first | exact ⟨rfl, rfl⟩ | exact ⟨rfl, List.length_set⟩ | (dsimp only; omega) | omega), (by first | assumption | exact sm_set (by assumption) (by simp only [List.length_nil]; omega) | exact sm_set (by assumption) (by omega)), (by first | assumption | exact sm_set (by assumption) (by simp only [List.length_nil]; omega) | exact sm_set (by assumption) (by omega))⟩

def r06_Disk_Start (p0 : DiskDT) : DiskDT :=
 if p0.xDown = true then bnd (r06_Disk_Crash p0 ([])) fun yr27 => DiskDT.mk (Ll.mk yr27.xSafe.ls) (Ll.mk yr27.xWait.ls) yr27.xFused false else p0

set_option maxRecDepth 100000 in
theorem r06_Disk_Start_ok (w : World) (D : Nat → Prop) (g0 : Nat) (p0 : DiskDT) (A0x0 : Option Addr) (c0x0 : Nat) (A0x1 : Option Addr) (c0x1 : Nat) (r0 : DiskDT) (H : Own w D w [blk g0 [.slice A0x0 p0.xSafe.ls.length c0x0, .slice A0x1 p0.xWait.ls.length c0x1, .int .i64 p0.xFused, .bool p0.xDown] 58, row A0x0 p0.xSafe.ls.length c0x0 (List.flatMap eS p0.xSafe.ls) 9 1, row A0x1 p0.xWait.ls.length c0x1 (List.flatMap eS p0.xWait.ls) 9 1]) (hh0 : p0.xSafe.ls.length = p0.xWait.ls.length ∧ p0.xSafe.ls.length ≤ 4096) (hh1 : Sm p0.xSafe.ls) (hh2 : Sm p0.xWait.ls) (hr : r06_Disk_Start p0 = r0) :
    Calls Try.prog 22 #[.pointer (some ⟨g0, 0, none⟩)] w (Ret fun v w' => ∃ (B0ox0 : Option Addr) (b0ox0 : Nat) (B0ox1 : Option Addr) (b0ox1 : Nat), v = .tuple #[] ∧ Own w D w' [blk g0 [.slice B0ox0 r0.xSafe.ls.length b0ox0, .slice B0ox1 r0.xWait.ls.length b0ox1, .int .i64 r0.xFused, .bool r0.xDown] 58, row B0ox0 r0.xSafe.ls.length b0ox0 (List.flatMap eS r0.xSafe.ls) 9 1, row B0ox1 r0.xWait.ls.length b0ox1 (List.flatMap eS r0.xWait.ls) 9 1] ∧ (r0.xSafe.ls.length = p0.xSafe.ls.length ∧ r0.xWait.ls.length = p0.xWait.ls.length) ∧ (Sm r0.xSafe.ls) ∧ (Sm r0.xWait.ls)) := by
 have hc0x0 := H.rowC (i := 1) rfl
 have hc0x1 := H.rowC (i := 2) rfl
 refine Calls.body (args := [.pointer (some ⟨g0, 0, none⟩)]) Try.func22 rfl rfl rfl ?_
 show Wp _ _ _ [(0, .pointer (some ⟨g0, 0, none⟩))] _ _
 refine sr (Mz rfl (Kz (.pointer (some ⟨g0, 0, none⟩)) (Kz (.pointer (some ⟨g0, 3, none⟩)) (Lz (.bool p0.xDown) H 0 Try.isAgg4 (nt ?_)))))
 rcases Bool.eq_false_or_eq_true (p0.xDown) with h21 | h21
 refine jT h21 (sr (Mz rfl ?_))
 obtain ⟨r27, hr28⟩ : ∃ q, r06_Disk_Crash p0 ([]) = q := ⟨_, rfl⟩
 obtain ⟨D22, HP23, ro24, bk25, rr26⟩ := Own.enter3 H
 refine cl Try.call20 (r06_Disk_Crash_ok _ _ g0 p0 A0x0 c0x0 A0x1 c0x1 ([]) r27 HP23 (by first | omega | (dsimp only; omega)) (by first | assumption) (by first | assumption) hr28) ?_
 rintro _ w29 ⟨A32, c33, A34, c35, rfl, HQ30, hk36, hk37, hk38⟩
 have H31 := bk25 _ _ HQ30
 have hb39 := H31.rowC (i := 1) rfl
 have hb40 := H31.rowC (i := 2) rfl
 replace hk36 : r27.xSafe.ls.length = p0.xSafe.ls.length ∧ r27.xWait.ls.length = p0.xWait.ls.length := hk36
 replace hk37 : Sm r27.xSafe.ls := hk37
 replace hk38 : Sm r27.xWait.ls := hk38
 refine nt (Wp.region (Mz rfl (Kz (.pointer (some ⟨g0, 0, none⟩)) (Kz (.pointer (some ⟨g0, 3, none⟩)) ?_))))
 refine sto [.bool false] 3 H31 Try.sizeOf4 ?_
 intro w41 H42
 refine WL.nil (Fin.res0 (res0 rfl) ?_)
 have H43 := H42.pk [0, 1, 2]
 obtain rfl : _ = DiskDT.mk (Ll.mk r27.xSafe.ls) (Ll.mk r27.xWait.ls) r27.xFused false := hr.symm.trans (et (ip h21) (bnd_of hr28))
 exact ⟨A32, c33, A34, c35, rfl, H43, (by first | exact ⟨rfl, rfl⟩ | exact ⟨rfl, List.length_set⟩ | (dsimp only; omega) | omega), (by first | assumption | exact sm_set (by assumption) (by simp only [List.length_nil]; omega) | exact sm_set (by assumption) (by omega)), (by first | assumption | exact sm_set (by assumption) (by simp only [List.length_nil]; omega) | exact sm_set (by assumption) (by omega))⟩
 refine jF h21 (Wp.skip (Fin.res0 (res0 rfl) ?_))
 have H44 : Own w D w [blk g0 [.slice A0x0 p0.xSafe.ls.length c0x0, .slice A0x1 p0.xWait.ls.length c0x1, .int .i64 p0.xFused, .bool p0.xDown] 58, row A0x0 p0.xSafe.ls.length c0x0 (List.flatMap eS p0.xSafe.ls) 9 1, row A0x1 p0.xWait.ls.length c0x1 (List.flatMap eS p0.xWait.ls) 9 1] := H.pk [0, 1, 2]
 obtain rfl : _ = p0 := hr.symm.trans (ifF h21)
 exact ⟨A0x0, c0x0, A0x1, c0x1, rfl, H44, (by first | exact ⟨rfl, rfl⟩ | exact ⟨rfl, List.length_set⟩ | (dsimp only; omega) | omega), (by first | assumption | exact sm_set (by assumption) (by simp only [List.length_nil]; omega) | exact sm_set (by assumption) (by omega)), (by first | assumption | exact sm_set (by assumption) (by simp only [List.length_nil]; omega) | exact sm_set (by assumption) (by omega))⟩

def r06_Disk_Waits_L0 : List (List UInt8) → List Int → Nat → (List Int)
  | [], l24, k25 => l24
  | x38 :: q26, l24, k25 => if x38 ≠ ([]) then r06_Disk_Waits_L0 q26 (l24 ++ [((k25 : Nat) : Int)]) (k25 + 1) else r06_Disk_Waits_L0 q26 l24 (k25 + 1)

def r06_Disk_Waits (p0 : DiskDT) : (List Int) :=
 bnd (r06_Disk_Waits_L0 p0.xWait.ls ([]) 0) fun sLrL => sLrL

set_option maxRecDepth 100000 in
theorem r06_Disk_Waits_ok (w : World) (D : Nat → Prop) (g0 : Nat) (p0 : DiskDT) (A0x0 : Option Addr) (c0x0 : Nat) (A0x1 : Option Addr) (c0x1 : Nat) (r0 : List Int) (H : Own w D w [blk g0 [.slice A0x0 p0.xSafe.ls.length c0x0, .slice A0x1 p0.xWait.ls.length c0x1, .int .i64 p0.xFused, .bool p0.xDown] 58]) (hx0x0 : Ro w D fun w' => Rds w' 1 A0x0 p0.xSafe.ls.length (List.flatMap eS p0.xSafe.ls)) (hb0x0 : p0.xSafe.ls.length ≤ c0x0 ∧ p0.xSafe.ls.length ≤ 9223372036854775807) (hx0x1 : Ro w D fun w' => Rds w' 1 A0x1 p0.xWait.ls.length (List.flatMap eS p0.xWait.ls)) (hb0x1 : p0.xWait.ls.length ≤ c0x1 ∧ p0.xWait.ls.length ≤ 9223372036854775807) (hh0 : p0.xSafe.ls.length = p0.xWait.ls.length ∧ p0.xSafe.ls.length ≤ 4096) (hr : r06_Disk_Waits p0 = r0) :
    Calls Try.prog 33 #[.pointer (some ⟨g0, 0, none⟩)] w (Ret fun v w' => ∃ (B0 : Option Addr) (b0 : Nat), v = .slice B0 r0.length b0 ∧ Own w D w' [row B0 r0.length b0 (List.flatMap (eI .i64) r0) 3 1, blk g0 [.slice A0x0 p0.xSafe.ls.length c0x0, .slice A0x1 p0.xWait.ls.length c0x1, .int .i64 p0.xFused, .bool p0.xDown] 58] ∧ (r0.length ≤ p0.xWait.ls.length)) := by
 refine Calls.body (args := [.pointer (some ⟨g0, 0, none⟩)]) Try.func33 rfl rfl rfl ?_
 show Wp _ _ _ [(0, .pointer (some ⟨g0, 0, none⟩))] _ _
 refine sr (Ar rfl (An rfl (Wp.seq (sr (Mz rfl (Kz (.pointer (some ⟨g0, 0, none⟩)) (Kz (.pointer (some ⟨g0, 1, none⟩)) (Lz (.slice A0x1 p0.xWait.ls.length c0x1) H 0 Try.isAgg56 (Kz (.int .i64 ((p0.xWait.ls.length : Nat) : Int)) (Mn rfl (bo ?_)))))))))))
 have H21 : Own w D w [row none 0 0 (List.flatMap (eI .i64) ([])) 3 1, blk g0 [.slice A0x0 p0.xSafe.ls.length c0x0, .slice A0x1 p0.xWait.ls.length c0x1, .int .i64 p0.xFused, .bool p0.xDown] 58] := H.free (row_nil 3 1)
 have H27 := H21.pk [1, 0]
 obtain ⟨I31, hI32⟩ : ∃ q : ((Option Addr) × Nat × (List Int) × Nat) → World → Prop, q = fun (i : (Option Addr) × Nat × (List Int) × Nat) w' => Own w D w' [blk g0 [.slice A0x0 p0.xSafe.ls.length c0x0, .slice A0x1 p0.xWait.ls.length c0x1, .int .i64 p0.xFused, .bool p0.xDown] 58, row i.1 i.2.2.1.length i.2.1 (List.flatMap (eI .i64) i.2.2.1) 3 1] ∧ (i.2.2.2 ≤ p0.xWait.ls.length ∧ i.2.2.1.length ≤ i.2.2.2 ∧ r06_Disk_Waits_L0 p0.xWait.ls ([]) 0 = r06_Disk_Waits_L0 (List.drop i.2.2.2 p0.xWait.ls) i.2.2.1 i.2.2.2) := ⟨_, rfl⟩
 have dm33 : ∀ {A22 : Option Addr} {c23 : Nat} {l24 : List Int} {k25 : Nat} {w' : World}, I31 (A22, c23, l24, k25) w' ↔ Own w D w' [blk g0 [.slice A0x0 p0.xSafe.ls.length c0x0, .slice A0x1 p0.xWait.ls.length c0x1, .int .i64 p0.xFused, .bool p0.xDown] 58, row A22 l24.length c23 (List.flatMap (eI .i64) l24) 3 1] ∧ k25 ≤ p0.xWait.ls.length ∧ l24.length ≤ k25 ∧ r06_Disk_Waits_L0 p0.xWait.ls ([]) 0 = r06_Disk_Waits_L0 (List.drop k25 p0.xWait.ls) l24 k25 := by intros; subst hI32; exact Iff.rfl
 refine Wp.loop (fun i : (Option Addr) × Nat × (List Int) × Nat => [(3, .slice i.1 i.2.2.1.length i.2.1), (11, .int .i64 ((i.2.2.2 : Nat) : Int)), (10, .int .i64 ((p0.xWait.ls.length : Nat) : Int)), (9, .slice A0x1 p0.xWait.ls.length c0x1), (2, .slice none 0 0)]) I31 (fun i => p0.xWait.ls.length - i.2.2.2) (none, 0, [], 0) ⟨rfl, rfl, rfl, rfl, rfl, trivial⟩ (dm33.2 ⟨H27, (show 0 ≤ p0.xWait.ls.length ∧ 0 ≤ 0 ∧ r06_Disk_Waits_L0 p0.xWait.ls ([]) 0 = r06_Disk_Waits_L0 (List.drop 0 p0.xWait.ls) ([]) 0 from ⟨by omega, by omega, rfl⟩)⟩) ?_
 rintro ⟨A22, c23, l24, k25⟩ w28 hf30
 show Wp _ _ _ [(3, .slice A22 l24.length c23), (11, .int .i64 ((k25 : Nat) : Int)), (10, .int .i64 ((p0.xWait.ls.length : Nat) : Int)), (9, .slice A0x1 p0.xWait.ls.length c0x1), (2, .slice none 0 0)] _ _
 obtain ⟨H29, hi35, hi36, hq34⟩ := dm33.1 hf30
 refine sr (Kz (.bool (decide (((k25 : Nat) : Int) < ((p0.xWait.ls.length : Nat) : Int)))) (nt (Wp.seq ?_)))
 by_cases h37 : ((k25 : Nat) : Int) < ((p0.xWait.ls.length : Nat) : Int)
 obtain ⟨x38, hx39⟩ := rds_at (ls := p0.xWait.ls) (i := k25) eS_len (by decide) (H29.ro hx0x1) (by first | omega | (simp; done) | (simp; omega))
 have hd40 := drop_at hx39
 refine jT (dT h37) (sk (Wp.seq (bo (sr (Mz rfl (fw (.pointer (some ⟨ab A0x1, ao A0x1 + k25 * 1, none⟩)) (Yl.indexAddr (El56) rfl rfl ((H29.ro hx0x1).addr (i := k25) (by omega)) (by omega)) (fw (.string ⟨List.toArray x38⟩) (Yl.load rfl (Lds.one Try.isAgg9 (((H29.ro hx0x1).elem eS_len hx39 (by decide)).at_ (k := 0) rfl))) (Az rfl (Ar rfl (Mz rfl (fw (.bool (decide (x38 ≠ ([])))) (Yl.strNe rfl rfl) (nt ?_))))))))))))
 by_cases h41 : x38 ≠ ([])
 refine jT (dT h41) (Wp.region (Mz rfl (Mz rfl ?_)))
 refine nrw [.int .i64 ((k25 : Nat) : Int)] 3 1 1 H29 ?_
 intro A42 w43 H44
 replace H44 := Own.reh (y := row A42 1 1 (List.flatMap (eI .i64) ([((k25 : Nat) : Int)])) 3 1) rfl H44
 have H45 := H44.pk [2, 0, 1]
 refine WL.do rfl (Do.appendW (k := l24.length) (m := 1) (El46) H45 rfl rfl (src_of Try.underlying46 (H45.rds (i := 1) rfl) (flat_one eI_one ([((k25 : Nat) : Int)]))) rfl (by omega) (s := List.length (l24 ++ [((k25 : Nat) : Int)])) (by first | omega | (simp only [List.length_append, List.length_cons, List.length_nil] <;> omega)) (List.flatMap_append).symm ?_)
 intro A46 c47 w48 H49
 have hl50 : List.length (l24 ++ [((k25 : Nat) : Int)]) = l24.length + 1 := by simp only [List.length_append, List.length_cons, List.length_nil]
 refine Az rfl (WL.nil (bN (Fin.then (Wp.region (fw (.int .i64 ((k25 + 1 : Nat) : Int)) (Yl.int (e := IntKind.i64.wrap (((k25 : Nat) : Int) + 1)) yk (by rw [IntWalk.i64_in _ (by omega)]; omega)) (Mz rfl (WL.nil ?_)))))))
 have H51 := H49.pk [2, 0]
 exact Fin.round (A46, c47, (l24 ++ [((k25 : Nat) : Int)]), k25 + 1) ⟨rfl, rfl, rfl, rfl, rfl, trivial⟩ (dm33.2 ⟨H51, by omega, by omega, et (hq34) (et (congrArg (fun q => r06_Disk_Waits_L0 q l24 k25) hd40) (ip h41))⟩) (by show p0.xWait.ls.length - (k25 + 1) < p0.xWait.ls.length - k25; omega)
 refine jF (dF h41) (Wp.skip (bN (Fin.then (Wp.region (fw (.int .i64 ((k25 + 1 : Nat) : Int)) (Yl.int (e := IntKind.i64.wrap (((k25 : Nat) : Int) + 1)) yk (by rw [IntWalk.i64_in _ (by omega)]; omega)) (Mz rfl (WL.nil ?_)))))))
 have H52 := H29.pk [0, 1]
 exact Fin.round (A22, c23, l24, k25 + 1) ⟨rfl, rfl, rfl, rfl, rfl, trivial⟩ (dm33.2 ⟨H52, by omega, by omega, et (hq34) (et (congrArg (fun q => r06_Disk_Waits_L0 q l24 k25) hd40) (iN h41))⟩) (by show p0.xWait.ls.length - (k25 + 1) < p0.xWait.ls.length - k25; omega)
 refine jF (dF h37) (Wp.exit (Fin.thenX ?_))
 have hL53 : r06_Disk_Waits_L0 p0.xWait.ls ([]) 0 = l24 := et (hq34) (et (congrArg (fun q => r06_Disk_Waits_L0 q l24 k25) (drop_end (ls := p0.xWait.ls) (i := k25) (by omega))) rfl)
 refine Fin.thenX (Fin.blockX (Fin.then (sr (Mz rfl (An rfl (rt (rs ?_)))))))
 have H54 := H29.pk [1, 0]
 obtain rfl : _ = l24 := hr.symm.trans (bnd_of hL53)
 exact ⟨A22, c23, rfl, H54, (by omega)⟩

def r06_Disk_Read (p0 : DiskDT) (p1 : Int) : (List UInt8) × Int :=
 if p0.xDown = true then ([], 60) else if p1 < 0 then ([], 61) else if p1 ≥ ((p0.xSafe.ls.length : Nat) : Int) then ([], 61) else bnd (List.getD p0.xWait.ls (Int.toNat p1) default) fun yx30 => if yx30 ≠ ([]) then (yx30, 0) else bnd (List.getD p0.xSafe.ls (Int.toNat p1) default) fun yx39 => (yx39, 0)

set_option maxRecDepth 100000 in
theorem r06_Disk_Read_ok (w : World) (D : Nat → Prop) (g0 : Nat) (p0 : DiskDT) (A0x0 : Option Addr) (c0x0 : Nat) (A0x1 : Option Addr) (c0x1 : Nat) (p1 : Int) (r0 : List UInt8) (r1 : Int) (H : Own w D w [blk g0 [.slice A0x0 p0.xSafe.ls.length c0x0, .slice A0x1 p0.xWait.ls.length c0x1, .int .i64 p0.xFused, .bool p0.xDown] 58]) (hx0x0 : Ro w D fun w' => Rds w' 1 A0x0 p0.xSafe.ls.length (List.flatMap eS p0.xSafe.ls)) (hb0x0 : p0.xSafe.ls.length ≤ c0x0 ∧ p0.xSafe.ls.length ≤ 9223372036854775807) (hx0x1 : Ro w D fun w' => Rds w' 1 A0x1 p0.xWait.ls.length (List.flatMap eS p0.xWait.ls)) (hb0x1 : p0.xWait.ls.length ≤ c0x1 ∧ p0.xWait.ls.length ≤ 9223372036854775807) (hh0 : p0.xSafe.ls.length = p0.xWait.ls.length ∧ p0.xSafe.ls.length ≤ 4096) (hh1 : Sm p0.xSafe.ls) (hh2 : Sm p0.xWait.ls) (hr : r06_Disk_Read p0 p1 = (r0, r1)) :
    Calls Try.prog 35 #[.pointer (some ⟨g0, 0, none⟩), .int .i64 p1] w (Ret fun v w' => ∃ (B0 : Option Addr) (b0 : Nat), v = .tuple #[.slice B0 r0.length b0, .int .i64 r1] ∧ Own w D w' [row B0 r0.length b0 (List.flatMap eB r0) 5 1, blk g0 [.slice A0x0 p0.xSafe.ls.length c0x0, .slice A0x1 p0.xWait.ls.length c0x1, .int .i64 p0.xFused, .bool p0.xDown] 58]) := by
 refine Calls.body (args := [.pointer (some ⟨g0, 0, none⟩), .int .i64 p1]) Try.func35 rfl rfl rfl ?_
 show Wp _ _ _ [(0, .pointer (some ⟨g0, 0, none⟩)), (1, .int .i64 p1)] _ _
 refine sr (Az rfl (An rfl (Wp.seq (bo (sr (Mz rfl (Kz (.pointer (some ⟨g0, 0, none⟩)) (Kz (.pointer (some ⟨g0, 3, none⟩)) (Lz (.bool p0.xDown) H 0 Try.isAgg4 (An rfl ?_))))))))))
 rcases Bool.eq_false_or_eq_true (p0.xDown) with h21 | h21
 refine jT h21 (sr (Az rfl (An rfl (rt (bR (tR (Fin.res (res2 rfl rfl rfl) ?_)))))))
 have H22 : Own w D w [row none 0 0 (List.flatMap eB ([])) 5 1, blk g0 [.slice A0x0 p0.xSafe.ls.length c0x0, .slice A0x1 p0.xWait.ls.length c0x1, .int .i64 p0.xFused, .bool p0.xDown] 58] := H.free (row_nil 5 1)
 have H23 := H22.pk [0, 1]
 have e : r06_Disk_Read p0 p1 = ([], 60) := ip h21
 obtain ⟨rfl, rfl⟩ := pj2 (e.symm.trans hr)
 exact ⟨none, 0, rfl, H23⟩
 refine jF h21 (sr (Mz rfl (Kz (.bool (decide (p1 < 0))) (Mz rfl ?_))))
 by_cases h24 : p1 < 0
 refine Sz (dT h24) (Sz (dT h24) (Sz (dT h24) (Sz (dT h24) (Sz (dT h24) (Sz (dT h24) (Sz (dT h24) (fw (.bool true) (Yl.pickT rfl (dT h24) rfl) (An rfl (jt (sr (Az rfl (An rfl (rt (bR (tR (Fin.res (res2 rfl rfl rfl) ?_))))))))))))))))
 have H25 : Own w D w [row none 0 0 (List.flatMap eB ([])) 5 1, blk g0 [.slice A0x0 p0.xSafe.ls.length c0x0, .slice A0x1 p0.xWait.ls.length c0x1, .int .i64 p0.xFused, .bool p0.xDown] 58] := H.free (row_nil 5 1)
 have H26 := H25.pk [0, 1]
 have e : r06_Disk_Read p0 p1 = ([], 61) := et (ifF h21) (ip h24)
 obtain ⟨rfl, rfl⟩ := pj2 (e.symm.trans hr)
 exact ⟨none, 0, rfl, H26⟩
 refine gw (.int .i64 p1) (dF h24) (Yl.move rfl) (gw (.pointer (some ⟨g0, 0, none⟩)) (dF h24) (Yl.move rfl) (Gz (.pointer (some ⟨g0, 0, none⟩)) (dF h24) (Gz (.pointer (some ⟨g0, 0, none⟩)) (dF h24) (Gl (.slice A0x0 p0.xSafe.ls.length c0x0) (dF h24) H 0 Try.isAgg56 (Gz (.int .i64 ((p0.xSafe.ls.length : Nat) : Int)) (dF h24) (Gz (.bool (decide (p1 ≥ ((p0.xSafe.ls.length : Nat) : Int)))) (dF h24) (fw (.bool (decide (p1 ≥ ((p0.xSafe.ls.length : Nat) : Int)))) (Yl.pickF rfl (dF h24) rfl) (An rfl ?_))))))))
 by_cases h27 : p1 ≥ ((p0.xSafe.ls.length : Nat) : Int)
 refine jT (dT h27) (sr (Az rfl (An rfl (rt (bR (tR (Fin.res (res2 rfl rfl rfl) ?_)))))))
 have H28 : Own w D w [row none 0 0 (List.flatMap eB ([])) 5 1, blk g0 [.slice A0x0 p0.xSafe.ls.length c0x0, .slice A0x1 p0.xWait.ls.length c0x1, .int .i64 p0.xFused, .bool p0.xDown] 58] := H.free (row_nil 5 1)
 have H29 := H28.pk [0, 1]
 have e : r06_Disk_Read p0 p1 = ([], 61) := et (ifF h21) (et (iN h24) (ip h27))
 obtain ⟨rfl, rfl⟩ := pj2 (e.symm.trans hr)
 exact ⟨none, 0, rfl, H29⟩
 refine jF (dF h27) (sr (Mz rfl (Kz (.pointer (some ⟨g0, 0, none⟩)) (Kz (.pointer (some ⟨g0, 1, none⟩)) (Lz (.slice A0x1 p0.xWait.ls.length c0x1) H 0 Try.isAgg56 (fw (.int .i64 ((Int.toNat p1 : Nat) : Int)) (Yl.int (e := p1) (Yl.move rfl) (by omega)) ?_))))))
 obtain ⟨x30, hx31⟩ := rds_at (ls := p0.xWait.ls) (i := Int.toNat p1) eS_len (by decide) (H.ro hx0x1) (by first | omega | (simp; done) | (simp; omega))
 have hz32 : x30.length ≤ 64 := sm_at (by assumption) hx31
 refine fw (.pointer (some ⟨ab A0x1, ao A0x1 + (Int.toNat p1) * 1, none⟩)) (Yl.indexAddr (El56) rfl rfl ((H.ro hx0x1).addr (i := Int.toNat p1) (by omega)) (by omega)) (fw (.string ⟨List.toArray x30⟩) (Yl.load rfl (Lds.one Try.isAgg9 (((H.ro hx0x1).elem eS_len hx31 (by decide)).at_ (k := 0) rfl))) (fw (.bool (decide (x30 ≠ ([])))) (Yl.strNe rfl rfl) (An rfl ?_)))
 by_cases h33 : x30 ≠ ([])
 refine jT (dT h33) (sr (Mz rfl (Kz (.pointer (some ⟨g0, 0, none⟩)) (Kz (.pointer (some ⟨g0, 1, none⟩)) (Lz (.slice A0x1 p0.xWait.ls.length c0x1) H 0 Try.isAgg56 (fw (.int .i64 ((Int.toNat p1 : Nat) : Int)) (Yl.int (e := p1) (Yl.move rfl) (by omega)) (fw (.pointer (some ⟨ab A0x1, ao A0x1 + (Int.toNat p1) * 1, none⟩)) (Yl.indexAddr (El56) rfl rfl ((H.ro hx0x1).addr (i := Int.toNat p1) (by omega)) (by omega)) (fw (.string ⟨List.toArray x30⟩) (Yl.load rfl (Lds.one Try.isAgg9 (((H.ro hx0x1).elem eS_len hx31 (by decide)).at_ (k := 0) rfl))) ?_))))))))
 refine WL.do rfl (Do.toBytesE (l := x30) Try.underlying9 Try.underlying33 Try.underlying5 H rfl (by unfold maxLen; omega) ?_)
 intro A34 c35 w36 H37
 refine Az rfl (An rfl (rt (bR (tR (Fin.res (res2 rfl rfl rfl) ?_)))))
 have H38 := H37.pk [0, 1]
 have e : r06_Disk_Read p0 p1 = (x30, 0) := et (ifF h21) (et (iN h24) (et (iN h27) (et (bnd_of (getD_of hx31)) (ip h33))))
 obtain ⟨rfl, rfl⟩ := pj2 (e.symm.trans hr)
 exact ⟨A34, c35, rfl, H38⟩
 refine jF (dF h33) (Wp.skip (bN (Fin.then (sr (Mz rfl (Kz (.pointer (some ⟨g0, 0, none⟩)) (Kz (.pointer (some ⟨g0, 0, none⟩)) (Lz (.slice A0x0 p0.xSafe.ls.length c0x0) H 0 Try.isAgg56 (fw (.int .i64 ((Int.toNat p1 : Nat) : Int)) (Yl.int (e := p1) (Yl.move rfl) (by omega)) ?_)))))))))
 obtain ⟨x39, hx40⟩ := rds_at (ls := p0.xSafe.ls) (i := Int.toNat p1) eS_len (by decide) (H.ro hx0x0) (by first | omega | (simp; done) | (simp; omega))
 have hz41 : x39.length ≤ 64 := sm_at (by assumption) hx40
 refine fw (.pointer (some ⟨ab A0x0, ao A0x0 + (Int.toNat p1) * 1, none⟩)) (Yl.indexAddr (El56) rfl rfl ((H.ro hx0x0).addr (i := Int.toNat p1) (by omega)) (by omega)) (fw (.string ⟨List.toArray x39⟩) (Yl.load rfl (Lds.one Try.isAgg9 (((H.ro hx0x0).elem eS_len hx40 (by decide)).at_ (k := 0) rfl))) ?_)
 refine WL.do rfl (Do.toBytesE (l := x39) Try.underlying9 Try.underlying33 Try.underlying5 H rfl (by unfold maxLen; omega) ?_)
 intro A42 c43 w44 H45
 refine Az rfl (An rfl (rt (Fin.res (res2 rfl rfl rfl) ?_)))
 have H46 := H45.pk [0, 1]
 have e : r06_Disk_Read p0 p1 = (x39, 0) := et (ifF h21) (et (iN h24) (et (iN h27) (et (bnd_of (getD_of hx31)) (et (iN h33) (bnd_of (getD_of hx40))))))
 obtain ⟨rfl, rfl⟩ := pj2 (e.symm.trans hr)
 exact ⟨A42, c43, rfl, H46⟩
end Go.Proofs.Ytmhhmhaigmjekaa
