/-
 disk: a device as a thing, its methods.
-/
import Derived.Test.YtmhhmhaigmjekaaDiK
import Derived.Test.YtmhhmhaigmjekaaDiS
import Derived.Test.YtmhhmhaigmjekaaKu
import Derived.Test.YtmhhmhaigmjekaaWiX
namespace Go.Proofs.Ytmhhmhaigmjekaa
open Go.RowKit
set_option linter.unusedVariables false
set_option linter.unusedSectionVars false
set_option linter.unusedSimpArgs false

structure DiskT where
 xsectors : Int
 xsafe : List Ent
 xwaits : List Ent
 xup : Bool
 xfuse : Int
instance : Inhabited DiskT := ⟨⟨0, [], [], false, 0⟩⟩

def DiskO (b : Nat) (d : DiskT) : HP := exS (fun g : Nat × Nat => 1 ≤ d.xsectors ∧ d.xsectors ≤ 4096) (fun g => [blk b [.int .i64 d.xsectors, .map (some g.1), .map (some g.2), .bool d.xup, .int .i64 d.xfuse] 55, mapq g.1 d.xsafe, mapq g.2 d.xwaits])

def disk_Disk_Sectors (p0 : DiskT) : Int :=
 p0.xsectors

set_option maxRecDepth 100000 in
theorem disk_Disk_Sectors_ok (w : World) (D : Nat → Prop) (g0 : Nat) (p0 : DiskT) (r0 : Int) (H : Own w D w [DiskO g0 p0])  (hr : disk_Disk_Sectors p0 = r0) :
    Calls Try.prog 34 #[.pointer (some ⟨g0, 0, none⟩)] w (Ret fun v w' => v = .int .i64 r0 ∧ Own w D w' [DiskO g0 p0] ∧ (r0 = p0.xsectors)) := by
 refine Calls.body (args := [.pointer (some ⟨g0, 0, none⟩)]) Try.func34 rfl rfl rfl ?_
 show Wp _ _ _ [(0, .pointer (some ⟨g0, 0, none⟩))] _ _
 obtain ⟨⟨gs21, gw22⟩, hf23, H24⟩ := Own.exOpen H
 replace hf23 : 1 ≤ p0.xsectors ∧ p0.xsectors ≤ 4096 := hf23
 have H25 : Own w D w [blk g0 [.int .i64 p0.xsectors, .map (some gs21), .map (some gw22), .bool p0.xup, .int .i64 p0.xfuse] 55, mapq gs21 p0.xsafe, mapq gw22 p0.xwaits] := H24
 refine sr (Ar rfl (Mz rfl (Kz (.pointer (some ⟨g0, 0, none⟩)) (Kz (.pointer (some ⟨g0, 0, none⟩)) (Lz (.int .i64 p0.xsectors) H25 0 Try.isAgg3 (An rfl (rt (rs ?_))))))))
 have H26 : Own w D w [DiskO g0 p0] := Own.exFold (gs21, gw22) (show 1 ≤ p0.xsectors ∧ p0.xsectors ≤ 4096 from (show 1 ≤ p0.xsectors ∧ p0.xsectors ≤ 4096 from by omega)) (show Own w D w [blk g0 [.int .i64 p0.xsectors, .map (some gs21), .map (some gw22), .bool p0.xup, .int .i64 p0.xfuse] 55, mapq gs21 p0.xsafe, mapq gw22 p0.xwaits] from H25)
 have H27 := H26.pk [0]
 obtain rfl : _ = p0.xsectors := hr.symm.trans rfl
 exact ⟨rfl, H27, (by first | rfl | omega)⟩

def disk_Disk_Up (p0 : DiskT) : Bool :=
 p0.xup

set_option maxRecDepth 100000 in
theorem disk_Disk_Up_ok (w : World) (D : Nat → Prop) (g0 : Nat) (p0 : DiskT) (r0 : Bool) (H : Own w D w [DiskO g0 p0])  (hr : disk_Disk_Up p0 = r0) :
    Calls Try.prog 27 #[.pointer (some ⟨g0, 0, none⟩)] w (Ret fun v w' => v = .bool r0 ∧ Own w D w' [DiskO g0 p0]) := by
 refine Calls.body (args := [.pointer (some ⟨g0, 0, none⟩)]) Try.func27 rfl rfl rfl ?_
 show Wp _ _ _ [(0, .pointer (some ⟨g0, 0, none⟩))] _ _
 obtain ⟨⟨gs21, gw22⟩, hf23, H24⟩ := Own.exOpen H
 replace hf23 : 1 ≤ p0.xsectors ∧ p0.xsectors ≤ 4096 := hf23
 have H25 : Own w D w [blk g0 [.int .i64 p0.xsectors, .map (some gs21), .map (some gw22), .bool p0.xup, .int .i64 p0.xfuse] 55, mapq gs21 p0.xsafe, mapq gw22 p0.xwaits] := H24
 refine sr (Ar rfl (Mz rfl (Kz (.pointer (some ⟨g0, 0, none⟩)) (Kz (.pointer (some ⟨g0, 3, none⟩)) (Lz (.bool p0.xup) H25 0 Try.isAgg4 (An rfl (rt (rs ?_))))))))
 have H26 : Own w D w [DiskO g0 p0] := Own.exFold (gs21, gw22) (show 1 ≤ p0.xsectors ∧ p0.xsectors ≤ 4096 from (show 1 ≤ p0.xsectors ∧ p0.xsectors ≤ 4096 from by omega)) (show Own w D w [blk g0 [.int .i64 p0.xsectors, .map (some gs21), .map (some gw22), .bool p0.xup, .int .i64 p0.xfuse] 55, mapq gs21 p0.xsafe, mapq gw22 p0.xwaits] from H25)
 have H27 := H26.pk [0]
 obtain rfl : _ = p0.xup := hr.symm.trans rfl
 exact ⟨rfl, H27⟩

def disk_Disk_Fuse (p0 : DiskT) (p1 : Int) : DiskT :=
 (DiskT.mk p0.xsectors p0.xsafe p0.xwaits p0.xup (max p1 (-1)))

set_option maxRecDepth 100000 in
theorem disk_Disk_Fuse_ok (w : World) (D : Nat → Prop) (g0 : Nat) (p0 : DiskT) (p1 : Int) (r0 : DiskT) (H : Own w D w [DiskO g0 p0])  (hr : disk_Disk_Fuse p0 p1 = r0) :
    Calls Try.prog 17 #[.pointer (some ⟨g0, 0, none⟩), .int .i64 p1] w (Ret fun v w' => v = .tuple #[] ∧ Own w D w' [DiskO g0 r0] ∧ (r0.xsectors = p0.xsectors)) := by
 refine Calls.body (args := [.pointer (some ⟨g0, 0, none⟩), .int .i64 p1]) Try.func17 rfl rfl rfl ?_
 show Wp _ _ _ [(0, .pointer (some ⟨g0, 0, none⟩)), (1, .int .i64 p1)] _ _
 obtain ⟨⟨gs21, gw22⟩, hf23, H24⟩ := Own.exOpen H
 replace hf23 : 1 ≤ p0.xsectors ∧ p0.xsectors ≤ 4096 := hf23
 have H25 : Own w D w [blk g0 [.int .i64 p0.xsectors, .map (some gs21), .map (some gw22), .bool p0.xup, .int .i64 p0.xfuse] 55, mapq gs21 p0.xsafe, mapq gw22 p0.xwaits] := H24
 refine Wp.region (Mz rfl (Mz rfl (fw (.int .i64 (max p1 (-1))) (Yl.int (e := if (-1) > p1 then (-1) else p1) yk (by omega)) (Kz (.pointer (some ⟨g0, 0, none⟩)) (Kz (.pointer (some ⟨g0, 4, none⟩)) ?_)))))
 refine sto [.int .i64 (max p1 (-1))] 4 H25 Try.sizeOf3 ?_
 intro w26 H27
 refine WL.nil (Fin.res0 (res0 rfl) ?_)
 have H28 : Own w D w26 [DiskO g0 (DiskT.mk p0.xsectors p0.xsafe p0.xwaits p0.xup (max p1 (-1)))] := Own.exFold (gs21, gw22) (show 1 ≤ (DiskT.mk p0.xsectors p0.xsafe p0.xwaits p0.xup (max p1 (-1))).xsectors ∧ (DiskT.mk p0.xsectors p0.xsafe p0.xwaits p0.xup (max p1 (-1))).xsectors ≤ 4096 from (show 1 ≤ p0.xsectors ∧ p0.xsectors ≤ 4096 from by omega)) (show Own w D w26 [blk g0 [.int .i64 ((DiskT.mk p0.xsectors p0.xsafe p0.xwaits p0.xup (max p1 (-1))).xsectors), .map (some gs21), .map (some gw22), .bool ((DiskT.mk p0.xsectors p0.xsafe p0.xwaits p0.xup (max p1 (-1))).xup), .int .i64 ((DiskT.mk p0.xsectors p0.xsafe p0.xwaits p0.xup (max p1 (-1))).xfuse)] 55, mapq gs21 ((DiskT.mk p0.xsectors p0.xsafe p0.xwaits p0.xup (max p1 (-1))).xsafe), mapq gw22 ((DiskT.mk p0.xsectors p0.xsafe p0.xwaits p0.xup (max p1 (-1))).xwaits)] from H27)
 have H29 := H28.pk [0]
 obtain rfl : _ = (DiskT.mk p0.xsectors p0.xsafe p0.xwaits p0.xup (max p1 (-1))) := hr.symm.trans rfl
 exact ⟨rfl, H29, (by first | rfl | omega)⟩

theorem El33 : Elem Try.prog 33 5 1 1 := elem_of (z := .int .u8 0) Try.underlying33 (by kernel_rfl) rfl (by decide)

def disk_Disk_Read (p0 : DiskT) (p1 : Int) : (List UInt8) × Int :=
 if p0.xup = true then if p1 < 0 then ([], 61) else if p1 ≥ p0.xsectors then ([], 61) else bnd (mget p0.xwaits p1) fun yo35 => if Option.isSome yo35 = true then ((Option.getD yo35 (List.replicate 64 (0 : UInt8))), 0) else bnd (mget p0.xsafe p1) fun yo50 => ((Option.getD yo50 (List.replicate 64 (0 : UInt8))), 0) else ([], 60)

set_option maxRecDepth 100000 in
theorem disk_Disk_Read_ok (w : World) (D : Nat → Prop) (g0 : Nat) (p0 : DiskT) (p1 : Int) (r0 : List UInt8) (r1 : Int) (H : Own w D w [DiskO g0 p0])  (hr : disk_Disk_Read p0 p1 = (r0, r1)) :
    Calls Try.prog 25 #[.pointer (some ⟨g0, 0, none⟩), .int .i64 p1] w (Ret fun v w' => ∃ (B0 : Option Addr) (b0 : Nat), v = .tuple #[.slice B0 r0.length b0, .int .i64 r1] ∧ Own w D w' [row B0 r0.length b0 (List.flatMap eB r0) 61 1, DiskO g0 p0] ∧ (r0.length ≤ 64)) := by
 refine Calls.body (args := [.pointer (some ⟨g0, 0, none⟩), .int .i64 p1]) Try.func25 rfl rfl rfl ?_
 show Wp _ _ _ [(0, .pointer (some ⟨g0, 0, none⟩)), (1, .int .i64 p1)] _ _
 obtain ⟨⟨gs21, gw22⟩, hf23, H24⟩ := Own.exOpen H
 replace hf23 : 1 ≤ p0.xsectors ∧ p0.xsectors ≤ 4096 := hf23
 have H25 : Own w D w [blk g0 [.int .i64 p0.xsectors, .map (some gs21), .map (some gw22), .bool p0.xup, .int .i64 p0.xfuse] 55, mapq gs21 p0.xsafe, mapq gw22 p0.xwaits] := H24
 refine sr (Az rfl (An rfl (Wp.seq (sr (Mz rfl (Mz rfl ?_))))))
 refine WL.do rfl (Do.call Try.call29 rfl ?_ (fun _ _ k => k))
 refine Calls.body (args := [.pointer (some ⟨g0, 0, none⟩), .int .i64 p1]) Try.func29 rfl rfl rfl ?_
 show Wp _ _ _ [(0, .pointer (some ⟨g0, 0, none⟩)), (1, .int .i64 p1)] _ _
 refine sr (An rfl (Wp.seq (sr (Mz rfl (Kz (.pointer (some ⟨g0, 0, none⟩)) (Kz (.pointer (some ⟨g0, 3, none⟩)) (Lz (.bool p0.xup) H25 0 Try.isAgg4 (Kz (.bool (!p0.xup)) (nt ?_)))))))))
 rcases Bool.eq_false_or_eq_true (p0.xup) with h26 | h26
 refine jF (cn h26) (sk (Wp.seq (sr (Mz rfl (Kz (.bool (decide (p1 < 0))) (Mz rfl ?_))))))
 by_cases h27 : p1 < 0
 refine Sz (dT h27) (Sz (dT h27) (Sz (dT h27) (Sz (dT h27) (Sz (dT h27) (Sz (dT h27) (fw (.bool true) (Yl.pickT rfl (dT h27) rfl) (nt (jt (sr (An rfl (rt (tR (rs (Ar rfl (Mz rfl (Kz (.bool true) (nt (jt (sr (Mz rfl (Az rfl (An rfl (rt (tR (Fin.res (res2 rfl rfl rfl) ?_)))))))))))))))))))))))))
 have H28 : Own w D w [DiskO g0 p0] := Own.exFold (gs21, gw22) (show 1 ≤ p0.xsectors ∧ p0.xsectors ≤ 4096 from (show 1 ≤ p0.xsectors ∧ p0.xsectors ≤ 4096 from by omega)) (show Own w D w [blk g0 [.int .i64 p0.xsectors, .map (some gs21), .map (some gw22), .bool p0.xup, .int .i64 p0.xfuse] 55, mapq gs21 p0.xsafe, mapq gw22 p0.xwaits] from H25)
 have H29 : Own w D w [row none 0 0 (List.flatMap eB ([])) 61 1, DiskO g0 p0] := H28.free (row_nil 61 1)
 have H30 := H29.pk [0, 1]
 have e : disk_Disk_Read p0 p1 = ([], 61) := et (ip h26) (ip h27)
 obtain ⟨rfl, rfl⟩ := pj2 (e.symm.trans hr)
 exact ⟨none, 0, rfl, H30, (by first | exact Nat.zero_le _ | omega)⟩
 refine gw (.int .i64 p1) (dF h27) (Yl.move rfl) (gw (.pointer (some ⟨g0, 0, none⟩)) (dF h27) (Yl.move rfl) (Gz (.pointer (some ⟨g0, 0, none⟩)) (dF h27) (Gz (.pointer (some ⟨g0, 0, none⟩)) (dF h27) (Gl (.int .i64 p0.xsectors) (dF h27) H25 0 Try.isAgg3 (Gz (.bool (decide (p1 ≥ p0.xsectors))) (dF h27) (fw (.bool (decide (p1 ≥ p0.xsectors))) (Yl.pickF rfl (dF h27) rfl) (nt ?_)))))))
 by_cases h31 : p1 ≥ p0.xsectors
 refine jT (dT h31) (sr (An rfl (rt (tR (rs (Ar rfl (Mz rfl (Kz (.bool true) (nt (jt (sr (Mz rfl (Az rfl (An rfl (rt (tR (Fin.res (res2 rfl rfl rfl) ?_)))))))))))))))))
 have H32 : Own w D w [DiskO g0 p0] := Own.exFold (gs21, gw22) (show 1 ≤ p0.xsectors ∧ p0.xsectors ≤ 4096 from (show 1 ≤ p0.xsectors ∧ p0.xsectors ≤ 4096 from by omega)) (show Own w D w [blk g0 [.int .i64 p0.xsectors, .map (some gs21), .map (some gw22), .bool p0.xup, .int .i64 p0.xfuse] 55, mapq gs21 p0.xsafe, mapq gw22 p0.xwaits] from H25)
 have H33 : Own w D w [row none 0 0 (List.flatMap eB ([])) 61 1, DiskO g0 p0] := H32.free (row_nil 61 1)
 have H34 := H33.pk [0, 1]
 have e : disk_Disk_Read p0 p1 = ([], 61) := et (ip h26) (et (iN h27) (ip h31))
 obtain ⟨rfl, rfl⟩ := pj2 (e.symm.trans hr)
 exact ⟨none, 0, rfl, H34, (by first | exact Nat.zero_le _ | omega)⟩
 refine jF (dF h31) (sk (sr (An rfl (rt (rs (Ar rfl (Mz rfl (Kz (.bool false) (nt (jf (sk (sr (Mz rfl (Kz (.pointer (some ⟨g0, 0, none⟩)) (Kz (.pointer (some ⟨g0, 2, none⟩)) (Lz (.map (some gw22)) H25 0 Try.isAgg53 (Mz rfl ?_)))))))))))))))))
 obtain ⟨o35, ho36⟩ : ∃ q, mget p0.xwaits p1 = q := ⟨_, rfl⟩
 have hl37 : List.length (Option.getD o35 (List.replicate 64 (0 : UInt8))) = 64 := H25.mqLen (i := 2) rfl ho36 List.length_replicate
 refine fw (.tuple #[.agg (List.flatMap eB (Option.getD o35 (List.replicate 64 (0 : UInt8)))).toArray, .bool (Option.isSome o35)]) (Yl.lookupOkQ (k := p1) (d0 := (List.replicate 64 (0 : UInt8))) (i := 2) H25 rfl Try.underlying3 Try.underlying53 (fun _ => by kernel_rfl) rfl rfl ho36) (Mz rfl (Kz (.agg (List.flatMap eB (Option.getD o35 (List.replicate 64 (0 : UInt8)))).toArray) (Kz (.bool (Option.isSome o35)) ?_)))
 refine npw [.int .u8 0, .int .u8 0, .int .u8 0, .int .u8 0, .int .u8 0, .int .u8 0, .int .u8 0, .int .u8 0, .int .u8 0, .int .u8 0, .int .u8 0, .int .u8 0, .int .u8 0, .int .u8 0, .int .u8 0, .int .u8 0, .int .u8 0, .int .u8 0, .int .u8 0, .int .u8 0, .int .u8 0, .int .u8 0, .int .u8 0, .int .u8 0, .int .u8 0, .int .u8 0, .int .u8 0, .int .u8 0, .int .u8 0, .int .u8 0, .int .u8 0, .int .u8 0, .int .u8 0, .int .u8 0, .int .u8 0, .int .u8 0, .int .u8 0, .int .u8 0, .int .u8 0, .int .u8 0, .int .u8 0, .int .u8 0, .int .u8 0, .int .u8 0, .int .u8 0, .int .u8 0, .int .u8 0, .int .u8 0, .int .u8 0, .int .u8 0, .int .u8 0, .int .u8 0, .int .u8 0, .int .u8 0, .int .u8 0, .int .u8 0, .int .u8 0, .int .u8 0, .int .u8 0, .int .u8 0, .int .u8 0, .int .u8 0, .int .u8 0, .int .u8 0] 61 H25 ?_
 intro g38 w39 H40
 have H41 : Own w D w39 [row (some ⟨g38, 0, none⟩) 64 64 (List.flatMap eB (List.replicate 64 (0 : UInt8))) 61 1, blk g0 [.int .i64 p0.xsectors, .map (some gs21), .map (some gw22), .bool p0.xup, .int .i64 p0.xfuse] 55, mapq gs21 p0.xsafe, mapq gw22 p0.xwaits] := H40.blkRow 64 1 (by kernel_rfl) rfl rfl
 refine WL.do0 (Do.storeArr (N := 64) H41 rfl rfl Try.sizeOf61 rfl (by decide) (by rw [flat_len eB_len, show List.length (Option.getD o35 (List.replicate 64 (0 : UInt8))) = 64 from (by first | omega | (simp only [List.length_replicate]; done) | (simp only [List.length_append, List.length_take, List.length_drop, List.length_replicate, List.length_set]; omega))]) (flat_one eB_one _) ?_)
 intro w42 H43
 refine An rfl (Wp.seq (sr (Mz rfl (Kz (.bool (!(Option.isSome o35))) (nt ?_)))))
 rcases Bool.eq_false_or_eq_true (Option.isSome o35) with h44 | h44
 refine jF (cn h44) (sk (sr (Kz (.slice (some ⟨g38, 0, none⟩) 64 64) (Az rfl (An rfl (rt (Fin.res (res2 rfl rfl rfl) ?_)))))))
 have H45 := H43.pk [1, 2, 3, 0]
 have H46 : Own w D w42 [DiskO g0 p0, row (some ⟨g38, 0, none⟩) 64 64 (List.flatMap eB (Option.getD o35 (List.replicate 64 (0 : UInt8)))) 61 1] := Own.exFold (gs21, gw22) (show 1 ≤ p0.xsectors ∧ p0.xsectors ≤ 4096 from (show 1 ≤ p0.xsectors ∧ p0.xsectors ≤ 4096 from by omega)) (show Own w D w42 [blk g0 [.int .i64 p0.xsectors, .map (some gs21), .map (some gw22), .bool p0.xup, .int .i64 p0.xfuse] 55, mapq gs21 p0.xsafe, mapq gw22 p0.xwaits, row (some ⟨g38, 0, none⟩) 64 64 (List.flatMap eB (Option.getD o35 (List.replicate 64 (0 : UInt8)))) 61 1] from H45)
 have hn47 : 64 = List.length (Option.getD o35 (List.replicate 64 (0 : UInt8))) := by first | omega | (simp only [List.length_set]; done) | (simp only [List.length_set, List.length_append, List.length_cons, List.length_nil, List.length_take, List.length_drop, List.length_replicate]; omega)
 have H48 : Own w D w42 [DiskO g0 p0, row (some ⟨g38, 0, none⟩) (List.length (Option.getD o35 (List.replicate 64 (0 : UInt8)))) 64 (List.flatMap eB (Option.getD o35 (List.replicate 64 (0 : UInt8)))) 61 1] := by rw [← hn47]; exact H46
 have H49 := H48.pk [1, 0]
 have e : disk_Disk_Read p0 p1 = ((Option.getD o35 (List.replicate 64 (0 : UInt8))), 0) := et (ip h26) (et (iN h27) (et (iN h31) (et (bnd_of ho36) (ip h44))))
 obtain ⟨rfl, rfl⟩ := pj2 (e.symm.trans hr)
 exact ⟨(some ⟨g38, 0, none⟩), 64, (by first | rfl | (rw [← hn47]; done) | (rw [← hn47]; rfl)), H49, (by first | exact Nat.zero_le _ | omega)⟩
 refine jT (cn h44) (Wp.region (Mz rfl (Kz (.pointer (some ⟨g0, 0, none⟩)) (Kz (.pointer (some ⟨g0, 1, none⟩)) (Lz (.map (some gs21)) H43 1 Try.isAgg53 (Mz rfl ?_))))))
 obtain ⟨o50, ho51⟩ : ∃ q, mget p0.xsafe p1 = q := ⟨_, rfl⟩
 have hl52 : List.length (Option.getD o50 (List.replicate 64 (0 : UInt8))) = 64 := H43.mqLen (i := 2) rfl ho51 List.length_replicate
 refine fw (.agg (List.flatMap eB (Option.getD o50 (List.replicate 64 (0 : UInt8)))).toArray) (Yl.lookup1Q (k := p1) (d0 := (List.replicate 64 (0 : UInt8))) (i := 2) H43 rfl Try.underlying3 Try.underlying53 (fun _ => by kernel_rfl) rfl rfl ho51) ?_
 refine WL.do0 (Do.storeArr (N := 64) H43 rfl rfl Try.sizeOf61 rfl (by decide) (by rw [flat_len eB_len, show List.length (Option.getD o50 (List.replicate 64 (0 : UInt8))) = 64 from (by first | omega | (simp only [List.length_replicate]; done) | (simp only [List.length_append, List.length_take, List.length_drop, List.length_replicate, List.length_set]; omega))]) (flat_one eB_one _) ?_)
 intro w53 H54
 refine ns (Kz (.slice (some ⟨g38, 0, none⟩) 64 64) (Az rfl (An rfl (rt (Fin.res (res2 rfl rfl rfl) ?_)))))
 have H55 := H54.pk [1, 2, 3, 0]
 have H56 : Own w D w53 [DiskO g0 p0, row (some ⟨g38, 0, none⟩) 64 64 (List.flatMap eB (Option.getD o50 (List.replicate 64 (0 : UInt8)))) 61 1] := Own.exFold (gs21, gw22) (show 1 ≤ p0.xsectors ∧ p0.xsectors ≤ 4096 from (show 1 ≤ p0.xsectors ∧ p0.xsectors ≤ 4096 from by omega)) (show Own w D w53 [blk g0 [.int .i64 p0.xsectors, .map (some gs21), .map (some gw22), .bool p0.xup, .int .i64 p0.xfuse] 55, mapq gs21 p0.xsafe, mapq gw22 p0.xwaits, row (some ⟨g38, 0, none⟩) 64 64 (List.flatMap eB (Option.getD o50 (List.replicate 64 (0 : UInt8)))) 61 1] from H55)
 have hn57 : 64 = List.length (Option.getD o50 (List.replicate 64 (0 : UInt8))) := by first | omega | (simp only [List.length_set]; done) | (simp only [List.length_set, List.length_append, List.length_cons, List.length_nil, List.length_take, List.length_drop, List.length_replicate]; omega)
 have H58 : Own w D w53 [DiskO g0 p0, row (some ⟨g38, 0, none⟩) (List.length (Option.getD o50 (List.replicate 64 (0 : UInt8)))) 64 (List.flatMap eB (Option.getD o50 (List.replicate 64 (0 : UInt8)))) 61 1] := by rw [← hn57]; exact H56
 have H59 := H58.pk [1, 0]
 have e : disk_Disk_Read p0 p1 = ((Option.getD o50 (List.replicate 64 (0 : UInt8))), 0) := et (ip h26) (et (iN h27) (et (iN h31) (et (bnd_of ho36) (et (ifF h44) (bnd_of ho51)))))
 obtain ⟨rfl, rfl⟩ := pj2 (e.symm.trans hr)
 exact ⟨(some ⟨g38, 0, none⟩), 64, (by first | rfl | (rw [← hn57]; done) | (rw [← hn57]; rfl)), H59, (by first | exact Nat.zero_le _ | omega)⟩
 refine jT (cn h26) (sr (An rfl (rt (tR (rs (Ar rfl (Mz rfl (Kz (.bool true) (nt (jt (sr (Mz rfl (Az rfl (An rfl (rt (tR (Fin.res (res2 rfl rfl rfl) ?_)))))))))))))))))
 have H60 : Own w D w [DiskO g0 p0] := Own.exFold (gs21, gw22) (show 1 ≤ p0.xsectors ∧ p0.xsectors ≤ 4096 from (show 1 ≤ p0.xsectors ∧ p0.xsectors ≤ 4096 from by omega)) (show Own w D w [blk g0 [.int .i64 p0.xsectors, .map (some gs21), .map (some gw22), .bool p0.xup, .int .i64 p0.xfuse] 55, mapq gs21 p0.xsafe, mapq gw22 p0.xwaits] from H25)
 have H61 : Own w D w [row none 0 0 (List.flatMap eB ([])) 61 1, DiskO g0 p0] := H60.free (row_nil 61 1)
 have H62 := H61.pk [0, 1]
 have e : disk_Disk_Read p0 p1 = ([], 60) := ifF h26
 obtain ⟨rfl, rfl⟩ := pj2 (e.symm.trans hr)
 exact ⟨none, 0, rfl, H62, (by first | exact Nat.zero_le _ | omega)⟩

def disk_Disk_Write (p0 : DiskT) (p1 : Int) (l2 : List UInt8) : Int × DiskT :=
 if p0.xup = true then if p1 < 0 then (61, p0) else if p1 ≥ p0.xsectors then (61, p0) else if ((l2.length : Nat) : Int) = 64 then if p0.xfuse = 0 then (60, (DiskT.mk p0.xsectors p0.xsafe p0.xwaits false p0.xfuse)) else if p0.xfuse > 0 then (0, (DiskT.mk p0.xsectors p0.xsafe (sput p0.xwaits p1 (List.take 0 (List.replicate 64 (0 : UInt8)) ++ (List.take (min l2.length 64) l2 ++ List.drop (0 + (min l2.length 64)) (List.replicate 64 (0 : UInt8))))) p0.xup (IntKind.i64.wrap (p0.xfuse - 1)))) else (0, (DiskT.mk p0.xsectors p0.xsafe (sput p0.xwaits p1 (List.take 0 (List.replicate 64 (0 : UInt8)) ++ (List.take (min l2.length 64) l2 ++ List.drop (0 + (min l2.length 64)) (List.replicate 64 (0 : UInt8))))) p0.xup p0.xfuse)) else (2, p0) else (60, p0)

set_option maxRecDepth 100000 in
theorem disk_Disk_Write_ok (w : World) (D : Nat → Prop) (g0 : Nat) (p0 : DiskT) (p1 : Int) (A2 : Option Addr) (n2 c2 : Nat) (l2 : List UInt8) (r0 : Int) (r1 : DiskT) (H : Own w D w [DiskO g0 p0]) (hx2 : Ro w D fun w' => Rds w' 1 A2 n2 (List.flatMap eB l2)) (hn2 : n2 = l2.length) (hl2 : l2.length * 1 ≤ 211106232532992) (hr : disk_Disk_Write p0 p1 l2 = (r0, r1)) :
    Calls Try.prog 13 #[.pointer (some ⟨g0, 0, none⟩), .int .i64 p1, .slice A2 n2 c2] w (Ret fun v w' => v = .int .i64 r0 ∧ Own w D w' [DiskO g0 r1] ∧ (r1.xsectors = p0.xsectors) ∧ (¬ (r0 = 0) ∨ ((0 : Int) ≤ p1 ∧ (p1 : Int) < p0.xsectors))) := by
 subst hn2
 refine Calls.body (args := [.pointer (some ⟨g0, 0, none⟩), .int .i64 p1, .slice A2 l2.length c2]) Try.func13 rfl rfl rfl ?_
 show Wp _ _ _ [(0, .pointer (some ⟨g0, 0, none⟩)), (1, .int .i64 p1), (2, .slice A2 l2.length c2)] _ _
 obtain ⟨⟨gs21, gw22⟩, hf23, H24⟩ := Own.exOpen H
 replace hf23 : 1 ≤ p0.xsectors ∧ p0.xsectors ≤ 4096 := hf23
 have H25 : Own w D w [blk g0 [.int .i64 p0.xsectors, .map (some gs21), .map (some gw22), .bool p0.xup, .int .i64 p0.xfuse] 55, mapq gs21 p0.xsafe, mapq gw22 p0.xwaits] := H24
 refine sr (An rfl (Wp.seq (sr (Mz rfl (Mz rfl ?_)))))
 refine WL.do rfl (Do.call Try.call29 rfl ?_ (fun _ _ k => k))
 refine Calls.body (args := [.pointer (some ⟨g0, 0, none⟩), .int .i64 p1]) Try.func29 rfl rfl rfl ?_
 show Wp _ _ _ [(0, .pointer (some ⟨g0, 0, none⟩)), (1, .int .i64 p1)] _ _
 refine sr (An rfl (Wp.seq (sr (Mz rfl (Kz (.pointer (some ⟨g0, 0, none⟩)) (Kz (.pointer (some ⟨g0, 3, none⟩)) (Lz (.bool p0.xup) H25 0 Try.isAgg4 (Kz (.bool (!p0.xup)) (nt ?_)))))))))
 rcases Bool.eq_false_or_eq_true (p0.xup) with h26 | h26
 refine jF (cn h26) (sk (Wp.seq (sr (Mz rfl (Kz (.bool (decide (p1 < 0))) (Mz rfl ?_))))))
 by_cases h27 : p1 < 0
 refine Sz (dT h27) (Sz (dT h27) (Sz (dT h27) (Sz (dT h27) (Sz (dT h27) (Sz (dT h27) (fw (.bool true) (Yl.pickT rfl (dT h27) rfl) (nt (jt (sr (An rfl (rt (tR (rs (Ar rfl (Mz rfl (Kz (.bool true) (nt (jt (sr (Mz rfl (An rfl (rt (tR (rs ?_))))))))))))))))))))))))
 have H28 : Own w D w [DiskO g0 p0] := Own.exFold (gs21, gw22) (show 1 ≤ p0.xsectors ∧ p0.xsectors ≤ 4096 from (show 1 ≤ p0.xsectors ∧ p0.xsectors ≤ 4096 from by omega)) (show Own w D w [blk g0 [.int .i64 p0.xsectors, .map (some gs21), .map (some gw22), .bool p0.xup, .int .i64 p0.xfuse] 55, mapq gs21 p0.xsafe, mapq gw22 p0.xwaits] from H25)
 have H29 := H28.pk [0]
 have e : disk_Disk_Write p0 p1 l2 = (61, p0) := et (ip h26) (ip h27)
 obtain ⟨rfl, rfl⟩ := pj2 (e.symm.trans hr)
 exact ⟨rfl, H29, (by first | rfl | omega), (by omega)⟩
 refine gw (.int .i64 p1) (dF h27) (Yl.move rfl) (gw (.pointer (some ⟨g0, 0, none⟩)) (dF h27) (Yl.move rfl) (Gz (.pointer (some ⟨g0, 0, none⟩)) (dF h27) (Gz (.pointer (some ⟨g0, 0, none⟩)) (dF h27) (Gl (.int .i64 p0.xsectors) (dF h27) H25 0 Try.isAgg3 (Gz (.bool (decide (p1 ≥ p0.xsectors))) (dF h27) (fw (.bool (decide (p1 ≥ p0.xsectors))) (Yl.pickF rfl (dF h27) rfl) (nt ?_)))))))
 by_cases h30 : p1 ≥ p0.xsectors
 refine jT (dT h30) (sr (An rfl (rt (tR (rs (Ar rfl (Mz rfl (Kz (.bool true) (nt (jt (sr (Mz rfl (An rfl (rt (tR (rs ?_))))))))))))))))
 have H31 : Own w D w [DiskO g0 p0] := Own.exFold (gs21, gw22) (show 1 ≤ p0.xsectors ∧ p0.xsectors ≤ 4096 from (show 1 ≤ p0.xsectors ∧ p0.xsectors ≤ 4096 from by omega)) (show Own w D w [blk g0 [.int .i64 p0.xsectors, .map (some gs21), .map (some gw22), .bool p0.xup, .int .i64 p0.xfuse] 55, mapq gs21 p0.xsafe, mapq gw22 p0.xwaits] from H25)
 have H32 := H31.pk [0]
 have e : disk_Disk_Write p0 p1 l2 = (61, p0) := et (ip h26) (et (iN h27) (ip h30))
 obtain ⟨rfl, rfl⟩ := pj2 (e.symm.trans hr)
 exact ⟨rfl, H32, (by first | rfl | omega), (by omega)⟩
 refine jF (dF h30) (sk (sr (An rfl (rt (rs (Ar rfl (Mz rfl (Kz (.bool false) (nt (jf (sk (Wp.seq (sr (Mz rfl (Kz (.int .i64 ((l2.length : Nat) : Int)) (fw (.bool (decide (¬ (((l2.length : Nat) : Int) = 64)))) (Yl.bool (e := !(decide (((l2.length : Nat) : Int) = 64))) yk decide_not.symm) (nt ?_)))))))))))))))))
 by_cases h33 : ((l2.length : Nat) : Int) = 64
 refine jF (dF (not_not_intro h33)) (sk (Wp.seq (sr (Mz rfl ?_))))
 refine WL.do rfl (Do.call Try.call30 rfl ?_ (fun _ _ k => k))
 refine Calls.body (args := [.pointer (some ⟨g0, 0, none⟩)]) Try.func30 rfl rfl rfl ?_
 show Wp _ _ _ [(0, .pointer (some ⟨g0, 0, none⟩))] _ _
 refine sr (An rfl (Wp.seq (sr (Mz rfl (Kz (.pointer (some ⟨g0, 0, none⟩)) (Kz (.pointer (some ⟨g0, 4, none⟩)) (Lz (.int .i64 p0.xfuse) H25 0 Try.isAgg3 (Kz (.bool (decide (p0.xfuse = 0))) (nt ?_)))))))))
 by_cases h34 : p0.xfuse = 0
 refine jT (dT h34) (sr (Mz rfl (Kz (.pointer (some ⟨g0, 0, none⟩)) (Kz (.pointer (some ⟨g0, 3, none⟩)) ?_))))
 refine sto [.bool false] 3 H25 Try.sizeOf4 ?_
 intro w35 H36
 refine ns (An rfl (rt (tR (rs (Kz (.bool true) (nt (jt (sr (An rfl (rt (tR (rs ?_))))))))))))
 have H37 : Own w D w35 [DiskO g0 (DiskT.mk p0.xsectors p0.xsafe p0.xwaits false p0.xfuse)] := Own.exFold (gs21, gw22) (show 1 ≤ (DiskT.mk p0.xsectors p0.xsafe p0.xwaits false p0.xfuse).xsectors ∧ (DiskT.mk p0.xsectors p0.xsafe p0.xwaits false p0.xfuse).xsectors ≤ 4096 from (show 1 ≤ p0.xsectors ∧ p0.xsectors ≤ 4096 from by omega)) (show Own w D w35 [blk g0 [.int .i64 ((DiskT.mk p0.xsectors p0.xsafe p0.xwaits false p0.xfuse).xsectors), .map (some gs21), .map (some gw22), .bool ((DiskT.mk p0.xsectors p0.xsafe p0.xwaits false p0.xfuse).xup), .int .i64 ((DiskT.mk p0.xsectors p0.xsafe p0.xwaits false p0.xfuse).xfuse)] 55, mapq gs21 ((DiskT.mk p0.xsectors p0.xsafe p0.xwaits false p0.xfuse).xsafe), mapq gw22 ((DiskT.mk p0.xsectors p0.xsafe p0.xwaits false p0.xfuse).xwaits)] from H36)
 have H38 := H37.pk [0]
 have e : disk_Disk_Write p0 p1 l2 = (60, (DiskT.mk p0.xsectors p0.xsafe p0.xwaits false p0.xfuse)) := et (ip h26) (et (iN h27) (et (iN h30) (et (ip h33) (ip h34))))
 obtain ⟨rfl, rfl⟩ := pj2 (e.symm.trans hr)
 exact ⟨rfl, H38, (by first | rfl | omega), (by omega)⟩
 refine jF (dF h34) (sk (Wp.seq (sr (Mz rfl (Kz (.pointer (some ⟨g0, 0, none⟩)) (Kz (.pointer (some ⟨g0, 4, none⟩)) (Lz (.int .i64 p0.xfuse) H25 0 Try.isAgg3 (Kz (.bool (decide (p0.xfuse > 0))) (nt ?_)))))))))
 by_cases h39 : p0.xfuse > 0
 refine jT (dT h39) (Wp.region (Mz rfl (Kz (.pointer (some ⟨g0, 0, none⟩)) (Kz (.pointer (some ⟨g0, 4, none⟩)) (Lz (.int .i64 p0.xfuse) H25 0 Try.isAgg3 (Kz (.int .i64 (IntKind.i64.wrap (p0.xfuse - 1))) (Kz (.pointer (some ⟨g0, 0, none⟩)) (Kz (.pointer (some ⟨g0, 4, none⟩)) ?_))))))))
 refine sto [.int .i64 (IntKind.i64.wrap (p0.xfuse - 1))] 4 H25 Try.sizeOf3 ?_
 intro w40 H41
 refine ns (An rfl (rt (rs (Kz (.bool false) (nt (jf (sk (sr ?_))))))))
 refine npw [.int .u8 0, .int .u8 0, .int .u8 0, .int .u8 0, .int .u8 0, .int .u8 0, .int .u8 0, .int .u8 0, .int .u8 0, .int .u8 0, .int .u8 0, .int .u8 0, .int .u8 0, .int .u8 0, .int .u8 0, .int .u8 0, .int .u8 0, .int .u8 0, .int .u8 0, .int .u8 0, .int .u8 0, .int .u8 0, .int .u8 0, .int .u8 0, .int .u8 0, .int .u8 0, .int .u8 0, .int .u8 0, .int .u8 0, .int .u8 0, .int .u8 0, .int .u8 0, .int .u8 0, .int .u8 0, .int .u8 0, .int .u8 0, .int .u8 0, .int .u8 0, .int .u8 0, .int .u8 0, .int .u8 0, .int .u8 0, .int .u8 0, .int .u8 0, .int .u8 0, .int .u8 0, .int .u8 0, .int .u8 0, .int .u8 0, .int .u8 0, .int .u8 0, .int .u8 0, .int .u8 0, .int .u8 0, .int .u8 0, .int .u8 0, .int .u8 0, .int .u8 0, .int .u8 0, .int .u8 0, .int .u8 0, .int .u8 0, .int .u8 0, .int .u8 0] 61 H41 ?_
 intro g42 w43 H44
 have H45 : Own w D w43 [row (some ⟨g42, 0, none⟩) 64 64 (List.flatMap eB (List.replicate 64 (0 : UInt8))) 61 1, blk g0 [.int .i64 p0.xsectors, .map (some gs21), .map (some gw22), .bool p0.xup, .int .i64 (IntKind.i64.wrap (p0.xfuse - 1))] 55, mapq gs21 p0.xsafe, mapq gw22 p0.xwaits] := H44.blkRow 64 1 (by kernel_rfl) rfl rfl
 refine ns (Kz (.slice (some ⟨g42, 0, none⟩) 64 64) (Mz rfl ?_))
 refine WL.do rfl (Do.copyA (lo := 0) (k := min l2.length 64) (El33) H45 rfl (fun hp => by rw [Nat.zero_mul, Nat.add_zero]; exact (H45.rds (i := 0) rfl).isSome (by omega)) (by omega) rfl (H45.ro hx2) (flat_one eB_one l2) (by omega) (flat_put eB_len _ _ _ _ (by first | omega | (simp; done) | (simp; omega))) ?_)
 intro w46 H47
 have hl48 : List.length (List.take 0 (List.replicate 64 (0 : UInt8)) ++ (List.take (min l2.length 64) l2 ++ List.drop (0 + (min l2.length 64)) (List.replicate 64 (0 : UInt8)))) = 64 := by simp only [List.length_append, List.length_take, List.length_drop, List.length_replicate]; omega
 refine nt (Wp.seq ?_)
 have H50 := H47.drew
 refine Wp.drawnX [] (fun W => ∃ L', Own w D W ([row (some ⟨g42, 0, none⟩) 64 64 (List.flatMap eB (List.take 0 (List.replicate 64 (0 : UInt8)) ++ (List.take (min l2.length 64) l2 ++ List.drop (0 + (min l2.length 64)) (List.replicate 64 (0 : UInt8))))) 61 1, blk g0 [.int .i64 p0.xsectors, .map (some gs21), .map (some gw22), .bool p0.xup, .int .i64 (IntKind.i64.wrap (p0.xfuse - 1))] 55, mapq gs21 p0.xsafe] ++ L')) (by kernel_rfl) (by kernel_rfl) (NoP.then NoP.base) ⟨_, H50⟩ ?_
 revert H50
 generalize World.drew w46 = w49
 intro H50
 refine GX.take (v := .pointer (some ⟨g0, 0, none⟩)) (rs := []) 0 rfl (by kernel_rfl) (fun _ _ => Yl.move rfl) (GX.take (v := .pointer (some ⟨g0, 0, none⟩)) (rs := []) 1 rfl (by kernel_rfl) (fun _ _ => yk) (GX.take (v := .pointer (some ⟨g0, 2, none⟩)) (rs := []) 2 rfl (by kernel_rfl) (fun _ _ => yk) (GX.take (v := .map (some gw22)) (rs := []) 3 rfl (by kernel_rfl) (fun _ ⟨_, H9⟩ => Yl.load rfl (Lds.one Try.isAgg53 (Cls.of (H9.cls (i := 1) rfl) rfl))) (GX.take (v := .int .i64 p1) (rs := []) 4 rfl (by kernel_rfl) (fun _ _ => Yl.move rfl) (GX.take (v := .agg (List.flatMap eB (List.take 0 (List.replicate 64 (0 : UInt8)) ++ (List.take (min l2.length 64) l2 ++ List.drop (0 + (min l2.length 64)) (List.replicate 64 (0 : UInt8))))).toArray) (rs := []) 5 rfl (by kernel_rfl) (fun _ ⟨_, H9⟩ => Yl.load rfl (Lds.arr (N := 64) (m := 64) Try.isAgg61 Try.sizeOf61 (H9.rds (i := 0) rfl) rfl (by decide))) ?_)))))
 have H51 := H50.pk [3, 0, 1, 2]
 refine GX.do0 6 rfl (by kernel_rfl) (Do.mapUpdateQ (k := p1) (v := (List.take 0 (List.replicate 64 (0 : UInt8)) ++ (List.take (min l2.length 64) l2 ++ List.drop (0 + (min l2.length 64)) (List.replicate 64 (0 : UInt8))))) H51 Try.underlying3 Try.underlying53 rfl rfl rfl (show 0 ≤ p1 ∧ p1 < 4096 ∧ List.length (List.take 0 (List.replicate 64 (0 : UInt8)) ++ (List.take (min l2.length 64) l2 ++ List.drop (0 + (min l2.length 64)) (List.replicate 64 (0 : UInt8)))) = 64 from ⟨by omega, by omega, (by first | omega | (simp only [List.length_replicate]; done) | (simp only [List.length_append, List.length_take, List.length_drop, List.length_replicate, List.length_set]; omega))⟩) ?_)
 intro w52 H53
 have H54 := H53.pk [1, 2, 3, 0]
 refine ⟨.inr ⟨_, H54⟩, ?_⟩
 refine GX.done (by kernel_rfl) (Fin.then (Wp.seq ?_))
 have H55 := H54.pk [1, 2, 3]
 refine Wp.region (An rfl (rt (rs ?_)))
 have H56 : Own w D w52 [DiskO g0 (DiskT.mk p0.xsectors p0.xsafe (sput p0.xwaits p1 (List.take 0 (List.replicate 64 (0 : UInt8)) ++ (List.take (min l2.length 64) l2 ++ List.drop (0 + (min l2.length 64)) (List.replicate 64 (0 : UInt8))))) p0.xup (IntKind.i64.wrap (p0.xfuse - 1)))] := Own.exFold (gs21, gw22) (show 1 ≤ (DiskT.mk p0.xsectors p0.xsafe (sput p0.xwaits p1 (List.take 0 (List.replicate 64 (0 : UInt8)) ++ (List.take (min l2.length 64) l2 ++ List.drop (0 + (min l2.length 64)) (List.replicate 64 (0 : UInt8))))) p0.xup (IntKind.i64.wrap (p0.xfuse - 1))).xsectors ∧ (DiskT.mk p0.xsectors p0.xsafe (sput p0.xwaits p1 (List.take 0 (List.replicate 64 (0 : UInt8)) ++ (List.take (min l2.length 64) l2 ++ List.drop (0 + (min l2.length 64)) (List.replicate 64 (0 : UInt8))))) p0.xup (IntKind.i64.wrap (p0.xfuse - 1))).xsectors ≤ 4096 from (show 1 ≤ p0.xsectors ∧ p0.xsectors ≤ 4096 from by omega)) (show Own w D w52 [blk g0 [.int .i64 ((DiskT.mk p0.xsectors p0.xsafe (sput p0.xwaits p1 (List.take 0 (List.replicate 64 (0 : UInt8)) ++ (List.take (min l2.length 64) l2 ++ List.drop (0 + (min l2.length 64)) (List.replicate 64 (0 : UInt8))))) p0.xup (IntKind.i64.wrap (p0.xfuse - 1))).xsectors), .map (some gs21), .map (some gw22), .bool ((DiskT.mk p0.xsectors p0.xsafe (sput p0.xwaits p1 (List.take 0 (List.replicate 64 (0 : UInt8)) ++ (List.take (min l2.length 64) l2 ++ List.drop (0 + (min l2.length 64)) (List.replicate 64 (0 : UInt8))))) p0.xup (IntKind.i64.wrap (p0.xfuse - 1))).xup), .int .i64 ((DiskT.mk p0.xsectors p0.xsafe (sput p0.xwaits p1 (List.take 0 (List.replicate 64 (0 : UInt8)) ++ (List.take (min l2.length 64) l2 ++ List.drop (0 + (min l2.length 64)) (List.replicate 64 (0 : UInt8))))) p0.xup (IntKind.i64.wrap (p0.xfuse - 1))).xfuse)] 55, mapq gs21 ((DiskT.mk p0.xsectors p0.xsafe (sput p0.xwaits p1 (List.take 0 (List.replicate 64 (0 : UInt8)) ++ (List.take (min l2.length 64) l2 ++ List.drop (0 + (min l2.length 64)) (List.replicate 64 (0 : UInt8))))) p0.xup (IntKind.i64.wrap (p0.xfuse - 1))).xsafe), mapq gw22 ((DiskT.mk p0.xsectors p0.xsafe (sput p0.xwaits p1 (List.take 0 (List.replicate 64 (0 : UInt8)) ++ (List.take (min l2.length 64) l2 ++ List.drop (0 + (min l2.length 64)) (List.replicate 64 (0 : UInt8))))) p0.xup (IntKind.i64.wrap (p0.xfuse - 1))).xwaits)] from H55)
 have H57 := H56.pk [0]
 have e : disk_Disk_Write p0 p1 l2 = (0, (DiskT.mk p0.xsectors p0.xsafe (sput p0.xwaits p1 (List.take 0 (List.replicate 64 (0 : UInt8)) ++ (List.take (min l2.length 64) l2 ++ List.drop (0 + (min l2.length 64)) (List.replicate 64 (0 : UInt8))))) p0.xup (IntKind.i64.wrap (p0.xfuse - 1)))) := et (ip h26) (et (iN h27) (et (iN h30) (et (ip h33) (et (iN h34) (ip h39)))))
 obtain ⟨rfl, rfl⟩ := pj2 (e.symm.trans hr)
 exact ⟨rfl, H57, (by first | rfl | omega), (by omega)⟩
 refine jF (dF h39) (sk (sr (An rfl (rt (rs (Kz (.bool false) (nt (jf (sk (sr ?_))))))))))
 refine npw [.int .u8 0, .int .u8 0, .int .u8 0, .int .u8 0, .int .u8 0, .int .u8 0, .int .u8 0, .int .u8 0, .int .u8 0, .int .u8 0, .int .u8 0, .int .u8 0, .int .u8 0, .int .u8 0, .int .u8 0, .int .u8 0, .int .u8 0, .int .u8 0, .int .u8 0, .int .u8 0, .int .u8 0, .int .u8 0, .int .u8 0, .int .u8 0, .int .u8 0, .int .u8 0, .int .u8 0, .int .u8 0, .int .u8 0, .int .u8 0, .int .u8 0, .int .u8 0, .int .u8 0, .int .u8 0, .int .u8 0, .int .u8 0, .int .u8 0, .int .u8 0, .int .u8 0, .int .u8 0, .int .u8 0, .int .u8 0, .int .u8 0, .int .u8 0, .int .u8 0, .int .u8 0, .int .u8 0, .int .u8 0, .int .u8 0, .int .u8 0, .int .u8 0, .int .u8 0, .int .u8 0, .int .u8 0, .int .u8 0, .int .u8 0, .int .u8 0, .int .u8 0, .int .u8 0, .int .u8 0, .int .u8 0, .int .u8 0, .int .u8 0, .int .u8 0] 61 H25 ?_
 intro g58 w59 H60
 have H61 : Own w D w59 [row (some ⟨g58, 0, none⟩) 64 64 (List.flatMap eB (List.replicate 64 (0 : UInt8))) 61 1, blk g0 [.int .i64 p0.xsectors, .map (some gs21), .map (some gw22), .bool p0.xup, .int .i64 p0.xfuse] 55, mapq gs21 p0.xsafe, mapq gw22 p0.xwaits] := H60.blkRow 64 1 (by kernel_rfl) rfl rfl
 refine ns (Kz (.slice (some ⟨g58, 0, none⟩) 64 64) (Mz rfl ?_))
 refine WL.do rfl (Do.copyA (lo := 0) (k := min l2.length 64) (El33) H61 rfl (fun hp => by rw [Nat.zero_mul, Nat.add_zero]; exact (H61.rds (i := 0) rfl).isSome (by omega)) (by omega) rfl (H61.ro hx2) (flat_one eB_one l2) (by omega) (flat_put eB_len _ _ _ _ (by first | omega | (simp; done) | (simp; omega))) ?_)
 intro w62 H63
 have hl64 : List.length (List.take 0 (List.replicate 64 (0 : UInt8)) ++ (List.take (min l2.length 64) l2 ++ List.drop (0 + (min l2.length 64)) (List.replicate 64 (0 : UInt8)))) = 64 := by simp only [List.length_append, List.length_take, List.length_drop, List.length_replicate]; omega
 refine nt (Wp.seq ?_)
 have H66 := H63.drew
 refine Wp.drawnX [] (fun W => ∃ L', Own w D W ([row (some ⟨g58, 0, none⟩) 64 64 (List.flatMap eB (List.take 0 (List.replicate 64 (0 : UInt8)) ++ (List.take (min l2.length 64) l2 ++ List.drop (0 + (min l2.length 64)) (List.replicate 64 (0 : UInt8))))) 61 1, blk g0 [.int .i64 p0.xsectors, .map (some gs21), .map (some gw22), .bool p0.xup, .int .i64 p0.xfuse] 55, mapq gs21 p0.xsafe] ++ L')) (by kernel_rfl) (by kernel_rfl) (NoP.then NoP.base) ⟨_, H66⟩ ?_
 revert H66
 generalize World.drew w62 = w65
 intro H66
 refine GX.take (v := .pointer (some ⟨g0, 0, none⟩)) (rs := []) 0 rfl (by kernel_rfl) (fun _ _ => Yl.move rfl) (GX.take (v := .pointer (some ⟨g0, 0, none⟩)) (rs := []) 1 rfl (by kernel_rfl) (fun _ _ => yk) (GX.take (v := .pointer (some ⟨g0, 2, none⟩)) (rs := []) 2 rfl (by kernel_rfl) (fun _ _ => yk) (GX.take (v := .map (some gw22)) (rs := []) 3 rfl (by kernel_rfl) (fun _ ⟨_, H9⟩ => Yl.load rfl (Lds.one Try.isAgg53 (Cls.of (H9.cls (i := 1) rfl) rfl))) (GX.take (v := .int .i64 p1) (rs := []) 4 rfl (by kernel_rfl) (fun _ _ => Yl.move rfl) (GX.take (v := .agg (List.flatMap eB (List.take 0 (List.replicate 64 (0 : UInt8)) ++ (List.take (min l2.length 64) l2 ++ List.drop (0 + (min l2.length 64)) (List.replicate 64 (0 : UInt8))))).toArray) (rs := []) 5 rfl (by kernel_rfl) (fun _ ⟨_, H9⟩ => Yl.load rfl (Lds.arr (N := 64) (m := 64) Try.isAgg61 Try.sizeOf61 (H9.rds (i := 0) rfl) rfl (by decide))) ?_)))))
 have H67 := H66.pk [3, 0, 1, 2]
 refine GX.do0 6 rfl (by kernel_rfl) (Do.mapUpdateQ (k := p1) (v := (List.take 0 (List.replicate 64 (0 : UInt8)) ++ (List.take (min l2.length 64) l2 ++ List.drop (0 + (min l2.length 64)) (List.replicate 64 (0 : UInt8))))) H67 Try.underlying3 Try.underlying53 rfl rfl rfl (show 0 ≤ p1 ∧ p1 < 4096 ∧ List.length (List.take 0 (List.replicate 64 (0 : UInt8)) ++ (List.take (min l2.length 64) l2 ++ List.drop (0 + (min l2.length 64)) (List.replicate 64 (0 : UInt8)))) = 64 from ⟨by omega, by omega, (by first | omega | (simp only [List.length_replicate]; done) | (simp only [List.length_append, List.length_take, List.length_drop, List.length_replicate, List.length_set]; omega))⟩) ?_)
 intro w68 H69
 have H70 := H69.pk [1, 2, 3, 0]
 refine ⟨.inr ⟨_, H70⟩, ?_⟩
 refine GX.done (by kernel_rfl) (Fin.then (Wp.seq ?_))
 have H71 := H70.pk [1, 2, 3]
 refine Wp.region (An rfl (rt (rs ?_)))
 have H72 : Own w D w68 [DiskO g0 (DiskT.mk p0.xsectors p0.xsafe (sput p0.xwaits p1 (List.take 0 (List.replicate 64 (0 : UInt8)) ++ (List.take (min l2.length 64) l2 ++ List.drop (0 + (min l2.length 64)) (List.replicate 64 (0 : UInt8))))) p0.xup p0.xfuse)] := Own.exFold (gs21, gw22) (show 1 ≤ (DiskT.mk p0.xsectors p0.xsafe (sput p0.xwaits p1 (List.take 0 (List.replicate 64 (0 : UInt8)) ++ (List.take (min l2.length 64) l2 ++ List.drop (0 + (min l2.length 64)) (List.replicate 64 (0 : UInt8))))) p0.xup p0.xfuse).xsectors ∧ (DiskT.mk p0.xsectors p0.xsafe (sput p0.xwaits p1 (List.take 0 (List.replicate 64 (0 : UInt8)) ++ (List.take (min l2.length 64) l2 ++ List.drop (0 + (min l2.length 64)) (List.replicate 64 (0 : UInt8))))) p0.xup p0.xfuse).xsectors ≤ 4096 from (show 1 ≤ p0.xsectors ∧ p0.xsectors ≤ 4096 from by omega)) (show Own w D w68 [blk g0 [.int .i64 ((DiskT.mk p0.xsectors p0.xsafe (sput p0.xwaits p1 (List.take 0 (List.replicate 64 (0 : UInt8)) ++ (List.take (min l2.length 64) l2 ++ List.drop (0 + (min l2.length 64)) (List.replicate 64 (0 : UInt8))))) p0.xup p0.xfuse).xsectors), .map (some gs21), .map (some gw22), .bool ((DiskT.mk p0.xsectors p0.xsafe (sput p0.xwaits p1 (List.take 0 (List.replicate 64 (0 : UInt8)) ++ (List.take (min l2.length 64) l2 ++ List.drop (0 + (min l2.length 64)) (List.replicate 64 (0 : UInt8))))) p0.xup p0.xfuse).xup), .int .i64 ((DiskT.mk p0.xsectors p0.xsafe (sput p0.xwaits p1 (List.take 0 (List.replicate 64 (0 : UInt8)) ++ (List.take (min l2.length 64) l2 ++ List.drop (0 + (min l2.length 64)) (List.replicate 64 (0 : UInt8))))) p0.xup p0.xfuse).xfuse)] 55, mapq gs21 ((DiskT.mk p0.xsectors p0.xsafe (sput p0.xwaits p1 (List.take 0 (List.replicate 64 (0 : UInt8)) ++ (List.take (min l2.length 64) l2 ++ List.drop (0 + (min l2.length 64)) (List.replicate 64 (0 : UInt8))))) p0.xup p0.xfuse).xsafe), mapq gw22 ((DiskT.mk p0.xsectors p0.xsafe (sput p0.xwaits p1 (List.take 0 (List.replicate 64 (0 : UInt8)) ++ (List.take (min l2.length 64) l2 ++ List.drop (0 + (min l2.length 64)) (List.replicate 64 (0 : UInt8))))) p0.xup p0.xfuse).xwaits)] from H71)
 have H73 := H72.pk [0]
 have e : disk_Disk_Write p0 p1 l2 = (0, (DiskT.mk p0.xsectors p0.xsafe (sput p0.xwaits p1 (List.take 0 (List.replicate 64 (0 : UInt8)) ++ (List.take (min l2.length 64) l2 ++ List.drop (0 + (min l2.length 64)) (List.replicate 64 (0 : UInt8))))) p0.xup p0.xfuse)) := et (ip h26) (et (iN h27) (et (iN h30) (et (ip h33) (et (iN h34) (iN h39)))))
 obtain ⟨rfl, rfl⟩ := pj2 (e.symm.trans hr)
 exact ⟨rfl, H73, (by first | rfl | omega), (by omega)⟩
 refine jT (dT h33) (sr (An rfl (rt (tR (rs ?_)))))
 have H74 : Own w D w [DiskO g0 p0] := Own.exFold (gs21, gw22) (show 1 ≤ p0.xsectors ∧ p0.xsectors ≤ 4096 from (show 1 ≤ p0.xsectors ∧ p0.xsectors ≤ 4096 from by omega)) (show Own w D w [blk g0 [.int .i64 p0.xsectors, .map (some gs21), .map (some gw22), .bool p0.xup, .int .i64 p0.xfuse] 55, mapq gs21 p0.xsafe, mapq gw22 p0.xwaits] from H25)
 have H75 := H74.pk [0]
 have e : disk_Disk_Write p0 p1 l2 = (2, p0) := et (ip h26) (et (iN h27) (et (iN h30) (iN h33)))
 obtain ⟨rfl, rfl⟩ := pj2 (e.symm.trans hr)
 exact ⟨rfl, H75, (by first | rfl | omega), (by omega)⟩
 refine jT (cn h26) (sr (An rfl (rt (tR (rs (Ar rfl (Mz rfl (Kz (.bool true) (nt (jt (sr (Mz rfl (An rfl (rt (tR (rs ?_))))))))))))))))
 have H76 : Own w D w [DiskO g0 p0] := Own.exFold (gs21, gw22) (show 1 ≤ p0.xsectors ∧ p0.xsectors ≤ 4096 from (show 1 ≤ p0.xsectors ∧ p0.xsectors ≤ 4096 from by omega)) (show Own w D w [blk g0 [.int .i64 p0.xsectors, .map (some gs21), .map (some gw22), .bool p0.xup, .int .i64 p0.xfuse] 55, mapq gs21 p0.xsafe, mapq gw22 p0.xwaits] from H25)
 have H77 := H76.pk [0]
 have e : disk_Disk_Write p0 p1 l2 = (60, p0) := ifF h26
 obtain ⟨rfl, rfl⟩ := pj2 (e.symm.trans hr)
 exact ⟨rfl, H77, (by first | rfl | omega), (by omega)⟩

def disk_Disk_Sync (p0 : DiskT) : Int × DiskT :=
 if p0.xup = true then if p0.xfuse = 0 then (60, (DiskT.mk p0.xsectors p0.xsafe p0.xwaits false p0.xfuse)) else if p0.xfuse > 0 then bnd (keepAll p0.xsafe p0.xwaits) fun yy39 => (0, (DiskT.mk p0.xsectors yy39 ([]) p0.xup (IntKind.i64.wrap (p0.xfuse - 1)))) else bnd (keepAll p0.xsafe p0.xwaits) fun yy89 => (0, (DiskT.mk p0.xsectors yy89 ([]) p0.xup p0.xfuse)) else (60, p0)

set_option maxRecDepth 100000 in
theorem disk_Disk_Sync_ok (w : World) (D : Nat → Prop) (g0 : Nat) (p0 : DiskT) (r0 : Int) (r1 : DiskT) (H : Own w D w [DiskO g0 p0])  (hr : disk_Disk_Sync p0 = (r0, r1)) :
    Calls Try.prog 15 #[.pointer (some ⟨g0, 0, none⟩)] w (Ret fun v w' => v = .int .i64 r0 ∧ Own w D w' [DiskO g0 r1] ∧ (r1.xsectors = p0.xsectors)) := by
 refine Calls.body (args := [.pointer (some ⟨g0, 0, none⟩)]) Try.func15 rfl rfl rfl ?_
 show Wp _ _ _ [(0, .pointer (some ⟨g0, 0, none⟩))] _ _
 obtain ⟨⟨gs21, gw22⟩, hf23, H24⟩ := Own.exOpen H
 replace hf23 : 1 ≤ p0.xsectors ∧ p0.xsectors ≤ 4096 := hf23
 have H25 : Own w D w [blk g0 [.int .i64 p0.xsectors, .map (some gs21), .map (some gw22), .bool p0.xup, .int .i64 p0.xfuse] 55, mapq gs21 p0.xsafe, mapq gw22 p0.xwaits] := H24
 refine sr (An rfl (Wp.seq (sr (Mz rfl (Kz (.pointer (some ⟨g0, 0, none⟩)) (Kz (.pointer (some ⟨g0, 3, none⟩)) (Lz (.bool p0.xup) H25 0 Try.isAgg4 (Kz (.bool (!p0.xup)) (Mz rfl ?_)))))))))
 rcases Bool.eq_false_or_eq_true (p0.xup) with h26 | h26
 refine gw (.pointer (some ⟨g0, 0, none⟩)) (cn h26) (Yl.move rfl) ?_
 refine WL.doG rfl rfl (cn h26) rfl (Do.call Try.call30 rfl ?_ (fun _ _ k => k))
 refine Calls.body (args := [.pointer (some ⟨g0, 0, none⟩)]) Try.func30 rfl rfl rfl ?_
 show Wp _ _ _ [(0, .pointer (some ⟨g0, 0, none⟩))] _ _
 refine sr (An rfl (Wp.seq (sr (Mz rfl (Kz (.pointer (some ⟨g0, 0, none⟩)) (Kz (.pointer (some ⟨g0, 4, none⟩)) (Lz (.int .i64 p0.xfuse) H25 0 Try.isAgg3 (Kz (.bool (decide (p0.xfuse = 0))) (nt ?_)))))))))
 by_cases h27 : p0.xfuse = 0
 refine jT (dT h27) (sr (Mz rfl (Kz (.pointer (some ⟨g0, 0, none⟩)) (Kz (.pointer (some ⟨g0, 3, none⟩)) ?_))))
 refine sto [.bool false] 3 H25 Try.sizeOf4 ?_
 intro w28 H29
 refine ns (An rfl (rt (tR (rs (Gz (.bool true) (cn h26) (fw (.bool true) (Yl.pickF rfl (cn h26) rfl) (nt (jt (sr (An rfl (rt (tR (rs ?_)))))))))))))
 have H30 : Own w D w28 [DiskO g0 (DiskT.mk p0.xsectors p0.xsafe p0.xwaits false p0.xfuse)] := Own.exFold (gs21, gw22) (show 1 ≤ (DiskT.mk p0.xsectors p0.xsafe p0.xwaits false p0.xfuse).xsectors ∧ (DiskT.mk p0.xsectors p0.xsafe p0.xwaits false p0.xfuse).xsectors ≤ 4096 from (show 1 ≤ p0.xsectors ∧ p0.xsectors ≤ 4096 from by omega)) (show Own w D w28 [blk g0 [.int .i64 ((DiskT.mk p0.xsectors p0.xsafe p0.xwaits false p0.xfuse).xsectors), .map (some gs21), .map (some gw22), .bool ((DiskT.mk p0.xsectors p0.xsafe p0.xwaits false p0.xfuse).xup), .int .i64 ((DiskT.mk p0.xsectors p0.xsafe p0.xwaits false p0.xfuse).xfuse)] 55, mapq gs21 ((DiskT.mk p0.xsectors p0.xsafe p0.xwaits false p0.xfuse).xsafe), mapq gw22 ((DiskT.mk p0.xsectors p0.xsafe p0.xwaits false p0.xfuse).xwaits)] from H29)
 have H31 := H30.pk [0]
 have e : disk_Disk_Sync p0 = (60, (DiskT.mk p0.xsectors p0.xsafe p0.xwaits false p0.xfuse)) := et (ip h26) (ip h27)
 obtain ⟨rfl, rfl⟩ := pj2 (e.symm.trans hr)
 exact ⟨rfl, H31, (by first | rfl | omega)⟩
 refine jF (dF h27) (sk (Wp.seq (sr (Mz rfl (Kz (.pointer (some ⟨g0, 0, none⟩)) (Kz (.pointer (some ⟨g0, 4, none⟩)) (Lz (.int .i64 p0.xfuse) H25 0 Try.isAgg3 (Kz (.bool (decide (p0.xfuse > 0))) (nt ?_)))))))))
 by_cases h32 : p0.xfuse > 0
 refine jT (dT h32) (Wp.region (Mz rfl (Kz (.pointer (some ⟨g0, 0, none⟩)) (Kz (.pointer (some ⟨g0, 4, none⟩)) (Lz (.int .i64 p0.xfuse) H25 0 Try.isAgg3 (Kz (.int .i64 (IntKind.i64.wrap (p0.xfuse - 1))) (Kz (.pointer (some ⟨g0, 0, none⟩)) (Kz (.pointer (some ⟨g0, 4, none⟩)) ?_))))))))
 refine sto [.int .i64 (IntKind.i64.wrap (p0.xfuse - 1))] 4 H25 Try.sizeOf3 ?_
 intro w33 H34
 refine ns (An rfl (rt (rs (Gz (.bool false) (cn h26) (fw (.bool false) (Yl.pickF rfl (cn h26) rfl) (nt (jf (sk (Wp.seq (sr (Mz rfl (Kz (.pointer (some ⟨g0, 0, none⟩)) (Kz (.pointer (some ⟨g0, 2, none⟩)) (Lz (.map (some gw22)) H34 0 Try.isAgg53 ?_))))))))))))))
 have H35 := H34.pk [2, 0, 1]
 refine WL.do rfl (Do.rangeQ H35 Try.underlying53 rfl ?_)
 intro g36 w37 H38
 refine nt (bo ?_)
 obtain ⟨y39, hy40⟩ : ∃ q, keepAll p0.xsafe p0.xwaits = q := ⟨_, rfl⟩
 have H41 := H38.pk [1, 2, 0]
 refine Wp.loop (ι := (List Ent) × (List Ent) × (Option Ent)) (fun i => [(19, .pointer (some ⟨g36, 0, none⟩)), (18, .map (some gw22)), (17, .pointer (some ⟨g0, 2, none⟩)), (16, .pointer (some ⟨g0, 0, none⟩)), (15, .pointer (some ⟨g0, 0, none⟩)), (14, .bool false), (13, .bool false), (12, .bool true), (11, .pointer (some ⟨g0, 0, none⟩)), (10, .bool (!p0.xup)), (9, .bool (!p0.xup)), (8, .bool p0.xup), (7, .pointer (some ⟨g0, 3, none⟩)), (6, .pointer (some ⟨g0, 0, none⟩)), (5, .pointer (some ⟨g0, 0, none⟩)), (2, .int .i64 0), (0, .pointer (some ⟨g0, 0, none⟩))]) (fun (i : (List Ent) × (List Ent) × (Option Ent)) w' => Own w D w' [blk g0 [.int .i64 p0.xsectors, .map (some gs21), .map (some gw22), .bool p0.xup, .int .i64 (IntKind.i64.wrap (p0.xfuse - 1))] 55, mapq gs21 i.2.1, mapi g36 gw22 p0.xwaits i.1 i.2.2] ∧ (keepAll i.2.1 i.1 = y39)) (fun i => i.1.length) (p0.xwaits, p0.xsafe, none) ⟨rfl, rfl, rfl, rfl, rfl, rfl, rfl, rfl, rfl, rfl, rfl, rfl, rfl, rfl, rfl, rfl, rfl, trivial⟩ ⟨H41, (show keepAll p0.xsafe p0.xwaits = y39 from hy40)⟩ ?_
 rintro ⟨left, sf, cu⟩ w42 ⟨H43, hf44⟩
 show Wp _ _ _ [(19, .pointer (some ⟨g36, 0, none⟩)), (18, .map (some gw22)), (17, .pointer (some ⟨g0, 2, none⟩)), (16, .pointer (some ⟨g0, 0, none⟩)), (15, .pointer (some ⟨g0, 0, none⟩)), (14, .bool false), (13, .bool false), (12, .bool true), (11, .pointer (some ⟨g0, 0, none⟩)), (10, .bool (!p0.xup)), (9, .bool (!p0.xup)), (8, .bool p0.xup), (7, .pointer (some ⟨g0, 3, none⟩)), (6, .pointer (some ⟨g0, 0, none⟩)), (5, .pointer (some ⟨g0, 0, none⟩)), (2, .int .i64 0), (0, .pointer (some ⟨g0, 0, none⟩))] _ _
 replace hf44 : keepAll sf left = y39 := hf44
 refine sr ?_
 have H45 := H43.pk [2, 0, 1]
 refine WL.do rfl (Do.nextQ H45 rfl ?_ ?_)
 intro hn46 w47 H48
 have hs49 : sf = y39 := by have q8 : left = [] := hn46; have q9 := hf44; rw [q8] at q9; exact q9
 have H50 : Own w D w47 [mapq gw22 p0.xwaits, blk g0 [.int .i64 p0.xsectors, .map (some gs21), .map (some gw22), .bool p0.xup, .int .i64 (IntKind.i64.wrap (p0.xfuse - 1))] 55, mapq gs21 y39] := by rw [← hs49]; exact H48
 refine Kz (.bool false) (nt (Wp.seq (jf (Wp.exit (Fin.thenX (Fin.thenX (Fin.blockX (Fin.then (sr (Mz rfl (Kz (.pointer (some ⟨g0, 0, none⟩)) (Kz (.pointer (some ⟨g0, 2, none⟩)) (Lz (.map (some gw22)) H50 1 Try.isAgg53 ?_)))))))))))))
 refine WL.do0 (Do.clearQ H50 Try.underlying53 rfl ?_)
 intro w51 H52
 refine ns (An rfl (rt (rs ?_)))
 have H53 := H52.pk [1, 2, 0]
 have H54 : Own w D w51 [DiskO g0 (DiskT.mk p0.xsectors y39 ([]) p0.xup (IntKind.i64.wrap (p0.xfuse - 1)))] := Own.exFold (gs21, gw22) (show 1 ≤ (DiskT.mk p0.xsectors y39 ([]) p0.xup (IntKind.i64.wrap (p0.xfuse - 1))).xsectors ∧ (DiskT.mk p0.xsectors y39 ([]) p0.xup (IntKind.i64.wrap (p0.xfuse - 1))).xsectors ≤ 4096 from (show 1 ≤ p0.xsectors ∧ p0.xsectors ≤ 4096 from by omega)) (show Own w D w51 [blk g0 [.int .i64 ((DiskT.mk p0.xsectors y39 ([]) p0.xup (IntKind.i64.wrap (p0.xfuse - 1))).xsectors), .map (some gs21), .map (some gw22), .bool ((DiskT.mk p0.xsectors y39 ([]) p0.xup (IntKind.i64.wrap (p0.xfuse - 1))).xup), .int .i64 ((DiskT.mk p0.xsectors y39 ([]) p0.xup (IntKind.i64.wrap (p0.xfuse - 1))).xfuse)] 55, mapq gs21 ((DiskT.mk p0.xsectors y39 ([]) p0.xup (IntKind.i64.wrap (p0.xfuse - 1))).xsafe), mapq gw22 ((DiskT.mk p0.xsectors y39 ([]) p0.xup (IntKind.i64.wrap (p0.xfuse - 1))).xwaits)] from H53)
 have H55 := H54.pk [0]
 have e : disk_Disk_Sync p0 = (0, (DiskT.mk p0.xsectors y39 ([]) p0.xup (IntKind.i64.wrap (p0.xfuse - 1)))) := et (ip h26) (et (iN h27) (et (ip h32) (bnd_of hy40)))
 obtain ⟨rfl, rfl⟩ := pj2 (e.symm.trans hr)
 exact ⟨rfl, H55, (by first | rfl | omega)⟩
 intro p56 w58 hp57 H59
 have hz60 : 0 ≤ p56.1 ∧ p56.1 < 4096 ∧ p56.2.length = 64 := (H45.miOk (i := 0) rfl).2 p56 hp57
 have hl61 := (H45.miOk (i := 0) rfl).1
 have hs62 := (H59.mqOk (i := 2) rfl).1
 refine Kz (.bool true) (nt (Wp.seq (jt (sk (bo (sr (fw (.tuple #[.int .i64 p56.1, .agg (List.flatMap eB p56.2).toArray]) (Yl.entryQ (i := 0) H59 rfl rfl) (Kz (.int .i64 p56.1) (Kz (.agg (List.flatMap eB p56.2).toArray) ?_)))))))))
 refine npw [.int .u8 0, .int .u8 0, .int .u8 0, .int .u8 0, .int .u8 0, .int .u8 0, .int .u8 0, .int .u8 0, .int .u8 0, .int .u8 0, .int .u8 0, .int .u8 0, .int .u8 0, .int .u8 0, .int .u8 0, .int .u8 0, .int .u8 0, .int .u8 0, .int .u8 0, .int .u8 0, .int .u8 0, .int .u8 0, .int .u8 0, .int .u8 0, .int .u8 0, .int .u8 0, .int .u8 0, .int .u8 0, .int .u8 0, .int .u8 0, .int .u8 0, .int .u8 0, .int .u8 0, .int .u8 0, .int .u8 0, .int .u8 0, .int .u8 0, .int .u8 0, .int .u8 0, .int .u8 0, .int .u8 0, .int .u8 0, .int .u8 0, .int .u8 0, .int .u8 0, .int .u8 0, .int .u8 0, .int .u8 0, .int .u8 0, .int .u8 0, .int .u8 0, .int .u8 0, .int .u8 0, .int .u8 0, .int .u8 0, .int .u8 0, .int .u8 0, .int .u8 0, .int .u8 0, .int .u8 0, .int .u8 0, .int .u8 0, .int .u8 0, .int .u8 0] 61 H59 ?_
 intro g63 w64 H65
 have H66 : Own w D w64 [row (some ⟨g63, 0, none⟩) 64 64 (List.flatMap eB (List.replicate 64 (0 : UInt8))) 61 1, mapi g36 gw22 p0.xwaits (sdel left p56.1) (some p56), blk g0 [.int .i64 p0.xsectors, .map (some gs21), .map (some gw22), .bool p0.xup, .int .i64 (IntKind.i64.wrap (p0.xfuse - 1))] 55, mapq gs21 sf] := H65.blkRow 64 1 (by kernel_rfl) rfl rfl
 refine Az rfl ?_
 refine WL.do0 (Do.storeArr (N := 64) H66 rfl rfl Try.sizeOf61 rfl (by decide) (by rw [flat_len eB_len, show p56.2.length = 64 from (by first | omega | (simp only [List.length_replicate]; done) | (simp only [List.length_append, List.length_take, List.length_drop, List.length_replicate, List.length_set]; omega))]) (flat_one eB_one _) ?_)
 intro w67 H68
 refine nt (Wp.region (Mz rfl (Mz rfl (fw (.agg (List.flatMap eB p56.2).toArray) (Yl.load rfl (Lds.arr (N := 64) (m := 64) Try.isAgg61 Try.sizeOf61 (H68.rds (i := 0) rfl) rfl (by decide))) ?_))))
 refine WL.do rfl (Do.call Try.call32 rfl ?_ (fun _ _ k => k))
 refine Calls.body (args := [.pointer (some ⟨g0, 0, none⟩), .int .i64 p56.1, .agg (List.flatMap eB p56.2).toArray]) Try.func32 rfl rfl rfl ?_
 show Wp _ _ _ [(0, .pointer (some ⟨g0, 0, none⟩)), (1, .int .i64 p56.1), (2, .agg (List.flatMap eB p56.2).toArray)] _ _
 refine sr ?_
 refine npw (List.flatMap eB p56.2) 61 H68 ?_
 intro g69 w70 H71
 have H72 : Own w D w70 [row (some ⟨g69, 0, none⟩) 64 64 (List.flatMap eB p56.2) 61 1, row (some ⟨g63, 0, none⟩) 64 64 (List.flatMap eB p56.2) 61 1, mapi g36 gw22 p0.xwaits (sdel left p56.1) (some p56), blk g0 [.int .i64 p0.xsectors, .map (some gs21), .map (some gw22), .bool p0.xup, .int .i64 (IntKind.i64.wrap (p0.xfuse - 1))] 55, mapq gs21 sf] := H71.blkRow 64 1 (by rw [flat_len eB_len, show p56.2.length = 64 from (by first | omega | (simp only [List.length_replicate]; done) | (simp only [List.length_append, List.length_take, List.length_drop, List.length_replicate, List.length_set]; omega))]; rfl) rfl rfl
 refine nt (Wp.seq (sr (fw (.agg (List.flatMap eB p56.2).toArray) (Yl.load rfl (Lds.arr (N := 64) (m := 64) Try.isAgg61 Try.sizeOf61 (H72.rds (i := 0) rfl) rfl (by decide))) (Kz (.agg (List.flatMap eB (List.replicate 64 (0 : UInt8))).toArray) (fw (.bool (decide (p56.2 = (List.replicate 64 (0 : UInt8))))) (Yl.eqAgg rfl rfl (by kernel_rfl) rfl (Eqv.bytes (m := 64) Try.underlying61 (by kernel_rfl) Try.underlying5 (by kernel_rfl) Try.isAgg5 (by first | omega | (simp only [List.length_replicate]; done) | (simp only [List.length_append, List.length_take, List.length_drop, List.length_replicate, List.length_set]; omega)) (by first | omega | (simp only [List.length_replicate]; done) | (simp only [List.length_append, List.length_take, List.length_drop, List.length_replicate, List.length_set]; omega)))) (nt ?_))))))
 by_cases h73 : p56.2 = (List.replicate 64 (0 : UInt8))
 refine jT (dT h73) (sr (Mz rfl (Kz (.pointer (some ⟨g0, 0, none⟩)) (Kz (.pointer (some ⟨g0, 1, none⟩)) (Lz (.map (some gs21)) H72 3 Try.isAgg53 (Mz rfl ?_))))))
 have H74 := H72.pk [4, 0, 1, 2, 3]
 refine WL.do0 (Do.deleteQ (k := p56.1) H74 Try.underlying3 Try.underlying53 rfl rfl ?_)
 intro w75 H76
 refine nt (rt (tR (Fin.res (res0 rfl) (WL.nil (bN ?_)))))
 have H77 := H76.pk [4, 0, 3]
 exact Fin.round ((sdel left p56.1), (sdel sf p56.1), (some p56)) ⟨rfl, rfl, rfl, rfl, rfl, rfl, rfl, rfl, rfl, rfl, rfl, rfl, rfl, rfl, rfl, rfl, rfl, trivial⟩ ⟨H77, (show keepAll (sdel sf p56.1) (sdel left p56.1) = y39 from (keep_next hf44 hl61 hs62 hp57 (by unfold keep1; first | rw [if_pos (by assumption)] | rw [if_neg (by assumption)])))⟩ (by show List.length (sdel left p56.1) < left.length; exact sdel_lt hp57)
 refine jF (dF h73) (sk ?_)
 have H79 := H72.drew
 refine Wp.drawnX [] (fun W => ∃ L', Own w D W ([row (some ⟨g69, 0, none⟩) 64 64 (List.flatMap eB p56.2) 61 1, row (some ⟨g63, 0, none⟩) 64 64 (List.flatMap eB p56.2) 61 1, mapi g36 gw22 p0.xwaits (sdel left p56.1) (some p56), blk g0 [.int .i64 p0.xsectors, .map (some gs21), .map (some gw22), .bool p0.xup, .int .i64 (IntKind.i64.wrap (p0.xfuse - 1))] 55] ++ L')) (by kernel_rfl) (by kernel_rfl) NoP.base ⟨_, H79⟩ ?_
 revert H79
 generalize World.drew w70 = w78
 intro H79
 refine GX.take (v := .pointer (some ⟨g0, 0, none⟩)) (rs := []) 0 rfl (by kernel_rfl) (fun _ _ => Yl.move rfl) (GX.take (v := .pointer (some ⟨g0, 0, none⟩)) (rs := []) 1 rfl (by kernel_rfl) (fun _ _ => yk) (GX.take (v := .pointer (some ⟨g0, 1, none⟩)) (rs := []) 2 rfl (by kernel_rfl) (fun _ _ => yk) (GX.take (v := .map (some gs21)) (rs := []) 3 rfl (by kernel_rfl) (fun _ ⟨_, H9⟩ => Yl.load rfl (Lds.one Try.isAgg53 (Cls.of (H9.cls (i := 3) rfl) rfl))) (GX.take (v := .int .i64 p56.1) (rs := []) 4 rfl (by kernel_rfl) (fun _ _ => Yl.move rfl) (GX.take (v := .agg (List.flatMap eB p56.2).toArray) (rs := []) 5 rfl (by kernel_rfl) (fun _ ⟨_, H9⟩ => Yl.load rfl (Lds.arr (N := 64) (m := 64) Try.isAgg61 Try.sizeOf61 (H9.rds (i := 0) rfl) rfl (by decide))) ?_)))))
 have H80 := H79.pk [4, 0, 1, 2, 3]
 refine GX.do0 6 rfl (by kernel_rfl) (Do.mapUpdateQ (k := p56.1) (v := p56.2) H80 Try.underlying3 Try.underlying53 rfl rfl rfl (show 0 ≤ p56.1 ∧ p56.1 < 4096 ∧ p56.2.length = 64 from ⟨by omega, by omega, (by first | omega | (simp only [List.length_replicate]; done) | (simp only [List.length_append, List.length_take, List.length_drop, List.length_replicate, List.length_set]; omega))⟩) ?_)
 intro w81 H82
 have H83 := H82.pk [1, 2, 3, 4, 0]
 refine ⟨.inr ⟨_, H83⟩, ?_⟩
 refine GX.done (by kernel_rfl) (Fin.res0 (res0 rfl) (WL.nil (bN ?_)))
 have H84 := H83.pk [3, 4, 2]
 exact Fin.round ((sdel left p56.1), (sput sf p56.1 p56.2), (some p56)) ⟨rfl, rfl, rfl, rfl, rfl, rfl, rfl, rfl, rfl, rfl, rfl, rfl, rfl, rfl, rfl, rfl, rfl, trivial⟩ ⟨H84, (show keepAll (sput sf p56.1 p56.2) (sdel left p56.1) = y39 from (keep_next hf44 hl61 hs62 hp57 (by unfold keep1; first | rw [if_pos (by assumption)] | rw [if_neg (by assumption)])))⟩ (by show List.length (sdel left p56.1) < left.length; exact sdel_lt hp57)
 refine jF (dF h32) (sk (sr (An rfl (rt (rs (Gz (.bool false) (cn h26) (fw (.bool false) (Yl.pickF rfl (cn h26) rfl) (nt (jf (sk (Wp.seq (sr (Mz rfl (Kz (.pointer (some ⟨g0, 0, none⟩)) (Kz (.pointer (some ⟨g0, 2, none⟩)) (Lz (.map (some gw22)) H25 0 Try.isAgg53 ?_))))))))))))))))
 have H85 := H25.pk [2, 0, 1]
 refine WL.do rfl (Do.rangeQ H85 Try.underlying53 rfl ?_)
 intro g86 w87 H88
 refine nt (bo ?_)
 obtain ⟨y89, hy90⟩ : ∃ q, keepAll p0.xsafe p0.xwaits = q := ⟨_, rfl⟩
 have H91 := H88.pk [1, 2, 0]
 refine Wp.loop (ι := (List Ent) × (List Ent) × (Option Ent)) (fun i => [(19, .pointer (some ⟨g86, 0, none⟩)), (18, .map (some gw22)), (17, .pointer (some ⟨g0, 2, none⟩)), (16, .pointer (some ⟨g0, 0, none⟩)), (15, .pointer (some ⟨g0, 0, none⟩)), (14, .bool false), (13, .bool false), (12, .bool true), (11, .pointer (some ⟨g0, 0, none⟩)), (10, .bool (!p0.xup)), (9, .bool (!p0.xup)), (8, .bool p0.xup), (7, .pointer (some ⟨g0, 3, none⟩)), (6, .pointer (some ⟨g0, 0, none⟩)), (5, .pointer (some ⟨g0, 0, none⟩)), (2, .int .i64 0), (0, .pointer (some ⟨g0, 0, none⟩))]) (fun (i : (List Ent) × (List Ent) × (Option Ent)) w' => Own w D w' [blk g0 [.int .i64 p0.xsectors, .map (some gs21), .map (some gw22), .bool p0.xup, .int .i64 p0.xfuse] 55, mapq gs21 i.2.1, mapi g86 gw22 p0.xwaits i.1 i.2.2] ∧ (keepAll i.2.1 i.1 = y89)) (fun i => i.1.length) (p0.xwaits, p0.xsafe, none) ⟨rfl, rfl, rfl, rfl, rfl, rfl, rfl, rfl, rfl, rfl, rfl, rfl, rfl, rfl, rfl, rfl, rfl, trivial⟩ ⟨H91, (show keepAll p0.xsafe p0.xwaits = y89 from hy90)⟩ ?_
 rintro ⟨left, sf, cu⟩ w92 ⟨H93, hf94⟩
 show Wp _ _ _ [(19, .pointer (some ⟨g86, 0, none⟩)), (18, .map (some gw22)), (17, .pointer (some ⟨g0, 2, none⟩)), (16, .pointer (some ⟨g0, 0, none⟩)), (15, .pointer (some ⟨g0, 0, none⟩)), (14, .bool false), (13, .bool false), (12, .bool true), (11, .pointer (some ⟨g0, 0, none⟩)), (10, .bool (!p0.xup)), (9, .bool (!p0.xup)), (8, .bool p0.xup), (7, .pointer (some ⟨g0, 3, none⟩)), (6, .pointer (some ⟨g0, 0, none⟩)), (5, .pointer (some ⟨g0, 0, none⟩)), (2, .int .i64 0), (0, .pointer (some ⟨g0, 0, none⟩))] _ _
 replace hf94 : keepAll sf left = y89 := hf94
 refine sr ?_
 have H95 := H93.pk [2, 0, 1]
 refine WL.do rfl (Do.nextQ H95 rfl ?_ ?_)
 intro hn96 w97 H98
 have hs99 : sf = y89 := by have q8 : left = [] := hn96; have q9 := hf94; rw [q8] at q9; exact q9
 have H100 : Own w D w97 [mapq gw22 p0.xwaits, blk g0 [.int .i64 p0.xsectors, .map (some gs21), .map (some gw22), .bool p0.xup, .int .i64 p0.xfuse] 55, mapq gs21 y89] := by rw [← hs99]; exact H98
 refine Kz (.bool false) (nt (Wp.seq (jf (Wp.exit (Fin.thenX (Fin.thenX (Fin.blockX (Fin.then (sr (Mz rfl (Kz (.pointer (some ⟨g0, 0, none⟩)) (Kz (.pointer (some ⟨g0, 2, none⟩)) (Lz (.map (some gw22)) H100 1 Try.isAgg53 ?_)))))))))))))
 refine WL.do0 (Do.clearQ H100 Try.underlying53 rfl ?_)
 intro w101 H102
 refine ns (An rfl (rt (rs ?_)))
 have H103 := H102.pk [1, 2, 0]
 have H104 : Own w D w101 [DiskO g0 (DiskT.mk p0.xsectors y89 ([]) p0.xup p0.xfuse)] := Own.exFold (gs21, gw22) (show 1 ≤ (DiskT.mk p0.xsectors y89 ([]) p0.xup p0.xfuse).xsectors ∧ (DiskT.mk p0.xsectors y89 ([]) p0.xup p0.xfuse).xsectors ≤ 4096 from (show 1 ≤ p0.xsectors ∧ p0.xsectors ≤ 4096 from by omega)) (show Own w D w101 [blk g0 [.int .i64 ((DiskT.mk p0.xsectors y89 ([]) p0.xup p0.xfuse).xsectors), .map (some gs21), .map (some gw22), .bool ((DiskT.mk p0.xsectors y89 ([]) p0.xup p0.xfuse).xup), .int .i64 ((DiskT.mk p0.xsectors y89 ([]) p0.xup p0.xfuse).xfuse)] 55, mapq gs21 ((DiskT.mk p0.xsectors y89 ([]) p0.xup p0.xfuse).xsafe), mapq gw22 ((DiskT.mk p0.xsectors y89 ([]) p0.xup p0.xfuse).xwaits)] from H103)
 have H105 := H104.pk [0]
 have e : disk_Disk_Sync p0 = (0, (DiskT.mk p0.xsectors y89 ([]) p0.xup p0.xfuse)) := et (ip h26) (et (iN h27) (et (iN h32) (bnd_of hy90)))
 obtain ⟨rfl, rfl⟩ := pj2 (e.symm.trans hr)
 exact ⟨rfl, H105, (by first | rfl | omega)⟩
 intro p106 w108 hp107 H109
 have hz110 : 0 ≤ p106.1 ∧ p106.1 < 4096 ∧ p106.2.length = 64 := (H95.miOk (i := 0) rfl).2 p106 hp107
 have hl111 := (H95.miOk (i := 0) rfl).1
 have hs112 := (H109.mqOk (i := 2) rfl).1
 refine Kz (.bool true) (nt (Wp.seq (jt (sk (bo (sr (fw (.tuple #[.int .i64 p106.1, .agg (List.flatMap eB p106.2).toArray]) (Yl.entryQ (i := 0) H109 rfl rfl) (Kz (.int .i64 p106.1) (Kz (.agg (List.flatMap eB p106.2).toArray) ?_)))))))))
 refine npw [.int .u8 0, .int .u8 0, .int .u8 0, .int .u8 0, .int .u8 0, .int .u8 0, .int .u8 0, .int .u8 0, .int .u8 0, .int .u8 0, .int .u8 0, .int .u8 0, .int .u8 0, .int .u8 0, .int .u8 0, .int .u8 0, .int .u8 0, .int .u8 0, .int .u8 0, .int .u8 0, .int .u8 0, .int .u8 0, .int .u8 0, .int .u8 0, .int .u8 0, .int .u8 0, .int .u8 0, .int .u8 0, .int .u8 0, .int .u8 0, .int .u8 0, .int .u8 0, .int .u8 0, .int .u8 0, .int .u8 0, .int .u8 0, .int .u8 0, .int .u8 0, .int .u8 0, .int .u8 0, .int .u8 0, .int .u8 0, .int .u8 0, .int .u8 0, .int .u8 0, .int .u8 0, .int .u8 0, .int .u8 0, .int .u8 0, .int .u8 0, .int .u8 0, .int .u8 0, .int .u8 0, .int .u8 0, .int .u8 0, .int .u8 0, .int .u8 0, .int .u8 0, .int .u8 0, .int .u8 0, .int .u8 0, .int .u8 0, .int .u8 0, .int .u8 0] 61 H109 ?_
 intro g113 w114 H115
 have H116 : Own w D w114 [row (some ⟨g113, 0, none⟩) 64 64 (List.flatMap eB (List.replicate 64 (0 : UInt8))) 61 1, mapi g86 gw22 p0.xwaits (sdel left p106.1) (some p106), blk g0 [.int .i64 p0.xsectors, .map (some gs21), .map (some gw22), .bool p0.xup, .int .i64 p0.xfuse] 55, mapq gs21 sf] := H115.blkRow 64 1 (by kernel_rfl) rfl rfl
 refine Az rfl ?_
 refine WL.do0 (Do.storeArr (N := 64) H116 rfl rfl Try.sizeOf61 rfl (by decide) (by rw [flat_len eB_len, show p106.2.length = 64 from (by first | omega | (simp only [List.length_replicate]; done) | (simp only [List.length_append, List.length_take, List.length_drop, List.length_replicate, List.length_set]; omega))]) (flat_one eB_one _) ?_)
 intro w117 H118
 refine nt (Wp.region (Mz rfl (Mz rfl (fw (.agg (List.flatMap eB p106.2).toArray) (Yl.load rfl (Lds.arr (N := 64) (m := 64) Try.isAgg61 Try.sizeOf61 (H118.rds (i := 0) rfl) rfl (by decide))) ?_))))
 refine WL.do rfl (Do.call Try.call32 rfl ?_ (fun _ _ k => k))
 refine Calls.body (args := [.pointer (some ⟨g0, 0, none⟩), .int .i64 p106.1, .agg (List.flatMap eB p106.2).toArray]) Try.func32 rfl rfl rfl ?_
 show Wp _ _ _ [(0, .pointer (some ⟨g0, 0, none⟩)), (1, .int .i64 p106.1), (2, .agg (List.flatMap eB p106.2).toArray)] _ _
 refine sr ?_
 refine npw (List.flatMap eB p106.2) 61 H118 ?_
 intro g119 w120 H121
 have H122 : Own w D w120 [row (some ⟨g119, 0, none⟩) 64 64 (List.flatMap eB p106.2) 61 1, row (some ⟨g113, 0, none⟩) 64 64 (List.flatMap eB p106.2) 61 1, mapi g86 gw22 p0.xwaits (sdel left p106.1) (some p106), blk g0 [.int .i64 p0.xsectors, .map (some gs21), .map (some gw22), .bool p0.xup, .int .i64 p0.xfuse] 55, mapq gs21 sf] := H121.blkRow 64 1 (by rw [flat_len eB_len, show p106.2.length = 64 from (by first | omega | (simp only [List.length_replicate]; done) | (simp only [List.length_append, List.length_take, List.length_drop, List.length_replicate, List.length_set]; omega))]; rfl) rfl rfl
 refine nt (Wp.seq (sr (fw (.agg (List.flatMap eB p106.2).toArray) (Yl.load rfl (Lds.arr (N := 64) (m := 64) Try.isAgg61 Try.sizeOf61 (H122.rds (i := 0) rfl) rfl (by decide))) (Kz (.agg (List.flatMap eB (List.replicate 64 (0 : UInt8))).toArray) (fw (.bool (decide (p106.2 = (List.replicate 64 (0 : UInt8))))) (Yl.eqAgg rfl rfl (by kernel_rfl) rfl (Eqv.bytes (m := 64) Try.underlying61 (by kernel_rfl) Try.underlying5 (by kernel_rfl) Try.isAgg5 (by first | omega | (simp only [List.length_replicate]; done) | (simp only [List.length_append, List.length_take, List.length_drop, List.length_replicate, List.length_set]; omega)) (by first | omega | (simp only [List.length_replicate]; done) | (simp only [List.length_append, List.length_take, List.length_drop, List.length_replicate, List.length_set]; omega)))) (nt ?_))))))
 by_cases h123 : p106.2 = (List.replicate 64 (0 : UInt8))
 refine jT (dT h123) (sr (Mz rfl (Kz (.pointer (some ⟨g0, 0, none⟩)) (Kz (.pointer (some ⟨g0, 1, none⟩)) (Lz (.map (some gs21)) H122 3 Try.isAgg53 (Mz rfl ?_))))))
 have H124 := H122.pk [4, 0, 1, 2, 3]
 refine WL.do0 (Do.deleteQ (k := p106.1) H124 Try.underlying3 Try.underlying53 rfl rfl ?_)
 intro w125 H126
 refine nt (rt (tR (Fin.res (res0 rfl) (WL.nil (bN ?_)))))
 have H127 := H126.pk [4, 0, 3]
 exact Fin.round ((sdel left p106.1), (sdel sf p106.1), (some p106)) ⟨rfl, rfl, rfl, rfl, rfl, rfl, rfl, rfl, rfl, rfl, rfl, rfl, rfl, rfl, rfl, rfl, rfl, trivial⟩ ⟨H127, (show keepAll (sdel sf p106.1) (sdel left p106.1) = y89 from (keep_next hf94 hl111 hs112 hp107 (by unfold keep1; first | rw [if_pos (by assumption)] | rw [if_neg (by assumption)])))⟩ (by show List.length (sdel left p106.1) < left.length; exact sdel_lt hp107)
 refine jF (dF h123) (sk ?_)
 have H129 := H122.drew
 refine Wp.drawnX [] (fun W => ∃ L', Own w D W ([row (some ⟨g119, 0, none⟩) 64 64 (List.flatMap eB p106.2) 61 1, row (some ⟨g113, 0, none⟩) 64 64 (List.flatMap eB p106.2) 61 1, mapi g86 gw22 p0.xwaits (sdel left p106.1) (some p106), blk g0 [.int .i64 p0.xsectors, .map (some gs21), .map (some gw22), .bool p0.xup, .int .i64 p0.xfuse] 55] ++ L')) (by kernel_rfl) (by kernel_rfl) NoP.base ⟨_, H129⟩ ?_
 revert H129
 generalize World.drew w120 = w128
 intro H129
 refine GX.take (v := .pointer (some ⟨g0, 0, none⟩)) (rs := []) 0 rfl (by kernel_rfl) (fun _ _ => Yl.move rfl) (GX.take (v := .pointer (some ⟨g0, 0, none⟩)) (rs := []) 1 rfl (by kernel_rfl) (fun _ _ => yk) (GX.take (v := .pointer (some ⟨g0, 1, none⟩)) (rs := []) 2 rfl (by kernel_rfl) (fun _ _ => yk) (GX.take (v := .map (some gs21)) (rs := []) 3 rfl (by kernel_rfl) (fun _ ⟨_, H9⟩ => Yl.load rfl (Lds.one Try.isAgg53 (Cls.of (H9.cls (i := 3) rfl) rfl))) (GX.take (v := .int .i64 p106.1) (rs := []) 4 rfl (by kernel_rfl) (fun _ _ => Yl.move rfl) (GX.take (v := .agg (List.flatMap eB p106.2).toArray) (rs := []) 5 rfl (by kernel_rfl) (fun _ ⟨_, H9⟩ => Yl.load rfl (Lds.arr (N := 64) (m := 64) Try.isAgg61 Try.sizeOf61 (H9.rds (i := 0) rfl) rfl (by decide))) ?_)))))
 have H130 := H129.pk [4, 0, 1, 2, 3]
 refine GX.do0 6 rfl (by kernel_rfl) (Do.mapUpdateQ (k := p106.1) (v := p106.2) H130 Try.underlying3 Try.underlying53 rfl rfl rfl (show 0 ≤ p106.1 ∧ p106.1 < 4096 ∧ p106.2.length = 64 from ⟨by omega, by omega, (by first | omega | (simp only [List.length_replicate]; done) | (simp only [List.length_append, List.length_take, List.length_drop, List.length_replicate, List.length_set]; omega))⟩) ?_)
 intro w131 H132
 have H133 := H132.pk [1, 2, 3, 4, 0]
 refine ⟨.inr ⟨_, H133⟩, ?_⟩
 refine GX.done (by kernel_rfl) (Fin.res0 (res0 rfl) (WL.nil (bN ?_)))
 have H134 := H133.pk [3, 4, 2]
 exact Fin.round ((sdel left p106.1), (sput sf p106.1 p106.2), (some p106)) ⟨rfl, rfl, rfl, rfl, rfl, rfl, rfl, rfl, rfl, rfl, rfl, rfl, rfl, rfl, rfl, rfl, rfl, trivial⟩ ⟨H134, (show keepAll (sput sf p106.1 p106.2) (sdel left p106.1) = y89 from (keep_next hf94 hl111 hs112 hp107 (by unfold keep1; first | rw [if_pos (by assumption)] | rw [if_neg (by assumption)])))⟩ (by show List.length (sdel left p106.1) < left.length; exact sdel_lt hp107)
 refine Sz (cn h26) (Sz (cn h26) (Sz (cn h26) (fw (.bool true) (Yl.pickT rfl (cn h26) rfl) (nt (jt (sr (An rfl (rt (tR (rs ?_))))))))))
 have H135 : Own w D w [DiskO g0 p0] := Own.exFold (gs21, gw22) (show 1 ≤ p0.xsectors ∧ p0.xsectors ≤ 4096 from (show 1 ≤ p0.xsectors ∧ p0.xsectors ≤ 4096 from by omega)) (show Own w D w [blk g0 [.int .i64 p0.xsectors, .map (some gs21), .map (some gw22), .bool p0.xup, .int .i64 p0.xfuse] 55, mapq gs21 p0.xsafe, mapq gw22 p0.xwaits] from H25)
 have H136 := H135.pk [0]
 have e : disk_Disk_Sync p0 = (60, p0) := ifF h26
 obtain ⟨rfl, rfl⟩ := pj2 (e.symm.trans hr)
 exact ⟨rfl, H136, (by first | rfl | omega)⟩

theorem El46 : Elem Try.prog 46 3 1 8 := elem_of (z := .int .i64 0) Try.underlying46 (by kernel_rfl) rfl (by decide)

def disk_Disk_Waits (p0 : DiskT) : (List Int) :=
 (List.map Prod.fst p0.xwaits)

set_option maxRecDepth 100000 in
theorem disk_Disk_Waits_ok (w : World) (D : Nat → Prop) (g0 : Nat) (p0 : DiskT) (r0 : List Int) (H : Own w D w [DiskO g0 p0])  (hr : disk_Disk_Waits p0 = r0) :
    Calls Try.prog 26 #[.pointer (some ⟨g0, 0, none⟩)] w (Ret fun v w' => ∃ (B0 : Option Addr) (b0 : Nat), v = .slice B0 r0.length b0 ∧ Own w D w' [row B0 r0.length b0 (List.flatMap (eI .i64) r0) 3 1, DiskO g0 p0] ∧ (∀ x ∈ r0, 0 ≤ x ∧ x < 4096)) := by
 refine Calls.body (args := [.pointer (some ⟨g0, 0, none⟩)]) Try.func26 rfl rfl rfl ?_
 show Wp _ _ _ [(0, .pointer (some ⟨g0, 0, none⟩))] _ _
 obtain ⟨⟨gs21, gw22⟩, hf23, H24⟩ := Own.exOpen H
 replace hf23 : 1 ≤ p0.xsectors ∧ p0.xsectors ≤ 4096 := hf23
 have H25 : Own w D w [blk g0 [.int .i64 p0.xsectors, .map (some gs21), .map (some gw22), .bool p0.xup, .int .i64 p0.xfuse] 55, mapq gs21 p0.xsafe, mapq gw22 p0.xwaits] := H24
 refine sr (Ar rfl (Mz rfl (Kz (.pointer (some ⟨g0, 0, none⟩)) (Kz (.pointer (some ⟨g0, 2, none⟩)) (Lz (.map (some gw22)) H25 0 Try.isAgg53 ?_)))))
 refine WL.do rfl (Do.call Try.call38 rfl ?_ (fun _ _ k => k))
 refine Calls.body (args := [.map (some gw22)]) Try.func38 rfl rfl rfl ?_
 show Wp _ _ _ [(0, .map (some gw22))] _ _
 refine sr ?_
 refine npw [.map (some gw22)] 53 H25 ?_
 intro g26 w27 H28
 refine Ar rfl (Kz (.func (.func 42) #[] #[.pointer (some ⟨g26, 0, none⟩)]) (An rfl (rt (rs ?_))))
 have H29 := H28.pk [0, 3, 1, 2]
 obtain ⟨D30, HP31, ro32, bk33, rr34⟩ := Own.enter (L1 := [blk g26 [.map (some gw22)] 53, mapq gw22 p0.xwaits]) (L2 := [blk g0 [.int .i64 p0.xsectors, .map (some gs21), .map (some gw22), .bool p0.xup, .int .i64 p0.xfuse] 55, mapq gs21 p0.xsafe]) H29
 refine cl Try.call37 (sorted_keys _ _ g26 gw22 p0.xwaits HP31) ?_
 rintro _ w35 ⟨A37, c38, rfl, HQ36⟩
 have H39 := bk33 _ _ HQ36
 have hkeysq := H39.mqKeys (i := 1) rfl
 have hb40 := H39.rowC (i := 2) rfl
 refine An rfl (rt (rs ?_))
 have H41 := H39.pk [3, 4, 1, 0, 2]
 have H42 : Own w D w35 [DiskO g0 p0, blk g26 [.map (some gw22)] 53, row A37 (List.length (List.map Prod.fst p0.xwaits)) c38 (List.flatMap (eI .i64) (List.map Prod.fst p0.xwaits)) 3 1] := Own.exFold (gs21, gw22) (show 1 ≤ p0.xsectors ∧ p0.xsectors ≤ 4096 from (show 1 ≤ p0.xsectors ∧ p0.xsectors ≤ 4096 from by omega)) (show Own w D w35 [blk g0 [.int .i64 p0.xsectors, .map (some gs21), .map (some gw22), .bool p0.xup, .int .i64 p0.xfuse] 55, mapq gs21 p0.xsafe, mapq gw22 p0.xwaits, blk g26 [.map (some gw22)] 53, row A37 (List.length (List.map Prod.fst p0.xwaits)) c38 (List.flatMap (eI .i64) (List.map Prod.fst p0.xwaits)) 3 1] from H41)
 have H43 := H42.pk [2, 0]
 obtain rfl : _ = (List.map Prod.fst p0.xwaits) := hr.symm.trans rfl
 exact ⟨A37, c38, rfl, H43, (by exact hkeysq)⟩

def disk_Disk_Crash_L0 (p0 : DiskT) (p1 : List UInt8) : List Int → Nat → List Ent → List Ent → (List Ent) × (List Ent)
  | [], k47, m48, m49 => (m48, m49)
  | x61 :: q50, k47, m48, m49 => if ((k47 : Nat) : Int) < ((p1.length : Nat) : Int) then bnd (List.getD p1 k47 default) fun yb66 => if ((yb66.toNat % 2 : Nat) : Int) = 1 then bnd (mget m49 x61) fun yo69 => if (Option.getD yo69 (List.replicate 64 (0 : UInt8))) = (List.replicate 64 (0 : UInt8)) then disk_Disk_Crash_L0 p0 p1 q50 (k47 + 1) (sdel m48 x61) (sdel m49 x61) else disk_Disk_Crash_L0 p0 p1 q50 (k47 + 1) (sput m48 x61 (Option.getD yo69 (List.replicate 64 (0 : UInt8)))) (sdel m49 x61) else disk_Disk_Crash_L0 p0 p1 q50 (k47 + 1) m48 (sdel m49 x61) else disk_Disk_Crash_L0 p0 p1 q50 (k47 + 1) m48 (sdel m49 x61)

def disk_Disk_Crash (p0 : DiskT) (p1 : List UInt8) : DiskT :=
 bnd (disk_Disk_Waits p0) fun yr32 => bnd (disk_Disk_Crash_L0 p0 p1 yr32 0 p0.xsafe p0.xwaits) fun sLrbL => (DiskT.mk p0.xsectors sLrbL.1 sLrbL.2 false (-1))

set_option maxRecDepth 100000 in
theorem disk_Disk_Crash_ok (w : World) (D : Nat → Prop) (g0 : Nat) (p0 : DiskT) (p1 : List UInt8) (r0 : DiskT) (H : Own w D w [DiskO g0 p0])  (hr : disk_Disk_Crash p0 p1 = r0) :
    Calls Try.prog 19 #[.pointer (some ⟨g0, 0, none⟩), .string ⟨List.toArray p1⟩] w (Ret fun v w' => v = .tuple #[] ∧ Own w D w' [DiskO g0 r0] ∧ (r0.xsectors = p0.xsectors)) := by
 refine Calls.body (args := [.pointer (some ⟨g0, 0, none⟩), .string ⟨List.toArray p1⟩]) Try.func19 rfl rfl rfl ?_
 show Wp _ _ _ [(0, .pointer (some ⟨g0, 0, none⟩)), (1, .string ⟨List.toArray p1⟩)] _ _
 obtain ⟨⟨gs21, gw22⟩, hf23, H24⟩ := Own.exOpen H
 replace hf23 : 1 ≤ p0.xsectors ∧ p0.xsectors ≤ 4096 := hf23
 have H25 : Own w D w [blk g0 [.int .i64 p0.xsectors, .map (some gs21), .map (some gw22), .bool p0.xup, .int .i64 p0.xfuse] 55, mapq gs21 p0.xsafe, mapq gw22 p0.xwaits] := H24
 refine Wp.seq (sr (Mz rfl ?_))
 have H26 : Own w D w [DiskO g0 p0] := Own.exFold (gs21, gw22) (show 1 ≤ p0.xsectors ∧ p0.xsectors ≤ 4096 from (show 1 ≤ p0.xsectors ∧ p0.xsectors ≤ 4096 from by omega)) (show Own w D w [blk g0 [.int .i64 p0.xsectors, .map (some gs21), .map (some gw22), .bool p0.xup, .int .i64 p0.xfuse] 55, mapq gs21 p0.xsafe, mapq gw22 p0.xwaits] from H25)
 obtain ⟨r32, hr33⟩ : ∃ q, disk_Disk_Waits p0 = q := ⟨_, rfl⟩
 obtain ⟨D27, HP28, ro29, bk30, rr31⟩ := Own.enter1 H26
 refine cl Try.call26 (disk_Disk_Waits_ok _ _ g0 p0 r32 HP28 hr33) ?_
 rintro _ w34 ⟨A37, c38, rfl, HQ35, hk39⟩
 have H36 := bk30 _ _ HQ35
 have hb40 := H36.rowC (i := 0) rfl
 replace hk39 : ∀ x ∈ r32, 0 ≤ x ∧ x < 4096 := hk39
 have H41 := H36.pk [1, 0]
 obtain ⟨⟨gs42, gw43⟩, hf44, H45⟩ := Own.exOpen H41
 replace hf44 : 1 ≤ p0.xsectors ∧ p0.xsectors ≤ 4096 := hf44
 have H46 : Own w D w34 [blk g0 [.int .i64 p0.xsectors, .map (some gs42), .map (some gw43), .bool p0.xup, .int .i64 p0.xfuse] 55, mapq gs42 p0.xsafe, mapq gw43 p0.xwaits, row A37 r32.length c38 (List.flatMap (eI .i64) r32) 3 1] := H45
 refine Kz (.int .i64 ((r32.length : Nat) : Int)) (Mn rfl (bo ?_))
 have H51 := H46.pk [0, 1, 2, 3]
 obtain ⟨I55, hI56⟩ : ∃ q : (Nat × (List Ent) × (List Ent)) → World → Prop, q = fun (i : Nat × (List Ent) × (List Ent)) w' => Own w D w' [blk g0 [.int .i64 p0.xsectors, .map (some gs42), .map (some gw43), .bool p0.xup, .int .i64 p0.xfuse] 55, mapq gs42 i.2.1, mapq gw43 i.2.2, row A37 r32.length c38 (List.flatMap (eI .i64) r32) 3 1] ∧ (i.1 ≤ r32.length ∧ disk_Disk_Crash_L0 p0 p1 r32 0 p0.xsafe p0.xwaits = disk_Disk_Crash_L0 p0 p1 (List.drop i.1 r32) i.1 i.2.1 i.2.2) := ⟨_, rfl⟩
 have dm57 : ∀ {k47 : Nat} {m48 : List Ent} {m49 : List Ent} {w' : World}, I55 (k47, m48, m49) w' ↔ Own w D w' [blk g0 [.int .i64 p0.xsectors, .map (some gs42), .map (some gw43), .bool p0.xup, .int .i64 p0.xfuse] 55, mapq gs42 m48, mapq gw43 m49, row A37 r32.length c38 (List.flatMap (eI .i64) r32) 3 1] ∧ k47 ≤ r32.length ∧ disk_Disk_Crash_L0 p0 p1 r32 0 p0.xsafe p0.xwaits = disk_Disk_Crash_L0 p0 p1 (List.drop k47 r32) k47 m48 m49 := by intros; subst hI56; exact Iff.rfl
 refine Wp.loop (fun i : Nat × (List Ent) × (List Ent) => [(9, .int .i64 ((i.1 : Nat) : Int)), (8, .int .i64 ((r32.length : Nat) : Int)), (7, .slice A37 r32.length c38), (0, .pointer (some ⟨g0, 0, none⟩)), (1, .string ⟨List.toArray p1⟩)]) I55 (fun i => r32.length - i.1) (0, p0.xsafe, p0.xwaits) ⟨rfl, rfl, rfl, rfl, rfl, trivial⟩ (dm57.2 ⟨H51, by omega, rfl⟩) ?_
 rintro ⟨k47, m48, m49⟩ w52 hf54
 show Wp _ _ _ [(9, .int .i64 ((k47 : Nat) : Int)), (8, .int .i64 ((r32.length : Nat) : Int)), (7, .slice A37 r32.length c38), (0, .pointer (some ⟨g0, 0, none⟩)), (1, .string ⟨List.toArray p1⟩)] _ _
 obtain ⟨H53, hi59, hq58⟩ := dm57.1 hf54
 refine sr (Kz (.bool (decide (((k47 : Nat) : Int) < ((r32.length : Nat) : Int)))) (nt (Wp.seq ?_)))
 by_cases h60 : ((k47 : Nat) : Int) < ((r32.length : Nat) : Int)
 obtain ⟨x61, hx62⟩ := rds_at (ls := r32) (i := k47) eI_len (by decide) (H53.rds (i := 3) rfl) (by first | omega | (simp; done) | (simp; omega))
 have hz63 : 0 ≤ x61 ∧ x61 < 4096 := hk39 _ (List.mem_of_getElem? hx62)
 have hd64 := drop_at hx62
 refine jT (dT h60) (sk (Wp.seq (bo (sr (Mz rfl (fw (.pointer (some ⟨ab A37, ao A37 + k47 * 1, none⟩)) (Yl.indexAddr (El46) rfl rfl ((H53.rds (i := 3) rfl).addr (i := k47) (by omega)) (by omega)) (fw (.int .i64 x61) (Yl.load rfl (Lds.one Try.isAgg3 (((H53.rds (i := 3) rfl).elem eI_len hx62 (by decide)).at_ (k := 0) rfl))) (Az rfl (An rfl (Wp.seq (sr (Mz rfl (Mz rfl (Kz (.int .i64 ((p1.length : Nat) : Int)) (Kz (.bool (decide (((k47 : Nat) : Int) < ((p1.length : Nat) : Int)))) (Mz rfl ?_))))))))))))))))
 by_cases h65 : ((k47 : Nat) : Int) < ((p1.length : Nat) : Int)
 refine gw (.string ⟨List.toArray p1⟩) (dT h65) (Yl.move rfl) (gw (.int .i64 ((k47 : Nat) : Int)) (dT h65) (Yl.move rfl) ?_)
 obtain ⟨b66, hx67⟩ := at_of (ls := p1) (i := k47) (by omega)
 refine gw (.int .u8 ((b66.toNat : Nat) : Int)) (dT h65) (Yl.strIndex Try.underlying9 rfl rfl hx67) (gw (.int .u8 ((b66.toNat % 2 : Nat) : Int)) (dT h65) (Yl.int (e := Int.tmod ((b66.toNat : Nat) : Int) 2) yk (tmodN _ _)) (Gz (.bool (decide (((b66.toNat % 2 : Nat) : Int) = 1))) (dT h65) (fw (.bool (decide (((b66.toNat % 2 : Nat) : Int) = 1))) (Yl.pickT rfl (dT h65) rfl) (nt ?_))))
 by_cases h68 : ((b66.toNat % 2 : Nat) : Int) = 1
 refine jT (dT h68) (Wp.region (Mz rfl (Mz rfl (Mz rfl (Kz (.pointer (some ⟨g0, 0, none⟩)) (Kz (.pointer (some ⟨g0, 2, none⟩)) (Lz (.map (some gw43)) H53 0 Try.isAgg53 (Mz rfl ?_))))))))
 obtain ⟨o69, ho70⟩ : ∃ q, mget m49 x61 = q := ⟨_, rfl⟩
 have hl71 : List.length (Option.getD o69 (List.replicate 64 (0 : UInt8))) = 64 := H53.mqLen (i := 2) rfl ho70 List.length_replicate
 refine fw (.agg (List.flatMap eB (Option.getD o69 (List.replicate 64 (0 : UInt8)))).toArray) (Yl.lookup1Q (k := x61) (d0 := (List.replicate 64 (0 : UInt8))) (i := 2) H53 rfl Try.underlying3 Try.underlying53 (fun _ => by kernel_rfl) rfl rfl ho70) ?_
 refine WL.do rfl (Do.call Try.call32 rfl ?_ (fun _ _ k => k))
 refine Calls.body (args := [.pointer (some ⟨g0, 0, none⟩), .int .i64 x61, .agg (List.flatMap eB (Option.getD o69 (List.replicate 64 (0 : UInt8)))).toArray]) Try.func32 rfl rfl rfl ?_
 show Wp _ _ _ [(0, .pointer (some ⟨g0, 0, none⟩)), (1, .int .i64 x61), (2, .agg (List.flatMap eB (Option.getD o69 (List.replicate 64 (0 : UInt8)))).toArray)] _ _
 refine sr ?_
 refine npw (List.flatMap eB (Option.getD o69 (List.replicate 64 (0 : UInt8)))) 61 H53 ?_
 intro g72 w73 H74
 have H75 : Own w D w73 [row (some ⟨g72, 0, none⟩) 64 64 (List.flatMap eB (Option.getD o69 (List.replicate 64 (0 : UInt8)))) 61 1, blk g0 [.int .i64 p0.xsectors, .map (some gs42), .map (some gw43), .bool p0.xup, .int .i64 p0.xfuse] 55, mapq gs42 m48, mapq gw43 m49, row A37 r32.length c38 (List.flatMap (eI .i64) r32) 3 1] := H74.blkRow 64 1 (by rw [flat_len eB_len, show List.length (Option.getD o69 (List.replicate 64 (0 : UInt8))) = 64 from (by first | omega | (simp only [List.length_replicate]; done) | (simp only [List.length_append, List.length_take, List.length_drop, List.length_replicate, List.length_set]; omega))]; rfl) rfl rfl
 refine nt (Wp.seq (sr (fw (.agg (List.flatMap eB (Option.getD o69 (List.replicate 64 (0 : UInt8)))).toArray) (Yl.load rfl (Lds.arr (N := 64) (m := 64) Try.isAgg61 Try.sizeOf61 (H75.rds (i := 0) rfl) rfl (by decide))) (Kz (.agg (List.flatMap eB (List.replicate 64 (0 : UInt8))).toArray) (fw (.bool (decide ((Option.getD o69 (List.replicate 64 (0 : UInt8))) = (List.replicate 64 (0 : UInt8))))) (Yl.eqAgg rfl rfl (by kernel_rfl) rfl (Eqv.bytes (m := 64) Try.underlying61 (by kernel_rfl) Try.underlying5 (by kernel_rfl) Try.isAgg5 (by first | omega | (simp only [List.length_replicate]; done) | (simp only [List.length_append, List.length_take, List.length_drop, List.length_replicate, List.length_set]; omega)) (by first | omega | (simp only [List.length_replicate]; done) | (simp only [List.length_append, List.length_take, List.length_drop, List.length_replicate, List.length_set]; omega)))) (nt ?_))))))
 by_cases h76 : (Option.getD o69 (List.replicate 64 (0 : UInt8))) = (List.replicate 64 (0 : UInt8))
 refine jT (dT h76) (sr (Mz rfl (Kz (.pointer (some ⟨g0, 0, none⟩)) (Kz (.pointer (some ⟨g0, 1, none⟩)) (Lz (.map (some gs42)) H75 1 Try.isAgg53 (Mz rfl ?_))))))
 have H77 := H75.pk [2, 0, 1, 3, 4]
 refine WL.do0 (Do.deleteQ (k := x61) H77 Try.underlying3 Try.underlying53 rfl rfl ?_)
 intro w78 H79
 refine nt (rt (tR (Fin.res (res0 rfl) (nt ?_))))
 have H80 := H79.pk [0, 2, 3, 4]
 refine Wp.region (Mz rfl (Kz (.pointer (some ⟨g0, 0, none⟩)) (Kz (.pointer (some ⟨g0, 2, none⟩)) (Lz (.map (some gw43)) H80 1 Try.isAgg53 (Mz rfl ?_)))))
 have H81 := H80.pk [2, 0, 1, 3]
 refine WL.do0 (Do.deleteQ (k := x61) H81 Try.underlying3 Try.underlying53 rfl rfl ?_)
 intro w82 H83
 refine WL.nil (bN (Fin.then (Wp.region (fw (.int .i64 ((k47 + 1 : Nat) : Int)) (Yl.int (e := IntKind.i64.wrap (((k47 : Nat) : Int) + 1)) yk (by rw [IntWalk.i64_in _ (by omega)]; omega)) (Mz rfl (WL.nil ?_))))))
 have H84 := H83.pk [2, 1, 0, 3]
 exact Fin.round (k47 + 1, (sdel m48 x61), (sdel m49 x61)) ⟨rfl, rfl, rfl, rfl, rfl, trivial⟩ (dm57.2 ⟨H84, by omega, et (hq58) (et (congrArg (fun q => disk_Disk_Crash_L0 p0 p1 q k47 m48 m49) hd64) (et (ip h65) (et (bnd_of (getD_of hx67)) (et (ip h68) (et (bnd_of ho70) (ip h76))))))⟩) (by show r32.length - (k47 + 1) < r32.length - k47; omega)
 refine jF (dF h76) (sk ?_)
 have H85 := H75.pk [0, 1, 3, 4, 2]
 have H87 := H85.drew
 refine Wp.drawnX [] (fun W => ∃ L', Own w D W ([row (some ⟨g72, 0, none⟩) 64 64 (List.flatMap eB (Option.getD o69 (List.replicate 64 (0 : UInt8)))) 61 1, blk g0 [.int .i64 p0.xsectors, .map (some gs42), .map (some gw43), .bool p0.xup, .int .i64 p0.xfuse] 55, mapq gw43 m49, row A37 r32.length c38 (List.flatMap (eI .i64) r32) 3 1] ++ L')) (by kernel_rfl) (by kernel_rfl) NoP.base ⟨_, H87⟩ ?_
 revert H87
 generalize World.drew w73 = w86
 intro H87
 refine GX.take (v := .pointer (some ⟨g0, 0, none⟩)) (rs := []) 0 rfl (by kernel_rfl) (fun _ _ => Yl.move rfl) (GX.take (v := .pointer (some ⟨g0, 0, none⟩)) (rs := []) 1 rfl (by kernel_rfl) (fun _ _ => yk) (GX.take (v := .pointer (some ⟨g0, 1, none⟩)) (rs := []) 2 rfl (by kernel_rfl) (fun _ _ => yk) (GX.take (v := .map (some gs42)) (rs := []) 3 rfl (by kernel_rfl) (fun _ ⟨_, H9⟩ => Yl.load rfl (Lds.one Try.isAgg53 (Cls.of (H9.cls (i := 1) rfl) rfl))) (GX.take (v := .int .i64 x61) (rs := []) 4 rfl (by kernel_rfl) (fun _ _ => Yl.move rfl) (GX.take (v := .agg (List.flatMap eB (Option.getD o69 (List.replicate 64 (0 : UInt8)))).toArray) (rs := []) 5 rfl (by kernel_rfl) (fun _ ⟨_, H9⟩ => Yl.load rfl (Lds.arr (N := 64) (m := 64) Try.isAgg61 Try.sizeOf61 (H9.rds (i := 0) rfl) rfl (by decide))) ?_)))))
 have H88 := H87.pk [4, 0, 1, 2, 3]
 refine GX.do0 6 rfl (by kernel_rfl) (Do.mapUpdateQ (k := x61) (v := (Option.getD o69 (List.replicate 64 (0 : UInt8)))) H88 Try.underlying3 Try.underlying53 rfl rfl rfl (show 0 ≤ x61 ∧ x61 < 4096 ∧ List.length (Option.getD o69 (List.replicate 64 (0 : UInt8))) = 64 from ⟨by omega, by omega, (by first | omega | (simp only [List.length_replicate]; done) | (simp only [List.length_append, List.length_take, List.length_drop, List.length_replicate, List.length_set]; omega))⟩) ?_)
 intro w89 H90
 have H91 := H90.pk [1, 2, 3, 4, 0]
 refine ⟨.inr ⟨_, H91⟩, ?_⟩
 refine GX.done (by kernel_rfl) (Fin.res0 (res0 rfl) (nt ?_))
 have H92 := H91.pk [1, 2, 3, 4]
 refine Wp.region (Mz rfl (Kz (.pointer (some ⟨g0, 0, none⟩)) (Kz (.pointer (some ⟨g0, 2, none⟩)) (Lz (.map (some gw43)) H92 0 Try.isAgg53 (Mz rfl ?_)))))
 have H93 := H92.pk [1, 0, 2, 3]
 refine WL.do0 (Do.deleteQ (k := x61) H93 Try.underlying3 Try.underlying53 rfl rfl ?_)
 intro w94 H95
 refine WL.nil (bN (Fin.then (Wp.region (fw (.int .i64 ((k47 + 1 : Nat) : Int)) (Yl.int (e := IntKind.i64.wrap (((k47 : Nat) : Int) + 1)) yk (by rw [IntWalk.i64_in _ (by omega)]; omega)) (Mz rfl (WL.nil ?_))))))
 have H96 := H95.pk [1, 3, 0, 2]
 exact Fin.round (k47 + 1, (sput m48 x61 (Option.getD o69 (List.replicate 64 (0 : UInt8)))), (sdel m49 x61)) ⟨rfl, rfl, rfl, rfl, rfl, trivial⟩ (dm57.2 ⟨H96, by omega, et (hq58) (et (congrArg (fun q => disk_Disk_Crash_L0 p0 p1 q k47 m48 m49) hd64) (et (ip h65) (et (bnd_of (getD_of hx67)) (et (ip h68) (et (bnd_of ho70) (iN h76))))))⟩) (by show r32.length - (k47 + 1) < r32.length - k47; omega)
 refine jF (dF h68) (sk (Wp.region (Mz rfl (Kz (.pointer (some ⟨g0, 0, none⟩)) (Kz (.pointer (some ⟨g0, 2, none⟩)) (Lz (.map (some gw43)) H53 0 Try.isAgg53 (Mz rfl ?_)))))))
 have H97 := H53.pk [2, 0, 1, 3]
 refine WL.do0 (Do.deleteQ (k := x61) H97 Try.underlying3 Try.underlying53 rfl rfl ?_)
 intro w98 H99
 refine WL.nil (bN (Fin.then (Wp.region (fw (.int .i64 ((k47 + 1 : Nat) : Int)) (Yl.int (e := IntKind.i64.wrap (((k47 : Nat) : Int) + 1)) yk (by rw [IntWalk.i64_in _ (by omega)]; omega)) (Mz rfl (WL.nil ?_))))))
 have H100 := H99.pk [1, 2, 0, 3]
 exact Fin.round (k47 + 1, m48, (sdel m49 x61)) ⟨rfl, rfl, rfl, rfl, rfl, trivial⟩ (dm57.2 ⟨H100, by omega, et (hq58) (et (congrArg (fun q => disk_Disk_Crash_L0 p0 p1 q k47 m48 m49) hd64) (et (ip h65) (et (bnd_of (getD_of hx67)) (iN h68))))⟩) (by show r32.length - (k47 + 1) < r32.length - k47; omega)
 refine Sz (dF h65) (Sz (dF h65) (Sz (dF h65) (Sz (dF h65) (Sz (dF h65) (fw (.bool false) (Yl.pickF rfl (dF h65) rfl) (nt (jf (sk (Wp.region (Mz rfl (Kz (.pointer (some ⟨g0, 0, none⟩)) (Kz (.pointer (some ⟨g0, 2, none⟩)) (Lz (.map (some gw43)) H53 0 Try.isAgg53 (Mz rfl ?_))))))))))))))
 have H101 := H53.pk [2, 0, 1, 3]
 refine WL.do0 (Do.deleteQ (k := x61) H101 Try.underlying3 Try.underlying53 rfl rfl ?_)
 intro w102 H103
 refine WL.nil (bN (Fin.then (Wp.region (fw (.int .i64 ((k47 + 1 : Nat) : Int)) (Yl.int (e := IntKind.i64.wrap (((k47 : Nat) : Int) + 1)) yk (by rw [IntWalk.i64_in _ (by omega)]; omega)) (Mz rfl (WL.nil ?_))))))
 have H104 := H103.pk [1, 2, 0, 3]
 exact Fin.round (k47 + 1, m48, (sdel m49 x61)) ⟨rfl, rfl, rfl, rfl, rfl, trivial⟩ (dm57.2 ⟨H104, by omega, et (hq58) (et (congrArg (fun q => disk_Disk_Crash_L0 p0 p1 q k47 m48 m49) hd64) (iN h65))⟩) (by show r32.length - (k47 + 1) < r32.length - k47; omega)
 refine jF (dF h60) (Wp.exit (Fin.thenX ?_))
 have hL105 : disk_Disk_Crash_L0 p0 p1 r32 0 p0.xsafe p0.xwaits = (m48, m49) := et (hq58) (et (congrArg (fun q => disk_Disk_Crash_L0 p0 p1 q k47 m48 m49) (drop_end (ls := r32) (i := k47) (by omega))) rfl)
 refine Fin.thenX (Fin.blockX (Fin.then (Wp.seq ?_)))
 have H106 := H53.pk [0, 1, 2]
 refine Wp.region (Mz rfl (Kz (.pointer (some ⟨g0, 0, none⟩)) (Kz (.pointer (some ⟨g0, 3, none⟩)) ?_)))
 refine sto [.bool false] 3 H106 Try.sizeOf4 ?_
 intro w107 H108
 refine nt (Wp.region (Mz rfl (Kz (.pointer (some ⟨g0, 0, none⟩)) (Kz (.pointer (some ⟨g0, 4, none⟩)) ?_))))
 refine sto [.int .i64 (-1)] 4 H108 Try.sizeOf3 ?_
 intro w109 H110
 refine WL.nil (Fin.res0 (res0 rfl) ?_)
 have H111 : Own w D w109 [DiskO g0 (DiskT.mk p0.xsectors m48 m49 false (-1))] := Own.exFold (gs42, gw43) (show 1 ≤ (DiskT.mk p0.xsectors m48 m49 false (-1)).xsectors ∧ (DiskT.mk p0.xsectors m48 m49 false (-1)).xsectors ≤ 4096 from (show 1 ≤ p0.xsectors ∧ p0.xsectors ≤ 4096 from by omega)) (show Own w D w109 [blk g0 [.int .i64 ((DiskT.mk p0.xsectors m48 m49 false (-1)).xsectors), .map (some gs42), .map (some gw43), .bool ((DiskT.mk p0.xsectors m48 m49 false (-1)).xup), .int .i64 ((DiskT.mk p0.xsectors m48 m49 false (-1)).xfuse)] 55, mapq gs42 ((DiskT.mk p0.xsectors m48 m49 false (-1)).xsafe), mapq gw43 ((DiskT.mk p0.xsectors m48 m49 false (-1)).xwaits)] from H110)
 have H112 := H111.pk [0]
 obtain rfl : _ = (DiskT.mk p0.xsectors m48 m49 false (-1)) := hr.symm.trans (et (bnd_of hr33) (bnd_of hL105))
 exact ⟨rfl, H112, (by first | rfl | omega)⟩

def disk_Disk_Start (p0 : DiskT) : DiskT :=
 if p0.xup = true then p0 else bnd (disk_Disk_Crash p0 ([])) fun yr35 => (DiskT.mk yr35.xsectors yr35.xsafe yr35.xwaits true yr35.xfuse)

set_option maxRecDepth 100000 in
theorem disk_Disk_Start_ok (w : World) (D : Nat → Prop) (g0 : Nat) (p0 : DiskT) (r0 : DiskT) (H : Own w D w [DiskO g0 p0])  (hr : disk_Disk_Start p0 = r0) :
    Calls Try.prog 21 #[.pointer (some ⟨g0, 0, none⟩)] w (Ret fun v w' => v = .tuple #[] ∧ Own w D w' [DiskO g0 r0] ∧ (r0.xsectors = p0.xsectors)) := by
 refine Calls.body (args := [.pointer (some ⟨g0, 0, none⟩)]) Try.func21 rfl rfl rfl ?_
 show Wp _ _ _ [(0, .pointer (some ⟨g0, 0, none⟩))] _ _
 obtain ⟨⟨gs21, gw22⟩, hf23, H24⟩ := Own.exOpen H
 replace hf23 : 1 ≤ p0.xsectors ∧ p0.xsectors ≤ 4096 := hf23
 have H25 : Own w D w [blk g0 [.int .i64 p0.xsectors, .map (some gs21), .map (some gw22), .bool p0.xup, .int .i64 p0.xfuse] 55, mapq gs21 p0.xsafe, mapq gw22 p0.xwaits] := H24
 refine sr (Mz rfl (Kz (.pointer (some ⟨g0, 0, none⟩)) (Kz (.pointer (some ⟨g0, 3, none⟩)) (Lz (.bool p0.xup) H25 0 Try.isAgg4 (Kz (.bool (!p0.xup)) (nt ?_))))))
 rcases Bool.eq_false_or_eq_true (p0.xup) with h26 | h26
 refine jF (cn h26) (Wp.skip (Fin.res0 (res0 rfl) ?_))
 have H27 : Own w D w [DiskO g0 p0] := Own.exFold (gs21, gw22) (show 1 ≤ p0.xsectors ∧ p0.xsectors ≤ 4096 from (show 1 ≤ p0.xsectors ∧ p0.xsectors ≤ 4096 from by omega)) (show Own w D w [blk g0 [.int .i64 p0.xsectors, .map (some gs21), .map (some gw22), .bool p0.xup, .int .i64 p0.xfuse] 55, mapq gs21 p0.xsafe, mapq gw22 p0.xwaits] from H25)
 have H28 := H27.pk [0]
 obtain rfl : _ = p0 := hr.symm.trans (ip h26)
 exact ⟨rfl, H28, (by first | rfl | omega)⟩
 refine jT (cn h26) (sr (Mz rfl ?_))
 have H29 : Own w D w [DiskO g0 p0] := Own.exFold (gs21, gw22) (show 1 ≤ p0.xsectors ∧ p0.xsectors ≤ 4096 from (show 1 ≤ p0.xsectors ∧ p0.xsectors ≤ 4096 from by omega)) (show Own w D w [blk g0 [.int .i64 p0.xsectors, .map (some gs21), .map (some gw22), .bool p0.xup, .int .i64 p0.xfuse] 55, mapq gs21 p0.xsafe, mapq gw22 p0.xwaits] from H25)
 obtain ⟨r35, hr36⟩ : ∃ q, disk_Disk_Crash p0 ([]) = q := ⟨_, rfl⟩
 obtain ⟨D30, HP31, ro32, bk33, rr34⟩ := Own.enter1 H29
 refine cl Try.call19 (disk_Disk_Crash_ok _ _ g0 p0 ([]) r35 HP31 hr36) ?_
 rintro _ w37 ⟨rfl, HQ38, hk40⟩
 have H39 := bk33 _ _ HQ38
 replace hk40 : r35.xsectors = p0.xsectors := hk40
 obtain ⟨⟨gs41, gw42⟩, hf43, H44⟩ := Own.exOpen H39
 replace hf43 : 1 ≤ r35.xsectors ∧ r35.xsectors ≤ 4096 := hf43
 have H45 : Own w D w37 [blk g0 [.int .i64 r35.xsectors, .map (some gs41), .map (some gw42), .bool r35.xup, .int .i64 r35.xfuse] 55, mapq gs41 r35.xsafe, mapq gw42 r35.xwaits] := H44
 refine nt (Wp.region (Mz rfl (Kz (.pointer (some ⟨g0, 0, none⟩)) (Kz (.pointer (some ⟨g0, 3, none⟩)) ?_))))
 refine sto [.bool true] 3 H45 Try.sizeOf4 ?_
 intro w46 H47
 refine WL.nil (Fin.res0 (res0 rfl) ?_)
 have H48 : Own w D w46 [DiskO g0 (DiskT.mk r35.xsectors r35.xsafe r35.xwaits true r35.xfuse)] := Own.exFold (gs41, gw42) (show 1 ≤ (DiskT.mk r35.xsectors r35.xsafe r35.xwaits true r35.xfuse).xsectors ∧ (DiskT.mk r35.xsectors r35.xsafe r35.xwaits true r35.xfuse).xsectors ≤ 4096 from (show 1 ≤ r35.xsectors ∧ r35.xsectors ≤ 4096 from by omega)) (show Own w D w46 [blk g0 [.int .i64 ((DiskT.mk r35.xsectors r35.xsafe r35.xwaits true r35.xfuse).xsectors), .map (some gs41), .map (some gw42), .bool ((DiskT.mk r35.xsectors r35.xsafe r35.xwaits true r35.xfuse).xup), .int .i64 ((DiskT.mk r35.xsectors r35.xsafe r35.xwaits true r35.xfuse).xfuse)] 55, mapq gs41 ((DiskT.mk r35.xsectors r35.xsafe r35.xwaits true r35.xfuse).xsafe), mapq gw42 ((DiskT.mk r35.xsectors r35.xsafe r35.xwaits true r35.xfuse).xwaits)] from H47)
 have H49 := H48.pk [0]
 obtain rfl : _ = (DiskT.mk r35.xsectors r35.xsafe r35.xwaits true r35.xfuse) := hr.symm.trans (et (ifF h26) (bnd_of hr36))
 exact ⟨rfl, H49, (by first | rfl | omega)⟩

def disk_Disk_Clone (p0 : DiskT) : DiskT :=
 p0

set_option maxRecDepth 100000 in
theorem disk_Disk_Clone_ok (w : World) (D : Nat → Prop) (g0 : Nat) (p0 : DiskT) (r0 : DiskT) (H : Own w D w [DiskO g0 p0])  (hr : disk_Disk_Clone p0 = r0) :
    Calls Try.prog 24 #[.pointer (some ⟨g0, 0, none⟩)] w (Ret fun v w' => ∃ (G0 : Nat), v = .pointer (some ⟨G0, 0, none⟩) ∧ Own w D w' [DiskO G0 r0, DiskO g0 p0] ∧ (r0.xsectors = p0.xsectors)) := by
 refine Calls.body (args := [.pointer (some ⟨g0, 0, none⟩)]) Try.func24 rfl rfl rfl ?_
 show Wp _ _ _ [(0, .pointer (some ⟨g0, 0, none⟩))] _ _
 obtain ⟨⟨gs21, gw22⟩, hf23, H24⟩ := Own.exOpen H
 replace hf23 : 1 ≤ p0.xsectors ∧ p0.xsectors ≤ 4096 := hf23
 have H25 : Own w D w [blk g0 [.int .i64 p0.xsectors, .map (some gs21), .map (some gw22), .bool p0.xup, .int .i64 p0.xfuse] 55, mapq gs21 p0.xsafe, mapq gw22 p0.xwaits] := H24
 refine sr (Ar rfl (Mz rfl (Kz (.pointer (some ⟨g0, 0, none⟩)) (La ([.int .i64 p0.xsectors, .map (some gs21), .map (some gw22), .bool p0.xup, .int .i64 p0.xfuse]) H25 0 Try.isAgg55 Try.sizeOf55 ?_))))
 refine npw [.int .i64 0, .map none, .map none, .bool false, .int .i64 0] 55 H25 ?_
 intro g26 w27 H28
 refine sto [.int .i64 p0.xsectors, .map (some gs21), .map (some gw22), .bool p0.xup, .int .i64 p0.xfuse] 0 H28 Try.sizeOf55 ?_
 intro w29 H30
 refine ns (Mz rfl (Kz (.pointer (some ⟨g0, 0, none⟩)) (Kz (.pointer (some ⟨g0, 1, none⟩)) (Lz (.map (some gs21)) H30 1 Try.isAgg53 ?_))))
 have H31 := H30.pk [2, 0, 1, 3]
 obtain ⟨D32, HP33, ro34, bk35, rr36⟩ := Own.enter (L1 := [mapq gs21 p0.xsafe]) (L2 := [blk g26 [.int .i64 p0.xsectors, .map (some gs21), .map (some gw22), .bool p0.xup, .int .i64 p0.xfuse] 55, blk g0 [.int .i64 p0.xsectors, .map (some gs21), .map (some gw22), .bool p0.xup, .int .i64 p0.xfuse] 55, mapq gw22 p0.xwaits]) H31
 refine cl Try.call36 (map_clone _ _ gs21 p0.xsafe HP33) ?_
 rintro _ w37 ⟨g39, rfl, HQ38⟩
 have H40 := bk35 _ _ HQ38
 refine Kz (.pointer (some ⟨g26, 1, none⟩)) ?_
 have H41 := H40.pk [2, 0, 1, 3, 4]
 refine sto [.map (some g39)] 1 H41 Try.sizeOf53 ?_
 intro w42 H43
 refine ns (Mz rfl (Kz (.pointer (some ⟨g0, 0, none⟩)) (Kz (.pointer (some ⟨g0, 2, none⟩)) (Lz (.map (some gw22)) H43 3 Try.isAgg53 ?_))))
 have H44 := H43.pk [4, 0, 1, 2, 3]
 obtain ⟨D45, HP46, ro47, bk48, rr49⟩ := Own.enter (L1 := [mapq gw22 p0.xwaits]) (L2 := [blk g26 [.int .i64 p0.xsectors, .map (some g39), .map (some gw22), .bool p0.xup, .int .i64 p0.xfuse] 55, mapq g39 p0.xsafe, mapq gs21 p0.xsafe, blk g0 [.int .i64 p0.xsectors, .map (some gs21), .map (some gw22), .bool p0.xup, .int .i64 p0.xfuse] 55]) H44
 refine cl Try.call36 (map_clone _ _ gw22 p0.xwaits HP46) ?_
 rintro _ w50 ⟨g52, rfl, HQ51⟩
 have H53 := bk48 _ _ HQ51
 refine Kz (.pointer (some ⟨g26, 2, none⟩)) ?_
 have H54 := H53.pk [2, 0, 1, 3, 4, 5]
 refine sto [.map (some g52)] 2 H54 Try.sizeOf53 ?_
 intro w55 H56
 refine ns (An rfl (rt (rs ?_)))
 have H57 := H56.pk [0, 3, 1, 2, 4, 5]
 have H58 : Own w D w55 [DiskO g26 p0, mapq gw22 p0.xwaits, mapq gs21 p0.xsafe, blk g0 [.int .i64 p0.xsectors, .map (some gs21), .map (some gw22), .bool p0.xup, .int .i64 p0.xfuse] 55] := Own.exFold (g39, g52) (show 1 ≤ p0.xsectors ∧ p0.xsectors ≤ 4096 from (show 1 ≤ p0.xsectors ∧ p0.xsectors ≤ 4096 from by omega)) (show Own w D w55 [blk g26 [.int .i64 p0.xsectors, .map (some g39), .map (some g52), .bool p0.xup, .int .i64 p0.xfuse] 55, mapq g39 p0.xsafe, mapq g52 p0.xwaits, mapq gw22 p0.xwaits, mapq gs21 p0.xsafe, blk g0 [.int .i64 p0.xsectors, .map (some gs21), .map (some gw22), .bool p0.xup, .int .i64 p0.xfuse] 55] from H57)
 have H59 := H58.pk [3, 2, 1, 0]
 have H60 : Own w D w55 [DiskO g0 p0, DiskO g26 p0] := Own.exFold (gs21, gw22) (show 1 ≤ p0.xsectors ∧ p0.xsectors ≤ 4096 from (show 1 ≤ p0.xsectors ∧ p0.xsectors ≤ 4096 from by omega)) (show Own w D w55 [blk g0 [.int .i64 p0.xsectors, .map (some gs21), .map (some gw22), .bool p0.xup, .int .i64 p0.xfuse] 55, mapq gs21 p0.xsafe, mapq gw22 p0.xwaits, DiskO g26 p0] from H59)
 have H61 := H60.pk [1, 0]
 obtain rfl : _ = p0 := hr.symm.trans rfl
 exact ⟨g26, rfl, H61, (by first | rfl | omega)⟩
end Go.Proofs.Ytmhhmhaigmjekaa
