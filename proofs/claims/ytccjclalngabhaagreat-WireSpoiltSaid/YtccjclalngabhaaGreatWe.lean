/-
 wire: what is read.
-/
import Derived.Test.YtccjclalngabhaaGreatWiC
namespace Go.Proofs.YtccjclalngabhaaGreat
open Go.RowKit
set_option linter.unusedVariables false
set_option linter.unusedSectionVars false
set_option linter.unusedSimpArgs false
def octet_ReadText (l0 : List UInt8) (p1 : Int) : (List UInt8) × Int × Int :=
 bnd (octet_ReadNum l0) fun yr26 => if yr26.2.2 = 0 then if p1 < 0 then ([], 0, 2) else if ((yr26.1 : Nat) : Int) > ((Int.toNat (IntKind.u64.wrap p1) : Nat) : Int) then ([], 0, 2) else if ((yr26.1 : Nat) : Int) > ((Int.toNat (((l0.length : Nat) : Int) - yr26.2.1) : Nat) : Int) then ([], 0, 10) else ((List.take ((Int.toNat (yr26.2.1 + ((yr26.1 : Nat) : Int))) - (Int.toNat yr26.2.1)) (List.drop (Int.toNat yr26.2.1) l0)), yr26.2.1 + ((yr26.1 : Nat) : Int), 0) else ([], 0, yr26.2.2)
set_option maxRecDepth 100000 in
theorem octet_ReadText_ok (w : World) (D : Nat → Prop) (A0 : Option Addr) (n0 c0 : Nat) (l0 : List UInt8) (p1 : Int) (r0 : List UInt8) (r1 : Int) (r2 : Int) (H : Own w D w []) (hx0 : Ro w D fun w' => Rds w' 1 A0 n0 (List.flatMap eB l0)) (hn0 : n0 = l0.length) (hl0 : l0.length ≤ 9223372036854775807) (hq0 : l0.length ≤ c0) (hr : octet_ReadText l0 p1 = (r0, r1, r2)) :
    Calls Tryz.prog 123 #[.slice A0 n0 c0, .int .i64 p1] w (Ret fun v w' => v = .tuple #[.string ⟨List.toArray r0⟩, .int .i64 r1, .int .i64 r2] ∧ Own w D w' [] ∧ (¬ (r2 = 0) ∨ (1 ≤ r1 ∧ r1 ≤ ((l0.length : Nat) : Int) ∧ r0.length ≤ l0.length))) := by
 subst hn0
 refine Calls.body (args := [.slice A0 l0.length c0, .int .i64 p1]) Tryz.func123 rfl rfl rfl ?_
 show Wp _ _ _ [(0, .slice A0 l0.length c0), (1, .int .i64 p1)] _ _
 refine sr (Az rfl (Az rfl (Ar rfl (Mz rfl ?_))))
 obtain ⟨⟨r26, r27, r28⟩, hr29⟩ : ∃ q : Nat × Int × Int, octet_ReadNum l0 = q := ⟨_, rfl⟩
 obtain ⟨D21, HP22, ro23, bk24, rr25⟩ := Own.enter0 H
 refine cl Tryz.call77 (octet_ReadNum_ok _ _ A0 l0.length c0 l0 r26 r27 r28 HP22 (ro23 _ hx0) rfl (by omega) (by first | omega | (simp only [List.length_take, List.length_drop]; omega) | exact Nat.le_refl _) hr29) ?_
 rintro _ w30 ⟨rfl, HQ31, hk33, hk34⟩
 have H32 := bk24 _ _ HQ31
 replace hk33 : ¬ (r28 = 0) ∨ (1 ≤ r27 ∧ r27 ≤ 10 ∧ r27 ≤ ((l0.length : Nat) : Int)) := hk33
 replace hk34 : r26 ≤ 18446744073709551615 := hk34
 refine Mz rfl (Kz (.int .u64 ((r26 : Nat) : Int)) (Kz (.int .i64 r27) (Kz (.int .i64 r28) (Az rfl (Az rfl (An rfl (Wp.seq (sr (Mz rfl (fw (.bool (decide (¬ (r28 = 0)))) (Yl.bool (e := !(decide (r28 = 0))) yk decide_not.symm) (nt ?_)))))))))))
 by_cases h35 : r28 = 0
 refine jF (dF (not_not_intro h35)) (sk (Wp.seq (sr (Mz rfl (Kz (.bool (decide (p1 < 0))) (Mz rfl ?_))))))
 by_cases h36 : p1 < 0
 refine Sz (dT h36) (Sz (dT h36) (Sz (dT h36) (Sz (dT h36) (fw (.bool true) (Yl.pickT rfl (dT h36) rfl) (nt (jt (sr (Az rfl (Az rfl (An rfl (rt (tR (Fin.res (res3 rfl rfl rfl rfl) ?_)))))))))))))
 have H37 := H32.pk []
 have e : octet_ReadText l0 p1 = ([], 0, 2) := et (bnd_of hr29) (et (ip h35) (ip h36))
 obtain ⟨rfl, rfl, rfl⟩ := pj3 (e.symm.trans hr)
 exact ⟨rfl, H37, (by first | omega | (simp only [List.length_take, List.length_drop]; omega))⟩
 refine gw (.int .u64 ((r26 : Nat) : Int)) (dF h36) (Yl.move rfl) (gw (.int .i64 p1) (dF h36) (Yl.move rfl) ?_)
 have hz38 : Int.toNat (IntKind.u64.wrap p1) ≤ 18446744073709551615 := wrapN_u64 _
 refine gw (.int .u64 ((Int.toNat (IntKind.u64.wrap p1) : Nat) : Int)) (dF h36) (Yl.int (e := IntKind.u64.wrap p1) yk (wrap_nat_u64 _)) (Gz (.bool (decide (((r26 : Nat) : Int) > ((Int.toNat (IntKind.u64.wrap p1) : Nat) : Int)))) (dF h36) (fw (.bool (decide (((r26 : Nat) : Int) > ((Int.toNat (IntKind.u64.wrap p1) : Nat) : Int)))) (Yl.pickF rfl (dF h36) rfl) (nt ?_)))
 by_cases h39 : ((r26 : Nat) : Int) > ((Int.toNat (IntKind.u64.wrap p1) : Nat) : Int)
 refine jT (dT h39) (sr (Az rfl (Az rfl (An rfl (rt (tR (Fin.res (res3 rfl rfl rfl rfl) ?_)))))))
 have H40 := H32.pk []
 have e : octet_ReadText l0 p1 = ([], 0, 2) := et (bnd_of hr29) (et (ip h35) (et (iN h36) (ip h39)))
 obtain ⟨rfl, rfl, rfl⟩ := pj3 (e.symm.trans hr)
 exact ⟨rfl, H40, (by first | omega | (simp only [List.length_take, List.length_drop]; omega))⟩
 refine jF (dF h39) (sk (Wp.seq (sr (Mz rfl (Mz rfl (Kz (.int .i64 ((l0.length : Nat) : Int)) (Mz rfl (fw (.int .i64 (((l0.length : Nat) : Int) - r27)) (Yl.int (e := IntKind.i64.wrap (((l0.length : Nat) : Int) - r27)) yk (by rw [IntWalk.i64_in _ (by omega)])) (fw (.int .u64 ((Int.toNat (((l0.length : Nat) : Int) - r27) : Nat) : Int)) (Yl.int (e := IntKind.u64.wrap (((l0.length : Nat) : Int) - r27)) yk (by rw [IntWalk.u64_in _ (by omega)]; omega)) (Kz (.bool (decide (((r26 : Nat) : Int) > ((Int.toNat (((l0.length : Nat) : Int) - r27) : Nat) : Int)))) (nt ?_)))))))))))
 by_cases h41 : ((r26 : Nat) : Int) > ((Int.toNat (((l0.length : Nat) : Int) - r27) : Nat) : Int)
 refine jT (dT h41) (sr (Az rfl (Az rfl (An rfl (rt (tR (Fin.res (res3 rfl rfl rfl rfl) ?_)))))))
 have H42 := H32.pk []
 have e : octet_ReadText l0 p1 = ([], 0, 10) := et (bnd_of hr29) (et (ip h35) (et (iN h36) (et (iN h39) (ip h41))))
 obtain ⟨rfl, rfl, rfl⟩ := pj3 (e.symm.trans hr)
 exact ⟨rfl, H42, (by first | omega | (simp only [List.length_take, List.length_drop]; omega))⟩
 refine jF (dF h41) (sk (sr (Mz rfl (Mz rfl (fw (.int .i64 ((r26 : Nat) : Int)) (Yl.int (e := IntKind.i64.wrap ((r26 : Nat) : Int)) yk (IntWalk.i64_in _ (by omega))) (fw (.int .i64 (r27 + ((r26 : Nat) : Int))) (Yl.int (e := IntKind.i64.wrap (r27 + ((r26 : Nat) : Int))) yk (by rw [IntWalk.i64_in _ (by omega)])) (Ar rfl (Mz rfl (fw (.int .i64 ((Int.toNat r27 : Nat) : Int)) (Yl.int (e := r27) (Yl.move rfl) (by omega)) (fw (.int .i64 ((Int.toNat (r27 + ((r26 : Nat) : Int)) : Nat) : Int)) (Yl.int (e := r27 + ((r26 : Nat) : Int)) (Yl.move rfl) (by omega)) (fw (.slice (cutA A0 (Int.toNat r27) 1 c0) ((Int.toNat (r27 + ((r26 : Nat) : Int))) - (Int.toNat r27)) (c0 - (Int.toNat r27))) (Yl.cut (El31) rfl rfl rfl (by omega) (by omega)) (fw (.string ⟨List.toArray (List.take ((Int.toNat (r27 + ((r26 : Nat) : Int))) - (Int.toNat r27)) (List.drop (Int.toNat r27) l0))⟩) (Yl.toStringE (l := (List.take ((Int.toNat (r27 + ((r26 : Nat) : Int))) - (Int.toNat r27)) (List.drop (Int.toNat r27) l0))) Tryz.underlying31 Tryz.underlying5 Tryz.underlying9 (Rds.cutE (lo := Int.toNat r27) (hi := Int.toNat (r27 + ((r26 : Nat) : Int))) eB_len (H32.ro hx0) (by omega) (by omega) (by omega)) rfl) (Mz rfl (Az rfl (Az rfl (An rfl (rt (Fin.res (res3 rfl rfl rfl rfl) ?_))))))))))))))))))
 have H43 := H32.pk []
 have e : octet_ReadText l0 p1 = ((List.take ((Int.toNat (r27 + ((r26 : Nat) : Int))) - (Int.toNat r27)) (List.drop (Int.toNat r27) l0)), r27 + ((r26 : Nat) : Int), 0) := et (bnd_of hr29) (et (ip h35) (et (iN h36) (et (iN h39) (iN h41))))
 obtain ⟨rfl, rfl, rfl⟩ := pj3 (e.symm.trans hr)
 exact ⟨rfl, H43, (by first | omega | (simp only [List.length_take, List.length_drop]; omega))⟩
 refine jT (dT h35) (sr (Mz rfl (Az rfl (Az rfl (An rfl (rt (tR (Fin.res (res3 rfl rfl rfl rfl) ?_))))))))
 have H44 := H32.pk []
 have e : octet_ReadText l0 p1 = ([], 0, r28) := et (bnd_of hr29) (iN h35)
 obtain ⟨rfl, rfl, rfl⟩ := pj3 (e.symm.trans hr)
 exact ⟨rfl, H44, (by first | omega | (simp only [List.length_take, List.length_drop]; omega))⟩
def reader_New (l0 : List UInt8) : ReaderT :=
 ReaderT.mk (Ll.mk l0) 0
set_option maxRecDepth 100000 in
theorem reader_New_ok (w : World) (D : Nat → Prop) (A0 : Option Addr) (n0 c0 : Nat) (l0 : List UInt8) (r0 : ReaderT) (H : Own w D w []) (hx0 : Ro w D fun w' => Rds w' 1 A0 n0 (List.flatMap eB l0)) (hn0 : n0 = l0.length) (hl0 : l0.length * 1 ≤ 211106232532992) (hq0 : l0.length ≤ c0) (hr : reader_New l0 = r0) :
    Calls Tryz.prog 38 #[.slice A0 n0 c0] w (Ret fun v w' => ∃ (G0 : Nat) (B0nx0 : Option Addr) (b0nx0 : Nat), v = .pointer (some ⟨G0, 0, none⟩) ∧ Own w D w' [blk G0 [.slice B0nx0 r0.xrest.ls.length b0nx0, .int .i64 r0.xerrno] 120] ∧ (SubS 1 A0 c0 l0 B0nx0 b0nx0 r0.xrest.ls)) := by
 subst hn0
 refine Calls.body (args := [.slice A0 l0.length c0]) Tryz.func38 rfl rfl rfl ?_
 show Wp _ _ _ [(0, .slice A0 l0.length c0)] _ _
 refine sr (Ar rfl (Mz rfl (Kz (.agg #[.slice A0 l0.length c0, .int .i64 0]) ?_)))
 refine npw [.slice A0 l0.length c0, .int .i64 0] 120 H ?_
 intro g21 w22 H23
 refine An rfl (rt (rs ?_))
 have H24 := H23.pk [0]
 obtain rfl : _ = ReaderT.mk (Ll.mk l0) 0 := hr.symm.trans rfl
 exact ⟨g21, A0, c0, rfl, H24, (SubS.refl (by omega))⟩
def reader_Reader_Fail (p0 : ReaderT) (p1 : Int) : ReaderT :=
 if p0.xerrno = 0 then ReaderT.mk (Ll.mk ([])) p1 else p0
set_option maxRecDepth 100000 in
theorem reader_Reader_Fail_ok (w : World) (D : Nat → Prop) (g0 : Nat) (p0 : ReaderT) (A0x0 : Option Addr) (c0x0 : Nat) (p1 : Int) (r0 : ReaderT) (H : Own w D w [blk g0 [.slice A0x0 p0.xrest.ls.length c0x0, .int .i64 p0.xerrno] 120]) (hx0x0 : Ro w D fun w' => Rds w' 1 A0x0 p0.xrest.ls.length (List.flatMap eB p0.xrest.ls)) (hb0x0 : p0.xrest.ls.length ≤ c0x0 ∧ p0.xrest.ls.length ≤ 9223372036854775807) (hr : reader_Reader_Fail p0 p1 = r0) :
    Calls Tryz.prog 40 #[.pointer (some ⟨g0, 0, none⟩), .int .i64 p1] w (Ret fun v w' => ∃ (B0ox0 : Option Addr) (b0ox0 : Nat), v = .tuple #[] ∧ Own w D w' [blk g0 [.slice B0ox0 r0.xrest.ls.length b0ox0, .int .i64 r0.xerrno] 120] ∧ (SubS 1 A0x0 c0x0 p0.xrest.ls B0ox0 b0ox0 r0.xrest.ls)) := by
 refine Calls.body (args := [.pointer (some ⟨g0, 0, none⟩), .int .i64 p1]) Tryz.func40 rfl rfl rfl ?_
 show Wp _ _ _ [(0, .pointer (some ⟨g0, 0, none⟩)), (1, .int .i64 p1)] _ _
 refine sr (Mz rfl (Kz (.pointer (some ⟨g0, 0, none⟩)) (Kz (.pointer (some ⟨g0, 1, none⟩)) (Lz (.int .i64 p0.xerrno) H 0 Tryz.isAgg32 (Kz (.bool (decide (p0.xerrno = 0))) (nt ?_))))))
 by_cases h21 : p0.xerrno = 0
 refine jT (dT h21) (sr (Mz rfl (Mz rfl (Kz (.pointer (some ⟨g0, 0, none⟩)) (Kz (.pointer (some ⟨g0, 1, none⟩)) ?_)))))
 refine sto [.int .i64 p1] 1 H Tryz.sizeOf32 ?_
 intro w22 H23
 refine nt (Wp.region (Mz rfl (Kz (.pointer (some ⟨g0, 0, none⟩)) (Kz (.pointer (some ⟨g0, 0, none⟩)) ?_))))
 refine sto [.slice none 0 0] 0 H23 Tryz.sizeOf31 ?_
 intro w24 H25
 refine WL.nil (Fin.res0 (res0 rfl) ?_)
 have H26 := H25.pk [0]
 obtain rfl : _ = ReaderT.mk (Ll.mk ([])) p1 := hr.symm.trans (ip h21)
 exact ⟨none, 0, rfl, H26, SubS.nil⟩
 refine jF (dF h21) (Wp.skip (Fin.res0 (res0 rfl) ?_))
 have H27 : Own w D w [blk g0 [.slice A0x0 p0.xrest.ls.length c0x0, .int .i64 p0.xerrno] 120] := H.pk [0]
 obtain rfl : _ = p0 := hr.symm.trans (iN h21)
 exact ⟨A0x0, c0x0, rfl, H27, (SubS.refl (by omega))⟩
def reader_Reader_Octet (p0 : ReaderT) : UInt8 × ReaderT :=
 if ((p0.xrest.ls.length : Nat) : Int) = 0 then bnd (reader_Reader_Fail p0 10) fun yr27 => ((0 : UInt8), yr27) else bnd (List.getD p0.xrest.ls 0 default) fun yx37 => (yx37, ReaderT.mk (Ll.mk (List.drop 1 p0.xrest.ls)) p0.xerrno)
set_option maxRecDepth 100000 in
theorem reader_Reader_Octet_ok (w : World) (D : Nat → Prop) (g0 : Nat) (p0 : ReaderT) (A0x0 : Option Addr) (c0x0 : Nat) (r0 : UInt8) (r1 : ReaderT) (H : Own w D w [blk g0 [.slice A0x0 p0.xrest.ls.length c0x0, .int .i64 p0.xerrno] 120]) (hx0x0 : Ro w D fun w' => Rds w' 1 A0x0 p0.xrest.ls.length (List.flatMap eB p0.xrest.ls)) (hb0x0 : p0.xrest.ls.length ≤ c0x0 ∧ p0.xrest.ls.length ≤ 9223372036854775807) (hr : reader_Reader_Octet p0 = (r0, r1)) :
    Calls Tryz.prog 39 #[.pointer (some ⟨g0, 0, none⟩)] w (Ret fun v w' => ∃ (B1ox0 : Option Addr) (b1ox0 : Nat), v = .int .u8 ((r0.toNat : Nat) : Int) ∧ Own w D w' [blk g0 [.slice B1ox0 r1.xrest.ls.length b1ox0, .int .i64 r1.xerrno] 120] ∧ (SubS 1 A0x0 c0x0 p0.xrest.ls B1ox0 b1ox0 r1.xrest.ls)) := by
 refine Calls.body (args := [.pointer (some ⟨g0, 0, none⟩)]) Tryz.func39 rfl rfl rfl ?_
 show Wp _ _ _ [(0, .pointer (some ⟨g0, 0, none⟩))] _ _
 refine sr (An rfl (Wp.seq (sr (Mz rfl (Kz (.pointer (some ⟨g0, 0, none⟩)) (Kz (.pointer (some ⟨g0, 0, none⟩)) (Lz (.slice A0x0 p0.xrest.ls.length c0x0) H 0 Tryz.isAgg31 (Kz (.int .i64 ((p0.xrest.ls.length : Nat) : Int)) (Kz (.bool (decide (((p0.xrest.ls.length : Nat) : Int) = 0))) (nt ?_))))))))))
 by_cases h21 : ((p0.xrest.ls.length : Nat) : Int) = 0
 refine jT (dT h21) (sr (Mz rfl ?_))
 obtain ⟨r27, hr28⟩ : ∃ q, reader_Reader_Fail p0 10 = q := ⟨_, rfl⟩
 obtain ⟨D22, HP23, ro24, bk25, rr26⟩ := Own.enter1 H
 refine cl Tryz.call40 (reader_Reader_Fail_ok _ _ g0 p0 A0x0 c0x0 10 r27 HP23 (ro24 _ hx0x0) (show p0.xrest.ls.length ≤ c0x0 ∧ p0.xrest.ls.length ≤ 9223372036854775807 from by omega) hr28) ?_
 rintro _ w29 ⟨A32, c33, rfl, HQ30, hs34⟩
 have H31 := bk25 _ _ HQ30
 replace hs34 : SubS 1 A0x0 c0x0 p0.xrest.ls A32 c33 r27.xrest.ls := hs34
 have hz35 := (hs34).le
 refine ns (An rfl (rt (tR (rs ?_))))
 have H36 := H31.pk [0]
 have e : reader_Reader_Octet p0 = ((0 : UInt8), r27) := et (ip h21) (bnd_of hr28)
 obtain ⟨rfl, rfl⟩ := pj2 (e.symm.trans hr)
 exact ⟨A32, c33, rfl, H36, hs34⟩
 refine jF (dF h21) (sk (sr (Mz rfl (Kz (.pointer (some ⟨g0, 0, none⟩)) (Kz (.pointer (some ⟨g0, 0, none⟩)) (Lz (.slice A0x0 p0.xrest.ls.length c0x0) H 0 Tryz.isAgg31 ?_))))))
 obtain ⟨x37, hx38⟩ := rds_at (ls := p0.xrest.ls) (i := 0) eB_len (by decide) (H.ro hx0x0) (by first | omega | (simp; done) | (simp; omega))
 refine fw (.pointer (some ⟨ab A0x0, ao A0x0 + 0 * 1, none⟩)) (Yl.indexAddr (El31) rfl rfl ((H.ro hx0x0).addr (i := 0) (by omega)) (by omega)) (fw (.int .u8 ((x37.toNat : Nat) : Int)) (Yl.load rfl (Lds.one Tryz.isAgg5 (((H.ro hx0x0).elem eB_len hx38 (by decide)).at_ (k := 0) rfl))) (Ar rfl (Mz rfl (Mz rfl (Kz (.pointer (some ⟨g0, 0, none⟩)) (Kz (.pointer (some ⟨g0, 0, none⟩)) (Lz (.slice A0x0 p0.xrest.ls.length c0x0) H 0 Tryz.isAgg31 (fw (.slice (cutA A0x0 1 1 c0x0) (p0.xrest.ls.length - 1) (c0x0 - 1)) (Yl.cutFrom (El31) rfl rfl (by omega)) (Kz (.pointer (some ⟨g0, 0, none⟩)) (Kz (.pointer (some ⟨g0, 0, none⟩)) ?_))))))))))
 refine sto [.slice (cutA A0x0 1 1 c0x0) (p0.xrest.ls.length - 1) (c0x0 - 1)] 0 H Tryz.sizeOf31 ?_
 intro w39 H40
 refine ns (Mz rfl (An rfl (rt (rs ?_))))
 have hn41 : p0.xrest.ls.length - 1 = List.length (List.drop 1 p0.xrest.ls) := by first | omega | (simp only [List.length_drop, List.length_take] <;> omega)
 have H42 : Own w D w39 [blk g0 [.slice (cutA A0x0 1 1 c0x0) (List.length (List.drop 1 p0.xrest.ls)) (c0x0 - 1), .int .i64 p0.xerrno] 120] := by rw [← hn41]; exact H40
 have H43 := H42.pk [0]
 have e : reader_Reader_Octet p0 = (x37, ReaderT.mk (Ll.mk (List.drop 1 p0.xrest.ls)) p0.xerrno) := et (iN h21) (bnd_of (getD_of hx38))
 obtain ⟨rfl, rfl⟩ := pj2 (e.symm.trans hr)
 exact ⟨cutA A0x0 1 1 c0x0, c0x0 - 1, (by first | rfl | (rw [← hn41]; done) | (rw [← hn41]; rfl)), H43, (SubS.cut (SubS.refl (by omega)) (by first | omega | (simp only [List.length_drop]; omega)))⟩
def reader_Reader_Num (p0 : ReaderT) (p1 : Nat) : Nat × ReaderT :=
 bnd (octet_ReadNum p0.xrest.ls) fun yr26 => if yr26.2.2 = 0 then if ((yr26.1 : Nat) : Int) > ((p1 : Nat) : Int) then bnd (reader_Reader_Fail p0 11) fun yr42 => (0, yr42) else (yr26.1, ReaderT.mk (Ll.mk (List.drop (Int.toNat yr26.2.1) p0.xrest.ls)) p0.xerrno) else bnd (reader_Reader_Fail p0 yr26.2.2) fun yr64 => (0, yr64)
set_option maxRecDepth 100000 in
theorem reader_Reader_Num_ok (w : World) (D : Nat → Prop) (g0 : Nat) (p0 : ReaderT) (A0x0 : Option Addr) (c0x0 : Nat) (p1 : Nat) (r0 : Nat) (r1 : ReaderT) (H : Own w D w [blk g0 [.slice A0x0 p0.xrest.ls.length c0x0, .int .i64 p0.xerrno] 120]) (hx0x0 : Ro w D fun w' => Rds w' 1 A0x0 p0.xrest.ls.length (List.flatMap eB p0.xrest.ls)) (hb0x0 : p0.xrest.ls.length ≤ c0x0 ∧ p0.xrest.ls.length ≤ 9223372036854775807) (hr : reader_Reader_Num p0 p1 = (r0, r1)) :
    Calls Tryz.prog 79 #[.pointer (some ⟨g0, 0, none⟩), .int .u64 ((p1 : Nat) : Int)] w (Ret fun v w' => ∃ (B1ox0 : Option Addr) (b1ox0 : Nat), v = .int .u64 ((r0 : Nat) : Int) ∧ Own w D w' [blk g0 [.slice B1ox0 r1.xrest.ls.length b1ox0, .int .i64 r1.xerrno] 120] ∧ (SubS 1 A0x0 c0x0 p0.xrest.ls B1ox0 b1ox0 r1.xrest.ls) ∧ (r0 ≤ p1)) := by
 refine Calls.body (args := [.pointer (some ⟨g0, 0, none⟩), .int .u64 ((p1 : Nat) : Int)]) Tryz.func79 rfl rfl rfl ?_
 show Wp _ _ _ [(0, .pointer (some ⟨g0, 0, none⟩)), (1, .int .u64 ((p1 : Nat) : Int))] _ _
 refine sr (Ar rfl (Mz rfl (Kz (.pointer (some ⟨g0, 0, none⟩)) (Kz (.pointer (some ⟨g0, 0, none⟩)) (Lz (.slice A0x0 p0.xrest.ls.length c0x0) H 0 Tryz.isAgg31 ?_)))))
 obtain ⟨⟨r26, r27, r28⟩, hr29⟩ : ∃ q : Nat × Int × Int, octet_ReadNum p0.xrest.ls = q := ⟨_, rfl⟩
 obtain ⟨D21, HP22, ro23, bk24, rr25⟩ := Own.enter0 H
 refine cl Tryz.call77 (octet_ReadNum_ok _ _ A0x0 p0.xrest.ls.length c0x0 p0.xrest.ls r26 r27 r28 HP22 (ro23 _ hx0x0) rfl (by omega) (by first | omega | (simp only [List.length_take, List.length_drop]; omega) | exact Nat.le_refl _) hr29) ?_
 rintro _ w30 ⟨rfl, HQ31, hk33, hk34⟩
 have H32 := bk24 _ _ HQ31
 replace hk33 : ¬ (r28 = 0) ∨ (1 ≤ r27 ∧ r27 ≤ 10 ∧ r27 ≤ ((p0.xrest.ls.length : Nat) : Int)) := hk33
 replace hk34 : r26 ≤ 18446744073709551615 := hk34
 refine Mz rfl (Kz (.int .u64 ((r26 : Nat) : Int)) (Kz (.int .i64 r27) (Kz (.int .i64 r28) (Az rfl (Az rfl (An rfl (Wp.seq (sr (Mz rfl (Kz (.bool (decide (r28 = 0))) (Mz rfl ?_)))))))))))
 by_cases h35 : r28 = 0
 refine gw (.int .u64 ((r26 : Nat) : Int)) (dT h35) (Yl.move rfl) (gw (.int .u64 ((p1 : Nat) : Int)) (dT h35) (Yl.move rfl) (Gz (.bool (decide (((r26 : Nat) : Int) > ((p1 : Nat) : Int)))) (dT h35) (fw (.bool (decide (((r26 : Nat) : Int) > ((p1 : Nat) : Int)))) (Yl.pickT rfl (dT h35) rfl) (nt ?_))))
 by_cases h36 : ((r26 : Nat) : Int) > ((p1 : Nat) : Int)
 refine jT (dT h36) (Wp.region (An rfl (Wp.seq (sr (Mz rfl (Kz (.bool true) (nt (jt (sr (Mz rfl (Mz rfl ?_)))))))))))
 obtain ⟨r42, hr43⟩ : ∃ q, reader_Reader_Fail p0 11 = q := ⟨_, rfl⟩
 obtain ⟨D37, HP38, ro39, bk40, rr41⟩ := Own.enter1 H32
 refine cl Tryz.call40 (reader_Reader_Fail_ok _ _ g0 p0 A0x0 c0x0 11 r42 HP38 (ro39 _ hx0x0) (show p0.xrest.ls.length ≤ c0x0 ∧ p0.xrest.ls.length ≤ 9223372036854775807 from by omega) hr43) ?_
 rintro _ w44 ⟨A47, c48, rfl, HQ45, hs49⟩
 have H46 := bk40 _ _ HQ45
 replace hs49 : SubS 1 A0x0 c0x0 p0.xrest.ls A47 c48 r42.xrest.ls := hs49
 have hz50 := (hs49).le
 refine ns (An rfl (rt (tR (rs ?_))))
 have H51 := H46.pk [0]
 have e : reader_Reader_Num p0 p1 = (0, r42) := et (bnd_of hr29) (et (ip h35) (et (ip h36) (bnd_of hr43)))
 obtain ⟨rfl, rfl⟩ := pj2 (e.symm.trans hr)
 exact ⟨A47, c48, rfl, H51, hs49, (by omega)⟩
 refine jF (dF h36) (sk (Wp.seq (sr (Mz rfl (fw (.bool (decide (¬ (r28 = 0)))) (Yl.bool (e := !(decide (r28 = 0))) yk decide_not.symm) (nt ?_))))))
 have hb52 : (decide (¬ (r28 = 0))) = false := (dF (by omega))
 refine jF hb52 (sk (sr (Mz rfl (Mz rfl (Kz (.pointer (some ⟨g0, 0, none⟩)) (Kz (.pointer (some ⟨g0, 0, none⟩)) (Lz (.slice A0x0 p0.xrest.ls.length c0x0) H32 0 Tryz.isAgg31 (fw (.int .i64 ((Int.toNat r27 : Nat) : Int)) (Yl.int (e := r27) (Yl.move rfl) (by omega)) (fw (.slice (cutA A0x0 (Int.toNat r27) 1 c0x0) (p0.xrest.ls.length - (Int.toNat r27)) (c0x0 - (Int.toNat r27))) (Yl.cutFrom (El31) rfl rfl (by omega)) (Kz (.pointer (some ⟨g0, 0, none⟩)) (Kz (.pointer (some ⟨g0, 0, none⟩)) ?_)))))))))))
 refine sto [.slice (cutA A0x0 (Int.toNat r27) 1 c0x0) (p0.xrest.ls.length - (Int.toNat r27)) (c0x0 - (Int.toNat r27))] 0 H32 Tryz.sizeOf31 ?_
 intro w53 H54
 refine ns (Mz rfl (An rfl (rt (rs ?_))))
 have hn55 : p0.xrest.ls.length - (Int.toNat r27) = List.length (List.drop (Int.toNat r27) p0.xrest.ls) := by first | omega | (simp only [List.length_drop, List.length_take] <;> omega)
 have H56 : Own w D w53 [blk g0 [.slice (cutA A0x0 (Int.toNat r27) 1 c0x0) (List.length (List.drop (Int.toNat r27) p0.xrest.ls)) (c0x0 - (Int.toNat r27)), .int .i64 p0.xerrno] 120] := by rw [← hn55]; exact H54
 have H57 := H56.pk [0]
 have e : reader_Reader_Num p0 p1 = (r26, ReaderT.mk (Ll.mk (List.drop (Int.toNat r27) p0.xrest.ls)) p0.xerrno) := et (bnd_of hr29) (et (ip h35) (iN h36))
 obtain ⟨rfl, rfl⟩ := pj2 (e.symm.trans hr)
 exact ⟨cutA A0x0 (Int.toNat r27) 1 c0x0, c0x0 - (Int.toNat r27), (by first | rfl | (rw [← hn55]; done) | (rw [← hn55]; rfl)), H57, (SubS.cut (SubS.refl (by omega)) (by first | omega | (simp only [List.length_drop]; omega))), (by omega)⟩
 refine Sz (dF h35) (Sz (dF h35) (Sz (dF h35) (fw (.bool false) (Yl.pickF rfl (dF h35) rfl) (nt (jf (sk (Wp.seq (sr (Mz rfl (fw (.bool (decide (¬ (r28 = 0)))) (Yl.bool (e := !(decide (r28 = 0))) yk decide_not.symm) (nt ?_)))))))))))
 have hb58 : (decide (¬ (r28 = 0))) = true := (dT (by omega))
 refine jT hb58 (sr (Mz rfl (Mz rfl ?_)))
 obtain ⟨r64, hr65⟩ : ∃ q, reader_Reader_Fail p0 r28 = q := ⟨_, rfl⟩
 obtain ⟨D59, HP60, ro61, bk62, rr63⟩ := Own.enter1 H32
 refine cl Tryz.call40 (reader_Reader_Fail_ok _ _ g0 p0 A0x0 c0x0 r28 r64 HP60 (ro61 _ hx0x0) (show p0.xrest.ls.length ≤ c0x0 ∧ p0.xrest.ls.length ≤ 9223372036854775807 from by omega) hr65) ?_
 rintro _ w66 ⟨A69, c70, rfl, HQ67, hs71⟩
 have H68 := bk62 _ _ HQ67
 replace hs71 : SubS 1 A0x0 c0x0 p0.xrest.ls A69 c70 r64.xrest.ls := hs71
 have hz72 := (hs71).le
 refine ns (An rfl (rt (tR (rs ?_))))
 have H73 := H68.pk [0]
 have e : reader_Reader_Num p0 p1 = (0, r64) := et (bnd_of hr29) (et (iN h35) (bnd_of hr65))
 obtain ⟨rfl, rfl⟩ := pj2 (e.symm.trans hr)
 exact ⟨A69, c70, rfl, H73, hs71, (by omega)⟩
def reader_Reader_Text (p0 : ReaderT) (p1 : Int) : (List UInt8) × ReaderT :=
 bnd (octet_ReadText p0.xrest.ls p1) fun yr26 => if yr26.2.2 = 2 then bnd (reader_Reader_Fail p0 11) fun yr40 => ([], yr40) else if yr26.2.2 = 0 then (yr26.1, ReaderT.mk (Ll.mk (List.drop (Int.toNat yr26.2.1) p0.xrest.ls)) p0.xerrno) else bnd (reader_Reader_Fail p0 yr26.2.2) fun yr61 => ([], yr61)
set_option maxRecDepth 100000 in
theorem reader_Reader_Text_ok (w : World) (D : Nat → Prop) (g0 : Nat) (p0 : ReaderT) (A0x0 : Option Addr) (c0x0 : Nat) (p1 : Int) (r0 : List UInt8) (r1 : ReaderT) (H : Own w D w [blk g0 [.slice A0x0 p0.xrest.ls.length c0x0, .int .i64 p0.xerrno] 120]) (hx0x0 : Ro w D fun w' => Rds w' 1 A0x0 p0.xrest.ls.length (List.flatMap eB p0.xrest.ls)) (hb0x0 : p0.xrest.ls.length ≤ c0x0 ∧ p0.xrest.ls.length ≤ 9223372036854775807) (hr : reader_Reader_Text p0 p1 = (r0, r1)) :
    Calls Tryz.prog 109 #[.pointer (some ⟨g0, 0, none⟩), .int .i64 p1] w (Ret fun v w' => ∃ (B1ox0 : Option Addr) (b1ox0 : Nat), v = .string ⟨List.toArray r0⟩ ∧ Own w D w' [blk g0 [.slice B1ox0 r1.xrest.ls.length b1ox0, .int .i64 r1.xerrno] 120] ∧ (SubS 1 A0x0 c0x0 p0.xrest.ls B1ox0 b1ox0 r1.xrest.ls)) := by
 refine Calls.body (args := [.pointer (some ⟨g0, 0, none⟩), .int .i64 p1]) Tryz.func109 rfl rfl rfl ?_
 show Wp _ _ _ [(0, .pointer (some ⟨g0, 0, none⟩)), (1, .int .i64 p1)] _ _
 refine sr (Ar rfl (Mz rfl (Kz (.pointer (some ⟨g0, 0, none⟩)) (Kz (.pointer (some ⟨g0, 0, none⟩)) (Lz (.slice A0x0 p0.xrest.ls.length c0x0) H 0 Tryz.isAgg31 (Mz rfl ?_))))))
 obtain ⟨⟨r26, r27, r28⟩, hr29⟩ : ∃ q : (List UInt8) × Int × Int, octet_ReadText p0.xrest.ls p1 = q := ⟨_, rfl⟩
 obtain ⟨D21, HP22, ro23, bk24, rr25⟩ := Own.enter0 H
 refine cl Tryz.call123 (octet_ReadText_ok _ _ A0x0 p0.xrest.ls.length c0x0 p0.xrest.ls p1 r26 r27 r28 HP22 (ro23 _ hx0x0) rfl (by omega) (by first | omega | (simp only [List.length_take, List.length_drop]; omega) | exact Nat.le_refl _) hr29) ?_
 rintro _ w30 ⟨rfl, HQ31, hk33⟩
 have H32 := bk24 _ _ HQ31
 replace hk33 : ¬ (r28 = 0) ∨ (1 ≤ r27 ∧ r27 ≤ ((p0.xrest.ls.length : Nat) : Int) ∧ r26.length ≤ p0.xrest.ls.length) := hk33
 refine Mz rfl (Kz (.string ⟨List.toArray r26⟩) (Kz (.int .i64 r27) (Kz (.int .i64 r28) (Az rfl (Az rfl (An rfl (Wp.seq (sr (Mz rfl (Kz (.bool (decide (r28 = 2))) (nt ?_)))))))))))
 by_cases h34 : r28 = 2
 refine jT (dT h34) (Wp.region (An rfl (Wp.seq (sr (Mz rfl (Kz (.bool true) (nt (jt (sr (Mz rfl (Mz rfl ?_)))))))))))
 obtain ⟨r40, hr41⟩ : ∃ q, reader_Reader_Fail p0 11 = q := ⟨_, rfl⟩
 obtain ⟨D35, HP36, ro37, bk38, rr39⟩ := Own.enter1 H32
 refine cl Tryz.call40 (reader_Reader_Fail_ok _ _ g0 p0 A0x0 c0x0 11 r40 HP36 (ro37 _ hx0x0) (show p0.xrest.ls.length ≤ c0x0 ∧ p0.xrest.ls.length ≤ 9223372036854775807 from by omega) hr41) ?_
 rintro _ w42 ⟨A45, c46, rfl, HQ43, hs47⟩
 have H44 := bk38 _ _ HQ43
 replace hs47 : SubS 1 A0x0 c0x0 p0.xrest.ls A45 c46 r40.xrest.ls := hs47
 have hz48 := (hs47).le
 refine ns (An rfl (rt (tR (rs ?_))))
 have H49 := H44.pk [0]
 have e : reader_Reader_Text p0 p1 = ([], r40) := et (bnd_of hr29) (et (ip h34) (bnd_of hr41))
 obtain ⟨rfl, rfl⟩ := pj2 (e.symm.trans hr)
 exact ⟨A45, c46, rfl, H49, hs47⟩
 refine jF (dF h34) (sk (Wp.seq (sr (Mz rfl (fw (.bool (decide (¬ (r28 = 0)))) (Yl.bool (e := !(decide (r28 = 0))) yk decide_not.symm) (nt ?_))))))
 by_cases h50 : r28 = 0
 refine jF (dF (not_not_intro h50)) (sk (sr (Mz rfl (Mz rfl (Kz (.pointer (some ⟨g0, 0, none⟩)) (Kz (.pointer (some ⟨g0, 0, none⟩)) (Lz (.slice A0x0 p0.xrest.ls.length c0x0) H32 0 Tryz.isAgg31 (fw (.int .i64 ((Int.toNat r27 : Nat) : Int)) (Yl.int (e := r27) (Yl.move rfl) (by omega)) (fw (.slice (cutA A0x0 (Int.toNat r27) 1 c0x0) (p0.xrest.ls.length - (Int.toNat r27)) (c0x0 - (Int.toNat r27))) (Yl.cutFrom (El31) rfl rfl (by omega)) (Kz (.pointer (some ⟨g0, 0, none⟩)) (Kz (.pointer (some ⟨g0, 0, none⟩)) ?_)))))))))))
 refine sto [.slice (cutA A0x0 (Int.toNat r27) 1 c0x0) (p0.xrest.ls.length - (Int.toNat r27)) (c0x0 - (Int.toNat r27))] 0 H32 Tryz.sizeOf31 ?_
 intro w51 H52
 refine ns (Mz rfl (An rfl (rt (rs ?_))))
 have hn53 : p0.xrest.ls.length - (Int.toNat r27) = List.length (List.drop (Int.toNat r27) p0.xrest.ls) := by first | omega | (simp only [List.length_drop, List.length_take] <;> omega)
 have H54 : Own w D w51 [blk g0 [.slice (cutA A0x0 (Int.toNat r27) 1 c0x0) (List.length (List.drop (Int.toNat r27) p0.xrest.ls)) (c0x0 - (Int.toNat r27)), .int .i64 p0.xerrno] 120] := by rw [← hn53]; exact H52
 have H55 := H54.pk [0]
 have e : reader_Reader_Text p0 p1 = (r26, ReaderT.mk (Ll.mk (List.drop (Int.toNat r27) p0.xrest.ls)) p0.xerrno) := et (bnd_of hr29) (et (iN h34) (ip h50))
 obtain ⟨rfl, rfl⟩ := pj2 (e.symm.trans hr)
 exact ⟨cutA A0x0 (Int.toNat r27) 1 c0x0, c0x0 - (Int.toNat r27), (by first | rfl | (rw [← hn53]; done) | (rw [← hn53]; rfl)), H55, (SubS.cut (SubS.refl (by omega)) (by first | omega | (simp only [List.length_drop]; omega)))⟩
 refine jT (dT h50) (sr (Mz rfl (Mz rfl ?_)))
 obtain ⟨r61, hr62⟩ : ∃ q, reader_Reader_Fail p0 r28 = q := ⟨_, rfl⟩
 obtain ⟨D56, HP57, ro58, bk59, rr60⟩ := Own.enter1 H32
 refine cl Tryz.call40 (reader_Reader_Fail_ok _ _ g0 p0 A0x0 c0x0 r28 r61 HP57 (ro58 _ hx0x0) (show p0.xrest.ls.length ≤ c0x0 ∧ p0.xrest.ls.length ≤ 9223372036854775807 from by omega) hr62) ?_
 rintro _ w63 ⟨A66, c67, rfl, HQ64, hs68⟩
 have H65 := bk59 _ _ HQ64
 replace hs68 : SubS 1 A0x0 c0x0 p0.xrest.ls A66 c67 r61.xrest.ls := hs68
 have hz69 := (hs68).le
 refine ns (An rfl (rt (tR (rs ?_))))
 have H70 := H65.pk [0]
 have e : reader_Reader_Text p0 p1 = ([], r61) := et (bnd_of hr29) (et (iN h34) (et (iN h50) (bnd_of hr62)))
 obtain ⟨rfl, rfl⟩ := pj2 (e.symm.trans hr)
 exact ⟨A66, c67, rfl, H70, hs68⟩
def reader_Reader_End (p0 : ReaderT) : ReaderT :=
 if ((p0.xrest.ls.length : Nat) : Int) > 0 then bnd (reader_Reader_Fail p0 11) fun yr27 => yr27 else p0
set_option maxRecDepth 100000 in
theorem reader_Reader_End_ok (w : World) (D : Nat → Prop) (g0 : Nat) (p0 : ReaderT) (A0x0 : Option Addr) (c0x0 : Nat) (r0 : ReaderT) (H : Own w D w [blk g0 [.slice A0x0 p0.xrest.ls.length c0x0, .int .i64 p0.xerrno] 120]) (hx0x0 : Ro w D fun w' => Rds w' 1 A0x0 p0.xrest.ls.length (List.flatMap eB p0.xrest.ls)) (hb0x0 : p0.xrest.ls.length ≤ c0x0 ∧ p0.xrest.ls.length ≤ 9223372036854775807) (hr : reader_Reader_End p0 = r0) :
    Calls Tryz.prog 42 #[.pointer (some ⟨g0, 0, none⟩)] w (Ret fun v w' => ∃ (B0ox0 : Option Addr) (b0ox0 : Nat), v = .tuple #[] ∧ Own w D w' [blk g0 [.slice B0ox0 r0.xrest.ls.length b0ox0, .int .i64 r0.xerrno] 120] ∧ (SubS 1 A0x0 c0x0 p0.xrest.ls B0ox0 b0ox0 r0.xrest.ls)) := by
 refine Calls.body (args := [.pointer (some ⟨g0, 0, none⟩)]) Tryz.func42 rfl rfl rfl ?_
 show Wp _ _ _ [(0, .pointer (some ⟨g0, 0, none⟩))] _ _
 refine sr (Mz rfl (Kz (.pointer (some ⟨g0, 0, none⟩)) (Kz (.pointer (some ⟨g0, 0, none⟩)) (Lz (.slice A0x0 p0.xrest.ls.length c0x0) H 0 Tryz.isAgg31 (Kz (.int .i64 ((p0.xrest.ls.length : Nat) : Int)) (Kz (.bool (decide (((p0.xrest.ls.length : Nat) : Int) > 0))) (nt ?_)))))))
 by_cases h21 : ((p0.xrest.ls.length : Nat) : Int) > 0
 refine jT (dT h21) (Wp.region (Mz rfl ?_))
 obtain ⟨r27, hr28⟩ : ∃ q, reader_Reader_Fail p0 11 = q := ⟨_, rfl⟩
 obtain ⟨D22, HP23, ro24, bk25, rr26⟩ := Own.enter1 H
 refine cl Tryz.call40 (reader_Reader_Fail_ok _ _ g0 p0 A0x0 c0x0 11 r27 HP23 (ro24 _ hx0x0) (show p0.xrest.ls.length ≤ c0x0 ∧ p0.xrest.ls.length ≤ 9223372036854775807 from by omega) hr28) ?_
 rintro _ w29 ⟨A32, c33, rfl, HQ30, hs34⟩
 have H31 := bk25 _ _ HQ30
 replace hs34 : SubS 1 A0x0 c0x0 p0.xrest.ls A32 c33 r27.xrest.ls := hs34
 have hz35 := (hs34).le
 refine WL.nil (Fin.res0 (res0 rfl) ?_)
 have H36 := H31.pk [0]
 obtain rfl : _ = r27 := hr.symm.trans (et (ip h21) (bnd_of hr28))
 exact ⟨A32, c33, rfl, H36, hs34⟩
 refine jF (dF h21) (Wp.skip (Fin.res0 (res0 rfl) ?_))
 have H37 : Own w D w [blk g0 [.slice A0x0 p0.xrest.ls.length c0x0, .int .i64 p0.xerrno] 120] := H.pk [0]
 obtain rfl : _ = p0 := hr.symm.trans (iN h21)
 exact ⟨A0x0, c0x0, rfl, H37, (SubS.refl (by omega))⟩
def reader_Reader_Err (p0 : ReaderT) : Int :=
 p0.xerrno
set_option maxRecDepth 100000 in
theorem reader_Reader_Err_ok (w : World) (D : Nat → Prop) (g0 : Nat) (p0 : ReaderT) (A0x0 : Option Addr) (c0x0 : Nat) (r0 : Int) (H : Own w D w [blk g0 [.slice A0x0 p0.xrest.ls.length c0x0, .int .i64 p0.xerrno] 120]) (hx0x0 : Ro w D fun w' => Rds w' 1 A0x0 p0.xrest.ls.length (List.flatMap eB p0.xrest.ls)) (hb0x0 : p0.xrest.ls.length ≤ c0x0 ∧ p0.xrest.ls.length ≤ 9223372036854775807) (hr : reader_Reader_Err p0 = r0) :
    Calls Tryz.prog 43 #[.pointer (some ⟨g0, 0, none⟩)] w (Ret fun v w' => v = .int .i64 r0 ∧ Own w D w' [blk g0 [.slice A0x0 p0.xrest.ls.length c0x0, .int .i64 p0.xerrno] 120]) := by
 refine Calls.body (args := [.pointer (some ⟨g0, 0, none⟩)]) Tryz.func43 rfl rfl rfl ?_
 show Wp _ _ _ [(0, .pointer (some ⟨g0, 0, none⟩))] _ _
 refine sr (Ar rfl (Mz rfl (Kz (.pointer (some ⟨g0, 0, none⟩)) (Kz (.pointer (some ⟨g0, 1, none⟩)) (Lz (.int .i64 p0.xerrno) H 0 Tryz.isAgg32 (An rfl (rt (rs ?_))))))))
 have H21 : Own w D w [blk g0 [.slice A0x0 p0.xrest.ls.length c0x0, .int .i64 p0.xerrno] 120] := H.pk [0]
 obtain rfl : _ = p0.xerrno := hr.symm.trans rfl
 exact ⟨rfl, H21⟩
def wire_readTruth (p0 : ReaderT) : Bool × ReaderT :=
 bnd (reader_Reader_Octet p0) fun yr26 => if ((yr26.1.toNat : Nat) : Int) > 1 then bnd (reader_Reader_Fail yr26.2 11) fun yr42 => (decide (((yr26.1.toNat : Nat) : Int) = 1), yr42) else (decide (((yr26.1.toNat : Nat) : Int) = 1), yr26.2)
set_option maxRecDepth 100000 in
theorem wire_readTruth_ok (w : World) (D : Nat → Prop) (g0 : Nat) (p0 : ReaderT) (A0x0 : Option Addr) (c0x0 : Nat) (r0 : Bool) (r1 : ReaderT) (H : Own w D w [blk g0 [.slice A0x0 p0.xrest.ls.length c0x0, .int .i64 p0.xerrno] 120]) (hx0x0 : Ro w D fun w' => Rds w' 1 A0x0 p0.xrest.ls.length (List.flatMap eB p0.xrest.ls)) (hb0x0 : p0.xrest.ls.length ≤ c0x0 ∧ p0.xrest.ls.length ≤ 9223372036854775807) (hr : wire_readTruth p0 = (r0, r1)) :
    Calls Tryz.prog 80 #[.pointer (some ⟨g0, 0, none⟩)] w (Ret fun v w' => ∃ (B1ox0 : Option Addr) (b1ox0 : Nat), v = .bool r0 ∧ Own w D w' [blk g0 [.slice B1ox0 r1.xrest.ls.length b1ox0, .int .i64 r1.xerrno] 120] ∧ (SubS 1 A0x0 c0x0 p0.xrest.ls B1ox0 b1ox0 r1.xrest.ls)) := by
 refine Calls.body (args := [.pointer (some ⟨g0, 0, none⟩)]) Tryz.func80 rfl rfl rfl ?_
 show Wp _ _ _ [(0, .pointer (some ⟨g0, 0, none⟩))] _ _
 refine sr (Ar rfl (Mz rfl ?_))
 obtain ⟨⟨r26, r27⟩, hr28⟩ : ∃ q : UInt8 × ReaderT, reader_Reader_Octet p0 = q := ⟨_, rfl⟩
 obtain ⟨D21, HP22, ro23, bk24, rr25⟩ := Own.enter1 H
 refine cl Tryz.call39 (reader_Reader_Octet_ok _ _ g0 p0 A0x0 c0x0 r26 r27 HP22 (ro23 _ hx0x0) (show p0.xrest.ls.length ≤ c0x0 ∧ p0.xrest.ls.length ≤ 9223372036854775807 from by omega) hr28) ?_
 rintro _ w29 ⟨A32, c33, rfl, HQ30, hs34⟩
 have H31 := bk24 _ _ HQ30
 replace hs34 : SubS 1 A0x0 c0x0 p0.xrest.ls A32 c33 r27.xrest.ls := hs34
 have hz35 := (hs34).le
 refine An rfl (Wp.seq (sr (Mz rfl (Kz (.bool (decide (((r26.toNat : Nat) : Int) > 1))) (nt ?_)))))
 by_cases h36 : ((r26.toNat : Nat) : Int) > 1
 refine jT (dT h36) (Wp.region (Mz rfl ?_))
 obtain ⟨r42, hr43⟩ : ∃ q, reader_Reader_Fail r27 11 = q := ⟨_, rfl⟩
 obtain ⟨D37, HP38, ro39, bk40, rr41⟩ := Own.enter1 H31
 refine cl Tryz.call40 (reader_Reader_Fail_ok _ _ g0 r27 A32 c33 11 r42 HP38 (fun w9 h9 => SubS.rds eB_len (by decide) hs34 ((ro39 _ hx0x0) w9 h9)) (show r27.xrest.ls.length ≤ c33 ∧ r27.xrest.ls.length ≤ 9223372036854775807 from by omega) hr43) ?_
 rintro _ w44 ⟨A47, c48, rfl, HQ45, hs49⟩
 have H46 := bk40 _ _ HQ45
 replace hs49 : SubS 1 A32 c33 r27.xrest.ls A47 c48 r42.xrest.ls := hs49
 have hz50 := (hs49).le
 refine ns (Mz rfl (Kz (.bool (decide (((r26.toNat : Nat) : Int) = 1))) (An rfl (rt (rs ?_)))))
 have H51 := H46.pk [0]
 have e : wire_readTruth p0 = (decide (((r26.toNat : Nat) : Int) = 1), r42) := et (bnd_of hr28) (et (ip h36) (bnd_of hr43))
 obtain ⟨rfl, rfl⟩ := pj2 (e.symm.trans hr)
 exact ⟨A47, c48, rfl, H51, (SubS.trans hs34 hs49)⟩
 refine jF (dF h36) (sk (sr (Mz rfl (Kz (.bool (decide (((r26.toNat : Nat) : Int) = 1))) (An rfl (rt (rs ?_)))))))
 have H52 := H31.pk [0]
 have e : wire_readTruth p0 = (decide (((r26.toNat : Nat) : Int) = 1), r27) := et (bnd_of hr28) (iN h36)
 obtain ⟨rfl, rfl⟩ := pj2 (e.symm.trans hr)
 exact ⟨A32, c33, rfl, H52, hs34⟩
def wire_readOp (p0 : ReaderT) : OpD × ReaderT :=
 bnd (reader_Reader_Octet p0) fun yr30 => bnd (reader_Reader_Text yr30.2 255) fun yr56 => bnd (reader_Reader_Text yr56.2 255) fun yr76 => bnd (reader_Reader_Text yr76.2 255) fun yr96 => bnd (reader_Reader_Text yr96.2 255) fun yr116 => bnd (reader_Reader_Octet yr116.2) fun yr136 => (OpD.mk ((yr30.1.toNat : Nat) : Int) yr56.1 yr76.1 yr96.1 yr116.1 ((yr136.1.toNat : Nat) : Int), yr136.2)
set_option maxRecDepth 100000 in
theorem wire_readOp_ok (w : World) (D : Nat → Prop) (g0 : Nat) (p0 : ReaderT) (A0x0 : Option Addr) (c0x0 : Nat) (r0 : OpD) (r1 : ReaderT) (H : Own w D w [blk g0 [.slice A0x0 p0.xrest.ls.length c0x0, .int .i64 p0.xerrno] 120]) (hx0x0 : Ro w D fun w' => Rds w' 1 A0x0 p0.xrest.ls.length (List.flatMap eB p0.xrest.ls)) (hb0x0 : p0.xrest.ls.length ≤ c0x0 ∧ p0.xrest.ls.length ≤ 9223372036854775807) (hr : wire_readOp p0 = (r0, r1)) :
    Calls Tryz.prog 83 #[.pointer (some ⟨g0, 0, none⟩)] w (Ret fun v w' => ∃ (B1ox0 : Option Addr) (b1ox0 : Nat), v = .agg (OpD.cells r0).toArray ∧ Own w D w' [blk g0 [.slice B1ox0 r1.xrest.ls.length b1ox0, .int .i64 r1.xerrno] 120] ∧ (SubS 1 A0x0 c0x0 p0.xrest.ls B1ox0 b1ox0 r1.xrest.ls)) := by
 refine Calls.body (args := [.pointer (some ⟨g0, 0, none⟩)]) Tryz.func83 rfl rfl rfl ?_
 show Wp _ _ _ [(0, .pointer (some ⟨g0, 0, none⟩))] _ _
 refine sr ?_
 refine npw [.int .i64 0, .string ⟨List.toArray ([])⟩, .string ⟨List.toArray ([])⟩, .string ⟨List.toArray ([])⟩, .string ⟨List.toArray ([])⟩, .int .i64 0] 64 H ?_
 intro g21 w22 H23
 refine ns (Mz rfl ?_)
 have H24 := H23.pk [1, 0]
 obtain ⟨⟨r30, r31⟩, hr32⟩ : ∃ q : UInt8 × ReaderT, reader_Reader_Octet p0 = q := ⟨_, rfl⟩
 obtain ⟨D25, HP26, ro27, bk28, rr29⟩ := Own.enter1 H24
 refine cl Tryz.call39 (reader_Reader_Octet_ok _ _ g0 p0 A0x0 c0x0 r30 r31 HP26 (ro27 _ hx0x0) (show p0.xrest.ls.length ≤ c0x0 ∧ p0.xrest.ls.length ≤ 9223372036854775807 from by omega) hr32) ?_
 rintro _ w33 ⟨A36, c37, rfl, HQ34, hs38⟩
 have H35 := bk28 _ _ HQ34
 replace hs38 : SubS 1 A0x0 c0x0 p0.xrest.ls A36 c37 r31.xrest.ls := hs38
 have hz39 := (hs38).le
 have hz40 : r30.toNat ≤ 255 := Nat.le_of_lt_succ (UInt8.toNat_lt _)
 refine fw (.int .i64 ((r30.toNat : Nat) : Int)) (Yl.int (e := IntKind.i64.wrap ((r30.toNat : Nat) : Int)) yk (IntWalk.i64_in _ (by omega))) (Kz (.agg #[.int .i64 ((r30.toNat : Nat) : Int), .string ⟨List.toArray ([])⟩, .string ⟨List.toArray ([])⟩, .string ⟨List.toArray ([])⟩, .string ⟨List.toArray ([])⟩, .int .i64 0]) ?_)
 refine npw [.int .i64 0, .string ⟨List.toArray ([])⟩, .string ⟨List.toArray ([])⟩, .string ⟨List.toArray ([])⟩, .string ⟨List.toArray ([])⟩, .int .i64 0] 64 H35 ?_
 intro g41 w42 H43
 refine sto [.int .i64 ((r30.toNat : Nat) : Int), .string ⟨List.toArray ([])⟩, .string ⟨List.toArray ([])⟩, .string ⟨List.toArray ([])⟩, .string ⟨List.toArray ([])⟩, .int .i64 0] 0 H43 Tryz.sizeOf64 ?_
 intro w44 H45
 refine ns (Mz rfl (Kz (.pointer (some ⟨g41, 1, none⟩)) (Kz (.pointer (some ⟨g41, 2, none⟩)) (Kz (.pointer (some ⟨g41, 3, none⟩)) (Kz (.pointer (some ⟨g41, 4, none⟩)) ?_)))))
 refine nrw [.pointer (some ⟨g41, 1, none⟩), .pointer (some ⟨g41, 2, none⟩), .pointer (some ⟨g41, 3, none⟩), .pointer (some ⟨g41, 4, none⟩)] 124 1 4 H45 ?_
 intro A46 w47 H48
 replace H48 := Own.reh (y := row A46 4 4 (List.flatMap eV ([(Value.pointer (some ⟨g41, 1, none⟩)), (Value.pointer (some ⟨g41, 2, none⟩)), (Value.pointer (some ⟨g41, 3, none⟩)), (Value.pointer (some ⟨g41, 4, none⟩))])) 124 1) rfl H48
 refine WL.do rfl (Do.call Tryz.call81 rfl ?_ (fun _ _ k => k))
 refine Calls.body (args := [.pointer (some ⟨g0, 0, none⟩), .slice A46 4 4]) Tryz.func81 rfl rfl rfl ?_
 show Wp _ _ _ [(0, .pointer (some ⟨g0, 0, none⟩)), (1, .slice A46 4 4)] _ _
 refine sr (Mz rfl (Kz (.int .i64 4) (Mn rfl (bo (Wp.unroll 200 (sr (Kz (.bool true) (nt (Wp.seq (jt (sk (Wp.seq (bo (sr ?_))))))))))))))
 have hx49 : ([(Value.pointer (some ⟨g41, 1, none⟩)), (Value.pointer (some ⟨g41, 2, none⟩)), (Value.pointer (some ⟨g41, 3, none⟩)), (Value.pointer (some ⟨g41, 4, none⟩))] : List Value)[0]? = some (Value.pointer (some ⟨g41, 1, none⟩)) := rfl
 refine fw (.pointer (some ⟨ab A46, ao A46 + 0 * 1, none⟩)) (Yl.indexAddr (El148) rfl rfl ((H48.rds (i := 0) rfl).addr (i := 0) (by omega)) (by omega)) (fw (.pointer (some ⟨g41, 1, none⟩)) (Yl.load rfl (Lds.one Tryz.isAgg124 (((H48.rds (i := 0) rfl).elem eV_len hx49 (by decide)).at_ (k := 0) rfl))) (An rfl (Wp.region (Mz rfl (Mz rfl ?_)))))
 have H50 := H48.pk [2, 0, 1, 3]
 obtain ⟨⟨r56, r57⟩, hr58⟩ : ∃ q : (List UInt8) × ReaderT, reader_Reader_Text r31 255 = q := ⟨_, rfl⟩
 obtain ⟨D51, HP52, ro53, bk54, rr55⟩ := Own.enter1 H50
 refine cl Tryz.call109 (reader_Reader_Text_ok _ _ g0 r31 A36 c37 255 r56 r57 HP52 (fun w9 h9 => SubS.rds eB_len (by decide) hs38 ((ro53 _ hx0x0) w9 h9)) (show r31.xrest.ls.length ≤ c37 ∧ r31.xrest.ls.length ≤ 9223372036854775807 from by omega) hr58) ?_
 rintro _ w59 ⟨A62, c63, rfl, HQ60, hs64⟩
 have H61 := bk54 _ _ HQ60
 replace hs64 : SubS 1 A36 c37 r31.xrest.ls A62 c63 r57.xrest.ls := hs64
 have hz65 := (hs64).le
 refine Kz (.pointer (some ⟨g41, 1, none⟩)) ?_
 have H66 := H61.pk [2, 0, 1, 3]
 refine sto [.string ⟨List.toArray r56⟩] 1 H66 Tryz.sizeOf9 ?_
 intro w67 H68
 refine WL.nil (bN (Fin.then (Wp.region (Kz (.int .i64 1) (Mz rfl (WL.nil (Fin.again [(8, .int .i64 1), (7, .int .i64 4), (6, .slice A46 4 4), (0, .pointer (some ⟨g0, 0, none⟩))] ⟨rfl, rfl, rfl, rfl, trivial⟩ (sr (Kz (.bool true) (nt (Wp.seq (jt (sk (Wp.seq (bo (sr ?_))))))))))))))))
 have hx69 : ([(Value.pointer (some ⟨g41, 1, none⟩)), (Value.pointer (some ⟨g41, 2, none⟩)), (Value.pointer (some ⟨g41, 3, none⟩)), (Value.pointer (some ⟨g41, 4, none⟩))] : List Value)[1]? = some (Value.pointer (some ⟨g41, 2, none⟩)) := rfl
 refine fw (.pointer (some ⟨ab A46, ao A46 + 1 * 1, none⟩)) (Yl.indexAddr (El148) rfl rfl ((H68.rds (i := 2) rfl).addr (i := 1) (by omega)) (by omega)) (fw (.pointer (some ⟨g41, 2, none⟩)) (Yl.load rfl (Lds.one Tryz.isAgg124 (((H68.rds (i := 2) rfl).elem eV_len hx69 (by decide)).at_ (k := 0) rfl))) (An rfl (Wp.region (Mz rfl (Mz rfl ?_)))))
 have H70 := H68.pk [1, 0, 2, 3]
 obtain ⟨⟨r76, r77⟩, hr78⟩ : ∃ q : (List UInt8) × ReaderT, reader_Reader_Text r57 255 = q := ⟨_, rfl⟩
 obtain ⟨D71, HP72, ro73, bk74, rr75⟩ := Own.enter1 H70
 refine cl Tryz.call109 (reader_Reader_Text_ok _ _ g0 r57 A62 c63 255 r76 r77 HP72 (fun w9 h9 => SubS.rds eB_len (by decide) hs64 ((fun w9 h9 => SubS.rds eB_len (by decide) hs38 ((ro73 _ hx0x0) w9 h9)) w9 h9)) (show r57.xrest.ls.length ≤ c63 ∧ r57.xrest.ls.length ≤ 9223372036854775807 from by omega) hr78) ?_
 rintro _ w79 ⟨A82, c83, rfl, HQ80, hs84⟩
 have H81 := bk74 _ _ HQ80
 replace hs84 : SubS 1 A62 c63 r57.xrest.ls A82 c83 r77.xrest.ls := hs84
 have hz85 := (hs84).le
 refine Kz (.pointer (some ⟨g41, 2, none⟩)) ?_
 have H86 := H81.pk [1, 0, 2, 3]
 refine sto [.string ⟨List.toArray r76⟩] 2 H86 Tryz.sizeOf9 ?_
 intro w87 H88
 refine WL.nil (bN (Fin.then (Wp.region (Kz (.int .i64 2) (Mz rfl (WL.nil (Fin.again [(8, .int .i64 2), (7, .int .i64 4), (6, .slice A46 4 4), (0, .pointer (some ⟨g0, 0, none⟩))] ⟨rfl, rfl, rfl, rfl, trivial⟩ (sr (Kz (.bool true) (nt (Wp.seq (jt (sk (Wp.seq (bo (sr ?_))))))))))))))))
 have hx89 : ([(Value.pointer (some ⟨g41, 1, none⟩)), (Value.pointer (some ⟨g41, 2, none⟩)), (Value.pointer (some ⟨g41, 3, none⟩)), (Value.pointer (some ⟨g41, 4, none⟩))] : List Value)[2]? = some (Value.pointer (some ⟨g41, 3, none⟩)) := rfl
 refine fw (.pointer (some ⟨ab A46, ao A46 + 2 * 1, none⟩)) (Yl.indexAddr (El148) rfl rfl ((H88.rds (i := 2) rfl).addr (i := 2) (by omega)) (by omega)) (fw (.pointer (some ⟨g41, 3, none⟩)) (Yl.load rfl (Lds.one Tryz.isAgg124 (((H88.rds (i := 2) rfl).elem eV_len hx89 (by decide)).at_ (k := 0) rfl))) (An rfl (Wp.region (Mz rfl (Mz rfl ?_)))))
 have H90 := H88.pk [1, 0, 2, 3]
 obtain ⟨⟨r96, r97⟩, hr98⟩ : ∃ q : (List UInt8) × ReaderT, reader_Reader_Text r77 255 = q := ⟨_, rfl⟩
 obtain ⟨D91, HP92, ro93, bk94, rr95⟩ := Own.enter1 H90
 refine cl Tryz.call109 (reader_Reader_Text_ok _ _ g0 r77 A82 c83 255 r96 r97 HP92 (fun w9 h9 => SubS.rds eB_len (by decide) hs84 ((fun w9 h9 => SubS.rds eB_len (by decide) hs64 ((fun w9 h9 => SubS.rds eB_len (by decide) hs38 ((ro93 _ hx0x0) w9 h9)) w9 h9)) w9 h9)) (show r77.xrest.ls.length ≤ c83 ∧ r77.xrest.ls.length ≤ 9223372036854775807 from by omega) hr98) ?_
 rintro _ w99 ⟨A102, c103, rfl, HQ100, hs104⟩
 have H101 := bk94 _ _ HQ100
 replace hs104 : SubS 1 A82 c83 r77.xrest.ls A102 c103 r97.xrest.ls := hs104
 have hz105 := (hs104).le
 refine Kz (.pointer (some ⟨g41, 3, none⟩)) ?_
 have H106 := H101.pk [1, 0, 2, 3]
 refine sto [.string ⟨List.toArray r96⟩] 3 H106 Tryz.sizeOf9 ?_
 intro w107 H108
 refine WL.nil (bN (Fin.then (Wp.region (Kz (.int .i64 3) (Mz rfl (WL.nil (Fin.again [(8, .int .i64 3), (7, .int .i64 4), (6, .slice A46 4 4), (0, .pointer (some ⟨g0, 0, none⟩))] ⟨rfl, rfl, rfl, rfl, trivial⟩ (sr (Kz (.bool true) (nt (Wp.seq (jt (sk (Wp.seq (bo (sr ?_))))))))))))))))
 have hx109 : ([(Value.pointer (some ⟨g41, 1, none⟩)), (Value.pointer (some ⟨g41, 2, none⟩)), (Value.pointer (some ⟨g41, 3, none⟩)), (Value.pointer (some ⟨g41, 4, none⟩))] : List Value)[3]? = some (Value.pointer (some ⟨g41, 4, none⟩)) := rfl
 refine fw (.pointer (some ⟨ab A46, ao A46 + 3 * 1, none⟩)) (Yl.indexAddr (El148) rfl rfl ((H108.rds (i := 2) rfl).addr (i := 3) (by omega)) (by omega)) (fw (.pointer (some ⟨g41, 4, none⟩)) (Yl.load rfl (Lds.one Tryz.isAgg124 (((H108.rds (i := 2) rfl).elem eV_len hx109 (by decide)).at_ (k := 0) rfl))) (An rfl (Wp.region (Mz rfl (Mz rfl ?_)))))
 have H110 := H108.pk [1, 0, 2, 3]
 obtain ⟨⟨r116, r117⟩, hr118⟩ : ∃ q : (List UInt8) × ReaderT, reader_Reader_Text r97 255 = q := ⟨_, rfl⟩
 obtain ⟨D111, HP112, ro113, bk114, rr115⟩ := Own.enter1 H110
 refine cl Tryz.call109 (reader_Reader_Text_ok _ _ g0 r97 A102 c103 255 r116 r117 HP112 (fun w9 h9 => SubS.rds eB_len (by decide) hs104 ((fun w9 h9 => SubS.rds eB_len (by decide) hs84 ((fun w9 h9 => SubS.rds eB_len (by decide) hs64 ((fun w9 h9 => SubS.rds eB_len (by decide) hs38 ((ro113 _ hx0x0) w9 h9)) w9 h9)) w9 h9)) w9 h9)) (show r97.xrest.ls.length ≤ c103 ∧ r97.xrest.ls.length ≤ 9223372036854775807 from by omega) hr118) ?_
 rintro _ w119 ⟨A122, c123, rfl, HQ120, hs124⟩
 have H121 := bk114 _ _ HQ120
 replace hs124 : SubS 1 A102 c103 r97.xrest.ls A122 c123 r117.xrest.ls := hs124
 have hz125 := (hs124).le
 refine Kz (.pointer (some ⟨g41, 4, none⟩)) ?_
 have H126 := H121.pk [1, 0, 2, 3]
 refine sto [.string ⟨List.toArray r116⟩] 4 H126 Tryz.sizeOf9 ?_
 intro w127 H128
 refine WL.nil (bN (Fin.then (Wp.region (Kz (.int .i64 4) (Mz rfl (WL.nil (Fin.again [(8, .int .i64 4), (7, .int .i64 4), (6, .slice A46 4 4), (0, .pointer (some ⟨g0, 0, none⟩))] ⟨rfl, rfl, rfl, rfl, trivial⟩ (sr (Kz (.bool false) (nt (Wp.seq (jf (Wp.exit (Fin.thenX (Fin.thenX (Fin.blockX (Fin.res0 (res0 rfl) (nt (Wp.seq ?_)))))))))))))))))))
 have H129 := H128.pk [0, 1, 3]
 refine Wp.region (Mz rfl ?_)
 have H130 := H129.pk [1, 0, 2]
 obtain ⟨⟨r136, r137⟩, hr138⟩ : ∃ q : UInt8 × ReaderT, reader_Reader_Octet r117 = q := ⟨_, rfl⟩
 obtain ⟨D131, HP132, ro133, bk134, rr135⟩ := Own.enter1 H130
 refine cl Tryz.call39 (reader_Reader_Octet_ok _ _ g0 r117 A122 c123 r136 r137 HP132 (fun w9 h9 => SubS.rds eB_len (by decide) hs124 ((fun w9 h9 => SubS.rds eB_len (by decide) hs104 ((fun w9 h9 => SubS.rds eB_len (by decide) hs84 ((fun w9 h9 => SubS.rds eB_len (by decide) hs64 ((fun w9 h9 => SubS.rds eB_len (by decide) hs38 ((ro133 _ hx0x0) w9 h9)) w9 h9)) w9 h9)) w9 h9)) w9 h9)) (show r117.xrest.ls.length ≤ c123 ∧ r117.xrest.ls.length ≤ 9223372036854775807 from by omega) hr138) ?_
 rintro _ w139 ⟨A142, c143, rfl, HQ140, hs144⟩
 have H141 := bk134 _ _ HQ140
 replace hs144 : SubS 1 A122 c123 r117.xrest.ls A142 c143 r137.xrest.ls := hs144
 have hz145 := (hs144).le
 have hz146 : r136.toNat ≤ 255 := Nat.le_of_lt_succ (UInt8.toNat_lt _)
 refine fw (.int .i64 ((r136.toNat : Nat) : Int)) (Yl.int (e := IntKind.i64.wrap ((r136.toNat : Nat) : Int)) yk (IntWalk.i64_in _ (by omega))) (Kz (.pointer (some ⟨g41, 5, none⟩)) ?_)
 have H147 := H141.pk [1, 0, 2]
 refine sto [.int .i64 ((r136.toNat : Nat) : Int)] 5 H147 Tryz.sizeOf3 ?_
 intro w148 H149
 refine ns (La ([.int .i64 ((r30.toNat : Nat) : Int), .string ⟨List.toArray r56⟩, .string ⟨List.toArray r76⟩, .string ⟨List.toArray r96⟩, .string ⟨List.toArray r116⟩, .int .i64 ((r136.toNat : Nat) : Int)]) H149 0 Tryz.isAgg64 Tryz.sizeOf64 ?_)
 have H150 := H149.pk [2, 0, 1]
 refine sto [.int .i64 ((r30.toNat : Nat) : Int), .string ⟨List.toArray r56⟩, .string ⟨List.toArray r76⟩, .string ⟨List.toArray r96⟩, .string ⟨List.toArray r116⟩, .int .i64 ((r136.toNat : Nat) : Int)] 0 H150 Tryz.sizeOf64 ?_
 intro w151 H152
 refine nt (rt (Fin.res (resC rfl rfl (Lds.agg (cs := [.int .i64 ((r30.toNat : Nat) : Int), .string ⟨List.toArray r56⟩, .string ⟨List.toArray r76⟩, .string ⟨List.toArray r96⟩, .string ⟨List.toArray r116⟩, .int .i64 ((r136.toNat : Nat) : Int)]) Tryz.isAgg64 Tryz.sizeOf64 ((H152.cls (i := 0) rfl).lit (k := 0) (m := 6) rfl))) ?_))
 have H153 := H152.pk [2]
 have e : wire_readOp p0 = (OpD.mk ((r30.toNat : Nat) : Int) r56 r76 r96 r116 ((r136.toNat : Nat) : Int), r137) := et (bnd_of hr32) (et (bnd_of hr58) (et (bnd_of hr78) (et (bnd_of hr98) (et (bnd_of hr118) (bnd_of hr138)))))
 obtain ⟨rfl, rfl⟩ := pj2 (e.symm.trans hr)
 exact ⟨A142, c143, rfl, H153, (SubS.trans (SubS.trans (SubS.trans (SubS.trans (SubS.trans hs38 hs64) hs84) hs104) hs124) hs144)⟩
def wire_readPair (p0 : ReaderT) : PairD × ReaderT :=
 bnd (reader_Reader_Text p0 255) fun yr37 => bnd (reader_Reader_Text yr37.2 255) fun yr57 => (PairD.mk yr37.1 yr57.1, yr57.2)
set_option maxRecDepth 100000 in
theorem wire_readPair_ok (w : World) (D : Nat → Prop) (g0 : Nat) (p0 : ReaderT) (A0x0 : Option Addr) (c0x0 : Nat) (r0 : PairD) (r1 : ReaderT) (H : Own w D w [blk g0 [.slice A0x0 p0.xrest.ls.length c0x0, .int .i64 p0.xerrno] 120]) (hx0x0 : Ro w D fun w' => Rds w' 1 A0x0 p0.xrest.ls.length (List.flatMap eB p0.xrest.ls)) (hb0x0 : p0.xrest.ls.length ≤ c0x0 ∧ p0.xrest.ls.length ≤ 9223372036854775807) (hr : wire_readPair p0 = (r0, r1)) :
    Calls Tryz.prog 113 #[.pointer (some ⟨g0, 0, none⟩)] w (Ret fun v w' => ∃ (B1ox0 : Option Addr) (b1ox0 : Nat), v = .agg (PairD.cells r0).toArray ∧ Own w D w' [blk g0 [.slice B1ox0 r1.xrest.ls.length b1ox0, .int .i64 r1.xerrno] 120] ∧ (SubS 1 A0x0 c0x0 p0.xrest.ls B1ox0 b1ox0 r1.xrest.ls)) := by
 refine Calls.body (args := [.pointer (some ⟨g0, 0, none⟩)]) Tryz.func113 rfl rfl rfl ?_
 show Wp _ _ _ [(0, .pointer (some ⟨g0, 0, none⟩))] _ _
 refine sr ?_
 refine npw [.string ⟨List.toArray ([])⟩, .string ⟨List.toArray ([])⟩] 86 H ?_
 intro g21 w22 H23
 refine ns ?_
 refine npw [.string ⟨List.toArray ([])⟩, .string ⟨List.toArray ([])⟩] 86 H23 ?_
 intro g24 w25 H26
 refine ns (Mz rfl (Kz (.pointer (some ⟨g24, 0, none⟩)) (Kz (.pointer (some ⟨g24, 1, none⟩)) ?_)))
 refine nrw [.pointer (some ⟨g24, 0, none⟩), .pointer (some ⟨g24, 1, none⟩)] 124 1 2 H26 ?_
 intro A27 w28 H29
 replace H29 := Own.reh (y := row A27 2 2 (List.flatMap eV ([(Value.pointer (some ⟨g24, 0, none⟩)), (Value.pointer (some ⟨g24, 1, none⟩))])) 124 1) rfl H29
 refine WL.do rfl (Do.call Tryz.call81 rfl ?_ (fun _ _ k => k))
 refine Calls.body (args := [.pointer (some ⟨g0, 0, none⟩), .slice A27 2 2]) Tryz.func81 rfl rfl rfl ?_
 show Wp _ _ _ [(0, .pointer (some ⟨g0, 0, none⟩)), (1, .slice A27 2 2)] _ _
 refine sr (Mz rfl (Kz (.int .i64 2) (Mn rfl (bo (Wp.unroll 200 (sr (Kz (.bool true) (nt (Wp.seq (jt (sk (Wp.seq (bo (sr ?_))))))))))))))
 have hx30 : ([(Value.pointer (some ⟨g24, 0, none⟩)), (Value.pointer (some ⟨g24, 1, none⟩))] : List Value)[0]? = some (Value.pointer (some ⟨g24, 0, none⟩)) := rfl
 refine fw (.pointer (some ⟨ab A27, ao A27 + 0 * 1, none⟩)) (Yl.indexAddr (El148) rfl rfl ((H29.rds (i := 0) rfl).addr (i := 0) (by omega)) (by omega)) (fw (.pointer (some ⟨g24, 0, none⟩)) (Yl.load rfl (Lds.one Tryz.isAgg124 (((H29.rds (i := 0) rfl).elem eV_len hx30 (by decide)).at_ (k := 0) rfl))) (An rfl (Wp.region (Mz rfl (Mz rfl ?_)))))
 have H31 := H29.pk [3, 0, 1, 2]
 obtain ⟨⟨r37, r38⟩, hr39⟩ : ∃ q : (List UInt8) × ReaderT, reader_Reader_Text p0 255 = q := ⟨_, rfl⟩
 obtain ⟨D32, HP33, ro34, bk35, rr36⟩ := Own.enter1 H31
 refine cl Tryz.call109 (reader_Reader_Text_ok _ _ g0 p0 A0x0 c0x0 255 r37 r38 HP33 (ro34 _ hx0x0) (show p0.xrest.ls.length ≤ c0x0 ∧ p0.xrest.ls.length ≤ 9223372036854775807 from by omega) hr39) ?_
 rintro _ w40 ⟨A43, c44, rfl, HQ41, hs45⟩
 have H42 := bk35 _ _ HQ41
 replace hs45 : SubS 1 A0x0 c0x0 p0.xrest.ls A43 c44 r38.xrest.ls := hs45
 have hz46 := (hs45).le
 refine Kz (.pointer (some ⟨g24, 0, none⟩)) ?_
 have H47 := H42.pk [2, 0, 1, 3]
 refine sto [.string ⟨List.toArray r37⟩] 0 H47 Tryz.sizeOf9 ?_
 intro w48 H49
 refine WL.nil (bN (Fin.then (Wp.region (Kz (.int .i64 1) (Mz rfl (WL.nil (Fin.again [(8, .int .i64 1), (7, .int .i64 2), (6, .slice A27 2 2), (0, .pointer (some ⟨g0, 0, none⟩))] ⟨rfl, rfl, rfl, rfl, trivial⟩ (sr (Kz (.bool true) (nt (Wp.seq (jt (sk (Wp.seq (bo (sr ?_))))))))))))))))
 have hx50 : ([(Value.pointer (some ⟨g24, 0, none⟩)), (Value.pointer (some ⟨g24, 1, none⟩))] : List Value)[1]? = some (Value.pointer (some ⟨g24, 1, none⟩)) := rfl
 refine fw (.pointer (some ⟨ab A27, ao A27 + 1 * 1, none⟩)) (Yl.indexAddr (El148) rfl rfl ((H49.rds (i := 2) rfl).addr (i := 1) (by omega)) (by omega)) (fw (.pointer (some ⟨g24, 1, none⟩)) (Yl.load rfl (Lds.one Tryz.isAgg124 (((H49.rds (i := 2) rfl).elem eV_len hx50 (by decide)).at_ (k := 0) rfl))) (An rfl (Wp.region (Mz rfl (Mz rfl ?_)))))
 have H51 := H49.pk [1, 0, 2, 3]
 obtain ⟨⟨r57, r58⟩, hr59⟩ : ∃ q : (List UInt8) × ReaderT, reader_Reader_Text r38 255 = q := ⟨_, rfl⟩
 obtain ⟨D52, HP53, ro54, bk55, rr56⟩ := Own.enter1 H51
 refine cl Tryz.call109 (reader_Reader_Text_ok _ _ g0 r38 A43 c44 255 r57 r58 HP53 (fun w9 h9 => SubS.rds eB_len (by decide) hs45 ((ro54 _ hx0x0) w9 h9)) (show r38.xrest.ls.length ≤ c44 ∧ r38.xrest.ls.length ≤ 9223372036854775807 from by omega) hr59) ?_
 rintro _ w60 ⟨A63, c64, rfl, HQ61, hs65⟩
 have H62 := bk55 _ _ HQ61
 replace hs65 : SubS 1 A43 c44 r38.xrest.ls A63 c64 r58.xrest.ls := hs65
 have hz66 := (hs65).le
 refine Kz (.pointer (some ⟨g24, 1, none⟩)) ?_
 have H67 := H62.pk [1, 0, 2, 3]
 refine sto [.string ⟨List.toArray r57⟩] 1 H67 Tryz.sizeOf9 ?_
 intro w68 H69
 refine WL.nil (bN (Fin.then (Wp.region (Kz (.int .i64 2) (Mz rfl (WL.nil (Fin.again [(8, .int .i64 2), (7, .int .i64 2), (6, .slice A27 2 2), (0, .pointer (some ⟨g0, 0, none⟩))] ⟨rfl, rfl, rfl, rfl, trivial⟩ (sr (Kz (.bool false) (nt (Wp.seq (jf (Wp.exit (Fin.thenX (Fin.thenX (Fin.blockX (Fin.res0 (res0 rfl) (nt (Wp.seq ?_)))))))))))))))))))
 have H70 := H69.pk [0, 1, 3]
 refine Wp.region (La ([.string ⟨List.toArray r37⟩, .string ⟨List.toArray r57⟩]) H70 0 Tryz.isAgg86 Tryz.sizeOf86 ?_)
 have H71 := H70.pk [2, 0, 1]
 refine sto [.string ⟨List.toArray r37⟩, .string ⟨List.toArray r57⟩] 0 H71 Tryz.sizeOf86 ?_
 intro w72 H73
 refine nt (rt (Fin.res (resC rfl rfl (Lds.agg (cs := [.string ⟨List.toArray r37⟩, .string ⟨List.toArray r57⟩]) Tryz.isAgg86 Tryz.sizeOf86 ((H73.cls (i := 0) rfl).lit (k := 0) (m := 2) rfl))) ?_))
 have H74 := H73.pk [2]
 have e : wire_readPair p0 = (PairD.mk r37 r57, r58) := et (bnd_of hr39) (bnd_of hr59)
 obtain ⟨rfl, rfl⟩ := pj2 (e.symm.trans hr)
 exact ⟨A63, c64, rfl, H74, (SubS.trans hs45 hs65)⟩
def wire_readOwner (p0 : ReaderT) : OwnerD × ReaderT :=
 bnd (reader_Reader_Text p0 255) fun yr37 => bnd (reader_Reader_Octet yr37.2) fun yr57 => (OwnerD.mk yr37.1 ((yr57.1.toNat : Nat) : Int), yr57.2)
set_option maxRecDepth 100000 in
theorem wire_readOwner_ok (w : World) (D : Nat → Prop) (g0 : Nat) (p0 : ReaderT) (A0x0 : Option Addr) (c0x0 : Nat) (r0 : OwnerD) (r1 : ReaderT) (H : Own w D w [blk g0 [.slice A0x0 p0.xrest.ls.length c0x0, .int .i64 p0.xerrno] 120]) (hx0x0 : Ro w D fun w' => Rds w' 1 A0x0 p0.xrest.ls.length (List.flatMap eB p0.xrest.ls)) (hb0x0 : p0.xrest.ls.length ≤ c0x0 ∧ p0.xrest.ls.length ≤ 9223372036854775807) (hr : wire_readOwner p0 = (r0, r1)) :
    Calls Tryz.prog 87 #[.pointer (some ⟨g0, 0, none⟩)] w (Ret fun v w' => ∃ (B1ox0 : Option Addr) (b1ox0 : Nat), v = .agg (OwnerD.cells r0).toArray ∧ Own w D w' [blk g0 [.slice B1ox0 r1.xrest.ls.length b1ox0, .int .i64 r1.xerrno] 120] ∧ (SubS 1 A0x0 c0x0 p0.xrest.ls B1ox0 b1ox0 r1.xrest.ls)) := by
 refine Calls.body (args := [.pointer (some ⟨g0, 0, none⟩)]) Tryz.func87 rfl rfl rfl ?_
 show Wp _ _ _ [(0, .pointer (some ⟨g0, 0, none⟩))] _ _
 refine sr ?_
 refine npw [.string ⟨List.toArray ([])⟩, .int .i64 0] 88 H ?_
 intro g21 w22 H23
 refine ns ?_
 refine npw [.string ⟨List.toArray ([])⟩, .int .i64 0] 88 H23 ?_
 intro g24 w25 H26
 refine ns (Mz rfl (Kz (.pointer (some ⟨g24, 0, none⟩)) ?_))
 refine nrw [.pointer (some ⟨g24, 0, none⟩)] 124 1 1 H26 ?_
 intro A27 w28 H29
 replace H29 := Own.reh (y := row A27 1 1 (List.flatMap eV ([(Value.pointer (some ⟨g24, 0, none⟩))])) 124 1) rfl H29
 refine WL.do rfl (Do.call Tryz.call81 rfl ?_ (fun _ _ k => k))
 refine Calls.body (args := [.pointer (some ⟨g0, 0, none⟩), .slice A27 1 1]) Tryz.func81 rfl rfl rfl ?_
 show Wp _ _ _ [(0, .pointer (some ⟨g0, 0, none⟩)), (1, .slice A27 1 1)] _ _
 refine sr (Mz rfl (Kz (.int .i64 1) (Mn rfl (bo (Wp.unroll 200 (sr (Kz (.bool true) (nt (Wp.seq (jt (sk (Wp.seq (bo (sr ?_))))))))))))))
 have hx30 : ([(Value.pointer (some ⟨g24, 0, none⟩))] : List Value)[0]? = some (Value.pointer (some ⟨g24, 0, none⟩)) := rfl
 refine fw (.pointer (some ⟨ab A27, ao A27 + 0 * 1, none⟩)) (Yl.indexAddr (El148) rfl rfl ((H29.rds (i := 0) rfl).addr (i := 0) (by omega)) (by omega)) (fw (.pointer (some ⟨g24, 0, none⟩)) (Yl.load rfl (Lds.one Tryz.isAgg124 (((H29.rds (i := 0) rfl).elem eV_len hx30 (by decide)).at_ (k := 0) rfl))) (An rfl (Wp.region (Mz rfl (Mz rfl ?_)))))
 have H31 := H29.pk [3, 0, 1, 2]
 obtain ⟨⟨r37, r38⟩, hr39⟩ : ∃ q : (List UInt8) × ReaderT, reader_Reader_Text p0 255 = q := ⟨_, rfl⟩
 obtain ⟨D32, HP33, ro34, bk35, rr36⟩ := Own.enter1 H31
 refine cl Tryz.call109 (reader_Reader_Text_ok _ _ g0 p0 A0x0 c0x0 255 r37 r38 HP33 (ro34 _ hx0x0) (show p0.xrest.ls.length ≤ c0x0 ∧ p0.xrest.ls.length ≤ 9223372036854775807 from by omega) hr39) ?_
 rintro _ w40 ⟨A43, c44, rfl, HQ41, hs45⟩
 have H42 := bk35 _ _ HQ41
 replace hs45 : SubS 1 A0x0 c0x0 p0.xrest.ls A43 c44 r38.xrest.ls := hs45
 have hz46 := (hs45).le
 refine Kz (.pointer (some ⟨g24, 0, none⟩)) ?_
 have H47 := H42.pk [2, 0, 1, 3]
 refine sto [.string ⟨List.toArray r37⟩] 0 H47 Tryz.sizeOf9 ?_
 intro w48 H49
 refine WL.nil (bN (Fin.then (Wp.region (Kz (.int .i64 1) (Mz rfl (WL.nil (Fin.again [(8, .int .i64 1), (7, .int .i64 1), (6, .slice A27 1 1), (0, .pointer (some ⟨g0, 0, none⟩))] ⟨rfl, rfl, rfl, rfl, trivial⟩ (sr (Kz (.bool false) (nt (Wp.seq (jf (Wp.exit (Fin.thenX (Fin.thenX (Fin.blockX (Fin.res0 (res0 rfl) (nt (Wp.seq ?_)))))))))))))))))))
 have H50 := H49.pk [0, 1, 3]
 refine Wp.region (Mz rfl ?_)
 have H51 := H50.pk [1, 0, 2]
 obtain ⟨⟨r57, r58⟩, hr59⟩ : ∃ q : UInt8 × ReaderT, reader_Reader_Octet r38 = q := ⟨_, rfl⟩
 obtain ⟨D52, HP53, ro54, bk55, rr56⟩ := Own.enter1 H51
 refine cl Tryz.call39 (reader_Reader_Octet_ok _ _ g0 r38 A43 c44 r57 r58 HP53 (fun w9 h9 => SubS.rds eB_len (by decide) hs45 ((ro54 _ hx0x0) w9 h9)) (show r38.xrest.ls.length ≤ c44 ∧ r38.xrest.ls.length ≤ 9223372036854775807 from by omega) hr59) ?_
 rintro _ w60 ⟨A63, c64, rfl, HQ61, hs65⟩
 have H62 := bk55 _ _ HQ61
 replace hs65 : SubS 1 A43 c44 r38.xrest.ls A63 c64 r58.xrest.ls := hs65
 have hz66 := (hs65).le
 have hz67 : r57.toNat ≤ 255 := Nat.le_of_lt_succ (UInt8.toNat_lt _)
 refine fw (.int .i64 ((r57.toNat : Nat) : Int)) (Yl.int (e := IntKind.i64.wrap ((r57.toNat : Nat) : Int)) yk (IntWalk.i64_in _ (by omega))) (Kz (.pointer (some ⟨g24, 1, none⟩)) ?_)
 have H68 := H62.pk [1, 0, 2]
 refine sto [.int .i64 ((r57.toNat : Nat) : Int)] 1 H68 Tryz.sizeOf3 ?_
 intro w69 H70
 refine ns (La ([.string ⟨List.toArray r37⟩, .int .i64 ((r57.toNat : Nat) : Int)]) H70 0 Tryz.isAgg88 Tryz.sizeOf88 ?_)
 have H71 := H70.pk [2, 0, 1]
 refine sto [.string ⟨List.toArray r37⟩, .int .i64 ((r57.toNat : Nat) : Int)] 0 H71 Tryz.sizeOf88 ?_
 intro w72 H73
 refine nt (rt (Fin.res (resC rfl rfl (Lds.agg (cs := [.string ⟨List.toArray r37⟩, .int .i64 ((r57.toNat : Nat) : Int)]) Tryz.isAgg88 Tryz.sizeOf88 ((H73.cls (i := 0) rfl).lit (k := 0) (m := 2) rfl))) ?_))
 have H74 := H73.pk [2]
 have e : wire_readOwner p0 = (OwnerD.mk r37 ((r57.toNat : Nat) : Int), r58) := et (bnd_of hr39) (bnd_of hr59)
 obtain ⟨rfl, rfl⟩ := pj2 (e.symm.trans hr)
 exact ⟨A63, c64, rfl, H74, (SubS.trans hs45 hs65)⟩
def reader_Times_api_Pair_L0 (p1 : Int) : Nat → List PairD → Nat → List UInt8 → Int → (List PairD) × (List UInt8) × Int
  | 0, l34, k35, l38, z39 => default
  | q40 + 1, l34, k35, l38, z39 => if ((k35 : Nat) : Int) < p1 then if z39 = 0 then bnd (wire_readPair (ReaderT.mk (Ll.mk l38) z39)) fun yr64 => reader_Times_api_Pair_L0 p1 q40 (l34 ++ [yr64.1]) (k35 + 1) yr64.2.xrest.ls yr64.2.xerrno else (l34, l38, z39) else (l34, l38, z39)
def reader_Times_api_Pair (p0 : ReaderT) (p1 : Int) : (List PairD) × ReaderT :=
 bnd (bnd (reader_Times_api_Pair_L0 p1 ((Int.toNat p1 - 0) + 1) ([]) 0 p0.xrest.ls p0.xerrno) fun sLrJjL => (sLrJjL.1, sLrJjL.2.1, sLrJjL.2.2)) fun sJrJ => (sJrJ.1, ReaderT.mk (Ll.mk sJrJ.2.1) sJrJ.2.2)
set_option maxRecDepth 100000 in
theorem reader_Times_api_Pair_ok (w : World) (D : Nat → Prop) (g0 : Nat) (p0 : ReaderT) (A0x0 : Option Addr) (c0x0 : Nat) (p1 : Int) (r0 : List PairD) (r1 : ReaderT) (H : Own w D w [blk g0 [.slice A0x0 p0.xrest.ls.length c0x0, .int .i64 p0.xerrno] 120]) (hx0x0 : Ro w D fun w' => Rds w' 1 A0x0 p0.xrest.ls.length (List.flatMap eB p0.xrest.ls)) (hb0x0 : p0.xrest.ls.length ≤ c0x0 ∧ p0.xrest.ls.length ≤ 9223372036854775807) (hh0 : p1 ≤ 1000) (hr : reader_Times_api_Pair p0 p1 = (r0, r1)) :
    Calls Tryz.prog 124 #[.pointer (some ⟨g0, 0, none⟩), .int .i64 p1, .func (.func 113) #[] #[]] w (Ret fun v w' => ∃ (B0 : Option Addr) (b0 : Nat) (B1ox0 : Option Addr) (b1ox0 : Nat), v = .slice B0 r0.length b0 ∧ Own w D w' [row B0 r0.length b0 (List.flatMap PairD.cells r0) 86 2, blk g0 [.slice B1ox0 r1.xrest.ls.length b1ox0, .int .i64 r1.xerrno] 120] ∧ (SubS 1 A0x0 c0x0 p0.xrest.ls B1ox0 b1ox0 r1.xrest.ls) ∧ (r0.length ≤ 1000)) := by
 refine Calls.body (args := [.pointer (some ⟨g0, 0, none⟩), .int .i64 p1, .func (.func 113) #[] #[]]) Tryz.func124 rfl rfl rfl ?_
 show Wp _ _ _ [(0, .pointer (some ⟨g0, 0, none⟩)), (1, .int .i64 p1), (2, .func (.func 113) #[] #[])] _ _
 refine sr (Ar rfl (An rfl (Wp.seq (sr (An rfl ?_)))))
 obtain ⟨I28, hI29⟩ : ∃ q : ((Option Addr) × Nat × (List PairD) × (Option Addr) × Nat × (List UInt8) × Int) → World → Prop, q = fun (i : (Option Addr) × Nat × (List PairD) × (Option Addr) × Nat × (List UInt8) × Int) w' => Own w D w' [blk g0 [.slice i.2.2.2.1 i.2.2.2.2.2.1.length i.2.2.2.2.1, .int .i64 i.2.2.2.2.2.2] 120, row i.1 i.2.2.1.length i.2.1 (List.flatMap PairD.cells i.2.2.1) 86 2] ∧ (SubS 1 A0x0 c0x0 p0.xrest.ls i.2.2.2.1 i.2.2.2.2.1 i.2.2.2.2.2.1 ∧ 0 ≤ i.2.2.1.length ∧ i.2.2.2.2.2.1.length ≤ p0.xrest.ls.length ∧ i.2.2.2.2.2.1.length ≤ p0.xrest.ls.length + 1 ∧ i.2.2.1.length ≤ 1000 ∧ (bnd (reader_Times_api_Pair_L0 p1 ((Int.toNat p1 - 0) + 1) ([]) 0 p0.xrest.ls p0.xerrno) fun sLrJjL => (sLrJjL.1, sLrJjL.2.1, sLrJjL.2.2)) = (i.2.2.1, i.2.2.2.2.2.1, i.2.2.2.2.2.2)) := ⟨_, rfl⟩
 have dm30 : ∀ {A21 : Option Addr} {c22 : Nat} {l23 : List PairD} {A24 : Option Addr} {c25 : Nat} {l26 : List UInt8} {z27 : Int} {w' : World}, I28 (A21, c22, l23, A24, c25, l26, z27) w' ↔ Own w D w' [blk g0 [.slice A24 l26.length c25, .int .i64 z27] 120, row A21 l23.length c22 (List.flatMap PairD.cells l23) 86 2] ∧ SubS 1 A0x0 c0x0 p0.xrest.ls A24 c25 l26 ∧ 0 ≤ l23.length ∧ l26.length ≤ p0.xrest.ls.length ∧ l26.length ≤ p0.xrest.ls.length + 1 ∧ l23.length ≤ 1000 ∧ (bnd (reader_Times_api_Pair_L0 p1 ((Int.toNat p1 - 0) + 1) ([]) 0 p0.xrest.ls p0.xerrno) fun sLrJjL => (sLrJjL.1, sLrJjL.2.1, sLrJjL.2.2)) = (l23, l26, z27) := by intros; subst hI29; exact Iff.rfl
 refine Wp.joinT (fun i : (Option Addr) × Nat × (List PairD) × (Option Addr) × Nat × (List UInt8) × Int => [(7, .slice i.1 i.2.2.1.length i.2.1), (6, .slice none 0 0)]) I28 ?_ ?_
 refine bo ?_
 have H31 : Own w D w [row none 0 0 (List.flatMap PairD.cells ([])) 86 2, blk g0 [.slice A0x0 p0.xrest.ls.length c0x0, .int .i64 p0.xerrno] 120] := H.free (row_nil 86 2)
 have H42 := H31.pk [1, 0]
 obtain ⟨I46, hI47⟩ : ∃ q : ((Option Addr) × Nat × (List PairD) × Nat × (Option Addr) × Nat × (List UInt8) × Int × Nat) → World → Prop, q = fun (i : (Option Addr) × Nat × (List PairD) × Nat × (Option Addr) × Nat × (List UInt8) × Int × Nat) w' => Own w D w' [blk g0 [.slice i.2.2.2.2.1 i.2.2.2.2.2.2.1.length i.2.2.2.2.2.1, .int .i64 i.2.2.2.2.2.2.2.1] 120, row i.1 i.2.2.1.length i.2.1 (List.flatMap PairD.cells i.2.2.1) 86 2] ∧ (SubS 1 A0x0 c0x0 p0.xrest.ls i.2.2.2.2.1 i.2.2.2.2.2.1 i.2.2.2.2.2.2.1 ∧ i.2.2.1.length ≤ i.2.2.2.1 ∧ (i.2.2.2.1 = 0 ∨ ((i.2.2.2.1 : Nat) : Int) ≤ p1) ∧ Int.toNat p1 - i.2.2.2.1 < i.2.2.2.2.2.2.2.2 ∧ reader_Times_api_Pair_L0 p1 ((Int.toNat p1 - 0) + 1) ([]) 0 p0.xrest.ls p0.xerrno = reader_Times_api_Pair_L0 p1 i.2.2.2.2.2.2.2.2 i.2.2.1 i.2.2.2.1 i.2.2.2.2.2.2.1 i.2.2.2.2.2.2.2.1) := ⟨_, rfl⟩
 have dm48 : ∀ {A32 : Option Addr} {c33 : Nat} {l34 : List PairD} {k35 : Nat} {A36 : Option Addr} {c37 : Nat} {l38 : List UInt8} {z39 : Int} {f41 : Nat} {w' : World}, I46 (A32, c33, l34, k35, A36, c37, l38, z39, f41) w' ↔ Own w D w' [blk g0 [.slice A36 l38.length c37, .int .i64 z39] 120, row A32 l34.length c33 (List.flatMap PairD.cells l34) 86 2] ∧ SubS 1 A0x0 c0x0 p0.xrest.ls A36 c37 l38 ∧ l34.length ≤ k35 ∧ (k35 = 0 ∨ ((k35 : Nat) : Int) ≤ p1) ∧ Int.toNat p1 - k35 < f41 ∧ reader_Times_api_Pair_L0 p1 ((Int.toNat p1 - 0) + 1) ([]) 0 p0.xrest.ls p0.xerrno = reader_Times_api_Pair_L0 p1 f41 l34 k35 l38 z39 := by intros; subst hI47; exact Iff.rfl
 refine Wp.loop (fun i : (Option Addr) × Nat × (List PairD) × Nat × (Option Addr) × Nat × (List UInt8) × Int × Nat => [(7, .slice i.1 i.2.2.1.length i.2.1), (8, .int .i64 ((i.2.2.2.1 : Nat) : Int)), (6, .slice none 0 0), (0, .pointer (some ⟨g0, 0, none⟩)), (1, .int .i64 p1), (2, .func (.func 113) #[] #[])]) I46 (fun i => i.2.2.2.2.2.2.2.2) (none, 0, [], 0, A0x0, c0x0, p0.xrest.ls, p0.xerrno, (Int.toNat p1 - 0) + 1) ⟨rfl, rfl, rfl, rfl, rfl, rfl, trivial⟩ (dm48.2 ⟨H42, (show SubS 1 A0x0 c0x0 p0.xrest.ls A0x0 c0x0 p0.xrest.ls ∧ 0 ≤ 0 ∧ (0 = 0 ∨ ((0 : Nat) : Int) ≤ p1) ∧ Int.toNat p1 - 0 < ((Int.toNat p1 - 0) + 1) ∧ reader_Times_api_Pair_L0 p1 ((Int.toNat p1 - 0) + 1) ([]) 0 p0.xrest.ls p0.xerrno = reader_Times_api_Pair_L0 p1 ((Int.toNat p1 - 0) + 1) ([]) 0 p0.xrest.ls p0.xerrno from ⟨by exact (SubS.refl (by omega)), by omega, by omega, by omega, rfl⟩)⟩) ?_
 rintro ⟨A32, c33, l34, k35, A36, c37, l38, z39, f41⟩ w43 hf45
 show Wp _ _ _ [(7, .slice A32 l34.length c33), (8, .int .i64 ((k35 : Nat) : Int)), (6, .slice none 0 0), (0, .pointer (some ⟨g0, 0, none⟩)), (1, .int .i64 p1), (2, .func (.func 113) #[] #[])] _ _
 obtain ⟨H44, hi50, hi51, hi52, hi53, hq49⟩ := dm48.1 hf45
 have hz54 := (hi50).le
 obtain ⟨f55, hf56⟩ : ∃ q, f41 = q + 1 := ⟨f41 - 1, by omega⟩
 subst hf56
 refine Wp.seq (sr (Mz rfl (Mz rfl (Kz (.bool (decide (((k35 : Nat) : Int) < p1))) (Mz rfl ?_)))))
 by_cases h57 : ((k35 : Nat) : Int) < p1
 refine gw (.pointer (some ⟨g0, 0, none⟩)) (dT h57) (Yl.move rfl) (Gz (.pointer (some ⟨g0, 0, none⟩)) (dT h57) (Gz (.pointer (some ⟨g0, 1, none⟩)) (dT h57) (Gl (.int .i64 z39) (dT h57) H44 0 Tryz.isAgg32 (Gz (.bool (decide (z39 = 0))) (dT h57) (fw (.bool (decide (z39 = 0))) (Yl.pickT rfl (dT h57) rfl) (nt ?_))))))
 by_cases h58 : z39 = 0
 refine jT (dT h58) (sk (Wp.seq (bo (Wp.region (Mz rfl (Mz rfl (Mz rfl ?_)))))))
 obtain ⟨⟨r64, r65⟩, hr66⟩ : ∃ q : PairD × ReaderT, wire_readPair (ReaderT.mk (Ll.mk l38) z39) = q := ⟨_, rfl⟩
 obtain ⟨D59, HP60, ro61, bk62, rr63⟩ := Own.enter1 H44
 refine WL.do rfl (Do.callV Tryz.call113 rfl rfl (wire_readPair_ok _ _ g0 (ReaderT.mk (Ll.mk l38) z39) A36 c37 r64 r65 HP60 (fun w9 h9 => SubS.rds eB_len (by decide) hi50 ((ro61 _ hx0x0) w9 h9)) (show l38.length ≤ c37 ∧ l38.length ≤ 9223372036854775807 from by omega) hr66) ?_)
 rintro _ w67 ⟨A70, c71, rfl, HQ68, hs72⟩
 have H69 := bk62 _ _ HQ68
 replace hs72 : SubS 1 A36 c37 l38 A70 c71 r65.xrest.ls := hs72
 have hz73 := (hs72).le
 refine nrw (PairD.cells r64) 86 2 1 H69 ?_
 intro A74 w75 H76
 replace H76 := Own.reh (y := row A74 1 1 (List.flatMap PairD.cells ([r64])) 86 2) rfl H76
 have H77 := H76.pk [2, 0, 1]
 refine WL.do rfl (Do.appendW (k := l34.length) (m := 1) (El82) H77 rfl rfl (src_of Tryz.underlying82 (H77.rds (i := 1) rfl) (flat_one PairD.one ([r64]))) rfl (by omega) (s := List.length (l34 ++ [r64])) (by first | omega | (simp only [List.length_append, List.length_cons, List.length_nil] <;> omega)) (List.flatMap_append).symm ?_)
 intro A78 c79 w80 H81
 have hl82 : List.length (l34 ++ [r64]) = l34.length + 1 := by simp only [List.length_append, List.length_cons, List.length_nil]
 refine Az rfl (WL.nil (bN (Fin.then (Wp.region (Mz rfl (fw (.int .i64 ((k35 + 1 : Nat) : Int)) (Yl.int (e := IntKind.i64.wrap (((k35 : Nat) : Int) + 1)) yk (by rw [IntWalk.i64_in _ (by omega)]; omega)) (Az rfl (WL.nil ?_))))))))
 have H83 := H81.pk [2, 0]
 exact Fin.round (A78, c79, (l34 ++ [r64]), k35 + 1, A70, c71, r65.xrest.ls, r65.xerrno, f55) ⟨rfl, rfl, rfl, rfl, rfl, rfl, trivial⟩ (dm48.2 ⟨H83, by exact (SubS.trans hi50 hs72), by omega, by omega, by omega, et (hq49) (et (ip h57) (et (ip h58) (bnd_of hr66)))⟩) (by show f55 < f55 + 1; omega)
 refine jF (dF h58) (Wp.exit (Fin.thenX (Fin.thenX (Fin.blockX ?_))))
 have H84 := H44.pk [0, 1]
 exact Fin.join (A32, c33, l34, A36, c37, l38, z39) ⟨rfl, rfl, trivial⟩ (dm30.2 ⟨H84, by exact hi50, by omega, by omega, by omega, by omega, bnd_of (et (hq49) (et (ip h57) (iN h58)))⟩)
 refine Sz (dF h57) (Sz (dF h57) (Sz (dF h57) (Sz (dF h57) (Sz (dF h57) (fw (.bool false) (Yl.pickF rfl (dF h57) rfl) (nt (jf (Wp.exit (Fin.thenX (Fin.thenX (Fin.blockX ?_)))))))))))
 have H85 := H44.pk [0, 1]
 exact Fin.join (A32, c33, l34, A36, c37, l38, z39) ⟨rfl, rfl, trivial⟩ (dm30.2 ⟨H85, by exact hi50, by omega, by omega, by omega, by omega, bnd_of (et (hq49) (iN h57))⟩)
 rintro ⟨A21, c22, l23, A24, c25, l26, z27⟩ w86 hf88
 show Wp _ _ _ [(7, .slice A21 l23.length c22), (6, .slice none 0 0)] _ _
 obtain ⟨H87, hi90, hi91, hi92, hi93, hi94, hj89⟩ := dm30.1 hf88
 have hz95 := (hi90).le
 refine sr (Mz rfl (An rfl (rt (rs ?_))))
 have H96 := H87.pk [1, 0]
 have e : reader_Times_api_Pair p0 p1 = (l23, ReaderT.mk (Ll.mk l26) z27) := bnd_of hj89
 obtain ⟨rfl, rfl⟩ := pj2 (e.symm.trans hr)
 exact ⟨A21, c22, A24, c25, rfl, H96, hi90, (by omega)⟩
def reader_List_api_Pair (p0 : ReaderT) (p1 : Nat) : (List PairD) × ReaderT :=
 bnd (reader_Reader_Num p0 p1) fun yr26 => bnd (reader_Times_api_Pair yr26.2 ((yr26.1 : Nat) : Int)) fun yr42 => (yr42.1, yr42.2)
set_option maxRecDepth 100000 in
theorem reader_List_api_Pair_ok (w : World) (D : Nat → Prop) (g0 : Nat) (p0 : ReaderT) (A0x0 : Option Addr) (c0x0 : Nat) (p1 : Nat) (r0 : List PairD) (r1 : ReaderT) (H : Own w D w [blk g0 [.slice A0x0 p0.xrest.ls.length c0x0, .int .i64 p0.xerrno] 120]) (hx0x0 : Ro w D fun w' => Rds w' 1 A0x0 p0.xrest.ls.length (List.flatMap eB p0.xrest.ls)) (hb0x0 : p0.xrest.ls.length ≤ c0x0 ∧ p0.xrest.ls.length ≤ 9223372036854775807) (hh0 : p1 ≤ 1000) (hr : reader_List_api_Pair p0 p1 = (r0, r1)) :
    Calls Tryz.prog 112 #[.pointer (some ⟨g0, 0, none⟩), .int .u64 ((p1 : Nat) : Int), .func (.func 113) #[] #[]] w (Ret fun v w' => ∃ (B0 : Option Addr) (b0 : Nat) (B1ox0 : Option Addr) (b1ox0 : Nat), v = .slice B0 r0.length b0 ∧ Own w D w' [row B0 r0.length b0 (List.flatMap PairD.cells r0) 86 2, blk g0 [.slice B1ox0 r1.xrest.ls.length b1ox0, .int .i64 r1.xerrno] 120] ∧ (SubS 1 A0x0 c0x0 p0.xrest.ls B1ox0 b1ox0 r1.xrest.ls) ∧ (r0.length ≤ 1000)) := by
 refine Calls.body (args := [.pointer (some ⟨g0, 0, none⟩), .int .u64 ((p1 : Nat) : Int), .func (.func 113) #[] #[]]) Tryz.func112 rfl rfl rfl ?_
 show Wp _ _ _ [(0, .pointer (some ⟨g0, 0, none⟩)), (1, .int .u64 ((p1 : Nat) : Int)), (2, .func (.func 113) #[] #[])] _ _
 refine sr (Ar rfl (Mz rfl (Mz rfl (Mz rfl ?_))))
 obtain ⟨⟨r26, r27⟩, hr28⟩ : ∃ q : Nat × ReaderT, reader_Reader_Num p0 p1 = q := ⟨_, rfl⟩
 obtain ⟨D21, HP22, ro23, bk24, rr25⟩ := Own.enter1 H
 refine cl Tryz.call79 (reader_Reader_Num_ok _ _ g0 p0 A0x0 c0x0 p1 r26 r27 HP22 (ro23 _ hx0x0) (show p0.xrest.ls.length ≤ c0x0 ∧ p0.xrest.ls.length ≤ 9223372036854775807 from by omega) hr28) ?_
 rintro _ w29 ⟨A32, c33, rfl, HQ30, hs34, hk35⟩
 have H31 := bk24 _ _ HQ30
 replace hs34 : SubS 1 A0x0 c0x0 p0.xrest.ls A32 c33 r27.xrest.ls := hs34
 have hz36 := (hs34).le
 replace hk35 : r26 ≤ p1 := hk35
 refine fw (.int .i64 ((r26 : Nat) : Int)) (Yl.int (e := IntKind.i64.wrap ((r26 : Nat) : Int)) yk (IntWalk.i64_in _ (by omega))) (Mz rfl ?_)
 obtain ⟨⟨r42, r43⟩, hr44⟩ : ∃ q : (List PairD) × ReaderT, reader_Times_api_Pair r27 ((r26 : Nat) : Int) = q := ⟨_, rfl⟩
 obtain ⟨D37, HP38, ro39, bk40, rr41⟩ := Own.enter1 H31
 refine cl Tryz.call124 (reader_Times_api_Pair_ok _ _ g0 r27 A32 c33 ((r26 : Nat) : Int) r42 r43 HP38 (fun w9 h9 => SubS.rds eB_len (by decide) hs34 ((ro39 _ hx0x0) w9 h9)) (show r27.xrest.ls.length ≤ c33 ∧ r27.xrest.ls.length ≤ 9223372036854775807 from by omega) (by omega) hr44) ?_
 rintro _ w45 ⟨A48, c49, A50, c51, rfl, HQ46, hs52, hk53⟩
 have H47 := bk40 _ _ HQ46
 replace hs52 : SubS 1 A32 c33 r27.xrest.ls A50 c51 r43.xrest.ls := hs52
 have hz54 := (hs52).le
 have hb55 := H47.rowC (i := 0) rfl
 replace hk53 : r42.length ≤ 1000 := hk53
 refine An rfl (rt (rs ?_))
 have H56 := H47.pk [0, 1]
 have e : reader_List_api_Pair p0 p1 = (r42, r43) := et (bnd_of hr28) (bnd_of hr44)
 obtain ⟨rfl, rfl⟩ := pj2 (e.symm.trans hr)
 exact ⟨A48, c49, A50, c51, rfl, H56, (SubS.trans hs34 hs52), (by omega)⟩
def wire_readResult (p0 : ReaderT) : ResultT × ReaderT :=
 bnd (wire_readTruth p0) fun yr30 => bnd (reader_Reader_Text yr30.2 255) fun yr55 => bnd (reader_List_api_Pair yr55.2 255) fun yr75 => (ResultT.mk yr30.1 yr55.1 (Ll.mk yr75.1), yr75.2)
set_option maxRecDepth 100000 in
theorem wire_readResult_ok (w : World) (D : Nat → Prop) (g0 : Nat) (p0 : ReaderT) (A0x0 : Option Addr) (c0x0 : Nat) (r0 : ResultT) (r1 : ReaderT) (H : Own w D w [blk g0 [.slice A0x0 p0.xrest.ls.length c0x0, .int .i64 p0.xerrno] 120]) (hx0x0 : Ro w D fun w' => Rds w' 1 A0x0 p0.xrest.ls.length (List.flatMap eB p0.xrest.ls)) (hb0x0 : p0.xrest.ls.length ≤ c0x0 ∧ p0.xrest.ls.length ≤ 9223372036854775807) (hr : wire_readResult p0 = (r0, r1)) :
    Calls Tryz.prog 85 #[.pointer (some ⟨g0, 0, none⟩)] w (Ret fun v w' => ∃ (B0x0 : Option Addr) (b0x0 : Nat) (B1ox0 : Option Addr) (b1ox0 : Nat), v = .agg #[.bool r0.xFound, .string ⟨List.toArray r0.xValue⟩, .slice B0x0 r0.xPairs.ls.length b0x0] ∧ Own w D w' [row B0x0 r0.xPairs.ls.length b0x0 (List.flatMap PairD.cells r0.xPairs.ls) 86 2, blk g0 [.slice B1ox0 r1.xrest.ls.length b1ox0, .int .i64 r1.xerrno] 120] ∧ (SubS 1 A0x0 c0x0 p0.xrest.ls B1ox0 b1ox0 r1.xrest.ls)) := by
 refine Calls.body (args := [.pointer (some ⟨g0, 0, none⟩)]) Tryz.func85 rfl rfl rfl ?_
 show Wp _ _ _ [(0, .pointer (some ⟨g0, 0, none⟩))] _ _
 refine sr ?_
 refine npw [.bool false, .string ⟨List.toArray ([])⟩, .slice none 0 0] 84 H ?_
 intro g21 w22 H23
 refine ns (Mz rfl ?_)
 have H24 := H23.pk [1, 0]
 obtain ⟨⟨r30, r31⟩, hr32⟩ : ∃ q : Bool × ReaderT, wire_readTruth p0 = q := ⟨_, rfl⟩
 obtain ⟨D25, HP26, ro27, bk28, rr29⟩ := Own.enter1 H24
 refine cl Tryz.call80 (wire_readTruth_ok _ _ g0 p0 A0x0 c0x0 r30 r31 HP26 (ro27 _ hx0x0) (show p0.xrest.ls.length ≤ c0x0 ∧ p0.xrest.ls.length ≤ 9223372036854775807 from by omega) hr32) ?_
 rintro _ w33 ⟨A36, c37, rfl, HQ34, hs38⟩
 have H35 := bk28 _ _ HQ34
 replace hs38 : SubS 1 A0x0 c0x0 p0.xrest.ls A36 c37 r31.xrest.ls := hs38
 have hz39 := (hs38).le
 refine Kz (.agg #[.bool r30, .string ⟨List.toArray ([])⟩, .slice none 0 0]) ?_
 refine npw [.bool false, .string ⟨List.toArray ([])⟩, .slice none 0 0] 84 H35 ?_
 intro g40 w41 H42
 refine sto [.bool r30, .string ⟨List.toArray ([])⟩, .slice none 0 0] 0 H42 Tryz.sizeOf84 ?_
 intro w43 H44
 refine ns (Mz rfl (Kz (.pointer (some ⟨g40, 1, none⟩)) ?_))
 refine nrw [.pointer (some ⟨g40, 1, none⟩)] 124 1 1 H44 ?_
 intro A45 w46 H47
 replace H47 := Own.reh (y := row A45 1 1 (List.flatMap eV ([(Value.pointer (some ⟨g40, 1, none⟩))])) 124 1) rfl H47
 refine WL.do rfl (Do.call Tryz.call81 rfl ?_ (fun _ _ k => k))
 refine Calls.body (args := [.pointer (some ⟨g0, 0, none⟩), .slice A45 1 1]) Tryz.func81 rfl rfl rfl ?_
 show Wp _ _ _ [(0, .pointer (some ⟨g0, 0, none⟩)), (1, .slice A45 1 1)] _ _
 refine sr (Mz rfl (Kz (.int .i64 1) (Mn rfl (bo (Wp.unroll 200 (sr (Kz (.bool true) (nt (Wp.seq (jt (sk (Wp.seq (bo (sr ?_))))))))))))))
 have hx48 : ([(Value.pointer (some ⟨g40, 1, none⟩))] : List Value)[0]? = some (Value.pointer (some ⟨g40, 1, none⟩)) := rfl
 refine fw (.pointer (some ⟨ab A45, ao A45 + 0 * 1, none⟩)) (Yl.indexAddr (El148) rfl rfl ((H47.rds (i := 0) rfl).addr (i := 0) (by omega)) (by omega)) (fw (.pointer (some ⟨g40, 1, none⟩)) (Yl.load rfl (Lds.one Tryz.isAgg124 (((H47.rds (i := 0) rfl).elem eV_len hx48 (by decide)).at_ (k := 0) rfl))) (An rfl (Wp.region (Mz rfl (Mz rfl ?_)))))
 have H49 := H47.pk [2, 0, 1, 3]
 obtain ⟨⟨r55, r56⟩, hr57⟩ : ∃ q : (List UInt8) × ReaderT, reader_Reader_Text r31 255 = q := ⟨_, rfl⟩
 obtain ⟨D50, HP51, ro52, bk53, rr54⟩ := Own.enter1 H49
 refine cl Tryz.call109 (reader_Reader_Text_ok _ _ g0 r31 A36 c37 255 r55 r56 HP51 (fun w9 h9 => SubS.rds eB_len (by decide) hs38 ((ro52 _ hx0x0) w9 h9)) (show r31.xrest.ls.length ≤ c37 ∧ r31.xrest.ls.length ≤ 9223372036854775807 from by omega) hr57) ?_
 rintro _ w58 ⟨A61, c62, rfl, HQ59, hs63⟩
 have H60 := bk53 _ _ HQ59
 replace hs63 : SubS 1 A36 c37 r31.xrest.ls A61 c62 r56.xrest.ls := hs63
 have hz64 := (hs63).le
 refine Kz (.pointer (some ⟨g40, 1, none⟩)) ?_
 have H65 := H60.pk [2, 0, 1, 3]
 refine sto [.string ⟨List.toArray r55⟩] 1 H65 Tryz.sizeOf9 ?_
 intro w66 H67
 refine WL.nil (bN (Fin.then (Wp.region (Kz (.int .i64 1) (Mz rfl (WL.nil (Fin.again [(8, .int .i64 1), (7, .int .i64 1), (6, .slice A45 1 1), (0, .pointer (some ⟨g0, 0, none⟩))] ⟨rfl, rfl, rfl, rfl, trivial⟩ (sr (Kz (.bool false) (nt (Wp.seq (jf (Wp.exit (Fin.thenX (Fin.thenX (Fin.blockX (Fin.res0 (res0 rfl) (nt (Wp.seq ?_)))))))))))))))))))
 have H68 := H67.pk [0, 1, 3]
 refine Wp.region (Mz rfl ?_)
 have H69 := H68.pk [1, 0, 2]
 obtain ⟨⟨r75, r76⟩, hr77⟩ : ∃ q : (List PairD) × ReaderT, reader_List_api_Pair r56 255 = q := ⟨_, rfl⟩
 obtain ⟨D70, HP71, ro72, bk73, rr74⟩ := Own.enter1 H69
 refine cl Tryz.call112 (reader_List_api_Pair_ok _ _ g0 r56 A61 c62 255 r75 r76 HP71 (fun w9 h9 => SubS.rds eB_len (by decide) hs63 ((fun w9 h9 => SubS.rds eB_len (by decide) hs38 ((ro72 _ hx0x0) w9 h9)) w9 h9)) (show r56.xrest.ls.length ≤ c62 ∧ r56.xrest.ls.length ≤ 9223372036854775807 from by omega) (by omega) hr77) ?_
 rintro _ w78 ⟨A81, c82, A83, c84, rfl, HQ79, hs85, hk86⟩
 have H80 := bk73 _ _ HQ79
 replace hs85 : SubS 1 A61 c62 r56.xrest.ls A83 c84 r76.xrest.ls := hs85
 have hz87 := (hs85).le
 have hb88 := H80.rowC (i := 0) rfl
 replace hk86 : r75.length ≤ 1000 := hk86
 refine Kz (.pointer (some ⟨g40, 2, none⟩)) ?_
 have H89 := H80.pk [2, 0, 1, 3]
 refine sto [.slice A81 r75.length c82] 2 H89 Tryz.sizeOf82 ?_
 intro w90 H91
 refine ns (La ([.bool r30, .string ⟨List.toArray r55⟩, .slice A81 r75.length c82]) H91 0 Tryz.isAgg84 Tryz.sizeOf84 ?_)
 have H92 := H91.pk [3, 0, 1, 2]
 refine sto [.bool r30, .string ⟨List.toArray r55⟩, .slice A81 r75.length c82] 0 H92 Tryz.sizeOf84 ?_
 intro w93 H94
 refine nt (rt (Fin.res (resC rfl rfl (Lds.agg (cs := [.bool r30, .string ⟨List.toArray r55⟩, .slice A81 r75.length c82]) Tryz.isAgg84 Tryz.sizeOf84 ((H94.cls (i := 0) rfl).lit (k := 0) (m := 3) rfl))) ?_))
 have H95 := H94.pk [2, 3]
 have e : wire_readResult p0 = (ResultT.mk r30 r55 (Ll.mk r75), r76) := et (bnd_of hr32) (et (bnd_of hr57) (bnd_of hr77))
 obtain ⟨rfl, rfl⟩ := pj2 (e.symm.trans hr)
 exact ⟨A81, c82, A83, c84, rfl, H95, (SubS.trans (SubS.trans hs38 hs63) hs85)⟩
end Go.Proofs.YtccjclalngabhaaGreat
