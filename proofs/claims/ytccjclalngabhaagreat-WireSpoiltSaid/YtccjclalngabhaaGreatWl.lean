/-
 wire: the chapter's examples, and what is the same.
-/
import Derived.Test.YtccjclalngabhaaGreatWx
import Derived.Test.YtccjclalngabhaaGreatWf
import Derived.Test.YtccjclalngabhaaGreatWiD
import Derived.Test.YtccjclalngabhaaGreatWu
import Derived.Test.YtccjclalngabhaaGreatWs
namespace Go.Proofs.YtccjclalngabhaaGreat
open Go.RowKit
set_option linter.unusedVariables false
set_option linter.unusedSectionVars false
set_option linter.unusedSimpArgs false
def w18_sealed (p0 : List UInt8) : (List UInt8) :=
 bnd (frame_Seal p0) fun yr30 => yr30.1
set_option maxRecDepth 100000 in
theorem w18_sealed_ok (w : World) (D : Nat → Prop) (p0 : List UInt8) (r0 : List UInt8) (H : Own w D w []) (hh0 : p0.length ≤ 100000) (hr : w18_sealed p0 = r0) :
    Calls Tryz.prog 18 #[.string ⟨List.toArray p0⟩] w (Ret fun v w' => ∃ (B0 : Option Addr) (b0 : Nat), v = .slice B0 r0.length b0 ∧ Own w D w' [row B0 r0.length b0 (List.flatMap eB r0) 5 1] ∧ (r0.length ≤ p0.length + 15)) := by
 refine Calls.body (args := [.string ⟨List.toArray p0⟩]) Tryz.func18 rfl rfl rfl ?_
 show Wp _ _ _ [(0, .string ⟨List.toArray p0⟩)] _ _
 refine sr (Ar rfl (Mz rfl ?_))
 refine WL.do rfl (Do.toBytesE (l := p0) Tryz.underlying9 Tryz.underlying31 Tryz.underlying5 H rfl (by unfold maxLen; omega) ?_)
 intro A21 c22 w23 H24
 obtain ⟨⟨r30, r31⟩, hr32⟩ : ∃ q : (List UInt8) × Int, frame_Seal p0 = q := ⟨_, rfl⟩
 obtain ⟨D25, HP26, ro27, bk28, rr29⟩ := Own.enter0 H24
 refine cl Tryz.call17 (frame_Seal_ok _ _ A21 p0.length c22 p0 r30 r31 HP26 (rr29 _ 0 _ rfl row_rds) rfl (by omega) hr32) ?_
 rintro _ w33 ⟨A36, c37, rfl, HQ34, hk38⟩
 have H35 := bk28 _ _ HQ34
 have hb39 := H35.rowC (i := 0) rfl
 replace hk38 : r30.length ≤ p0.length + 15 := hk38
 refine Mz rfl (Kz (.slice A36 r30.length c37) (Kz (.int .i64 r31) (Az rfl (An rfl (Wp.seq ?_)))))
 have H40 := H35.pk [0]
 refine Wp.region (Mz rfl (An rfl (rt (rs ?_))))
 have H41 := H40.pk [0]
 obtain rfl : _ = r30 := hr.symm.trans (bnd_of hr32)
 exact ⟨A36, c37, rfl, H41, (by first | omega | (simp only [List.length_cons, List.length_nil, List.length_append]; omega))⟩
def w18_live  : Bool :=
 bnd (wire_Encode (MsgT.mk 6 1 0 0 0 0 0 0 300 0 0 0 0 0 0 false (RangeD.mk ([]) ([])) (Ll.mk ([])) (Ll.mk ([])) (Ll.mk ([])))) fun yr26 => bnd (wire_Decode yr26.1) fun yr42 => bnd (w18_sealed ([6, 1, 0])) fun yr71 => bnd (wire_Decode yr71) fun yr86 => bnd (w18_sealed ([6, 5, 0, 1])) fun yr116 => bnd (wire_Decode yr116) fun yr131 => bnd (w18_sealed ([15])) fun yr161 => bnd (wire_Decode yr161) fun yr176 => bnd (w18_sealed ([6, 1, 0, 172, 2])) fun yr208 => if yr26.1 = yr208 then if yr26.2 = 0 then if yr42.1.xKind = 6 then if yr42.1.xFrom = 1 then if ((yr42.1.xTxn : Nat) : Int) = 300 then if yr42.2 = 0 then if yr86.2 = 10 then if yr131.2 = 180 then decide (yr176.2 = 11) else false else false else false else false else false else false else false else false
set_option maxRecDepth 100000 in
theorem w18_live_ok (w : World) (D : Nat → Prop)  (r0 : Bool) (H : Own w D w [])  (hr : w18_live = r0) :
    Calls Tryz.prog 8 #[] w (Ret fun v w' => v = .bool r0 ∧ Own w D w' []) := by
 refine Calls.body (args := []) Tryz.func8 rfl rfl rfl ?_
 show Wp _ _ _ [] _ _
 refine sr (Ar rfl (Kz (.agg (MsgC 6 1 0 0 0 0 0 0 300 0 0 0 0 0 0 false ([]) ([]) none 0 0 none 0 0 none 0 0).toArray) ?_))
 obtain ⟨⟨r26, r27⟩, hr28⟩ : ∃ q : (List UInt8) × Int, wire_Encode (MsgT.mk 6 1 0 0 0 0 0 0 300 0 0 0 0 0 0 false (RangeD.mk ([]) ([])) (Ll.mk ([])) (Ll.mk ([])) (Ll.mk ([]))) = q := ⟨_, rfl⟩
 obtain ⟨D21, HP22, ro23, bk24, rr25⟩ := Own.enter0 H
 refine cl Tryz.call9 (wire_Encode_ok _ _ (MsgT.mk 6 1 0 0 0 0 0 0 300 0 0 0 0 0 0 false (RangeD.mk ([]) ([])) (Ll.mk ([])) (Ll.mk ([])) (Ll.mk ([]))) none 0 0 none 0 0 [] none 0 0 r26 r27 HP22 rfl (fun _ _ => Rds.nil _ _ _) (by first | exact ⟨Nat.le_of_ble_eq_true rfl, Nat.le_of_ble_eq_true rfl⟩ | omega | exact ⟨Nat.le_refl _, by omega⟩) rfl rfl (fun _ _ => Rds.nil _ _ _) (by first | exact ⟨Nat.le_of_ble_eq_true rfl, Nat.le_of_ble_eq_true rfl⟩ | omega | exact ⟨Nat.le_refl _, by omega⟩) (fun _ h9 => absurd h9 List.not_mem_nil) rfl (fun _ _ => Rds.nil _ _ _) (by first | exact ⟨Nat.le_of_ble_eq_true rfl, Nat.le_of_ble_eq_true rfl⟩ | omega | exact ⟨Nat.le_refl _, by omega⟩) (by first | omega | (dsimp only; omega) | (simp only [List.length_nil]; omega)) (by first | omega | (dsimp only; omega) | (simp only [List.length_nil]; omega)) hr28) ?_
 rintro _ w29 ⟨A32, c33, rfl, HQ30, hk34⟩
 have H31 := bk24 _ _ HQ30
 have hb35 := H31.rowC (i := 0) rfl
 replace hk34 : r26.length ≤ 51000 := hk34
 refine Mz rfl (Kz (.slice A32 r26.length c33) (Kz (.int .i64 r27) (Az rfl (Ar rfl (Mz rfl ?_)))))
 have hb41 := H31.rowC (i := 0) rfl
 obtain ⟨⟨r42, r43⟩, hr44⟩ : ∃ q : MsgT × Int, wire_Decode r26 = q := ⟨_, rfl⟩
 obtain ⟨D36, HP37, ro38, bk39, rr40⟩ := Own.enter0 H31
 refine cl Tryz.call13 (wire_Decode_ok _ _ A32 r26.length c33 r26 r42 r43 HP37 (rr40 _ 0 _ rfl row_rds) rfl (by omega) (by first | omega | (simp only [List.length_take, List.length_drop]; omega) | exact Nat.le_refl _) hr44) ?_
 rintro _ w45 ⟨A48, c49, A50, c51, A52, c53, d54, rfl, HQ46, hd55, hk56⟩
 have H47 := bk39 _ _ HQ46
 have hl57 := abs_len hd55
 have hb58 := H47.rowC (i := 0) rfl
 have hb59 := H47.rowC (i := 1) rfl
 have hb60 := H47.rowC (i := 3) rfl
 replace hk56 : r42.xOps.ls.length ≤ 1000 ∧ r42.xResults.ls.length ≤ 1000 ∧ r42.xOwners.ls.length ≤ 1000 ∧ r42.xReq ≤ 18446744073709551615 ∧ r42.xBoot ≤ 18446744073709551615 ∧ r42.xTxn ≤ 18446744073709551615 ∧ r42.xLow ≤ 18446744073709551615 ∧ r42.xVer ≤ 18446744073709551615 ∧ r42.xEpoch ≤ 18446744073709551615 ∧ r42.xMove ≤ 18446744073709551615 ∧ r42.xAttempt ≤ 18446744073709551615 ∧ r42.xN ≤ 18446744073709551615 := hk56
 refine Mz rfl (Kz (.agg (MsgP r42 A48 c49 A50 c51 A52 c53).toArray) (Kz (.int .i64 r43) ?_))
 refine npw (MsgC 0 0 0 0 0 0 0 0 0 0 0 0 0 0 0 false ([]) ([]) none 0 0 none 0 0 none 0 0) 29 H47 ?_
 intro g61 w62 H63
 refine sto (MsgP r42 A48 c49 A50 c51 A52 c53) 0 H63 Tryz.sizeOf29 ?_
 intro w64 H65
 refine Ar rfl ?_
 obtain ⟨r71, hr72⟩ : ∃ q, w18_sealed ([6, 1, 0]) = q := ⟨_, rfl⟩
 obtain ⟨D66, HP67, ro68, bk69, rr70⟩ := Own.enter0 H65
 refine cl Tryz.call18 (w18_sealed_ok _ _ ([6, 1, 0]) r71 HP67 (by first | omega | exact Nat.le_of_ble_eq_true rfl) hr72) ?_
 rintro _ w73 ⟨A76, c77, rfl, HQ74, hk78⟩
 have H75 := bk69 _ _ HQ74
 have hb79 := H75.rowC (i := 0) rfl
 replace hk78 : r71.length ≤ 3 + 15 := hk78
 have hb85 := H75.rowC (i := 0) rfl
 obtain ⟨⟨r86, r87⟩, hr88⟩ : ∃ q : MsgT × Int, wire_Decode r71 = q := ⟨_, rfl⟩
 obtain ⟨D80, HP81, ro82, bk83, rr84⟩ := Own.enter0 H75
 refine cl Tryz.call13 (wire_Decode_ok _ _ A76 r71.length c77 r71 r86 r87 HP81 (rr84 _ 0 _ rfl row_rds) rfl (by omega) (by first | omega | (simp only [List.length_take, List.length_drop]; omega) | exact Nat.le_refl _) hr88) ?_
 rintro _ w89 ⟨A92, c93, A94, c95, A96, c97, d98, rfl, HQ90, hd99, hk100⟩
 have H91 := bk83 _ _ HQ90
 have hl101 := abs_len hd99
 have hb102 := H91.rowC (i := 0) rfl
 have hb103 := H91.rowC (i := 1) rfl
 have hb104 := H91.rowC (i := 3) rfl
 replace hk100 : r86.xOps.ls.length ≤ 1000 ∧ r86.xResults.ls.length ≤ 1000 ∧ r86.xOwners.ls.length ≤ 1000 ∧ r86.xReq ≤ 18446744073709551615 ∧ r86.xBoot ≤ 18446744073709551615 ∧ r86.xTxn ≤ 18446744073709551615 ∧ r86.xLow ≤ 18446744073709551615 ∧ r86.xVer ≤ 18446744073709551615 ∧ r86.xEpoch ≤ 18446744073709551615 ∧ r86.xMove ≤ 18446744073709551615 ∧ r86.xAttempt ≤ 18446744073709551615 ∧ r86.xN ≤ 18446744073709551615 := hk100
 refine Mz rfl (Kz (.agg (MsgP r86 A92 c93 A94 c95 A96 c97).toArray) (Kz (.int .i64 r87) ?_))
 refine npw (MsgC 0 0 0 0 0 0 0 0 0 0 0 0 0 0 0 false ([]) ([]) none 0 0 none 0 0 none 0 0) 29 H91 ?_
 intro g105 w106 H107
 refine sto (MsgP r86 A92 c93 A94 c95 A96 c97) 0 H107 Tryz.sizeOf29 ?_
 intro w108 H109
 refine An rfl (Wp.seq ?_)
 have H110 := H109.pk [6, 7, 8, 9, 10, 11]
 refine Wp.region ?_
 obtain ⟨r116, hr117⟩ : ∃ q, w18_sealed ([6, 5, 0, 1]) = q := ⟨_, rfl⟩
 obtain ⟨D111, HP112, ro113, bk114, rr115⟩ := Own.enter0 H110
 refine cl Tryz.call18 (w18_sealed_ok _ _ ([6, 5, 0, 1]) r116 HP112 (by first | omega | exact Nat.le_of_ble_eq_true rfl) hr117) ?_
 rintro _ w118 ⟨A121, c122, rfl, HQ119, hk123⟩
 have H120 := bk114 _ _ HQ119
 have hb124 := H120.rowC (i := 0) rfl
 replace hk123 : r116.length ≤ 4 + 15 := hk123
 have hb130 := H120.rowC (i := 0) rfl
 obtain ⟨⟨r131, r132⟩, hr133⟩ : ∃ q : MsgT × Int, wire_Decode r116 = q := ⟨_, rfl⟩
 obtain ⟨D125, HP126, ro127, bk128, rr129⟩ := Own.enter0 H120
 refine cl Tryz.call13 (wire_Decode_ok _ _ A121 r116.length c122 r116 r131 r132 HP126 (rr129 _ 0 _ rfl row_rds) rfl (by omega) (by first | omega | (simp only [List.length_take, List.length_drop]; omega) | exact Nat.le_refl _) hr133) ?_
 rintro _ w134 ⟨A137, c138, A139, c140, A141, c142, d143, rfl, HQ135, hd144, hk145⟩
 have H136 := bk128 _ _ HQ135
 have hl146 := abs_len hd144
 have hb147 := H136.rowC (i := 0) rfl
 have hb148 := H136.rowC (i := 1) rfl
 have hb149 := H136.rowC (i := 3) rfl
 replace hk145 : r131.xOps.ls.length ≤ 1000 ∧ r131.xResults.ls.length ≤ 1000 ∧ r131.xOwners.ls.length ≤ 1000 ∧ r131.xReq ≤ 18446744073709551615 ∧ r131.xBoot ≤ 18446744073709551615 ∧ r131.xTxn ≤ 18446744073709551615 ∧ r131.xLow ≤ 18446744073709551615 ∧ r131.xVer ≤ 18446744073709551615 ∧ r131.xEpoch ≤ 18446744073709551615 ∧ r131.xMove ≤ 18446744073709551615 ∧ r131.xAttempt ≤ 18446744073709551615 ∧ r131.xN ≤ 18446744073709551615 := hk145
 refine Mz rfl (Kz (.agg (MsgP r131 A137 c138 A139 c140 A141 c142).toArray) (Kz (.int .i64 r132) ?_))
 refine npw (MsgC 0 0 0 0 0 0 0 0 0 0 0 0 0 0 0 false ([]) ([]) none 0 0 none 0 0 none 0 0) 29 H136 ?_
 intro g150 w151 H152
 refine sto (MsgP r131 A137 c138 A139 c140 A141 c142) 0 H152 Tryz.sizeOf29 ?_
 intro w153 H154
 refine An rfl (Wp.seq ?_)
 have H155 := H154.pk [6, 7, 8, 9, 10, 11]
 refine Wp.region ?_
 obtain ⟨r161, hr162⟩ : ∃ q, w18_sealed ([15]) = q := ⟨_, rfl⟩
 obtain ⟨D156, HP157, ro158, bk159, rr160⟩ := Own.enter0 H155
 refine cl Tryz.call18 (w18_sealed_ok _ _ ([15]) r161 HP157 (by first | omega | exact Nat.le_of_ble_eq_true rfl) hr162) ?_
 rintro _ w163 ⟨A166, c167, rfl, HQ164, hk168⟩
 have H165 := bk159 _ _ HQ164
 have hb169 := H165.rowC (i := 0) rfl
 replace hk168 : r161.length ≤ 1 + 15 := hk168
 have hb175 := H165.rowC (i := 0) rfl
 obtain ⟨⟨r176, r177⟩, hr178⟩ : ∃ q : MsgT × Int, wire_Decode r161 = q := ⟨_, rfl⟩
 obtain ⟨D170, HP171, ro172, bk173, rr174⟩ := Own.enter0 H165
 refine cl Tryz.call13 (wire_Decode_ok _ _ A166 r161.length c167 r161 r176 r177 HP171 (rr174 _ 0 _ rfl row_rds) rfl (by omega) (by first | omega | (simp only [List.length_take, List.length_drop]; omega) | exact Nat.le_refl _) hr178) ?_
 rintro _ w179 ⟨A182, c183, A184, c185, A186, c187, d188, rfl, HQ180, hd189, hk190⟩
 have H181 := bk173 _ _ HQ180
 have hl191 := abs_len hd189
 have hb192 := H181.rowC (i := 0) rfl
 have hb193 := H181.rowC (i := 1) rfl
 have hb194 := H181.rowC (i := 3) rfl
 replace hk190 : r176.xOps.ls.length ≤ 1000 ∧ r176.xResults.ls.length ≤ 1000 ∧ r176.xOwners.ls.length ≤ 1000 ∧ r176.xReq ≤ 18446744073709551615 ∧ r176.xBoot ≤ 18446744073709551615 ∧ r176.xTxn ≤ 18446744073709551615 ∧ r176.xLow ≤ 18446744073709551615 ∧ r176.xVer ≤ 18446744073709551615 ∧ r176.xEpoch ≤ 18446744073709551615 ∧ r176.xMove ≤ 18446744073709551615 ∧ r176.xAttempt ≤ 18446744073709551615 ∧ r176.xN ≤ 18446744073709551615 := hk190
 refine Mz rfl (Kz (.agg (MsgP r176 A182 c183 A184 c185 A186 c187).toArray) (Kz (.int .i64 r177) ?_))
 refine npw (MsgC 0 0 0 0 0 0 0 0 0 0 0 0 0 0 0 false ([]) ([]) none 0 0 none 0 0 none 0 0) 29 H181 ?_
 intro g195 w196 H197
 refine sto (MsgP r176 A182 c183 A184 c185 A186 c187) 0 H197 Tryz.sizeOf29 ?_
 intro w198 H199
 refine An rfl (Wp.seq ?_)
 have H200 := H199.pk [6, 7, 8, 9, 10, 11]
 have H202 := H200.drew
 refine Wp.drawnX [] (fun W => ∃ L', Own w D W ([blk g61 (MsgP r42 A48 c49 A50 c51 A52 c53) 29, row A48 r42.xOps.ls.length c49 (List.flatMap OpD.cells r42.xOps.ls) 64 6, row A50 r42.xResults.ls.length c51 (List.flatMap ResultD.cells d54) 84 3, sepL (List.flatMap ResultD.own d54), row A52 r42.xOwners.ls.length c53 (List.flatMap OwnerD.cells r42.xOwners.ls) 88 2, row A32 r26.length c33 (List.flatMap eB r26) 5 1] ++ L')) (by kernel_rfl) (by kernel_rfl) (NoP.then NoP.base) ⟨_, H202⟩ ?_
 revert H202
 generalize World.drew w198 = w201
 intro H202
 refine GX.take (v := .slice A32 r26.length c33) (rs := []) 0 rfl (by kernel_rfl) (fun _ _ => Yl.move rfl) (GX.take (v := .string ⟨List.toArray r26⟩) (rs := []) 1 rfl (by kernel_rfl) (fun _ ⟨_, H9⟩ => Yl.toStringE (l := r26) Tryz.underlying31 Tryz.underlying5 Tryz.underlying9 (H9.rds (i := 5) rfl) rfl) ?_)
 obtain ⟨r208, hr209⟩ : ∃ q, w18_sealed ([6, 1, 0, 172, 2]) = q := ⟨_, rfl⟩
 obtain ⟨D203, HP204, ro205, bk206, rr207⟩ := Own.enter0 H202
 refine GX.do 2 rfl (by kernel_rfl) (Do.call Tryz.call18 rfl (w18_sealed_ok _ _ ([6, 1, 0, 172, 2]) r208 HP204 (by first | omega | exact Nat.le_of_ble_eq_true rfl) hr209) ?_)
 rintro _ w210 ⟨A213, c214, rfl, HQ211, hk215⟩
 have H212 := bk206 _ _ HQ211
 have hb216 := H212.rowC (i := 0) rfl
 replace hk215 : r208.length ≤ 5 + 15 := hk215
 have H217 := H212.pk [1, 2, 3, 4, 5, 6, 0]
 refine ⟨.inr ⟨_, H217⟩, ?_⟩
 refine GX.more (Good' := fun W => ∃ L', Own w D W ([blk g61 (MsgP r42 A48 c49 A50 c51 A52 c53) 29, row A48 r42.xOps.ls.length c49 (List.flatMap OpD.cells r42.xOps.ls) 64 6, row A50 r42.xResults.ls.length c51 (List.flatMap ResultD.cells d54) 84 3, sepL (List.flatMap ResultD.own d54), row A52 r42.xOwners.ls.length c53 (List.flatMap OwnerD.cells r42.xOwners.ls) 88 2, row A32 r26.length c33 (List.flatMap eB r26) 5 1, row A213 r208.length c214 (List.flatMap eB r208) 5 1] ++ L')) (fun _ ⟨L', h⟩ => ⟨[row A213 r208.length c214 (List.flatMap eB r208) 5 1] ++ L', h⟩) ⟨_, H217⟩ (GX.take (v := .string ⟨List.toArray r208⟩) (rs := []) 3 rfl (by kernel_rfl) (fun _ ⟨_, H9⟩ => Yl.toStringE (l := r208) Tryz.underlying31 Tryz.underlying5 Tryz.underlying9 (H9.rds (i := 6) rfl) rfl) (GX.take (v := .bool (decide (r26 = r208))) (rs := []) 4 rfl (by kernel_rfl) (fun _ _ => Yl.strEq rfl rfl) (GX.take (v := .bool (decide (r26 = r208))) (rs := []) 5 rfl (by kernel_rfl) (fun _ _ => Yl.move rfl) ?_)))
 by_cases h218 : r26 = r208
 refine GX.takeG (v := .int .i64 r27) (rs := []) 6 rfl rfl rfl (dT h218) (by kernel_rfl) (fun _ _ => Yl.move rfl) (GX.takeG (v := .bool (decide (r27 = 0))) (rs := []) 7 rfl rfl rfl (dT h218) (by kernel_rfl) (fun _ _ => yk) (GX.take (v := .bool (decide (r27 = 0))) (rs := []) 8 rfl (by kernel_rfl) (fun _ _ => Yl.pickT rfl (dT h218) rfl) (GX.take (v := .bool (decide (r27 = 0))) (rs := []) 9 rfl (by kernel_rfl) (fun _ _ => Yl.move rfl) ?_)))
 by_cases h219 : r27 = 0
 refine GX.takeG (v := .pointer (some ⟨g61, 0, none⟩)) (rs := []) 10 rfl rfl rfl (dT h219) (by kernel_rfl) (fun _ _ => yk) (GX.takeG (v := .int .i64 r42.xKind) (rs := []) 11 rfl rfl rfl (dT h219) (by kernel_rfl) (fun _ ⟨_, H9⟩ => Yl.load rfl (Lds.one Tryz.isAgg3 (Cls.of (H9.cls (i := 0) rfl) rfl))) (GX.takeG (v := .bool (decide (r42.xKind = 6))) (rs := []) 12 rfl rfl rfl (dT h219) (by kernel_rfl) (fun _ _ => yk) (GX.take (v := .bool (decide (r42.xKind = 6))) (rs := []) 13 rfl (by kernel_rfl) (fun _ _ => Yl.pickT rfl (dT h219) rfl) (GX.take (v := .bool (decide (r42.xKind = 6))) (rs := []) 14 rfl (by kernel_rfl) (fun _ _ => Yl.move rfl) ?_))))
 by_cases h220 : r42.xKind = 6
 refine GX.takeG (v := .pointer (some ⟨g61, 1, none⟩)) (rs := []) 15 rfl rfl rfl (dT h220) (by kernel_rfl) (fun _ _ => yk) (GX.takeG (v := .int .i64 r42.xFrom) (rs := []) 16 rfl rfl rfl (dT h220) (by kernel_rfl) (fun _ ⟨_, H9⟩ => Yl.load rfl (Lds.one Tryz.isAgg3 (Cls.of (H9.cls (i := 0) rfl) rfl))) (GX.takeG (v := .bool (decide (r42.xFrom = 1))) (rs := []) 17 rfl rfl rfl (dT h220) (by kernel_rfl) (fun _ _ => yk) (GX.take (v := .bool (decide (r42.xFrom = 1))) (rs := []) 18 rfl (by kernel_rfl) (fun _ _ => Yl.pickT rfl (dT h220) rfl) (GX.take (v := .bool (decide (r42.xFrom = 1))) (rs := []) 19 rfl (by kernel_rfl) (fun _ _ => Yl.move rfl) ?_))))
 by_cases h221 : r42.xFrom = 1
 refine GX.takeG (v := .pointer (some ⟨g61, 8, none⟩)) (rs := []) 20 rfl rfl rfl (dT h221) (by kernel_rfl) (fun _ _ => yk) (GX.takeG (v := .int .u64 ((r42.xTxn : Nat) : Int)) (rs := []) 21 rfl rfl rfl (dT h221) (by kernel_rfl) (fun _ ⟨_, H9⟩ => Yl.load rfl (Lds.one Tryz.isAgg22 (Cls.of (H9.cls (i := 0) rfl) rfl))) (GX.takeG (v := .bool (decide (((r42.xTxn : Nat) : Int) = 300))) (rs := []) 22 rfl rfl rfl (dT h221) (by kernel_rfl) (fun _ _ => yk) (GX.take (v := .bool (decide (((r42.xTxn : Nat) : Int) = 300))) (rs := []) 23 rfl (by kernel_rfl) (fun _ _ => Yl.pickT rfl (dT h221) rfl) (GX.take (v := .bool (decide (((r42.xTxn : Nat) : Int) = 300))) (rs := []) 24 rfl (by kernel_rfl) (fun _ _ => Yl.move rfl) ?_))))
 by_cases h222 : ((r42.xTxn : Nat) : Int) = 300
 refine GX.takeG (v := .int .i64 r43) (rs := []) 25 rfl rfl rfl (dT h222) (by kernel_rfl) (fun _ _ => Yl.move rfl) (GX.takeG (v := .bool (decide (r43 = 0))) (rs := []) 26 rfl rfl rfl (dT h222) (by kernel_rfl) (fun _ _ => yk) (GX.take (v := .bool (decide (r43 = 0))) (rs := []) 27 rfl (by kernel_rfl) (fun _ _ => Yl.pickT rfl (dT h222) rfl) (GX.take (v := .bool (decide (r43 = 0))) (rs := []) 28 rfl (by kernel_rfl) (fun _ _ => Yl.move rfl) ?_)))
 by_cases h223 : r43 = 0
 refine GX.takeG (v := .int .i64 r87) (rs := []) 29 rfl rfl rfl (dT h223) (by kernel_rfl) (fun _ _ => Yl.move rfl) (GX.takeG (v := .bool (decide (r87 = 10))) (rs := []) 30 rfl rfl rfl (dT h223) (by kernel_rfl) (fun _ _ => yk) (GX.take (v := .bool (decide (r87 = 10))) (rs := []) 31 rfl (by kernel_rfl) (fun _ _ => Yl.pickT rfl (dT h223) rfl) (GX.take (v := .bool (decide (r87 = 10))) (rs := []) 32 rfl (by kernel_rfl) (fun _ _ => Yl.move rfl) ?_)))
 by_cases h224 : r87 = 10
 refine GX.takeG (v := .int .i64 r132) (rs := []) 33 rfl rfl rfl (dT h224) (by kernel_rfl) (fun _ _ => Yl.move rfl) (GX.takeG (v := .bool (decide (r132 = 180))) (rs := []) 34 rfl rfl rfl (dT h224) (by kernel_rfl) (fun _ _ => yk) (GX.take (v := .bool (decide (r132 = 180))) (rs := []) 35 rfl (by kernel_rfl) (fun _ _ => Yl.pickT rfl (dT h224) rfl) (GX.take (v := .bool (decide (r132 = 180))) (rs := []) 36 rfl (by kernel_rfl) (fun _ _ => Yl.move rfl) ?_)))
 by_cases h225 : r132 = 180
 refine GX.takeG (v := .int .i64 r177) (rs := []) 37 rfl rfl rfl (dT h225) (by kernel_rfl) (fun _ _ => Yl.move rfl) (GX.takeG (v := .bool (decide (r177 = 11))) (rs := []) 38 rfl rfl rfl (dT h225) (by kernel_rfl) (fun _ _ => yk) (GX.take (v := .bool (decide (r177 = 11))) (rs := []) 39 rfl (by kernel_rfl) (fun _ _ => Yl.pickT rfl (dT h225) rfl) (GX.take (v := .bool (decide (r177 = 11))) (rs := []) 40 rfl (by kernel_rfl) (fun _ _ => Yl.assign rfl) (GX.done (by kernel_rfl) (Fin.then (rt (rs ?_)))))))
 have H226 := H217.pk []
 obtain rfl : _ = decide (r177 = 11) := hr.symm.trans (et (bnd_of hr28) (et (bnd_of hr44) (et (bnd_of hr72) (et (bnd_of hr88) (et (bnd_of hr117) (et (bnd_of hr133) (et (bnd_of hr162) (et (bnd_of hr178) (et (bnd_of hr209) (et (ip h218) (et (ip h219) (et (ip h220) (et (ip h221) (et (ip h222) (et (ip h223) (et (ip h224) (ip h225)))))))))))))))))
 exact ⟨rfl, H226⟩
 refine GX.skipG (rs := []) 37 rfl rfl rfl (dF h225) (by kernel_rfl) (GX.skipG (rs := []) 38 rfl rfl rfl (dF h225) (by kernel_rfl) (GX.take (v := .bool false) (rs := []) 39 rfl (by kernel_rfl) (fun _ _ => Yl.pickF rfl (dF h225) rfl) (GX.take (v := .bool false) (rs := []) 40 rfl (by kernel_rfl) (fun _ _ => Yl.assign rfl) (GX.done (by kernel_rfl) (Fin.then (rt (rs ?_)))))))
 have H227 := H217.pk []
 obtain rfl : _ = false := hr.symm.trans (et (bnd_of hr28) (et (bnd_of hr44) (et (bnd_of hr72) (et (bnd_of hr88) (et (bnd_of hr117) (et (bnd_of hr133) (et (bnd_of hr162) (et (bnd_of hr178) (et (bnd_of hr209) (et (ip h218) (et (ip h219) (et (ip h220) (et (ip h221) (et (ip h222) (et (ip h223) (et (ip h224) (iN h225)))))))))))))))))
 exact ⟨rfl, H227⟩
 refine GX.skipG (rs := []) 33 rfl rfl rfl (dF h224) (by kernel_rfl) (GX.skipG (rs := []) 34 rfl rfl rfl (dF h224) (by kernel_rfl) (GX.take (v := .bool false) (rs := []) 35 rfl (by kernel_rfl) (fun _ _ => Yl.pickF rfl (dF h224) rfl) (GX.take (v := .bool false) (rs := []) 36 rfl (by kernel_rfl) (fun _ _ => Yl.move rfl) (GX.skipG (rs := []) 37 rfl rfl rfl rfl (by kernel_rfl) (GX.skipG (rs := []) 38 rfl rfl rfl rfl (by kernel_rfl) (GX.take (v := .bool false) (rs := []) 39 rfl (by kernel_rfl) (fun _ _ => Yl.pickF rfl rfl rfl) (GX.take (v := .bool false) (rs := []) 40 rfl (by kernel_rfl) (fun _ _ => Yl.assign rfl) (GX.done (by kernel_rfl) (Fin.then (rt (rs ?_)))))))))))
 have H228 := H217.pk []
 obtain rfl : _ = false := hr.symm.trans (et (bnd_of hr28) (et (bnd_of hr44) (et (bnd_of hr72) (et (bnd_of hr88) (et (bnd_of hr117) (et (bnd_of hr133) (et (bnd_of hr162) (et (bnd_of hr178) (et (bnd_of hr209) (et (ip h218) (et (ip h219) (et (ip h220) (et (ip h221) (et (ip h222) (et (ip h223) (iN h224))))))))))))))))
 exact ⟨rfl, H228⟩
 refine GX.skipG (rs := []) 29 rfl rfl rfl (dF h223) (by kernel_rfl) (GX.skipG (rs := []) 30 rfl rfl rfl (dF h223) (by kernel_rfl) (GX.take (v := .bool false) (rs := []) 31 rfl (by kernel_rfl) (fun _ _ => Yl.pickF rfl (dF h223) rfl) (GX.take (v := .bool false) (rs := []) 32 rfl (by kernel_rfl) (fun _ _ => Yl.move rfl) (GX.skipG (rs := []) 33 rfl rfl rfl rfl (by kernel_rfl) (GX.skipG (rs := []) 34 rfl rfl rfl rfl (by kernel_rfl) (GX.take (v := .bool false) (rs := []) 35 rfl (by kernel_rfl) (fun _ _ => Yl.pickF rfl rfl rfl) (GX.take (v := .bool false) (rs := []) 36 rfl (by kernel_rfl) (fun _ _ => Yl.move rfl) (GX.skipG (rs := []) 37 rfl rfl rfl rfl (by kernel_rfl) (GX.skipG (rs := []) 38 rfl rfl rfl rfl (by kernel_rfl) (GX.take (v := .bool false) (rs := []) 39 rfl (by kernel_rfl) (fun _ _ => Yl.pickF rfl rfl rfl) (GX.take (v := .bool false) (rs := []) 40 rfl (by kernel_rfl) (fun _ _ => Yl.assign rfl) (GX.done (by kernel_rfl) (Fin.then (rt (rs ?_)))))))))))))))
 have H229 := H217.pk []
 obtain rfl : _ = false := hr.symm.trans (et (bnd_of hr28) (et (bnd_of hr44) (et (bnd_of hr72) (et (bnd_of hr88) (et (bnd_of hr117) (et (bnd_of hr133) (et (bnd_of hr162) (et (bnd_of hr178) (et (bnd_of hr209) (et (ip h218) (et (ip h219) (et (ip h220) (et (ip h221) (et (ip h222) (iN h223)))))))))))))))
 exact ⟨rfl, H229⟩
 refine GX.skipG (rs := []) 25 rfl rfl rfl (dF h222) (by kernel_rfl) (GX.skipG (rs := []) 26 rfl rfl rfl (dF h222) (by kernel_rfl) (GX.take (v := .bool false) (rs := []) 27 rfl (by kernel_rfl) (fun _ _ => Yl.pickF rfl (dF h222) rfl) (GX.take (v := .bool false) (rs := []) 28 rfl (by kernel_rfl) (fun _ _ => Yl.move rfl) (GX.skipG (rs := []) 29 rfl rfl rfl rfl (by kernel_rfl) (GX.skipG (rs := []) 30 rfl rfl rfl rfl (by kernel_rfl) (GX.take (v := .bool false) (rs := []) 31 rfl (by kernel_rfl) (fun _ _ => Yl.pickF rfl rfl rfl) (GX.take (v := .bool false) (rs := []) 32 rfl (by kernel_rfl) (fun _ _ => Yl.move rfl) (GX.skipG (rs := []) 33 rfl rfl rfl rfl (by kernel_rfl) (GX.skipG (rs := []) 34 rfl rfl rfl rfl (by kernel_rfl) (GX.take (v := .bool false) (rs := []) 35 rfl (by kernel_rfl) (fun _ _ => Yl.pickF rfl rfl rfl) (GX.take (v := .bool false) (rs := []) 36 rfl (by kernel_rfl) (fun _ _ => Yl.move rfl) (GX.skipG (rs := []) 37 rfl rfl rfl rfl (by kernel_rfl) (GX.skipG (rs := []) 38 rfl rfl rfl rfl (by kernel_rfl) (GX.take (v := .bool false) (rs := []) 39 rfl (by kernel_rfl) (fun _ _ => Yl.pickF rfl rfl rfl) (GX.take (v := .bool false) (rs := []) 40 rfl (by kernel_rfl) (fun _ _ => Yl.assign rfl) (GX.done (by kernel_rfl) (Fin.then (rt (rs ?_)))))))))))))))))))
 have H230 := H217.pk []
 obtain rfl : _ = false := hr.symm.trans (et (bnd_of hr28) (et (bnd_of hr44) (et (bnd_of hr72) (et (bnd_of hr88) (et (bnd_of hr117) (et (bnd_of hr133) (et (bnd_of hr162) (et (bnd_of hr178) (et (bnd_of hr209) (et (ip h218) (et (ip h219) (et (ip h220) (et (ip h221) (iN h222))))))))))))))
 exact ⟨rfl, H230⟩
 refine GX.skipG (rs := []) 20 rfl rfl rfl (dF h221) (by kernel_rfl) (GX.skipG (rs := []) 21 rfl rfl rfl (dF h221) (by kernel_rfl) (GX.skipG (rs := []) 22 rfl rfl rfl (dF h221) (by kernel_rfl) (GX.take (v := .bool false) (rs := []) 23 rfl (by kernel_rfl) (fun _ _ => Yl.pickF rfl (dF h221) rfl) (GX.take (v := .bool false) (rs := []) 24 rfl (by kernel_rfl) (fun _ _ => Yl.move rfl) (GX.skipG (rs := []) 25 rfl rfl rfl rfl (by kernel_rfl) (GX.skipG (rs := []) 26 rfl rfl rfl rfl (by kernel_rfl) (GX.take (v := .bool false) (rs := []) 27 rfl (by kernel_rfl) (fun _ _ => Yl.pickF rfl rfl rfl) (GX.take (v := .bool false) (rs := []) 28 rfl (by kernel_rfl) (fun _ _ => Yl.move rfl) (GX.skipG (rs := []) 29 rfl rfl rfl rfl (by kernel_rfl) (GX.skipG (rs := []) 30 rfl rfl rfl rfl (by kernel_rfl) (GX.take (v := .bool false) (rs := []) 31 rfl (by kernel_rfl) (fun _ _ => Yl.pickF rfl rfl rfl) (GX.take (v := .bool false) (rs := []) 32 rfl (by kernel_rfl) (fun _ _ => Yl.move rfl) (GX.skipG (rs := []) 33 rfl rfl rfl rfl (by kernel_rfl) (GX.skipG (rs := []) 34 rfl rfl rfl rfl (by kernel_rfl) (GX.take (v := .bool false) (rs := []) 35 rfl (by kernel_rfl) (fun _ _ => Yl.pickF rfl rfl rfl) (GX.take (v := .bool false) (rs := []) 36 rfl (by kernel_rfl) (fun _ _ => Yl.move rfl) (GX.skipG (rs := []) 37 rfl rfl rfl rfl (by kernel_rfl) (GX.skipG (rs := []) 38 rfl rfl rfl rfl (by kernel_rfl) (GX.take (v := .bool false) (rs := []) 39 rfl (by kernel_rfl) (fun _ _ => Yl.pickF rfl rfl rfl) (GX.take (v := .bool false) (rs := []) 40 rfl (by kernel_rfl) (fun _ _ => Yl.assign rfl) (GX.done (by kernel_rfl) (Fin.then (rt (rs ?_))))))))))))))))))))))))
 have H231 := H217.pk []
 obtain rfl : _ = false := hr.symm.trans (et (bnd_of hr28) (et (bnd_of hr44) (et (bnd_of hr72) (et (bnd_of hr88) (et (bnd_of hr117) (et (bnd_of hr133) (et (bnd_of hr162) (et (bnd_of hr178) (et (bnd_of hr209) (et (ip h218) (et (ip h219) (et (ip h220) (iN h221)))))))))))))
 exact ⟨rfl, H231⟩
 refine GX.skipG (rs := []) 15 rfl rfl rfl (dF h220) (by kernel_rfl) (GX.skipG (rs := []) 16 rfl rfl rfl (dF h220) (by kernel_rfl) (GX.skipG (rs := []) 17 rfl rfl rfl (dF h220) (by kernel_rfl) (GX.take (v := .bool false) (rs := []) 18 rfl (by kernel_rfl) (fun _ _ => Yl.pickF rfl (dF h220) rfl) (GX.take (v := .bool false) (rs := []) 19 rfl (by kernel_rfl) (fun _ _ => Yl.move rfl) (GX.skipG (rs := []) 20 rfl rfl rfl rfl (by kernel_rfl) (GX.skipG (rs := []) 21 rfl rfl rfl rfl (by kernel_rfl) (GX.skipG (rs := []) 22 rfl rfl rfl rfl (by kernel_rfl) (GX.take (v := .bool false) (rs := []) 23 rfl (by kernel_rfl) (fun _ _ => Yl.pickF rfl rfl rfl) (GX.take (v := .bool false) (rs := []) 24 rfl (by kernel_rfl) (fun _ _ => Yl.move rfl) (GX.skipG (rs := []) 25 rfl rfl rfl rfl (by kernel_rfl) (GX.skipG (rs := []) 26 rfl rfl rfl rfl (by kernel_rfl) (GX.take (v := .bool false) (rs := []) 27 rfl (by kernel_rfl) (fun _ _ => Yl.pickF rfl rfl rfl) (GX.take (v := .bool false) (rs := []) 28 rfl (by kernel_rfl) (fun _ _ => Yl.move rfl) (GX.skipG (rs := []) 29 rfl rfl rfl rfl (by kernel_rfl) (GX.skipG (rs := []) 30 rfl rfl rfl rfl (by kernel_rfl) (GX.take (v := .bool false) (rs := []) 31 rfl (by kernel_rfl) (fun _ _ => Yl.pickF rfl rfl rfl) (GX.take (v := .bool false) (rs := []) 32 rfl (by kernel_rfl) (fun _ _ => Yl.move rfl) (GX.skipG (rs := []) 33 rfl rfl rfl rfl (by kernel_rfl) (GX.skipG (rs := []) 34 rfl rfl rfl rfl (by kernel_rfl) (GX.take (v := .bool false) (rs := []) 35 rfl (by kernel_rfl) (fun _ _ => Yl.pickF rfl rfl rfl) (GX.take (v := .bool false) (rs := []) 36 rfl (by kernel_rfl) (fun _ _ => Yl.move rfl) (GX.skipG (rs := []) 37 rfl rfl rfl rfl (by kernel_rfl) (GX.skipG (rs := []) 38 rfl rfl rfl rfl (by kernel_rfl) (GX.take (v := .bool false) (rs := []) 39 rfl (by kernel_rfl) (fun _ _ => Yl.pickF rfl rfl rfl) (GX.take (v := .bool false) (rs := []) 40 rfl (by kernel_rfl) (fun _ _ => Yl.assign rfl) (GX.done (by kernel_rfl) (Fin.then (rt (rs ?_)))))))))))))))))))))))))))))
 have H232 := H217.pk []
 obtain rfl : _ = false := hr.symm.trans (et (bnd_of hr28) (et (bnd_of hr44) (et (bnd_of hr72) (et (bnd_of hr88) (et (bnd_of hr117) (et (bnd_of hr133) (et (bnd_of hr162) (et (bnd_of hr178) (et (bnd_of hr209) (et (ip h218) (et (ip h219) (iN h220))))))))))))
 exact ⟨rfl, H232⟩
 refine GX.skipG (rs := []) 10 rfl rfl rfl (dF h219) (by kernel_rfl) (GX.skipG (rs := []) 11 rfl rfl rfl (dF h219) (by kernel_rfl) (GX.skipG (rs := []) 12 rfl rfl rfl (dF h219) (by kernel_rfl) (GX.take (v := .bool false) (rs := []) 13 rfl (by kernel_rfl) (fun _ _ => Yl.pickF rfl (dF h219) rfl) (GX.take (v := .bool false) (rs := []) 14 rfl (by kernel_rfl) (fun _ _ => Yl.move rfl) (GX.skipG (rs := []) 15 rfl rfl rfl rfl (by kernel_rfl) (GX.skipG (rs := []) 16 rfl rfl rfl rfl (by kernel_rfl) (GX.skipG (rs := []) 17 rfl rfl rfl rfl (by kernel_rfl) (GX.take (v := .bool false) (rs := []) 18 rfl (by kernel_rfl) (fun _ _ => Yl.pickF rfl rfl rfl) (GX.take (v := .bool false) (rs := []) 19 rfl (by kernel_rfl) (fun _ _ => Yl.move rfl) (GX.skipG (rs := []) 20 rfl rfl rfl rfl (by kernel_rfl) (GX.skipG (rs := []) 21 rfl rfl rfl rfl (by kernel_rfl) (GX.skipG (rs := []) 22 rfl rfl rfl rfl (by kernel_rfl) (GX.take (v := .bool false) (rs := []) 23 rfl (by kernel_rfl) (fun _ _ => Yl.pickF rfl rfl rfl) (GX.take (v := .bool false) (rs := []) 24 rfl (by kernel_rfl) (fun _ _ => Yl.move rfl) (GX.skipG (rs := []) 25 rfl rfl rfl rfl (by kernel_rfl) (GX.skipG (rs := []) 26 rfl rfl rfl rfl (by kernel_rfl) (GX.take (v := .bool false) (rs := []) 27 rfl (by kernel_rfl) (fun _ _ => Yl.pickF rfl rfl rfl) (GX.take (v := .bool false) (rs := []) 28 rfl (by kernel_rfl) (fun _ _ => Yl.move rfl) (GX.skipG (rs := []) 29 rfl rfl rfl rfl (by kernel_rfl) (GX.skipG (rs := []) 30 rfl rfl rfl rfl (by kernel_rfl) (GX.take (v := .bool false) (rs := []) 31 rfl (by kernel_rfl) (fun _ _ => Yl.pickF rfl rfl rfl) (GX.take (v := .bool false) (rs := []) 32 rfl (by kernel_rfl) (fun _ _ => Yl.move rfl) (GX.skipG (rs := []) 33 rfl rfl rfl rfl (by kernel_rfl) (GX.skipG (rs := []) 34 rfl rfl rfl rfl (by kernel_rfl) (GX.take (v := .bool false) (rs := []) 35 rfl (by kernel_rfl) (fun _ _ => Yl.pickF rfl rfl rfl) (GX.take (v := .bool false) (rs := []) 36 rfl (by kernel_rfl) (fun _ _ => Yl.move rfl) (GX.skipG (rs := []) 37 rfl rfl rfl rfl (by kernel_rfl) (GX.skipG (rs := []) 38 rfl rfl rfl rfl (by kernel_rfl) (GX.take (v := .bool false) (rs := []) 39 rfl (by kernel_rfl) (fun _ _ => Yl.pickF rfl rfl rfl) (GX.take (v := .bool false) (rs := []) 40 rfl (by kernel_rfl) (fun _ _ => Yl.assign rfl) (GX.done (by kernel_rfl) (Fin.then (rt (rs ?_))))))))))))))))))))))))))))))))))
 have H233 := H217.pk []
 obtain rfl : _ = false := hr.symm.trans (et (bnd_of hr28) (et (bnd_of hr44) (et (bnd_of hr72) (et (bnd_of hr88) (et (bnd_of hr117) (et (bnd_of hr133) (et (bnd_of hr162) (et (bnd_of hr178) (et (bnd_of hr209) (et (ip h218) (iN h219)))))))))))
 exact ⟨rfl, H233⟩
 refine GX.skipG (rs := []) 6 rfl rfl rfl (dF h218) (by kernel_rfl) (GX.skipG (rs := []) 7 rfl rfl rfl (dF h218) (by kernel_rfl) (GX.take (v := .bool false) (rs := []) 8 rfl (by kernel_rfl) (fun _ _ => Yl.pickF rfl (dF h218) rfl) (GX.take (v := .bool false) (rs := []) 9 rfl (by kernel_rfl) (fun _ _ => Yl.move rfl) (GX.skipG (rs := []) 10 rfl rfl rfl rfl (by kernel_rfl) (GX.skipG (rs := []) 11 rfl rfl rfl rfl (by kernel_rfl) (GX.skipG (rs := []) 12 rfl rfl rfl rfl (by kernel_rfl) (GX.take (v := .bool false) (rs := []) 13 rfl (by kernel_rfl) (fun _ _ => Yl.pickF rfl rfl rfl) (GX.take (v := .bool false) (rs := []) 14 rfl (by kernel_rfl) (fun _ _ => Yl.move rfl) (GX.skipG (rs := []) 15 rfl rfl rfl rfl (by kernel_rfl) (GX.skipG (rs := []) 16 rfl rfl rfl rfl (by kernel_rfl) (GX.skipG (rs := []) 17 rfl rfl rfl rfl (by kernel_rfl) (GX.take (v := .bool false) (rs := []) 18 rfl (by kernel_rfl) (fun _ _ => Yl.pickF rfl rfl rfl) (GX.take (v := .bool false) (rs := []) 19 rfl (by kernel_rfl) (fun _ _ => Yl.move rfl) (GX.skipG (rs := []) 20 rfl rfl rfl rfl (by kernel_rfl) (GX.skipG (rs := []) 21 rfl rfl rfl rfl (by kernel_rfl) (GX.skipG (rs := []) 22 rfl rfl rfl rfl (by kernel_rfl) (GX.take (v := .bool false) (rs := []) 23 rfl (by kernel_rfl) (fun _ _ => Yl.pickF rfl rfl rfl) (GX.take (v := .bool false) (rs := []) 24 rfl (by kernel_rfl) (fun _ _ => Yl.move rfl) (GX.skipG (rs := []) 25 rfl rfl rfl rfl (by kernel_rfl) (GX.skipG (rs := []) 26 rfl rfl rfl rfl (by kernel_rfl) (GX.take (v := .bool false) (rs := []) 27 rfl (by kernel_rfl) (fun _ _ => Yl.pickF rfl rfl rfl) (GX.take (v := .bool false) (rs := []) 28 rfl (by kernel_rfl) (fun _ _ => Yl.move rfl) (GX.skipG (rs := []) 29 rfl rfl rfl rfl (by kernel_rfl) (GX.skipG (rs := []) 30 rfl rfl rfl rfl (by kernel_rfl) (GX.take (v := .bool false) (rs := []) 31 rfl (by kernel_rfl) (fun _ _ => Yl.pickF rfl rfl rfl) (GX.take (v := .bool false) (rs := []) 32 rfl (by kernel_rfl) (fun _ _ => Yl.move rfl) (GX.skipG (rs := []) 33 rfl rfl rfl rfl (by kernel_rfl) (GX.skipG (rs := []) 34 rfl rfl rfl rfl (by kernel_rfl) (GX.take (v := .bool false) (rs := []) 35 rfl (by kernel_rfl) (fun _ _ => Yl.pickF rfl rfl rfl) (GX.take (v := .bool false) (rs := []) 36 rfl (by kernel_rfl) (fun _ _ => Yl.move rfl) (GX.skipG (rs := []) 37 rfl rfl rfl rfl (by kernel_rfl) (GX.skipG (rs := []) 38 rfl rfl rfl rfl (by kernel_rfl) (GX.take (v := .bool false) (rs := []) 39 rfl (by kernel_rfl) (fun _ _ => Yl.pickF rfl rfl rfl) (GX.take (v := .bool false) (rs := []) 40 rfl (by kernel_rfl) (fun _ _ => Yl.assign rfl) (GX.done (by kernel_rfl) (Fin.then (rt (rs ?_))))))))))))))))))))))))))))))))))))))
 have H234 := H217.pk []
 obtain rfl : _ = false := hr.symm.trans (et (bnd_of hr28) (et (bnd_of hr44) (et (bnd_of hr72) (et (bnd_of hr88) (et (bnd_of hr117) (et (bnd_of hr133) (et (bnd_of hr162) (et (bnd_of hr178) (et (bnd_of hr209) (iN h218))))))))))
 exact ⟨rfl, H234⟩
end Go.Proofs.YtccjclalngabhaaGreat
