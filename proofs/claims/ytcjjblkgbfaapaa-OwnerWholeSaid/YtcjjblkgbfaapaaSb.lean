/-
 a stable sort of pairs: two sorted ranges made one.
-/
import Derived.Test.YtcjjblkgbfaapaaStA
namespace Go.Proofs.Ytcjjblkgbfaapaa
open Go.RowKit
set_option linter.unusedVariables false
set_option linter.unusedSectionVars false
set_option linter.unusedSimpArgs false
def slices_symMergeCmpFunc_api_Pair_L0 (l0 : List PairD) (p1 : Int) (p3 : Int) : Nat → Int → Int → Int
  | 0, z22, z23 => default
  | q24 + 1, z22, z23 => if z22 < z23 then bnd (List.getD l0 ((Int.toNat (z22 + z23)) / 2) default) fun yx41 => bnd (List.getD l0 (Int.toNat p1) default) fun yx43 => bnd (owner_gatherOp_1 yx41 yx43) fun yr50 => if yr50 < 0 then slices_symMergeCmpFunc_api_Pair_L0 l0 p1 p3 q24 ((((Int.toNat (z22 + z23)) / 2) + 1 : Nat) : Int) z23 else slices_symMergeCmpFunc_api_Pair_L0 l0 p1 p3 q24 z22 (((Int.toNat (z22 + z23)) / 2 : Nat) : Int) else z22
def slices_symMergeCmpFunc_api_Pair_L1 (z22 : Int) : Nat → Int → List PairD → (List PairD)
  | 0, z59, l60 => default
  | q61 + 1, z59, l60 => if z59 < z22 - 1 then bnd (List.getD l60 (Int.toNat (z59 + 1)) default) fun yx79 => bnd (List.getD l60 (Int.toNat z59) default) fun yx81 => slices_symMergeCmpFunc_api_Pair_L1 z22 q61 (z59 + 1) (List.set (List.set l60 (Int.toNat z59) (PairD.mk yx79.xKey yx79.xValue)) (Int.toNat (z59 + 1)) (PairD.mk yx81.xKey yx81.xValue)) else l60
def slices_symMergeCmpFunc_api_Pair_L2 (l0 : List PairD) (p1 : Int) (p2 : Int) : Nat → Int → Int → Int
  | 0, z97, z98 => default
  | q99 + 1, z97, z98 => if z97 < z98 then bnd (List.getD l0 (Int.toNat p2) default) fun yx116 => bnd (List.getD l0 ((Int.toNat (z97 + z98)) / 2) default) fun yx118 => bnd (owner_gatherOp_1 yx116 yx118) fun yr125 => if yr125 < 0 then slices_symMergeCmpFunc_api_Pair_L2 l0 p1 p2 q99 z97 (((Int.toNat (z97 + z98)) / 2 : Nat) : Int) else slices_symMergeCmpFunc_api_Pair_L2 l0 p1 p2 q99 ((((Int.toNat (z97 + z98)) / 2) + 1 : Nat) : Int) z98 else z97
def slices_symMergeCmpFunc_api_Pair_L3 (z97 : Int) : Nat → Int → List PairD → (List PairD)
  | 0, z134, l135 => default
  | q136 + 1, z134, l135 => if z134 > z97 then bnd (List.getD l135 (Int.toNat (z134 - 1)) default) fun yx154 => bnd (List.getD l135 (Int.toNat z134) default) fun yx156 => slices_symMergeCmpFunc_api_Pair_L3 z97 q136 (z134 - 1) (List.set (List.set l135 (Int.toNat z134) (PairD.mk yx154.xKey yx154.xValue)) (Int.toNat (z134 - 1)) (PairD.mk yx156.xKey yx156.xValue)) else l135
def slices_symMergeCmpFunc_api_Pair_L4 (l0 : List PairD) (p1 : Int) (p2 : Int) (p3 : Int) : Nat → Int → Int → Int
  | 0, z186, z187 => default
  | q188 + 1, z186, z187 => if z186 < z187 then bnd (List.getD l0 (Int.toNat ((((((Int.toNat (p1 + p3)) / 2 : Nat) : Int) + p2) - 1) - (((Int.toNat (z186 + z187)) / 2 : Nat) : Int))) default) fun yx205 => bnd (List.getD l0 ((Int.toNat (z186 + z187)) / 2) default) fun yx207 => bnd (owner_gatherOp_1 yx205 yx207) fun yr214 => if yr214 < 0 then slices_symMergeCmpFunc_api_Pair_L4 l0 p1 p2 p3 q188 z186 (((Int.toNat (z186 + z187)) / 2 : Nat) : Int) else slices_symMergeCmpFunc_api_Pair_L4 l0 p1 p2 p3 q188 ((((Int.toNat (z186 + z187)) / 2) + 1 : Nat) : Int) z187 else z186
def slices_symMergeCmpFunc_api_Pair (l0 : List PairD) (p1 : Int) (p2 : Int) (p3 : Int) : (List PairD) :=
 if p2 - p1 = 1 then bnd (slices_symMergeCmpFunc_api_Pair_L0 l0 p1 p3 ((Int.toNat (p3 - p2)) + 1) p2 p3) fun sLrtL => bnd (slices_symMergeCmpFunc_api_Pair_L1 sLrtL ((Int.toNat (p3 - p1)) + 1) p1 l0) fun sLrtLaL => sLrtLaL else if p3 - p2 = 1 then bnd (slices_symMergeCmpFunc_api_Pair_L2 l0 p1 p2 ((Int.toNat (p2 - p1)) + 1) p1 p2) fun sLrftL => bnd (slices_symMergeCmpFunc_api_Pair_L3 sLrftL ((Int.toNat (p2 - p1)) + 1) p2 l0) fun sLrftLaL => sLrftLaL else bnd (if p2 > (((Int.toNat (p1 + p3)) / 2 : Nat) : Int) then (((((Int.toNat (p1 + p3)) / 2 : Nat) : Int) + p2) - p3, (((Int.toNat (p1 + p3)) / 2 : Nat) : Int)) else (p1, p2)) fun sJrffJ => bnd (slices_symMergeCmpFunc_api_Pair_L4 l0 p1 p2 p3 ((Int.toNat (sJrffJ.2 - sJrffJ.1)) + 1) sJrffJ.1 sJrffJ.2) fun sLrffJaL => if sLrffJaL < p2 then bnd (if p2 < ((((Int.toNat (p1 + p3)) / 2 : Nat) : Int) + p2) - sLrffJaL then bnd (slices_rotateCmpFunc_api_Pair l0 sLrffJaL p2 (((((Int.toNat (p1 + p3)) / 2 : Nat) : Int) + p2) - sLrffJaL)) fun yr234 => yr234 else l0) fun sJrffJaLatJ => if p1 < sLrffJaL then bnd (if sLrffJaL < (((Int.toNat (p1 + p3)) / 2 : Nat) : Int) then bnd (symT sJrffJaLatJ p1 sLrffJaL (((Int.toNat (p1 + p3)) / 2 : Nat) : Int)) fun yr259 => yr259 else sJrffJaLatJ) fun sJrffJaLatJatJ => if ((((Int.toNat (p1 + p3)) / 2 : Nat) : Int) + p2) - sLrffJaL < p3 then bnd (symT sJrffJaLatJatJ (((Int.toNat (p1 + p3)) / 2 : Nat) : Int) (((((Int.toNat (p1 + p3)) / 2 : Nat) : Int) + p2) - sLrffJaL) p3) fun yr280 => yr280 else sJrffJaLatJatJ else if ((((Int.toNat (p1 + p3)) / 2 : Nat) : Int) + p2) - sLrffJaL < p3 then bnd (symT sJrffJaLatJ (((Int.toNat (p1 + p3)) / 2 : Nat) : Int) (((((Int.toNat (p1 + p3)) / 2 : Nat) : Int) + p2) - sLrffJaL) p3) fun yr296 => yr296 else sJrffJaLatJ else bnd (if sLrffJaL < (((Int.toNat (p1 + p3)) / 2 : Nat) : Int) then bnd (symT l0 p1 sLrffJaL (((Int.toNat (p1 + p3)) / 2 : Nat) : Int)) fun yr316 => yr316 else l0) fun sJrffJaLafJ => sJrffJaLafJ
set_option maxRecDepth 100000 in
theorem slices_symMergeCmpFunc_api_Pair_ok (w : World) (D : Nat → Prop) (A0 : Option Addr) (n0 c0 : Nat) (l0 : List PairD) (p1 : Int) (p2 : Int) (p3 : Int) (r0 : List PairD) (H : Own w D w [row A0 n0 c0 (List.flatMap PairD.cells l0) 58 2]) (hn0 : n0 = l0.length) (hl0 : l0.length * 32 ≤ 211106232532992) (hh0 : 0 ≤ p1 ∧ p1 < p2 ∧ p2 < p3 ∧ p3 ≤ ((l0.length : Nat) : Int)) (hr : slices_symMergeCmpFunc_api_Pair l0 p1 p2 p3 = r0) (pm : Nat) (hpm : pm = Int.toNat (p3 - p1))
    (self_ : ∀ (w : World) (D : Nat → Prop) (A0 : Option Addr) (n0 c0 : Nat) (l0 : List PairD) (p1 : Int) (p2 : Int) (p3 : Int) (r0 : List PairD) (H : Own w D w [row A0 n0 c0 (List.flatMap PairD.cells l0) 58 2]) (hn0 : n0 = l0.length) (hl0 : l0.length * 32 ≤ 211106232532992) (hh0 : 0 ≤ p1 ∧ p1 < p2 ∧ p2 < p3 ∧ p3 ≤ ((l0.length : Nat) : Int)) (hh_ : Int.toNat (p3 - p1) < pm) (hr : symT l0 p1 p2 p3 = r0), Calls Try.prog 95 #[.slice A0 n0 c0, .int .i64 p1, .int .i64 p2, .int .i64 p3, .func (.func 62) #[] #[]] w (Ret fun v w' => v = .tuple #[] ∧ Own w D w' [row A0 n0 c0 (List.flatMap PairD.cells r0) 58 2] ∧ (r0.length = l0.length))) :
    Calls Try.prog 95 #[.slice A0 n0 c0, .int .i64 p1, .int .i64 p2, .int .i64 p3, .func (.func 62) #[] #[]] w (Ret fun v w' => v = .tuple #[] ∧ Own w D w' [row A0 n0 c0 (List.flatMap PairD.cells r0) 58 2] ∧ (r0.length = l0.length)) := by
 subst hn0
 have hc0 := H.rowC (i := 0) rfl
 refine Calls.body (args := [.slice A0 l0.length c0, .int .i64 p1, .int .i64 p2, .int .i64 p3, .func (.func 62) #[] #[]]) Try.func95 rfl rfl rfl ?_
 show Wp _ _ _ [(0, .slice A0 l0.length c0), (1, .int .i64 p1), (2, .int .i64 p2), (3, .int .i64 p3), (4, .func (.func 62) #[] #[])] _ _
 refine Wp.seq (sr (Mz rfl (Mz rfl (fw (.int .i64 (p2 - p1)) (Yl.int (e := IntKind.i64.wrap (p2 - p1)) yk (by rw [IntWalk.i64_in _ (by omega)])) (Kz (.bool (decide (p2 - p1 = 1))) (nt ?_))))))
 by_cases h21 : p2 - p1 = 1
 refine jT (dT h21) (sr (Mz rfl (Ar rfl (Mz rfl (An rfl (Wp.seq (bo ?_)))))))
 have H26 : Own w D w [row A0 l0.length c0 (List.flatMap PairD.cells l0) 58 2] := H.pk [0]
 obtain ⟨I30, hI31⟩ : ∃ q : (Int × Int × Nat) → World → Prop, q = fun (i : Int × Int × Nat) w' => Own w D w' [row A0 l0.length c0 (List.flatMap PairD.cells l0) 58 2] ∧ ((p2 ≤ i.1 ∧ i.1 ≤ i.2.1 ∧ i.2.1 ≤ p3) ∧ Int.toNat (i.2.1 - i.1) < i.2.2 ∧ slices_symMergeCmpFunc_api_Pair_L0 l0 p1 p3 ((Int.toNat (p3 - p2)) + 1) p2 p3 = slices_symMergeCmpFunc_api_Pair_L0 l0 p1 p3 i.2.2 i.1 i.2.1) := ⟨_, rfl⟩
 have dm32 : ∀ {z22 : Int} {z23 : Int} {f25 : Nat} {w' : World}, I30 (z22, z23, f25) w' ↔ Own w D w' [row A0 l0.length c0 (List.flatMap PairD.cells l0) 58 2] ∧ (p2 ≤ z22 ∧ z22 ≤ z23 ∧ z23 ≤ p3) ∧ Int.toNat (z23 - z22) < f25 ∧ slices_symMergeCmpFunc_api_Pair_L0 l0 p1 p3 ((Int.toNat (p3 - p2)) + 1) p2 p3 = slices_symMergeCmpFunc_api_Pair_L0 l0 p1 p3 f25 z22 z23 := by intros; subst hI31; exact Iff.rfl
 refine Wp.loop (fun i : Int × Int × Nat => [(10, .int .i64 i.1), (11, .int .i64 i.2.1), (0, .slice A0 l0.length c0), (1, .int .i64 p1), (2, .int .i64 p2), (3, .int .i64 p3), (4, .func (.func 62) #[] #[])]) I30 (fun i => i.2.2) (p2, p3, (Int.toNat (p3 - p2)) + 1) ⟨rfl, rfl, rfl, rfl, rfl, rfl, rfl, trivial⟩ (dm32.2 ⟨H26, by omega, by omega, rfl⟩) ?_
 rintro ⟨z22, z23, f25⟩ w27 hf29
 show Wp _ _ _ [(10, .int .i64 z22), (11, .int .i64 z23), (0, .slice A0 l0.length c0), (1, .int .i64 p1), (2, .int .i64 p2), (3, .int .i64 p3), (4, .func (.func 62) #[] #[])] _ _
 obtain ⟨H28, hi34, hi35, hq33⟩ := dm32.1 hf29
 obtain ⟨f36, hf37⟩ : ∃ q, f25 = q + 1 := ⟨f25 - 1, by omega⟩
 subst hf37
 refine Wp.seq (sr (Mz rfl (Mz rfl (Kz (.bool (decide (z22 < z23))) (nt ?_)))))
 by_cases h38 : z22 < z23
 refine jT (dT h38) (sk (bo (sr (Mz rfl (Mz rfl (fw (.int .i64 (z22 + z23)) (Yl.int (e := IntKind.i64.wrap (z22 + z23)) yk (by rw [IntWalk.i64_in _ (by omega)])) (fw (.int .u64 ((Int.toNat (z22 + z23) : Nat) : Int)) (Yl.int (e := IntKind.u64.wrap (z22 + z23)) yk (by rw [IntWalk.u64_in _ (by omega)]; omega)) (fw (.int .u64 (((Int.toNat (z22 + z23)) / 2 : Nat) : Int)) (Yl.int (e := Int.fdiv ((Int.toNat (z22 + z23) : Nat) : Int) 2) yk (shr_nat _ 1 _ (by decide))) (fw (.int .i64 (((Int.toNat (z22 + z23)) / 2 : Nat) : Int)) (Yl.int (e := IntKind.i64.wrap (((Int.toNat (z22 + z23)) / 2 : Nat) : Int)) yk (IntWalk.i64_in _ (by omega))) (An rfl (Wp.seq ?_)))))))))))
 have H40 := H28.drew
 refine Wp.drawnX [] (fun W => ∃ L', Own w D W ([row A0 l0.length c0 (List.flatMap PairD.cells l0) 58 2] ++ L')) (by kernel_rfl) (by kernel_rfl) (NoP.then (NoP.block (NoP.then (NoP.block (NoP.then (NoP.then NoP.base)))))) ⟨_, H40⟩ ?_
 revert H40
 generalize World.drew w27 = w39
 intro H40
 refine GX.take (v := .func (.func 62) #[] #[]) (rs := []) 0 rfl (by kernel_rfl) (fun _ _ => Yl.move rfl) (GX.take (v := .slice A0 l0.length c0) (rs := []) 1 rfl (by kernel_rfl) (fun _ _ => Yl.move rfl) (GX.take (v := .int .i64 (((Int.toNat (z22 + z23)) / 2 : Nat) : Int)) (rs := []) 2 rfl (by kernel_rfl) (fun _ _ => Yl.move rfl) ?_))
 obtain ⟨x41, hx42⟩ := at_of (ls := l0) (i := (Int.toNat (z22 + z23)) / 2) (by first | omega | (simp; done) | (simp; omega))
 refine GX.take (v := .pointer (some ⟨ab A0, ao A0 + ((Int.toNat (z22 + z23)) / 2) * 2, none⟩)) (rs := []) 3 rfl (by kernel_rfl) (fun _ ⟨_, H9⟩ => Yl.indexAddr (El54) rfl rfl ((H9.rds (i := 0) rfl).addr (i := (Int.toNat (z22 + z23)) / 2) (by omega)) (by omega)) (GX.take (v := .agg (PairD.cells x41).toArray) (rs := []) 4 rfl (by kernel_rfl) (fun _ ⟨_, H9⟩ => Yl.load rfl (Lds.agg (cs := (PairD.cells x41)) Try.isAgg58 Try.sizeOf58 ((H9.rds (i := 0) rfl).elem PairD.len hx42 (by decide)))) (GX.take (v := .slice A0 l0.length c0) (rs := []) 5 rfl (by kernel_rfl) (fun _ _ => Yl.move rfl) (GX.take (v := .int .i64 ((Int.toNat p1 : Nat) : Int)) (rs := []) 6 rfl (by kernel_rfl) (fun _ _ => Yl.int (e := p1) (Yl.move rfl) (by omega)) ?_)))
 obtain ⟨x43, hx44⟩ := at_of (ls := l0) (i := Int.toNat p1) (by first | omega | (simp; done) | (simp; omega))
 refine GX.take (v := .pointer (some ⟨ab A0, ao A0 + (Int.toNat p1) * 2, none⟩)) (rs := []) 7 rfl (by kernel_rfl) (fun _ ⟨_, H9⟩ => Yl.indexAddr (El54) rfl rfl ((H9.rds (i := 0) rfl).addr (i := Int.toNat p1) (by omega)) (by omega)) (GX.take (v := .agg (PairD.cells x43).toArray) (rs := []) 8 rfl (by kernel_rfl) (fun _ ⟨_, H9⟩ => Yl.load rfl (Lds.agg (cs := (PairD.cells x43)) Try.isAgg58 Try.sizeOf58 ((H9.rds (i := 0) rfl).elem PairD.len hx44 (by decide)))) ?_)
 obtain ⟨r50, hr51⟩ : ∃ q, owner_gatherOp_1 x41 x43 = q := ⟨_, rfl⟩
 obtain ⟨D45, HP46, ro47, bk48, rr49⟩ := Own.enter0 H40
 refine GX.do 9 rfl (by kernel_rfl) (Do.callV Try.call62 rfl rfl (owner_gatherOp_1_ok _ _ x41 x43 r50 HP46 hr51) ?_)
 rintro _ w52 ⟨rfl, HQ53⟩
 have H54 := bk48 _ _ HQ53
 refine ⟨.inr ⟨_, H54⟩, ?_⟩
 refine GX.take (v := .bool (decide (r50 < 0))) (rs := []) 10 rfl (by kernel_rfl) (fun _ _ => yk) (GX.done (by kernel_rfl) (Fin.then ?_))
 by_cases h55 : r50 < 0
 refine jT (dT h55) (Wp.region (Mz rfl (fw (.int .i64 ((((Int.toNat (z22 + z23)) / 2) + 1 : Nat) : Int)) (Yl.int (e := IntKind.i64.wrap ((((Int.toNat (z22 + z23)) / 2 : Nat) : Int) + 1)) yk (by rw [IntWalk.i64_in _ (by omega)]; omega)) (Az rfl (WL.nil (bN ?_))))))
 have H56 := H54.pk [0]
 exact Fin.round (((((Int.toNat (z22 + z23)) / 2) + 1 : Nat) : Int), z23, f36) ⟨rfl, rfl, rfl, rfl, rfl, rfl, rfl, trivial⟩ (dm32.2 ⟨H56, by omega, by omega, et (hq33) (et (ip h38) (et (bnd_of (getD_of hx42)) (et (bnd_of (getD_of hx44)) (et (bnd_of hr51) (ip h55)))))⟩) (by show f36 < f36 + 1; omega)
 refine jF (dF h55) (Wp.region (Mz rfl (Az rfl (WL.nil (bN ?_)))))
 have H57 := H54.pk [0]
 exact Fin.round (z22, (((Int.toNat (z22 + z23)) / 2 : Nat) : Int), f36) ⟨rfl, rfl, rfl, rfl, rfl, rfl, rfl, trivial⟩ (dm32.2 ⟨H57, by omega, by omega, et (hq33) (et (ip h38) (et (bnd_of (getD_of hx42)) (et (bnd_of (getD_of hx44)) (et (bnd_of hr51) (iN h55)))))⟩) (by show f36 < f36 + 1; omega)
 refine jF (dF h38) (Wp.exit (Fin.thenX ?_))
 have hL58 : slices_symMergeCmpFunc_api_Pair_L0 l0 p1 p3 ((Int.toNat (p3 - p2)) + 1) p2 p3 = z22 := et (hq33) (iN h38)
 refine Fin.thenX (Fin.blockX (Fin.then (Wp.seq (sr (Mz rfl (An rfl (bo ?_)))))))
 have H63 := H28.pk [0]
 obtain ⟨I67, hI68⟩ : ∃ q : (Int × (List PairD) × Nat) → World → Prop, q = fun (i : Int × (List PairD) × Nat) w' => Own w D w' [row A0 l0.length c0 (List.flatMap PairD.cells i.2.1) 58 2] ∧ (i.2.1.length = l0.length ∧ p1 ≤ i.1 ∧ Int.toNat (p3 - i.1) < i.2.2 ∧ slices_symMergeCmpFunc_api_Pair_L1 z22 ((Int.toNat (p3 - p1)) + 1) p1 l0 = slices_symMergeCmpFunc_api_Pair_L1 z22 i.2.2 i.1 i.2.1) := ⟨_, rfl⟩
 have dm69 : ∀ {z59 : Int} {l60 : List PairD} {f62 : Nat} {w' : World}, I67 (z59, l60, f62) w' ↔ Own w D w' [row A0 l0.length c0 (List.flatMap PairD.cells l60) 58 2] ∧ l60.length = l0.length ∧ p1 ≤ z59 ∧ Int.toNat (p3 - z59) < f62 ∧ slices_symMergeCmpFunc_api_Pair_L1 z22 ((Int.toNat (p3 - p1)) + 1) p1 l0 = slices_symMergeCmpFunc_api_Pair_L1 z22 f62 z59 l60 := by intros; subst hI68; exact Iff.rfl
 refine Wp.loop (fun i : Int × (List PairD) × Nat => [(13, .int .i64 i.1), (10, .int .i64 z22), (0, .slice A0 l0.length c0), (1, .int .i64 p1), (2, .int .i64 p2), (3, .int .i64 p3), (4, .func (.func 62) #[] #[])]) I67 (fun i => i.2.2) (p1, l0, (Int.toNat (p3 - p1)) + 1) ⟨rfl, rfl, rfl, rfl, rfl, rfl, rfl, trivial⟩ (dm69.2 ⟨H63, by first | omega | (simp only [List.length_set] <;> omega) | (simp only [List.length_replicate]), by omega, by omega, rfl⟩) ?_
 rintro ⟨z59, l60, f62⟩ w64 hf66
 show Wp _ _ _ [(13, .int .i64 z59), (10, .int .i64 z22), (0, .slice A0 l0.length c0), (1, .int .i64 p1), (2, .int .i64 p2), (3, .int .i64 p3), (4, .func (.func 62) #[] #[])] _ _
 obtain ⟨H65, hi71, hi72, hi73, hq70⟩ := dm69.1 hf66
 obtain ⟨f74, hf75⟩ : ∃ q, f62 = q + 1 := ⟨f62 - 1, by omega⟩
 subst hf75
 refine Wp.seq (sr (Mz rfl (Mz rfl (fw (.int .i64 (z22 - 1)) (Yl.int (e := IntKind.i64.wrap (z22 - 1)) yk (by rw [IntWalk.i64_in _ (by omega)])) (Kz (.bool (decide (z59 < z22 - 1))) (nt ?_))))))
 by_cases h76 : z59 < z22 - 1
 refine jT (dT h76) (sk (Wp.seq (bo ?_)))
 have H78 := H65.drew
 refine Wp.drawnX [15, 17] (fun W => ∃ L', Own w D W ([row A0 l0.length c0 (List.flatMap PairD.cells l60) 58 2] ++ L')) (by kernel_rfl) (by kernel_rfl) (NoP.block (NoP.then (NoP.then (NoP.block (NoP.then (NoP.then NoP.base)))))) ⟨_, H78⟩ ?_
 revert H78
 generalize World.drew w64 = w77
 intro H78
 refine GX.take (v := .slice A0 l0.length c0) (rs := [[], []]) 0 rfl (by kernel_rfl) (fun _ _ => Yl.move rfl) (GX.take (v := .int .i64 ((Int.toNat z59 : Nat) : Int)) (rs := [[], []]) 1 rfl (by kernel_rfl) (fun _ _ => Yl.int (e := z59) (Yl.move rfl) (by omega)) (GX.takeA (v := .slice A0 l0.length c0) 2 rfl (by kernel_rfl) (fun _ => Yl.move rfl) (GX.takeA (v := .int .i64 z59) 3 rfl (by kernel_rfl) (fun _ => Yl.move rfl) (GX.takeA (v := .int .i64 ((Int.toNat (z59 + 1) : Nat) : Int)) 4 rfl (by kernel_rfl) (fun _ => Yl.int (e := IntKind.i64.wrap (z59 + 1)) yk (by rw [IntWalk.i64_in _ (by omega)]; omega)) (GX.take (v := .slice A0 l0.length c0) (rs := [[], []]) 5 rfl (by kernel_rfl) (fun _ _ => Yl.move rfl) (GX.take (v := .int .i64 z59) (rs := [[], []]) 6 rfl (by kernel_rfl) (fun _ _ => Yl.move rfl) (GX.take (v := .int .i64 ((Int.toNat (z59 + 1) : Nat) : Int)) (rs := [[], []]) 7 rfl (by kernel_rfl) (fun _ _ => Yl.int (e := IntKind.i64.wrap (z59 + 1)) yk (by rw [IntWalk.i64_in _ (by omega)]; omega)) ?_)))))))
 obtain ⟨x79, hx80⟩ := at_of (ls := l60) (i := Int.toNat (z59 + 1)) (by first | omega | (simp; done) | (simp; omega))
 refine GX.take (v := .pointer (some ⟨ab A0, ao A0 + (Int.toNat (z59 + 1)) * 2, none⟩)) (rs := [[], []]) 8 rfl (by kernel_rfl) (fun _ ⟨_, H9⟩ => Yl.indexAddr (El54) rfl rfl ((H9.rds (i := 0) rfl).addr (i := Int.toNat (z59 + 1)) (by omega)) (by omega)) (GX.take (v := .agg (PairD.cells x79).toArray) (rs := [[], []]) 9 rfl (by kernel_rfl) (fun _ ⟨_, H9⟩ => Yl.load rfl (Lds.agg (cs := (PairD.cells x79)) Try.isAgg58 Try.sizeOf58 ((H9.rds (i := 0) rfl).elem PairD.len hx80 (by decide)))) (GX.take (v := .slice A0 l0.length c0) (rs := [[13, 12], []]) 10 rfl (by kernel_rfl) (fun _ _ => Yl.move rfl) (GX.take (v := .int .i64 ((Int.toNat z59 : Nat) : Int)) (rs := [[13, 12], []]) 11 rfl (by kernel_rfl) (fun _ _ => Yl.int (e := z59) (Yl.move rfl) (by omega)) ?_)))
 obtain ⟨x81, hx82⟩ := at_of (ls := l60) (i := Int.toNat z59) (by first | omega | (simp; done) | (simp; omega))
 refine GX.take (v := .pointer (some ⟨ab A0, ao A0 + (Int.toNat z59) * 2, none⟩)) (rs := [[13], []]) 12 rfl (by kernel_rfl) (fun _ ⟨_, H9⟩ => Yl.indexAddr (El54) rfl rfl ((H9.rds (i := 0) rfl).addr (i := Int.toNat z59) (by omega)) (by omega)) (GX.take (v := .agg (PairD.cells x81).toArray) (rs := [[], []]) 13 rfl (by kernel_rfl) (fun _ ⟨_, H9⟩ => Yl.load rfl (Lds.agg (cs := (PairD.cells x81)) Try.isAgg58 Try.sizeOf58 ((H9.rds (i := 0) rfl).elem PairD.len hx82 (by decide)))) (GX.take (v := .pointer (some ⟨ab A0, ao A0 + (Int.toNat z59) * 2, none⟩)) (rs := [[], []]) 14 rfl (by kernel_rfl) (fun _ ⟨_, H9⟩ => Yl.indexAddr (El54) rfl rfl ((H9.rds (i := 0) rfl).addr (i := Int.toNat z59) (by omega)) (by omega)) ?_))
 refine GX.do0 15 rfl (by kernel_rfl) (Do.storeRow (vs := (PairD.cells x79)) (o := (Int.toNat z59) * 2 + 0) (q := ao A0 + (Int.toNat z59) * 2) H78 rfl (by omega) rfl Try.sizeOf58 rfl rfl (Nat.le_of_ble_eq_true rfl) (store_fits PairD.len hx82 (Nat.le_of_ble_eq_true rfl)) (flat_set (y := x79) PairD.len rfl (Nat.le_of_ble_eq_true rfl) hx82) ?_)
 intro w83 H84
 refine ⟨.inl (by kernel_rfl), ?_⟩
 obtain ⟨x85, hx86⟩ := at_of (ls := l60) (i := Int.toNat (z59 + 1)) (by first | omega | (simp; done) | (simp; omega))
 obtain ⟨x87, hx88⟩ := rds_at (ls := (List.set l60 (Int.toNat z59) x79)) (i := Int.toNat (z59 + 1)) PairD.len (by decide) (H84.rds (i := 0) rfl) (by first | omega | (simp; done) | (simp; omega))
 refine GX.takeA (v := .pointer (some ⟨ab A0, ao A0 + (Int.toNat (z59 + 1)) * 2, none⟩)) 16 rfl (by kernel_rfl) (fun _ => Yl.indexAddr (El54) rfl rfl ((H84.rds (i := 0) rfl).addr (i := Int.toNat (z59 + 1)) (by omega)) (by omega)) ?_
 obtain ⟨x89, hx90⟩ := at_of (ls := (List.set l60 (Int.toNat z59) x79)) (i := Int.toNat (z59 + 1)) (by first | omega | (simp; done) | (simp; omega))
 refine GX.do0 17 rfl (by kernel_rfl) (Do.storeRow (vs := (PairD.cells x81)) (o := (Int.toNat (z59 + 1)) * 2 + 0) (q := ao A0 + (Int.toNat (z59 + 1)) * 2) H84 rfl (by omega) rfl Try.sizeOf58 rfl rfl (Nat.le_of_ble_eq_true rfl) (store_fits PairD.len hx90 (Nat.le_of_ble_eq_true rfl)) (flat_set (y := x81) PairD.len rfl (Nat.le_of_ble_eq_true rfl) hx90) ?_)
 intro w91 H92
 refine ⟨.inl (by kernel_rfl), ?_⟩
 refine GX.done (by kernel_rfl) (bN (Fin.then (Wp.region (Mz rfl (fw (.int .i64 (z59 + 1)) (Yl.int (e := IntKind.i64.wrap (z59 + 1)) yk (by rw [IntWalk.i64_in _ (by omega)])) (Az rfl (WL.nil ?_)))))))
 have H93 := H92.pk [0]
 exact Fin.round (z59 + 1, (List.set (List.set l60 (Int.toNat z59) x79) (Int.toNat (z59 + 1)) x81), f74) ⟨rfl, rfl, rfl, rfl, rfl, rfl, rfl, trivial⟩ (dm69.2 ⟨H93, by first | omega | (simp only [List.length_set] <;> omega) | (simp only [List.length_replicate]), by omega, by omega, Eq.trans (hq70) (Eq.trans (if_pos h76) (Eq.trans (bnd_of (getD_of hx80)) (bnd_of (getD_of hx82))))⟩) (by show f74 < f74 + 1; omega)
 refine jF (dF h76) (Wp.exit (Fin.thenX ?_))
 have hL94 : slices_symMergeCmpFunc_api_Pair_L1 z22 ((Int.toNat (p3 - p1)) + 1) p1 l0 = l60 := et (hq70) (iN h76)
 refine Fin.thenX (Fin.blockX (Fin.then (rt (tR (Fin.res (res0 rfl) ?_)))))
 have H95 := H65.pk [0]
 obtain rfl : _ = l60 := hr.symm.trans (et (ip h21) (et (bnd_of hL58) (bnd_of hL94)))
 exact ⟨rfl, H95, (by first | rfl | omega | (simp only [List.length_set] <;> omega))⟩
 refine jF (dF h21) (sk (Wp.seq (sr (Mz rfl (Mz rfl (fw (.int .i64 (p3 - p2)) (Yl.int (e := IntKind.i64.wrap (p3 - p2)) yk (by rw [IntWalk.i64_in _ (by omega)])) (Kz (.bool (decide (p3 - p2 = 1))) (nt ?_))))))))
 by_cases h96 : p3 - p2 = 1
 refine jT (dT h96) (sr (Mz rfl (Ar rfl (Mz rfl (An rfl (Wp.seq (bo ?_)))))))
 have H101 : Own w D w [row A0 l0.length c0 (List.flatMap PairD.cells l0) 58 2] := H.pk [0]
 obtain ⟨I105, hI106⟩ : ∃ q : (Int × Int × Nat) → World → Prop, q = fun (i : Int × Int × Nat) w' => Own w D w' [row A0 l0.length c0 (List.flatMap PairD.cells l0) 58 2] ∧ ((p1 ≤ i.1 ∧ i.1 ≤ i.2.1 ∧ i.2.1 ≤ p2) ∧ Int.toNat (i.2.1 - i.1) < i.2.2 ∧ slices_symMergeCmpFunc_api_Pair_L2 l0 p1 p2 ((Int.toNat (p2 - p1)) + 1) p1 p2 = slices_symMergeCmpFunc_api_Pair_L2 l0 p1 p2 i.2.2 i.1 i.2.1) := ⟨_, rfl⟩
 have dm107 : ∀ {z97 : Int} {z98 : Int} {f100 : Nat} {w' : World}, I105 (z97, z98, f100) w' ↔ Own w D w' [row A0 l0.length c0 (List.flatMap PairD.cells l0) 58 2] ∧ (p1 ≤ z97 ∧ z97 ≤ z98 ∧ z98 ≤ p2) ∧ Int.toNat (z98 - z97) < f100 ∧ slices_symMergeCmpFunc_api_Pair_L2 l0 p1 p2 ((Int.toNat (p2 - p1)) + 1) p1 p2 = slices_symMergeCmpFunc_api_Pair_L2 l0 p1 p2 f100 z97 z98 := by intros; subst hI106; exact Iff.rfl
 refine Wp.loop (fun i : Int × Int × Nat => [(14, .int .i64 i.1), (15, .int .i64 i.2.1), (0, .slice A0 l0.length c0), (1, .int .i64 p1), (2, .int .i64 p2), (3, .int .i64 p3), (4, .func (.func 62) #[] #[])]) I105 (fun i => i.2.2) (p1, p2, (Int.toNat (p2 - p1)) + 1) ⟨rfl, rfl, rfl, rfl, rfl, rfl, rfl, trivial⟩ (dm107.2 ⟨H101, by omega, by omega, rfl⟩) ?_
 rintro ⟨z97, z98, f100⟩ w102 hf104
 show Wp _ _ _ [(14, .int .i64 z97), (15, .int .i64 z98), (0, .slice A0 l0.length c0), (1, .int .i64 p1), (2, .int .i64 p2), (3, .int .i64 p3), (4, .func (.func 62) #[] #[])] _ _
 obtain ⟨H103, hi109, hi110, hq108⟩ := dm107.1 hf104
 obtain ⟨f111, hf112⟩ : ∃ q, f100 = q + 1 := ⟨f100 - 1, by omega⟩
 subst hf112
 refine Wp.seq (sr (Mz rfl (Mz rfl (Kz (.bool (decide (z97 < z98))) (nt ?_)))))
 by_cases h113 : z97 < z98
 refine jT (dT h113) (sk (bo (sr (Mz rfl (Mz rfl (fw (.int .i64 (z97 + z98)) (Yl.int (e := IntKind.i64.wrap (z97 + z98)) yk (by rw [IntWalk.i64_in _ (by omega)])) (fw (.int .u64 ((Int.toNat (z97 + z98) : Nat) : Int)) (Yl.int (e := IntKind.u64.wrap (z97 + z98)) yk (by rw [IntWalk.u64_in _ (by omega)]; omega)) (fw (.int .u64 (((Int.toNat (z97 + z98)) / 2 : Nat) : Int)) (Yl.int (e := Int.fdiv ((Int.toNat (z97 + z98) : Nat) : Int) 2) yk (shr_nat _ 1 _ (by decide))) (fw (.int .i64 (((Int.toNat (z97 + z98)) / 2 : Nat) : Int)) (Yl.int (e := IntKind.i64.wrap (((Int.toNat (z97 + z98)) / 2 : Nat) : Int)) yk (IntWalk.i64_in _ (by omega))) (An rfl (Wp.seq ?_)))))))))))
 have H115 := H103.drew
 refine Wp.drawnX [] (fun W => ∃ L', Own w D W ([row A0 l0.length c0 (List.flatMap PairD.cells l0) 58 2] ++ L')) (by kernel_rfl) (by kernel_rfl) (NoP.then (NoP.block (NoP.then (NoP.block (NoP.then (NoP.then NoP.base)))))) ⟨_, H115⟩ ?_
 revert H115
 generalize World.drew w102 = w114
 intro H115
 refine GX.take (v := .func (.func 62) #[] #[]) (rs := []) 0 rfl (by kernel_rfl) (fun _ _ => Yl.move rfl) (GX.take (v := .slice A0 l0.length c0) (rs := []) 1 rfl (by kernel_rfl) (fun _ _ => Yl.move rfl) (GX.take (v := .int .i64 ((Int.toNat p2 : Nat) : Int)) (rs := []) 2 rfl (by kernel_rfl) (fun _ _ => Yl.int (e := p2) (Yl.move rfl) (by omega)) ?_))
 obtain ⟨x116, hx117⟩ := at_of (ls := l0) (i := Int.toNat p2) (by first | omega | (simp; done) | (simp; omega))
 refine GX.take (v := .pointer (some ⟨ab A0, ao A0 + (Int.toNat p2) * 2, none⟩)) (rs := []) 3 rfl (by kernel_rfl) (fun _ ⟨_, H9⟩ => Yl.indexAddr (El54) rfl rfl ((H9.rds (i := 0) rfl).addr (i := Int.toNat p2) (by omega)) (by omega)) (GX.take (v := .agg (PairD.cells x116).toArray) (rs := []) 4 rfl (by kernel_rfl) (fun _ ⟨_, H9⟩ => Yl.load rfl (Lds.agg (cs := (PairD.cells x116)) Try.isAgg58 Try.sizeOf58 ((H9.rds (i := 0) rfl).elem PairD.len hx117 (by decide)))) (GX.take (v := .slice A0 l0.length c0) (rs := []) 5 rfl (by kernel_rfl) (fun _ _ => Yl.move rfl) (GX.take (v := .int .i64 (((Int.toNat (z97 + z98)) / 2 : Nat) : Int)) (rs := []) 6 rfl (by kernel_rfl) (fun _ _ => Yl.move rfl) ?_)))
 obtain ⟨x118, hx119⟩ := at_of (ls := l0) (i := (Int.toNat (z97 + z98)) / 2) (by first | omega | (simp; done) | (simp; omega))
 refine GX.take (v := .pointer (some ⟨ab A0, ao A0 + ((Int.toNat (z97 + z98)) / 2) * 2, none⟩)) (rs := []) 7 rfl (by kernel_rfl) (fun _ ⟨_, H9⟩ => Yl.indexAddr (El54) rfl rfl ((H9.rds (i := 0) rfl).addr (i := (Int.toNat (z97 + z98)) / 2) (by omega)) (by omega)) (GX.take (v := .agg (PairD.cells x118).toArray) (rs := []) 8 rfl (by kernel_rfl) (fun _ ⟨_, H9⟩ => Yl.load rfl (Lds.agg (cs := (PairD.cells x118)) Try.isAgg58 Try.sizeOf58 ((H9.rds (i := 0) rfl).elem PairD.len hx119 (by decide)))) ?_)
 obtain ⟨r125, hr126⟩ : ∃ q, owner_gatherOp_1 x116 x118 = q := ⟨_, rfl⟩
 obtain ⟨D120, HP121, ro122, bk123, rr124⟩ := Own.enter0 H115
 refine GX.do 9 rfl (by kernel_rfl) (Do.callV Try.call62 rfl rfl (owner_gatherOp_1_ok _ _ x116 x118 r125 HP121 hr126) ?_)
 rintro _ w127 ⟨rfl, HQ128⟩
 have H129 := bk123 _ _ HQ128
 refine ⟨.inr ⟨_, H129⟩, ?_⟩
 refine GX.take (v := .bool (decide (r125 < 0))) (rs := []) 10 rfl (by kernel_rfl) (fun _ _ => yk) (GX.take (v := .bool (decide (¬ (r125 < 0)))) (rs := []) 11 rfl (by kernel_rfl) (fun _ _ => Yl.bool (e := !(decide (r125 < 0))) yk decide_not.symm) (GX.done (by kernel_rfl) (Fin.then ?_)))
 by_cases h130 : r125 < 0
 refine jF (dF (not_not_intro h130)) (Wp.region (Mz rfl (Az rfl (WL.nil (bN ?_)))))
 have H131 := H129.pk [0]
 exact Fin.round (z97, (((Int.toNat (z97 + z98)) / 2 : Nat) : Int), f111) ⟨rfl, rfl, rfl, rfl, rfl, rfl, rfl, trivial⟩ (dm107.2 ⟨H131, by omega, by omega, et (hq108) (et (ip h113) (et (bnd_of (getD_of hx117)) (et (bnd_of (getD_of hx119)) (et (bnd_of hr126) (ip h130)))))⟩) (by show f111 < f111 + 1; omega)
 refine jT (dT h130) (Wp.region (Mz rfl (fw (.int .i64 ((((Int.toNat (z97 + z98)) / 2) + 1 : Nat) : Int)) (Yl.int (e := IntKind.i64.wrap ((((Int.toNat (z97 + z98)) / 2 : Nat) : Int) + 1)) yk (by rw [IntWalk.i64_in _ (by omega)]; omega)) (Az rfl (WL.nil (bN ?_))))))
 have H132 := H129.pk [0]
 exact Fin.round (((((Int.toNat (z97 + z98)) / 2) + 1 : Nat) : Int), z98, f111) ⟨rfl, rfl, rfl, rfl, rfl, rfl, rfl, trivial⟩ (dm107.2 ⟨H132, by omega, by omega, et (hq108) (et (ip h113) (et (bnd_of (getD_of hx117)) (et (bnd_of (getD_of hx119)) (et (bnd_of hr126) (iN h130)))))⟩) (by show f111 < f111 + 1; omega)
 refine jF (dF h113) (Wp.exit (Fin.thenX ?_))
 have hL133 : slices_symMergeCmpFunc_api_Pair_L2 l0 p1 p2 ((Int.toNat (p2 - p1)) + 1) p1 p2 = z97 := et (hq108) (iN h113)
 refine Fin.thenX (Fin.blockX (Fin.then (Wp.seq (sr (Mz rfl (An rfl (bo ?_)))))))
 have H138 := H103.pk [0]
 obtain ⟨I142, hI143⟩ : ∃ q : (Int × (List PairD) × Nat) → World → Prop, q = fun (i : Int × (List PairD) × Nat) w' => Own w D w' [row A0 l0.length c0 (List.flatMap PairD.cells i.2.1) 58 2] ∧ (i.2.1.length = l0.length ∧ i.1 ≤ p2 ∧ Int.toNat (i.1 - p1) < i.2.2 ∧ slices_symMergeCmpFunc_api_Pair_L3 z97 ((Int.toNat (p2 - p1)) + 1) p2 l0 = slices_symMergeCmpFunc_api_Pair_L3 z97 i.2.2 i.1 i.2.1) := ⟨_, rfl⟩
 have dm144 : ∀ {z134 : Int} {l135 : List PairD} {f137 : Nat} {w' : World}, I142 (z134, l135, f137) w' ↔ Own w D w' [row A0 l0.length c0 (List.flatMap PairD.cells l135) 58 2] ∧ l135.length = l0.length ∧ z134 ≤ p2 ∧ Int.toNat (z134 - p1) < f137 ∧ slices_symMergeCmpFunc_api_Pair_L3 z97 ((Int.toNat (p2 - p1)) + 1) p2 l0 = slices_symMergeCmpFunc_api_Pair_L3 z97 f137 z134 l135 := by intros; subst hI143; exact Iff.rfl
 refine Wp.loop (fun i : Int × (List PairD) × Nat => [(17, .int .i64 i.1), (14, .int .i64 z97), (0, .slice A0 l0.length c0), (1, .int .i64 p1), (2, .int .i64 p2), (3, .int .i64 p3), (4, .func (.func 62) #[] #[])]) I142 (fun i => i.2.2) (p2, l0, (Int.toNat (p2 - p1)) + 1) ⟨rfl, rfl, rfl, rfl, rfl, rfl, rfl, trivial⟩ (dm144.2 ⟨H138, by first | omega | (simp only [List.length_set] <;> omega) | (simp only [List.length_replicate]), by omega, by omega, rfl⟩) ?_
 rintro ⟨z134, l135, f137⟩ w139 hf141
 show Wp _ _ _ [(17, .int .i64 z134), (14, .int .i64 z97), (0, .slice A0 l0.length c0), (1, .int .i64 p1), (2, .int .i64 p2), (3, .int .i64 p3), (4, .func (.func 62) #[] #[])] _ _
 obtain ⟨H140, hi146, hi147, hi148, hq145⟩ := dm144.1 hf141
 obtain ⟨f149, hf150⟩ : ∃ q, f137 = q + 1 := ⟨f137 - 1, by omega⟩
 subst hf150
 refine Wp.seq (sr (Mz rfl (Mz rfl (Kz (.bool (decide (z134 > z97))) (nt ?_)))))
 by_cases h151 : z134 > z97
 refine jT (dT h151) (sk (Wp.seq (bo ?_)))
 have H153 := H140.drew
 refine Wp.drawnX [15, 17] (fun W => ∃ L', Own w D W ([row A0 l0.length c0 (List.flatMap PairD.cells l135) 58 2] ++ L')) (by kernel_rfl) (by kernel_rfl) (NoP.block (NoP.then (NoP.then (NoP.block (NoP.then (NoP.then NoP.base)))))) ⟨_, H153⟩ ?_
 revert H153
 generalize World.drew w139 = w152
 intro H153
 refine GX.take (v := .slice A0 l0.length c0) (rs := [[], []]) 0 rfl (by kernel_rfl) (fun _ _ => Yl.move rfl) (GX.take (v := .int .i64 ((Int.toNat z134 : Nat) : Int)) (rs := [[], []]) 1 rfl (by kernel_rfl) (fun _ _ => Yl.int (e := z134) (Yl.move rfl) (by omega)) (GX.takeA (v := .slice A0 l0.length c0) 2 rfl (by kernel_rfl) (fun _ => Yl.move rfl) (GX.takeA (v := .int .i64 z134) 3 rfl (by kernel_rfl) (fun _ => Yl.move rfl) (GX.takeA (v := .int .i64 ((Int.toNat (z134 - 1) : Nat) : Int)) 4 rfl (by kernel_rfl) (fun _ => Yl.int (e := IntKind.i64.wrap (z134 - 1)) yk (by rw [IntWalk.i64_in _ (by omega)]; omega)) (GX.take (v := .slice A0 l0.length c0) (rs := [[], []]) 5 rfl (by kernel_rfl) (fun _ _ => Yl.move rfl) (GX.take (v := .int .i64 z134) (rs := [[], []]) 6 rfl (by kernel_rfl) (fun _ _ => Yl.move rfl) (GX.take (v := .int .i64 ((Int.toNat (z134 - 1) : Nat) : Int)) (rs := [[], []]) 7 rfl (by kernel_rfl) (fun _ _ => Yl.int (e := IntKind.i64.wrap (z134 - 1)) yk (by rw [IntWalk.i64_in _ (by omega)]; omega)) ?_)))))))
 obtain ⟨x154, hx155⟩ := at_of (ls := l135) (i := Int.toNat (z134 - 1)) (by first | omega | (simp; done) | (simp; omega))
 refine GX.take (v := .pointer (some ⟨ab A0, ao A0 + (Int.toNat (z134 - 1)) * 2, none⟩)) (rs := [[], []]) 8 rfl (by kernel_rfl) (fun _ ⟨_, H9⟩ => Yl.indexAddr (El54) rfl rfl ((H9.rds (i := 0) rfl).addr (i := Int.toNat (z134 - 1)) (by omega)) (by omega)) (GX.take (v := .agg (PairD.cells x154).toArray) (rs := [[], []]) 9 rfl (by kernel_rfl) (fun _ ⟨_, H9⟩ => Yl.load rfl (Lds.agg (cs := (PairD.cells x154)) Try.isAgg58 Try.sizeOf58 ((H9.rds (i := 0) rfl).elem PairD.len hx155 (by decide)))) (GX.take (v := .slice A0 l0.length c0) (rs := [[13, 12], []]) 10 rfl (by kernel_rfl) (fun _ _ => Yl.move rfl) (GX.take (v := .int .i64 ((Int.toNat z134 : Nat) : Int)) (rs := [[13, 12], []]) 11 rfl (by kernel_rfl) (fun _ _ => Yl.int (e := z134) (Yl.move rfl) (by omega)) ?_)))
 obtain ⟨x156, hx157⟩ := at_of (ls := l135) (i := Int.toNat z134) (by first | omega | (simp; done) | (simp; omega))
 refine GX.take (v := .pointer (some ⟨ab A0, ao A0 + (Int.toNat z134) * 2, none⟩)) (rs := [[13], []]) 12 rfl (by kernel_rfl) (fun _ ⟨_, H9⟩ => Yl.indexAddr (El54) rfl rfl ((H9.rds (i := 0) rfl).addr (i := Int.toNat z134) (by omega)) (by omega)) (GX.take (v := .agg (PairD.cells x156).toArray) (rs := [[], []]) 13 rfl (by kernel_rfl) (fun _ ⟨_, H9⟩ => Yl.load rfl (Lds.agg (cs := (PairD.cells x156)) Try.isAgg58 Try.sizeOf58 ((H9.rds (i := 0) rfl).elem PairD.len hx157 (by decide)))) (GX.take (v := .pointer (some ⟨ab A0, ao A0 + (Int.toNat z134) * 2, none⟩)) (rs := [[], []]) 14 rfl (by kernel_rfl) (fun _ ⟨_, H9⟩ => Yl.indexAddr (El54) rfl rfl ((H9.rds (i := 0) rfl).addr (i := Int.toNat z134) (by omega)) (by omega)) ?_))
 refine GX.do0 15 rfl (by kernel_rfl) (Do.storeRow (vs := (PairD.cells x154)) (o := (Int.toNat z134) * 2 + 0) (q := ao A0 + (Int.toNat z134) * 2) H153 rfl (by omega) rfl Try.sizeOf58 rfl rfl (Nat.le_of_ble_eq_true rfl) (store_fits PairD.len hx157 (Nat.le_of_ble_eq_true rfl)) (flat_set (y := x154) PairD.len rfl (Nat.le_of_ble_eq_true rfl) hx157) ?_)
 intro w158 H159
 refine ⟨.inl (by kernel_rfl), ?_⟩
 obtain ⟨x160, hx161⟩ := at_of (ls := l135) (i := Int.toNat (z134 - 1)) (by first | omega | (simp; done) | (simp; omega))
 obtain ⟨x162, hx163⟩ := rds_at (ls := (List.set l135 (Int.toNat z134) x154)) (i := Int.toNat (z134 - 1)) PairD.len (by decide) (H159.rds (i := 0) rfl) (by first | omega | (simp; done) | (simp; omega))
 refine GX.takeA (v := .pointer (some ⟨ab A0, ao A0 + (Int.toNat (z134 - 1)) * 2, none⟩)) 16 rfl (by kernel_rfl) (fun _ => Yl.indexAddr (El54) rfl rfl ((H159.rds (i := 0) rfl).addr (i := Int.toNat (z134 - 1)) (by omega)) (by omega)) ?_
 obtain ⟨x164, hx165⟩ := at_of (ls := (List.set l135 (Int.toNat z134) x154)) (i := Int.toNat (z134 - 1)) (by first | omega | (simp; done) | (simp; omega))
 refine GX.do0 17 rfl (by kernel_rfl) (Do.storeRow (vs := (PairD.cells x156)) (o := (Int.toNat (z134 - 1)) * 2 + 0) (q := ao A0 + (Int.toNat (z134 - 1)) * 2) H159 rfl (by omega) rfl Try.sizeOf58 rfl rfl (Nat.le_of_ble_eq_true rfl) (store_fits PairD.len hx165 (Nat.le_of_ble_eq_true rfl)) (flat_set (y := x156) PairD.len rfl (Nat.le_of_ble_eq_true rfl) hx165) ?_)
 intro w166 H167
 refine ⟨.inl (by kernel_rfl), ?_⟩
 refine GX.done (by kernel_rfl) (bN (Fin.then (Wp.region (Mz rfl (fw (.int .i64 (z134 - 1)) (Yl.int (e := IntKind.i64.wrap (z134 - 1)) yk (by rw [IntWalk.i64_in _ (by omega)])) (Az rfl (WL.nil ?_)))))))
 have H168 := H167.pk [0]
 exact Fin.round (z134 - 1, (List.set (List.set l135 (Int.toNat z134) x154) (Int.toNat (z134 - 1)) x156), f149) ⟨rfl, rfl, rfl, rfl, rfl, rfl, rfl, trivial⟩ (dm144.2 ⟨H168, by first | omega | (simp only [List.length_set] <;> omega) | (simp only [List.length_replicate]), by omega, by omega, Eq.trans (hq145) (Eq.trans (if_pos h151) (Eq.trans (bnd_of (getD_of hx155)) (bnd_of (getD_of hx157))))⟩) (by show f149 < f149 + 1; omega)
 refine jF (dF h151) (Wp.exit (Fin.thenX ?_))
 have hL169 : slices_symMergeCmpFunc_api_Pair_L3 z97 ((Int.toNat (p2 - p1)) + 1) p2 l0 = l135 := et (hq145) (iN h151)
 refine Fin.thenX (Fin.blockX (Fin.then (rt (tR (Fin.res (res0 rfl) ?_)))))
 have H170 := H140.pk [0]
 obtain rfl : _ = l135 := hr.symm.trans (et (iN h21) (et (ip h96) (et (bnd_of hL133) (bnd_of hL169))))
 exact ⟨rfl, H170, (by first | rfl | omega | (simp only [List.length_set] <;> omega))⟩
 refine jF (dF h96) (sk (sr (Mz rfl (Mz rfl (fw (.int .i64 (p1 + p3)) (Yl.int (e := IntKind.i64.wrap (p1 + p3)) yk (by rw [IntWalk.i64_in _ (by omega)])) (fw (.int .u64 ((Int.toNat (p1 + p3) : Nat) : Int)) (Yl.int (e := IntKind.u64.wrap (p1 + p3)) yk (by rw [IntWalk.u64_in _ (by omega)]; omega)) (fw (.int .u64 (((Int.toNat (p1 + p3)) / 2 : Nat) : Int)) (Yl.int (e := Int.fdiv ((Int.toNat (p1 + p3) : Nat) : Int) 2) yk (shr_nat _ 1 _ (by decide))) (fw (.int .i64 (((Int.toNat (p1 + p3)) / 2 : Nat) : Int)) (Yl.int (e := IntKind.i64.wrap (((Int.toNat (p1 + p3)) / 2 : Nat) : Int)) yk (IntWalk.i64_in _ (by omega))) (Ar rfl (Mz rfl (Mz rfl (fw (.int .i64 ((((Int.toNat (p1 + p3)) / 2 : Nat) : Int) + p2)) (Yl.int (e := IntKind.i64.wrap ((((Int.toNat (p1 + p3)) / 2 : Nat) : Int) + p2)) yk (by rw [IntWalk.i64_in _ (by omega)])) (Ar rfl (Az rfl (An rfl (Wp.seq (sr (Mz rfl (Mz rfl (Kz (.bool (decide (p2 > (((Int.toNat (p1 + p3)) / 2 : Nat) : Int)))) (nt ?_)))))))))))))))))))))
 obtain ⟨I173, hI174⟩ : ∃ q : (Int × Int) → World → Prop, q = fun (i : Int × Int) w' => Own w D w' [row A0 l0.length c0 (List.flatMap PairD.cells l0) 58 2] ∧ ((-9223372036854775808 ≤ i.1 ∧ i.1 ≤ 9223372036854775807) ∧ (-9223372036854775808 ≤ i.2 ∧ i.2 ≤ 9223372036854775807) ∧ (p1 ≤ i.1 ∧ (((Int.toNat (p1 + p3)) / 2 : Nat) : Int) + p2 - p3 ≤ i.1 ∧ i.1 ≤ i.2 ∧ i.2 ≤ (((Int.toNat (p1 + p3)) / 2 : Nat) : Int) ∧ i.2 ≤ p2) ∧ (if p2 > (((Int.toNat (p1 + p3)) / 2 : Nat) : Int) then (((((Int.toNat (p1 + p3)) / 2 : Nat) : Int) + p2) - p3, (((Int.toNat (p1 + p3)) / 2 : Nat) : Int)) else (p1, p2)) = (i.1, i.2)) := ⟨_, rfl⟩
 have dm175 : ∀ {z171 : Int} {z172 : Int} {w' : World}, I173 (z171, z172) w' ↔ Own w D w' [row A0 l0.length c0 (List.flatMap PairD.cells l0) 58 2] ∧ (-9223372036854775808 ≤ z171 ∧ z171 ≤ 9223372036854775807) ∧ (-9223372036854775808 ≤ z172 ∧ z172 ≤ 9223372036854775807) ∧ (p1 ≤ z171 ∧ (((Int.toNat (p1 + p3)) / 2 : Nat) : Int) + p2 - p3 ≤ z171 ∧ z171 ≤ z172 ∧ z172 ≤ (((Int.toNat (p1 + p3)) / 2 : Nat) : Int) ∧ z172 ≤ p2) ∧ (if p2 > (((Int.toNat (p1 + p3)) / 2 : Nat) : Int) then (((((Int.toNat (p1 + p3)) / 2 : Nat) : Int) + p2) - p3, (((Int.toNat (p1 + p3)) / 2 : Nat) : Int)) else (p1, p2)) = (z171, z172) := by intros; subst hI174; exact Iff.rfl
 refine Wp.joinT (fun i : Int × Int => [(20, .int .i64 i.1), (21, .int .i64 i.2), (19, .int .i64 ((((Int.toNat (p1 + p3)) / 2 : Nat) : Int) + p2)), (18, .int .i64 (((Int.toNat (p1 + p3)) / 2 : Nat) : Int)), (0, .slice A0 l0.length c0), (1, .int .i64 p1), (2, .int .i64 p2), (3, .int .i64 p3), (4, .func (.func 62) #[] #[])]) I173 ?_ ?_
 by_cases h176 : p2 > (((Int.toNat (p1 + p3)) / 2 : Nat) : Int)
 refine jT (dT h176) (sr (Mz rfl (Mz rfl (fw (.int .i64 (((((Int.toNat (p1 + p3)) / 2 : Nat) : Int) + p2) - p3)) (Yl.int (e := IntKind.i64.wrap (((((Int.toNat (p1 + p3)) / 2 : Nat) : Int) + p2) - p3)) yk (by rw [IntWalk.i64_in _ (by omega)])) (An rfl (Wp.region (Mz rfl (Az rfl (WL.nil ?_)))))))))
 have H177 : Own w D w [row A0 l0.length c0 (List.flatMap PairD.cells l0) 58 2] := H.pk [0]
 exact Fin.join (((((Int.toNat (p1 + p3)) / 2 : Nat) : Int) + p2) - p3, (((Int.toNat (p1 + p3)) / 2 : Nat) : Int)) ⟨rfl, rfl, rfl, rfl, rfl, rfl, rfl, rfl, rfl, trivial⟩ (dm175.2 ⟨H177, by omega, by omega, by omega, ip h176⟩)
 refine jF (dF h176) (sr (Mz rfl (An rfl (Wp.region (Mz rfl (Az rfl (WL.nil ?_)))))))
 have H178 : Own w D w [row A0 l0.length c0 (List.flatMap PairD.cells l0) 58 2] := H.pk [0]
 exact Fin.join (p1, p2) ⟨rfl, rfl, rfl, rfl, rfl, rfl, rfl, rfl, rfl, trivial⟩ (dm175.2 ⟨H178, by omega, by omega, by omega, iN h176⟩)
 rintro ⟨z171, z172⟩ w179 hf181
 show Wp _ _ _ [(20, .int .i64 z171), (21, .int .i64 z172), (19, .int .i64 ((((Int.toNat (p1 + p3)) / 2 : Nat) : Int) + p2)), (18, .int .i64 (((Int.toNat (p1 + p3)) / 2 : Nat) : Int)), (0, .slice A0 l0.length c0), (1, .int .i64 p1), (2, .int .i64 p2), (3, .int .i64 p3), (4, .func (.func 62) #[] #[])] _ _
 obtain ⟨H180, hi183, hi184, hi185, hj182⟩ := dm175.1 hf181
 refine sr (Mz rfl (fw (.int .i64 (((((Int.toNat (p1 + p3)) / 2 : Nat) : Int) + p2) - 1)) (Yl.int (e := IntKind.i64.wrap (((((Int.toNat (p1 + p3)) / 2 : Nat) : Int) + p2) - 1)) yk (by rw [IntWalk.i64_in _ (by omega)])) (An rfl (Wp.seq (bo ?_)))))
 have H190 := H180.pk [0]
 obtain ⟨I194, hI195⟩ : ∃ q : (Int × Int × Nat) → World → Prop, q = fun (i : Int × Int × Nat) w' => Own w D w' [row A0 l0.length c0 (List.flatMap PairD.cells l0) 58 2] ∧ ((p1 ≤ i.1 ∧ (((Int.toNat (p1 + p3)) / 2 : Nat) : Int) + p2 - p3 ≤ i.1 ∧ i.1 ≤ i.2.1 ∧ i.2.1 ≤ (((Int.toNat (p1 + p3)) / 2 : Nat) : Int) ∧ i.2.1 ≤ p2) ∧ Int.toNat (i.2.1 - i.1) < i.2.2 ∧ slices_symMergeCmpFunc_api_Pair_L4 l0 p1 p2 p3 ((Int.toNat (z172 - z171)) + 1) z171 z172 = slices_symMergeCmpFunc_api_Pair_L4 l0 p1 p2 p3 i.2.2 i.1 i.2.1) := ⟨_, rfl⟩
 have dm196 : ∀ {z186 : Int} {z187 : Int} {f189 : Nat} {w' : World}, I194 (z186, z187, f189) w' ↔ Own w D w' [row A0 l0.length c0 (List.flatMap PairD.cells l0) 58 2] ∧ (p1 ≤ z186 ∧ (((Int.toNat (p1 + p3)) / 2 : Nat) : Int) + p2 - p3 ≤ z186 ∧ z186 ≤ z187 ∧ z187 ≤ (((Int.toNat (p1 + p3)) / 2 : Nat) : Int) ∧ z187 ≤ p2) ∧ Int.toNat (z187 - z186) < f189 ∧ slices_symMergeCmpFunc_api_Pair_L4 l0 p1 p2 p3 ((Int.toNat (z172 - z171)) + 1) z171 z172 = slices_symMergeCmpFunc_api_Pair_L4 l0 p1 p2 p3 f189 z186 z187 := by intros; subst hI195; exact Iff.rfl
 refine Wp.loop (fun i : Int × Int × Nat => [(20, .int .i64 i.1), (21, .int .i64 i.2.1), (22, .int .i64 (((((Int.toNat (p1 + p3)) / 2 : Nat) : Int) + p2) - 1)), (19, .int .i64 ((((Int.toNat (p1 + p3)) / 2 : Nat) : Int) + p2)), (18, .int .i64 (((Int.toNat (p1 + p3)) / 2 : Nat) : Int)), (0, .slice A0 l0.length c0), (1, .int .i64 p1), (2, .int .i64 p2), (3, .int .i64 p3), (4, .func (.func 62) #[] #[])]) I194 (fun i => i.2.2) (z171, z172, (Int.toNat (z172 - z171)) + 1) ⟨rfl, rfl, rfl, rfl, rfl, rfl, rfl, rfl, rfl, rfl, trivial⟩ (dm196.2 ⟨H190, by omega, by omega, rfl⟩) ?_
 rintro ⟨z186, z187, f189⟩ w191 hf193
 show Wp _ _ _ [(20, .int .i64 z186), (21, .int .i64 z187), (22, .int .i64 (((((Int.toNat (p1 + p3)) / 2 : Nat) : Int) + p2) - 1)), (19, .int .i64 ((((Int.toNat (p1 + p3)) / 2 : Nat) : Int) + p2)), (18, .int .i64 (((Int.toNat (p1 + p3)) / 2 : Nat) : Int)), (0, .slice A0 l0.length c0), (1, .int .i64 p1), (2, .int .i64 p2), (3, .int .i64 p3), (4, .func (.func 62) #[] #[])] _ _
 obtain ⟨H192, hi198, hi199, hq197⟩ := dm196.1 hf193
 obtain ⟨f200, hf201⟩ : ∃ q, f189 = q + 1 := ⟨f189 - 1, by omega⟩
 subst hf201
 refine Wp.seq (sr (Mz rfl (Mz rfl (Kz (.bool (decide (z186 < z187))) (nt ?_)))))
 by_cases h202 : z186 < z187
 refine jT (dT h202) (sk (bo (sr (Mz rfl (Mz rfl (fw (.int .i64 (z186 + z187)) (Yl.int (e := IntKind.i64.wrap (z186 + z187)) yk (by rw [IntWalk.i64_in _ (by omega)])) (fw (.int .u64 ((Int.toNat (z186 + z187) : Nat) : Int)) (Yl.int (e := IntKind.u64.wrap (z186 + z187)) yk (by rw [IntWalk.u64_in _ (by omega)]; omega)) (fw (.int .u64 (((Int.toNat (z186 + z187)) / 2 : Nat) : Int)) (Yl.int (e := Int.fdiv ((Int.toNat (z186 + z187) : Nat) : Int) 2) yk (shr_nat _ 1 _ (by decide))) (fw (.int .i64 (((Int.toNat (z186 + z187)) / 2 : Nat) : Int)) (Yl.int (e := IntKind.i64.wrap (((Int.toNat (z186 + z187)) / 2 : Nat) : Int)) yk (IntWalk.i64_in _ (by omega))) (An rfl (Wp.seq ?_)))))))))))
 have H204 := H192.drew
 refine Wp.drawnX [] (fun W => ∃ L', Own w D W ([row A0 l0.length c0 (List.flatMap PairD.cells l0) 58 2] ++ L')) (by kernel_rfl) (by kernel_rfl) (NoP.then (NoP.block (NoP.then (NoP.block (NoP.then NoP.base))))) ⟨_, H204⟩ ?_
 revert H204
 generalize World.drew w191 = w203
 intro H204
 refine GX.take (v := .func (.func 62) #[] #[]) (rs := []) 0 rfl (by kernel_rfl) (fun _ _ => Yl.move rfl) (GX.take (v := .slice A0 l0.length c0) (rs := []) 1 rfl (by kernel_rfl) (fun _ _ => Yl.move rfl) (GX.take (v := .int .i64 (((((Int.toNat (p1 + p3)) / 2 : Nat) : Int) + p2) - 1)) (rs := []) 2 rfl (by kernel_rfl) (fun _ _ => Yl.move rfl) (GX.take (v := .int .i64 (((Int.toNat (z186 + z187)) / 2 : Nat) : Int)) (rs := []) 3 rfl (by kernel_rfl) (fun _ _ => Yl.move rfl) (GX.take (v := .int .i64 ((Int.toNat ((((((Int.toNat (p1 + p3)) / 2 : Nat) : Int) + p2) - 1) - (((Int.toNat (z186 + z187)) / 2 : Nat) : Int)) : Nat) : Int)) (rs := []) 4 rfl (by kernel_rfl) (fun _ _ => Yl.int (e := IntKind.i64.wrap ((((((Int.toNat (p1 + p3)) / 2 : Nat) : Int) + p2) - 1) - (((Int.toNat (z186 + z187)) / 2 : Nat) : Int))) yk (by rw [IntWalk.i64_in _ (by omega)]; omega)) ?_))))
 obtain ⟨x205, hx206⟩ := at_of (ls := l0) (i := Int.toNat ((((((Int.toNat (p1 + p3)) / 2 : Nat) : Int) + p2) - 1) - (((Int.toNat (z186 + z187)) / 2 : Nat) : Int))) (by first | omega | (simp; done) | (simp; omega))
 refine GX.take (v := .pointer (some ⟨ab A0, ao A0 + (Int.toNat ((((((Int.toNat (p1 + p3)) / 2 : Nat) : Int) + p2) - 1) - (((Int.toNat (z186 + z187)) / 2 : Nat) : Int))) * 2, none⟩)) (rs := []) 5 rfl (by kernel_rfl) (fun _ ⟨_, H9⟩ => Yl.indexAddr (El54) rfl rfl ((H9.rds (i := 0) rfl).addr (i := Int.toNat ((((((Int.toNat (p1 + p3)) / 2 : Nat) : Int) + p2) - 1) - (((Int.toNat (z186 + z187)) / 2 : Nat) : Int))) (by omega)) (by omega)) (GX.take (v := .agg (PairD.cells x205).toArray) (rs := []) 6 rfl (by kernel_rfl) (fun _ ⟨_, H9⟩ => Yl.load rfl (Lds.agg (cs := (PairD.cells x205)) Try.isAgg58 Try.sizeOf58 ((H9.rds (i := 0) rfl).elem PairD.len hx206 (by decide)))) (GX.take (v := .slice A0 l0.length c0) (rs := []) 7 rfl (by kernel_rfl) (fun _ _ => Yl.move rfl) (GX.take (v := .int .i64 (((Int.toNat (z186 + z187)) / 2 : Nat) : Int)) (rs := []) 8 rfl (by kernel_rfl) (fun _ _ => Yl.move rfl) ?_)))
 obtain ⟨x207, hx208⟩ := at_of (ls := l0) (i := (Int.toNat (z186 + z187)) / 2) (by first | omega | (simp; done) | (simp; omega))
 refine GX.take (v := .pointer (some ⟨ab A0, ao A0 + ((Int.toNat (z186 + z187)) / 2) * 2, none⟩)) (rs := []) 9 rfl (by kernel_rfl) (fun _ ⟨_, H9⟩ => Yl.indexAddr (El54) rfl rfl ((H9.rds (i := 0) rfl).addr (i := (Int.toNat (z186 + z187)) / 2) (by omega)) (by omega)) (GX.take (v := .agg (PairD.cells x207).toArray) (rs := []) 10 rfl (by kernel_rfl) (fun _ ⟨_, H9⟩ => Yl.load rfl (Lds.agg (cs := (PairD.cells x207)) Try.isAgg58 Try.sizeOf58 ((H9.rds (i := 0) rfl).elem PairD.len hx208 (by decide)))) ?_)
 obtain ⟨r214, hr215⟩ : ∃ q, owner_gatherOp_1 x205 x207 = q := ⟨_, rfl⟩
 obtain ⟨D209, HP210, ro211, bk212, rr213⟩ := Own.enter0 H204
 refine GX.do 11 rfl (by kernel_rfl) (Do.callV Try.call62 rfl rfl (owner_gatherOp_1_ok _ _ x205 x207 r214 HP210 hr215) ?_)
 rintro _ w216 ⟨rfl, HQ217⟩
 have H218 := bk212 _ _ HQ217
 refine ⟨.inr ⟨_, H218⟩, ?_⟩
 refine GX.take (v := .bool (decide (r214 < 0))) (rs := []) 12 rfl (by kernel_rfl) (fun _ _ => yk) (GX.take (v := .bool (decide (¬ (r214 < 0)))) (rs := []) 13 rfl (by kernel_rfl) (fun _ _ => Yl.bool (e := !(decide (r214 < 0))) yk decide_not.symm) (GX.done (by kernel_rfl) (Fin.then ?_)))
 by_cases h219 : r214 < 0
 refine jF (dF (not_not_intro h219)) (Wp.region (Mz rfl (Az rfl (WL.nil (bN ?_)))))
 have H220 := H218.pk [0]
 exact Fin.round (z186, (((Int.toNat (z186 + z187)) / 2 : Nat) : Int), f200) ⟨rfl, rfl, rfl, rfl, rfl, rfl, rfl, rfl, rfl, rfl, trivial⟩ (dm196.2 ⟨H220, by omega, by omega, et (hq197) (et (ip h202) (et (bnd_of (getD_of hx206)) (et (bnd_of (getD_of hx208)) (et (bnd_of hr215) (ip h219)))))⟩) (by show f200 < f200 + 1; omega)
 refine jT (dT h219) (Wp.region (Mz rfl (fw (.int .i64 ((((Int.toNat (z186 + z187)) / 2) + 1 : Nat) : Int)) (Yl.int (e := IntKind.i64.wrap ((((Int.toNat (z186 + z187)) / 2 : Nat) : Int) + 1)) yk (by rw [IntWalk.i64_in _ (by omega)]; omega)) (Az rfl (WL.nil (bN ?_))))))
 have H221 := H218.pk [0]
 exact Fin.round (((((Int.toNat (z186 + z187)) / 2) + 1 : Nat) : Int), z187, f200) ⟨rfl, rfl, rfl, rfl, rfl, rfl, rfl, rfl, rfl, rfl, trivial⟩ (dm196.2 ⟨H221, by omega, by omega, et (hq197) (et (ip h202) (et (bnd_of (getD_of hx206)) (et (bnd_of (getD_of hx208)) (et (bnd_of hr215) (iN h219)))))⟩) (by show f200 < f200 + 1; omega)
 refine jF (dF h202) (Wp.exit (Fin.thenX ?_))
 have hL222 : slices_symMergeCmpFunc_api_Pair_L4 l0 p1 p2 p3 ((Int.toNat (z172 - z171)) + 1) z171 z172 = z186 := et (hq197) (iN h202)
 refine Fin.thenX (Fin.blockX (Fin.then (sr (Mz rfl (Mz rfl (fw (.int .i64 (((((Int.toNat (p1 + p3)) / 2 : Nat) : Int) + p2) - z186)) (Yl.int (e := IntKind.i64.wrap (((((Int.toNat (p1 + p3)) / 2 : Nat) : Int) + p2) - z186)) yk (by rw [IntWalk.i64_in _ (by omega)])) (An rfl (Wp.seq (sr (Mz rfl (Mz rfl (Kz (.bool (decide (z186 < p2))) (Mz rfl ?_)))))))))))))
 by_cases h223 : z186 < p2
 refine gw (.int .i64 p2) (dT h223) (Yl.move rfl) (gw (.int .i64 (((((Int.toNat (p1 + p3)) / 2 : Nat) : Int) + p2) - z186)) (dT h223) (Yl.move rfl) (Gz (.bool (decide (p2 < ((((Int.toNat (p1 + p3)) / 2 : Nat) : Int) + p2) - z186))) (dT h223) (fw (.bool (decide (p2 < ((((Int.toNat (p1 + p3)) / 2 : Nat) : Int) + p2) - z186))) (Yl.pickT rfl (dT h223) rfl) (nt ?_))))
 obtain ⟨I225, hI226⟩ : ∃ q : (List PairD) → World → Prop, q = fun (i : (List PairD)) w' => Own w D w' [row A0 l0.length c0 (List.flatMap PairD.cells i) 58 2] ∧ (i.length = l0.length ∧ (if p2 < ((((Int.toNat (p1 + p3)) / 2 : Nat) : Int) + p2) - z186 then bnd (slices_rotateCmpFunc_api_Pair l0 z186 p2 (((((Int.toNat (p1 + p3)) / 2 : Nat) : Int) + p2) - z186)) fun yr234 => yr234 else l0) = i) := ⟨_, rfl⟩
 have dm227 : ∀ {l224 : List PairD} {w' : World}, I225 l224 w' ↔ Own w D w' [row A0 l0.length c0 (List.flatMap PairD.cells l224) 58 2] ∧ l224.length = l0.length ∧ (if p2 < ((((Int.toNat (p1 + p3)) / 2 : Nat) : Int) + p2) - z186 then bnd (slices_rotateCmpFunc_api_Pair l0 z186 p2 (((((Int.toNat (p1 + p3)) / 2 : Nat) : Int) + p2) - z186)) fun yr234 => yr234 else l0) = l224 := by intros; subst hI226; exact Iff.rfl
 refine Wp.joinT (fun i : (List PairD) => [(24, .int .i64 (((((Int.toNat (p1 + p3)) / 2 : Nat) : Int) + p2) - z186)), (20, .int .i64 z186), (18, .int .i64 (((Int.toNat (p1 + p3)) / 2 : Nat) : Int)), (0, .slice A0 l0.length c0), (1, .int .i64 p1), (3, .int .i64 p3), (4, .func (.func 62) #[] #[])]) I225 ?_ ?_
 by_cases h228 : p2 < ((((Int.toNat (p1 + p3)) / 2 : Nat) : Int) + p2) - z186
 refine jT (dT h228) (Wp.region (Mz rfl (Mz rfl (Mz rfl (Mz rfl (Mz rfl ?_))))))
 obtain ⟨r234, hr235⟩ : ∃ q, slices_rotateCmpFunc_api_Pair l0 z186 p2 (((((Int.toNat (p1 + p3)) / 2 : Nat) : Int) + p2) - z186) = q := ⟨_, rfl⟩
 obtain ⟨D229, HP230, ro231, bk232, rr233⟩ := Own.enter1 H192
 refine cl Try.call101 (slices_rotateCmpFunc_api_Pair_ok _ _ A0 l0.length c0 l0 z186 p2 (((((Int.toNat (p1 + p3)) / 2 : Nat) : Int) + p2) - z186) r234 HP230 rfl (by omega) (by omega) hr235) ?_
 rintro _ w236 ⟨rfl, HQ237, hk239⟩
 have H238 := bk232 _ _ HQ237
 have hb240 := H238.rowC (i := 0) rfl
 replace hk239 : r234.length = l0.length := hk239
 refine WL.nil ?_
 have H241 := H238.pk [0]
 exact Fin.join r234 ⟨rfl, rfl, rfl, rfl, rfl, rfl, rfl, trivial⟩ (dm227.2 ⟨H241, by first | omega | (simp only [List.length_set] <;> omega) | (simp only [List.length_replicate]), Eq.trans (if_pos h228) (bnd_of hr235)⟩)
 refine jF (dF h228) (Wp.skip ?_)
 have H242 := H192.pk [0]
 exact Fin.join l0 ⟨rfl, rfl, rfl, rfl, rfl, rfl, rfl, trivial⟩ (dm227.2 ⟨H242, by first | omega | (simp only [List.length_set] <;> omega) | (simp only [List.length_replicate]), if_neg h228⟩)
 rintro l224 w243 hf245
 show Wp _ _ _ [(24, .int .i64 (((((Int.toNat (p1 + p3)) / 2 : Nat) : Int) + p2) - z186)), (20, .int .i64 z186), (18, .int .i64 (((Int.toNat (p1 + p3)) / 2 : Nat) : Int)), (0, .slice A0 l0.length c0), (1, .int .i64 p1), (3, .int .i64 p3), (4, .func (.func 62) #[] #[])] _ _
 obtain ⟨H244, hi247, hj246⟩ := dm227.1 hf245
 refine Wp.seq (sr (Mz rfl (Mz rfl (Kz (.bool (decide (p1 < z186))) (Mz rfl ?_)))))
 by_cases h248 : p1 < z186
 refine gw (.int .i64 z186) (dT h248) (Yl.move rfl) (gw (.int .i64 (((Int.toNat (p1 + p3)) / 2 : Nat) : Int)) (dT h248) (Yl.move rfl) (Gz (.bool (decide (z186 < (((Int.toNat (p1 + p3)) / 2 : Nat) : Int)))) (dT h248) (fw (.bool (decide (z186 < (((Int.toNat (p1 + p3)) / 2 : Nat) : Int)))) (Yl.pickT rfl (dT h248) rfl) (nt ?_))))
 obtain ⟨I250, hI251⟩ : ∃ q : (List PairD) → World → Prop, q = fun (i : (List PairD)) w' => Own w D w' [row A0 l0.length c0 (List.flatMap PairD.cells i) 58 2] ∧ (i.length = l0.length ∧ (if z186 < (((Int.toNat (p1 + p3)) / 2 : Nat) : Int) then bnd (symT l224 p1 z186 (((Int.toNat (p1 + p3)) / 2 : Nat) : Int)) fun yr259 => yr259 else l224) = i) := ⟨_, rfl⟩
 have dm252 : ∀ {l249 : List PairD} {w' : World}, I250 l249 w' ↔ Own w D w' [row A0 l0.length c0 (List.flatMap PairD.cells l249) 58 2] ∧ l249.length = l0.length ∧ (if z186 < (((Int.toNat (p1 + p3)) / 2 : Nat) : Int) then bnd (symT l224 p1 z186 (((Int.toNat (p1 + p3)) / 2 : Nat) : Int)) fun yr259 => yr259 else l224) = l249 := by intros; subst hI251; exact Iff.rfl
 refine Wp.joinT (fun i : (List PairD) => [(24, .int .i64 (((((Int.toNat (p1 + p3)) / 2 : Nat) : Int) + p2) - z186)), (18, .int .i64 (((Int.toNat (p1 + p3)) / 2 : Nat) : Int)), (0, .slice A0 l0.length c0), (3, .int .i64 p3), (4, .func (.func 62) #[] #[])]) I250 ?_ ?_
 by_cases h253 : z186 < (((Int.toNat (p1 + p3)) / 2 : Nat) : Int)
 refine jT (dT h253) (Wp.region (Mz rfl (Mz rfl (Mz rfl (Mz rfl (Mz rfl ?_))))))
 obtain ⟨r259, hr260⟩ : ∃ q, symT l224 p1 z186 (((Int.toNat (p1 + p3)) / 2 : Nat) : Int) = q := ⟨_, rfl⟩
 obtain ⟨D254, HP255, ro256, bk257, rr258⟩ := Own.enter1 H244
 refine cl Try.call95 (self_ _ _ A0 l0.length c0 l224 p1 z186 (((Int.toNat (p1 + p3)) / 2 : Nat) : Int) r259 HP255 (by first | rfl | omega | (simp only [List.length_append, List.length_cons, List.length_nil, List.length_take, List.length_drop, List.length_set, List.length_replicate, List.length_map] <;> omega)) (by omega) (by omega) (by omega) hr260) ?_
 rintro _ w261 ⟨rfl, HQ262, hk264⟩
 have H263 := bk257 _ _ HQ262
 have hb265 := H263.rowC (i := 0) rfl
 replace hk264 : r259.length = l224.length := hk264
 refine WL.nil ?_
 have H266 := H263.pk [0]
 exact Fin.join r259 ⟨rfl, rfl, rfl, rfl, rfl, trivial⟩ (dm252.2 ⟨H266, by first | omega | (simp only [List.length_set] <;> omega) | (simp only [List.length_replicate]), Eq.trans (if_pos h253) (bnd_of hr260)⟩)
 refine jF (dF h253) (Wp.skip ?_)
 have H267 := H244.pk [0]
 exact Fin.join l224 ⟨rfl, rfl, rfl, rfl, rfl, trivial⟩ (dm252.2 ⟨H267, by first | omega | (simp only [List.length_set] <;> omega) | (simp only [List.length_replicate]), if_neg h253⟩)
 rintro l249 w268 hf270
 show Wp _ _ _ [(24, .int .i64 (((((Int.toNat (p1 + p3)) / 2 : Nat) : Int) + p2) - z186)), (18, .int .i64 (((Int.toNat (p1 + p3)) / 2 : Nat) : Int)), (0, .slice A0 l0.length c0), (3, .int .i64 p3), (4, .func (.func 62) #[] #[])] _ _
 obtain ⟨H269, hi272, hj271⟩ := dm252.1 hf270
 refine sr (Mz rfl (Mz rfl (Kz (.bool (decide ((((Int.toNat (p1 + p3)) / 2 : Nat) : Int) < ((((Int.toNat (p1 + p3)) / 2 : Nat) : Int) + p2) - z186))) (Mz rfl ?_))))
 have hb273 : (decide ((((Int.toNat (p1 + p3)) / 2 : Nat) : Int) < ((((Int.toNat (p1 + p3)) / 2 : Nat) : Int) + p2) - z186)) = true := (dT (by omega))
 refine WL.valG (v := .int .i64 (((((Int.toNat (p1 + p3)) / 2 : Nat) : Int) + p2) - z186)) rfl rfl hb273 rfl (Yl.move rfl) (WL.valG (v := .int .i64 p3) rfl rfl hb273 rfl (Yl.move rfl) (Gz (.bool (decide (((((Int.toNat (p1 + p3)) / 2 : Nat) : Int) + p2) - z186 < p3))) hb273 (fw (.bool (decide (((((Int.toNat (p1 + p3)) / 2 : Nat) : Int) + p2) - z186 < p3))) (Yl.pickT rfl hb273 rfl) (nt ?_))))
 by_cases h274 : ((((Int.toNat (p1 + p3)) / 2 : Nat) : Int) + p2) - z186 < p3
 refine jT (dT h274) (Wp.region (Mz rfl (Mz rfl (Mz rfl (Mz rfl (Mz rfl ?_))))))
 obtain ⟨r280, hr281⟩ : ∃ q, symT l249 (((Int.toNat (p1 + p3)) / 2 : Nat) : Int) (((((Int.toNat (p1 + p3)) / 2 : Nat) : Int) + p2) - z186) p3 = q := ⟨_, rfl⟩
 obtain ⟨D275, HP276, ro277, bk278, rr279⟩ := Own.enter1 H269
 refine cl Try.call95 (self_ _ _ A0 l0.length c0 l249 (((Int.toNat (p1 + p3)) / 2 : Nat) : Int) (((((Int.toNat (p1 + p3)) / 2 : Nat) : Int) + p2) - z186) p3 r280 HP276 (by first | rfl | omega | (simp only [List.length_append, List.length_cons, List.length_nil, List.length_take, List.length_drop, List.length_set, List.length_replicate, List.length_map] <;> omega)) (by omega) (by omega) (by omega) hr281) ?_
 rintro _ w282 ⟨rfl, HQ283, hk285⟩
 have H284 := bk278 _ _ HQ283
 have hb286 := H284.rowC (i := 0) rfl
 replace hk285 : r280.length = l249.length := hk285
 refine WL.nil (Fin.res0 (res0 rfl) ?_)
 have H287 := H284.pk [0]
 obtain rfl : _ = r280 := hr.symm.trans (et (iN h21) (et (iN h96) (et (bnd_of hj182) (et (bnd_of hL222) (et (ip h223) (et (bnd_of hj246) (et (ip h248) (et (bnd_of hj271) (et (ip h274) (bnd_of hr281))))))))))
 exact ⟨rfl, H287, (by first | rfl | omega | (simp only [List.length_set] <;> omega))⟩
 refine jF (dF h274) (Wp.skip (Fin.res0 (res0 rfl) ?_))
 have H288 := H269.pk [0]
 obtain rfl : _ = l249 := hr.symm.trans (et (iN h21) (et (iN h96) (et (bnd_of hj182) (et (bnd_of hL222) (et (ip h223) (et (bnd_of hj246) (et (ip h248) (et (bnd_of hj271) (iN h274)))))))))
 exact ⟨rfl, H288, (by first | rfl | omega | (simp only [List.length_set] <;> omega))⟩
 refine Sz (dF h248) (Sz (dF h248) (Sz (dF h248) (fw (.bool false) (Yl.pickF rfl (dF h248) rfl) (nt (jf (sk (sr (Mz rfl (Mz rfl (Kz (.bool (decide ((((Int.toNat (p1 + p3)) / 2 : Nat) : Int) < ((((Int.toNat (p1 + p3)) / 2 : Nat) : Int) + p2) - z186))) (Mz rfl ?_)))))))))))
 have hb289 : (decide ((((Int.toNat (p1 + p3)) / 2 : Nat) : Int) < ((((Int.toNat (p1 + p3)) / 2 : Nat) : Int) + p2) - z186)) = true := (dT (by omega))
 refine WL.valG (v := .int .i64 (((((Int.toNat (p1 + p3)) / 2 : Nat) : Int) + p2) - z186)) rfl rfl hb289 rfl (Yl.move rfl) (WL.valG (v := .int .i64 p3) rfl rfl hb289 rfl (Yl.move rfl) (Gz (.bool (decide (((((Int.toNat (p1 + p3)) / 2 : Nat) : Int) + p2) - z186 < p3))) hb289 (fw (.bool (decide (((((Int.toNat (p1 + p3)) / 2 : Nat) : Int) + p2) - z186 < p3))) (Yl.pickT rfl hb289 rfl) (nt ?_))))
 by_cases h290 : ((((Int.toNat (p1 + p3)) / 2 : Nat) : Int) + p2) - z186 < p3
 refine jT (dT h290) (Wp.region (Mz rfl (Mz rfl (Mz rfl (Mz rfl (Mz rfl ?_))))))
 obtain ⟨r296, hr297⟩ : ∃ q, symT l224 (((Int.toNat (p1 + p3)) / 2 : Nat) : Int) (((((Int.toNat (p1 + p3)) / 2 : Nat) : Int) + p2) - z186) p3 = q := ⟨_, rfl⟩
 obtain ⟨D291, HP292, ro293, bk294, rr295⟩ := Own.enter1 H244
 refine cl Try.call95 (self_ _ _ A0 l0.length c0 l224 (((Int.toNat (p1 + p3)) / 2 : Nat) : Int) (((((Int.toNat (p1 + p3)) / 2 : Nat) : Int) + p2) - z186) p3 r296 HP292 (by first | rfl | omega | (simp only [List.length_append, List.length_cons, List.length_nil, List.length_take, List.length_drop, List.length_set, List.length_replicate, List.length_map] <;> omega)) (by omega) (by omega) (by omega) hr297) ?_
 rintro _ w298 ⟨rfl, HQ299, hk301⟩
 have H300 := bk294 _ _ HQ299
 have hb302 := H300.rowC (i := 0) rfl
 replace hk301 : r296.length = l224.length := hk301
 refine WL.nil (Fin.res0 (res0 rfl) ?_)
 have H303 := H300.pk [0]
 obtain rfl : _ = r296 := hr.symm.trans (et (iN h21) (et (iN h96) (et (bnd_of hj182) (et (bnd_of hL222) (et (ip h223) (et (bnd_of hj246) (et (iN h248) (et (ip h290) (bnd_of hr297)))))))))
 exact ⟨rfl, H303, (by first | rfl | omega | (simp only [List.length_set] <;> omega))⟩
 refine jF (dF h290) (Wp.skip (Fin.res0 (res0 rfl) ?_))
 have H304 := H244.pk [0]
 obtain rfl : _ = l224 := hr.symm.trans (et (iN h21) (et (iN h96) (et (bnd_of hj182) (et (bnd_of hL222) (et (ip h223) (et (bnd_of hj246) (et (iN h248) (iN h290))))))))
 exact ⟨rfl, H304, (by first | rfl | omega | (simp only [List.length_set] <;> omega))⟩
 refine Sz (dF h223) (Sz (dF h223) (Sz (dF h223) (fw (.bool false) (Yl.pickF rfl (dF h223) rfl) (nt (jf (sk (Wp.seq (sr (Mz rfl (Mz rfl (Kz (.bool (decide (p1 < z186))) (Mz rfl ?_))))))))))))
 have hb305 : (decide (p1 < z186)) = true := (dT (by omega))
 refine WL.valG (v := .int .i64 z186) rfl rfl hb305 rfl (Yl.move rfl) (WL.valG (v := .int .i64 (((Int.toNat (p1 + p3)) / 2 : Nat) : Int)) rfl rfl hb305 rfl (Yl.move rfl) (Gz (.bool (decide (z186 < (((Int.toNat (p1 + p3)) / 2 : Nat) : Int)))) hb305 (fw (.bool (decide (z186 < (((Int.toNat (p1 + p3)) / 2 : Nat) : Int)))) (Yl.pickT rfl hb305 rfl) (nt ?_))))
 obtain ⟨I307, hI308⟩ : ∃ q : (List PairD) → World → Prop, q = fun (i : (List PairD)) w' => Own w D w' [row A0 l0.length c0 (List.flatMap PairD.cells i) 58 2] ∧ (i.length = l0.length ∧ (if z186 < (((Int.toNat (p1 + p3)) / 2 : Nat) : Int) then bnd (symT l0 p1 z186 (((Int.toNat (p1 + p3)) / 2 : Nat) : Int)) fun yr316 => yr316 else l0) = i) := ⟨_, rfl⟩
 have dm309 : ∀ {l306 : List PairD} {w' : World}, I307 l306 w' ↔ Own w D w' [row A0 l0.length c0 (List.flatMap PairD.cells l306) 58 2] ∧ l306.length = l0.length ∧ (if z186 < (((Int.toNat (p1 + p3)) / 2 : Nat) : Int) then bnd (symT l0 p1 z186 (((Int.toNat (p1 + p3)) / 2 : Nat) : Int)) fun yr316 => yr316 else l0) = l306 := by intros; subst hI308; exact Iff.rfl
 refine Wp.joinT (fun i : (List PairD) => [(24, .int .i64 (((((Int.toNat (p1 + p3)) / 2 : Nat) : Int) + p2) - z186)), (18, .int .i64 (((Int.toNat (p1 + p3)) / 2 : Nat) : Int)), (0, .slice A0 l0.length c0), (3, .int .i64 p3), (4, .func (.func 62) #[] #[])]) I307 ?_ ?_
 by_cases h310 : z186 < (((Int.toNat (p1 + p3)) / 2 : Nat) : Int)
 refine jT (dT h310) (Wp.region (Mz rfl (Mz rfl (Mz rfl (Mz rfl (Mz rfl ?_))))))
 obtain ⟨r316, hr317⟩ : ∃ q, symT l0 p1 z186 (((Int.toNat (p1 + p3)) / 2 : Nat) : Int) = q := ⟨_, rfl⟩
 obtain ⟨D311, HP312, ro313, bk314, rr315⟩ := Own.enter1 H192
 refine cl Try.call95 (self_ _ _ A0 l0.length c0 l0 p1 z186 (((Int.toNat (p1 + p3)) / 2 : Nat) : Int) r316 HP312 rfl (by omega) (by omega) (by omega) hr317) ?_
 rintro _ w318 ⟨rfl, HQ319, hk321⟩
 have H320 := bk314 _ _ HQ319
 have hb322 := H320.rowC (i := 0) rfl
 replace hk321 : r316.length = l0.length := hk321
 refine WL.nil ?_
 have H323 := H320.pk [0]
 exact Fin.join r316 ⟨rfl, rfl, rfl, rfl, rfl, trivial⟩ (dm309.2 ⟨H323, by first | omega | (simp only [List.length_set] <;> omega) | (simp only [List.length_replicate]), Eq.trans (if_pos h310) (bnd_of hr317)⟩)
 refine jF (dF h310) (Wp.skip ?_)
 have H324 := H192.pk [0]
 exact Fin.join l0 ⟨rfl, rfl, rfl, rfl, rfl, trivial⟩ (dm309.2 ⟨H324, by first | omega | (simp only [List.length_set] <;> omega) | (simp only [List.length_replicate]), if_neg h310⟩)
 rintro l306 w325 hf327
 show Wp _ _ _ [(24, .int .i64 (((((Int.toNat (p1 + p3)) / 2 : Nat) : Int) + p2) - z186)), (18, .int .i64 (((Int.toNat (p1 + p3)) / 2 : Nat) : Int)), (0, .slice A0 l0.length c0), (3, .int .i64 p3), (4, .func (.func 62) #[] #[])] _ _
 obtain ⟨H326, hi329, hj328⟩ := dm309.1 hf327
 refine sr (Mz rfl (Mz rfl (Kz (.bool (decide ((((Int.toNat (p1 + p3)) / 2 : Nat) : Int) < ((((Int.toNat (p1 + p3)) / 2 : Nat) : Int) + p2) - z186))) (Mz rfl ?_))))
 have hb330 : (decide ((((Int.toNat (p1 + p3)) / 2 : Nat) : Int) < ((((Int.toNat (p1 + p3)) / 2 : Nat) : Int) + p2) - z186)) = false := (dF (by omega))
 refine Sz hb330 (Sz hb330 (Sz hb330 (fw (.bool false) (Yl.pickF rfl hb330 rfl) (nt (jf (Wp.skip (Fin.res0 (res0 rfl) ?_)))))))
 have H331 := H326.pk [0]
 obtain rfl : _ = l306 := hr.symm.trans (et (iN h21) (et (iN h96) (et (bnd_of hj182) (et (bnd_of hL222) (et (iN h223) (bnd_of hj328))))))
 exact ⟨rfl, H331, (by first | rfl | omega | (simp only [List.length_set] <;> omega))⟩
end Go.Proofs.Ytcjjblkgbfaapaa
