/-
  owner: the law OwnerAsks
-/
import Derived.Test.YtcjjblkgbfaapaaNw
namespace Go.Proofs.Ytcjjblkgbfaapaa
open Go.RowKit
set_option linter.unusedVariables false
set_option linter.unusedSectionVars false
set_option linter.unusedSimpArgs false

def w17_OwnerAsks (l0 : List OwnerD) (p1 : List UInt8) (p2 : Int) (p3 : Int) (p4 : RangeD) : Bool :=
  bnd (w17_live) fun yr29 => bnd (owner_Find l0 p1) fun yr39 => bnd (r17_Find l0 p1) fun yr53 => bnd (owner_RangeOf l0 p2) fun yr65 => bnd (r17_RangeOf l0 p2) fun yr82 => if yr29 = true then bnd (owner_Check l0) fun yr102 => bnd (r17_Check l0) fun yr113 => if yr102 = yr113 then if yr39.1 = yr53.1 then if yr39.2 = yr53.2 then if (yr65.1.xLo = yr82.1.xLo) ∧ (yr65.1.xHi = yr82.1.xHi) then if yr65.2 = yr82.2 then bnd (owner_Owns l0 p3 p4) fun yr129 => bnd (r17_Owns l0 p3 p4) fun yr139 => decide (yr129 = yr139) else false else false else false else false else false else false

set_option maxRecDepth 100000 in
set_option maxHeartbeats 1000000 in
theorem w17_OwnerAsks_ok (w : World) (D : Nat → Prop) (A0 : Option Addr) (n0 c0 : Nat) (l0 : List OwnerD) (p1 : List UInt8) (p2 : Int) (p3 : Int) (p4 : RangeD) (r0 : Bool) (H : Own w D w []) (hx0 : Ro w D fun w' => Rds w' 2 A0 n0 (List.flatMap OwnerD.cells l0)) (hn0 : n0 = List.length l0) (hl0 : List.length l0 * 24 ≤ 211106232532992) (hh0 : List.length l0 * 24 ≤ 140737488351232) (hh1 : List.length p1 ≤ 140737488351232) (hh2 : (-9223372036854775808) ≤ p2 ∧ p2 ≤ 9223372036854775807) (hh3 : (-9223372036854775808) ≤ p3 ∧ p3 ≤ 9223372036854775807) (hr : w17_OwnerAsks l0 p1 p2 p3 p4 = r0) :
    Calls Try.prog 3 #[.slice A0 n0 c0, .string ⟨List.toArray p1⟩, .int .i64 p2, .int .i64 p3, .agg (RangeD.cells p4).toArray] w (Ret fun v w' => v = .bool r0 ∧ Own w D w' []) := by
  subst hn0
  refine Calls.body (args := [.slice A0 (List.length l0) c0, .string ⟨List.toArray p1⟩, .int .i64 p2, .int .i64 p3, .agg (RangeD.cells p4).toArray]) Try.func3 rfl rfl rfl ?_
  show Wp _ _ _ [(0, .slice A0 (List.length l0) c0), (1, .string ⟨List.toArray p1⟩), (2, .int .i64 p2), (3, .int .i64 p3), (4, .agg (RangeD.cells p4).toArray)] _ _
  refine Wp.seq (Wp.region ?_)
  refine WL.do rfl (Do.newP (cs := (RangeD.cells p4)) (t := 24) H rfl rfl (fun _ => by kernel_rfl) ?_)
  intro g21 w22 H23
  replace H23 : Own w D w22 [blk g21 (RangeD.cells p4) 24] := H23
  refine As rfl rfl (WL.nil (Fin.then (Wp.seq (Wp.region ?_))))
  obtain ⟨r29, hr30⟩ : ∃ q, w17_live = q := ⟨_, rfl⟩
  obtain ⟨D24, HP25, ro26, bk27, rr28⟩ := Own.enter0 H23
  refine WL.do rfl (Do.call Try.call9 rfl (w17_live_ok _ _ r29 HP25 hr30) ?_)
  rintro _ w31 ⟨rfl, HQ32⟩
  have H33 : Own w D w31 [blk g21 (RangeD.cells p4) 24] := bk27 _ _ HQ32
  refine As rfl rfl (WL.nil (Fin.then (Wp.seq (Wp.region (Mv rfl rfl (Mv rfl rfl ?_))))))
  obtain ⟨⟨r39, r40⟩, hr41⟩ : ∃ q : Int × Int, owner_Find l0 p1 = q := ⟨_, rfl⟩
  obtain ⟨D34, HP35, ro36, bk37, rr38⟩ := Own.enter0 H33
  refine WL.do rfl (Do.call Try.call10 rfl (owner_Find_ok _ _ A0 (List.length l0) c0 l0 p1 r39 r40 HP35 (ro36 _ hx0) rfl (by omega) hr41) ?_)
  rintro _ w42 ⟨rfl, HQ43, hk45, hk46, hk47⟩
  have H44 : Own w D w42 [blk g21 (RangeD.cells p4) 24] := bk37 _ _ HQ43
  replace hk45 : ¬ (r40 = 0) ∨ (0 ≤ r39 ∧ r39 < ((List.length l0 : Nat) : Int) ∧ List.length l0 ≤ 6) := hk45
  replace hk46 : ¬ (owner_Check l0 = 0) ∨ List.length p1 < 1 ∨ List.length p1 > 12 ∨ (0 ≤ r39 ∧ r39 < ((List.length l0 : Nat) : Int)) := hk46
  replace hk47 : ¬ (r40 = 0) ∨ owner_Check l0 = 0 := hk47
  refine Mv rfl rfl (Kn (v := .int .i64 r39) rfl rfl rfl (fun _ => by kernel_rfl) (Kn (v := .int .i64 r40) rfl rfl rfl (fun _ => by kernel_rfl) (As rfl rfl (As rfl rfl (WL.nil (Fin.then (Wp.seq (Wp.region (Mv rfl rfl (Mv rfl rfl ?_))))))))))
  obtain ⟨⟨r53, r54⟩, hr55⟩ : ∃ q : Int × Int, r17_Find l0 p1 = q := ⟨_, rfl⟩
  obtain ⟨D48, HP49, ro50, bk51, rr52⟩ := Own.enter0 H44
  refine WL.do rfl (Do.call Try.call11 rfl (r17_Find_ok _ _ A0 (List.length l0) c0 l0 p1 r53 r54 HP49 (ro50 _ hx0) rfl (by omega) hr55) ?_)
  rintro _ w56 ⟨rfl, HQ57, hk59⟩
  have H58 : Own w D w56 [blk g21 (RangeD.cells p4) 24] := bk51 _ _ HQ57
  replace hk59 : ¬ (r54 = 0) ∨ (0 ≤ r53 ∧ r53 < ((List.length l0 : Nat) : Int) ∧ List.length l0 ≤ 6) := hk59
  refine Mv rfl rfl (Kn (v := .int .i64 r53) rfl rfl rfl (fun _ => by kernel_rfl) (Kn (v := .int .i64 r54) rfl rfl rfl (fun _ => by kernel_rfl) (As rfl rfl (As rfl rfl (WL.nil (Fin.then (Wp.seq (Wp.region (Mv rfl rfl (Mv rfl rfl ?_))))))))))
  obtain ⟨⟨r65, r66⟩, hr67⟩ : ∃ q : RangeD × Int, owner_RangeOf l0 p2 = q := ⟨_, rfl⟩
  obtain ⟨D60, HP61, ro62, bk63, rr64⟩ := Own.enter0 H58
  refine WL.do rfl (Do.call Try.call12 rfl (owner_RangeOf_ok _ _ A0 (List.length l0) c0 l0 p2 r65 r66 HP61 (ro62 _ hx0) rfl (by omega) hr67) ?_)
  rintro _ w68 ⟨rfl, HQ69, hk71⟩
  have H70 : Own w D w68 [blk g21 (RangeD.cells p4) 24] := bk63 _ _ HQ69
  replace hk71 : ¬ (r66 = 0) ∨ (0 ≤ p2 ∧ p2 < ((List.length l0 : Nat) : Int) ∧ List.length l0 ≤ 6) := hk71
  refine Mv rfl rfl (Kn (v := .agg (RangeD.cells r65).toArray) rfl rfl rfl (fun _ => by kernel_rfl) (Kn (v := .int .i64 r66) rfl rfl rfl (fun _ => by kernel_rfl) ?_))
  refine WL.do rfl (Do.newP (cs := [.string ⟨List.toArray ([])⟩, .string ⟨List.toArray ([])⟩]) (t := 24) H70 rfl rfl (fun _ => by kernel_rfl) ?_)
  intro g72 w73 H74
  replace H74 : Own w D w73 [blk g72 [.string ⟨List.toArray ([])⟩, .string ⟨List.toArray ([])⟩] 24, blk g21 (RangeD.cells p4) 24] := H74
  refine WL.do0 (Do.store (vs := (RangeD.cells r65)) (o := 0) H74 rfl rfl Try.sizeOf24 rfl rfl rfl rfl ?_)
  intro w75 H76
  replace H76 : Own w D w75 [blk g72 (RangeD.cells r65) 24, blk g21 (RangeD.cells p4) 24] := H76
  refine As rfl rfl (WL.nil (Fin.then (Wp.seq (Wp.region (Mv rfl rfl (Mv rfl rfl ?_))))))
  obtain ⟨⟨r82, r83⟩, hr84⟩ : ∃ q : RangeD × Int, r17_RangeOf l0 p2 = q := ⟨_, rfl⟩
  obtain ⟨D77, HP78, ro79, bk80, rr81⟩ := Own.enter0 H76
  refine WL.do rfl (Do.call Try.call13 rfl (r17_RangeOf_ok _ _ A0 (List.length l0) c0 l0 p2 r82 r83 HP78 (ro79 _ hx0) rfl (by omega) hr84) ?_)
  rintro _ w85 ⟨rfl, HQ86, hk88⟩
  have H87 : Own w D w85 [blk g72 (RangeD.cells r65) 24, blk g21 (RangeD.cells p4) 24] := bk80 _ _ HQ86
  replace hk88 : ¬ (r83 = 0) ∨ (0 ≤ p2 ∧ p2 < ((List.length l0 : Nat) : Int) ∧ List.length l0 ≤ 6) := hk88
  refine Mv rfl rfl (Kn (v := .agg (RangeD.cells r82).toArray) rfl rfl rfl (fun _ => by kernel_rfl) (Kn (v := .int .i64 r83) rfl rfl rfl (fun _ => by kernel_rfl) ?_))
  refine WL.do rfl (Do.newP (cs := [.string ⟨List.toArray ([])⟩, .string ⟨List.toArray ([])⟩]) (t := 24) H87 rfl rfl (fun _ => by kernel_rfl) ?_)
  intro g89 w90 H91
  replace H91 : Own w D w90 [blk g89 [.string ⟨List.toArray ([])⟩, .string ⟨List.toArray ([])⟩] 24, blk g72 (RangeD.cells r65) 24, blk g21 (RangeD.cells p4) 24] := H91
  refine WL.do0 (Do.store (vs := (RangeD.cells r82)) (o := 0) H91 rfl rfl Try.sizeOf24 rfl rfl rfl rfl ?_)
  intro w92 H93
  replace H93 : Own w D w92 [blk g89 (RangeD.cells r82) 24, blk g72 (RangeD.cells r65) 24, blk g21 (RangeD.cells p4) 24] := H93
  refine As rfl rfl (WL.nil (Fin.then (Wp.seq ?_)))
  have H95 := H93.drew
  refine Wp.drawnX [] (fun W => ∃ L', Own w D W ([blk g89 (RangeD.cells r82) 24, blk g72 (RangeD.cells r65) 24, blk g21 (RangeD.cells p4) 24] ++ L')) (by kernel_rfl) (by kernel_rfl) (NoP.then NoP.base) ⟨_, H95⟩ ?_
  revert H95
  generalize World.drew w92 = w94
  intro H95
  replace H95 : Own w D w94 [blk g89 (RangeD.cells r82) 24, blk g72 (RangeD.cells r65) 24, blk g21 (RangeD.cells p4) 24] := H95
  refine GX.take (v := .bool r29) (rs := []) 0 rfl (by kernel_rfl) (fun _ _ => Yl.move rfl) (GX.take (v := .bool r29) (rs := []) 1 rfl (by kernel_rfl) (fun _ _ => Yl.move rfl) ?_)
  rcases Bool.eq_false_or_eq_true (r29) with h96 | h96
  refine GX.takeG (v := .slice A0 (List.length l0) c0) (rs := []) 2 rfl rfl rfl h96 (by kernel_rfl) (fun _ _ => Yl.move rfl) (GX.takeG (v := .slice A0 (List.length l0) c0) (rs := []) 4 rfl rfl rfl h96 (by kernel_rfl) (fun _ _ => Yl.move rfl) ?_)
  obtain ⟨r102, hr103⟩ : ∃ q, owner_Check l0 = q := ⟨_, rfl⟩
  obtain ⟨D97, HP98, ro99, bk100, rr101⟩ := Own.enter0 H95
  refine GX.doG 3 rfl rfl rfl h96 (by kernel_rfl) (Do.call Try.call14 rfl (owner_Check_ok _ _ A0 (List.length l0) c0 l0 r102 HP98 (ro99 _ hx0) rfl (by omega) hr103) ?_)
  rintro _ w104 ⟨rfl, HQ105, hk107⟩
  have H106 : Own w D w104 [blk g89 (RangeD.cells r82) 24, blk g72 (RangeD.cells r65) 24, blk g21 (RangeD.cells p4) 24] := bk100 _ _ HQ105
  replace hk107 : ¬ (r102 = 0) ∨ (1 ≤ List.length l0 ∧ List.length l0 ≤ 6) := hk107
  refine ⟨.inr ⟨_, H106⟩, ?_⟩
  obtain ⟨r113, hr114⟩ : ∃ q, r17_Check l0 = q := ⟨_, rfl⟩
  obtain ⟨D108, HP109, ro110, bk111, rr112⟩ := Own.enter0 H106
  refine GX.doG 5 rfl rfl rfl h96 (by kernel_rfl) (Do.call Try.call15 rfl (r17_Check_ok _ _ A0 (List.length l0) c0 l0 r113 HP109 (ro110 _ hx0) rfl (by omega) hr114) ?_)
  rintro _ w115 ⟨rfl, HQ116, hk118⟩
  have H117 : Own w D w115 [blk g89 (RangeD.cells r82) 24, blk g72 (RangeD.cells r65) 24, blk g21 (RangeD.cells p4) 24] := bk111 _ _ HQ116
  replace hk118 : ¬ (r113 = 0) ∨ (1 ≤ List.length l0 ∧ List.length l0 ≤ 6) := hk118
  refine ⟨.inr ⟨_, H117⟩, ?_⟩
  refine GX.takeG (v := .bool (decide (r102 = r113))) (rs := []) 6 rfl rfl rfl h96 (by kernel_rfl) (fun _ _ => Yl.kern rfl rfl (fun _ => by kernel_rfl)) (GX.take (v := .bool (decide (r102 = r113))) (rs := []) 7 rfl (by kernel_rfl) (fun _ _ => Yl.pickT rfl h96 rfl) (GX.take (v := .bool (decide (r102 = r113))) (rs := []) 8 rfl (by kernel_rfl) (fun _ _ => Yl.move rfl) ?_))
  by_cases h119 : r102 = r113
  refine GX.takeG (v := .int .i64 r39) (rs := []) 9 rfl rfl rfl (decide_eq_true h119) (by kernel_rfl) (fun _ _ => Yl.move rfl) (GX.takeG (v := .int .i64 r53) (rs := []) 10 rfl rfl rfl (decide_eq_true h119) (by kernel_rfl) (fun _ _ => Yl.move rfl) (GX.takeG (v := .bool (decide (r39 = r53))) (rs := []) 11 rfl rfl rfl (decide_eq_true h119) (by kernel_rfl) (fun _ _ => Yl.kern rfl rfl (fun _ => by kernel_rfl)) (GX.take (v := .bool (decide (r39 = r53))) (rs := []) 12 rfl (by kernel_rfl) (fun _ _ => Yl.pickT rfl (decide_eq_true h119) rfl) (GX.take (v := .bool (decide (r39 = r53))) (rs := []) 13 rfl (by kernel_rfl) (fun _ _ => Yl.move rfl) ?_))))
  by_cases h120 : r39 = r53
  refine GX.takeG (v := .int .i64 r40) (rs := []) 14 rfl rfl rfl (decide_eq_true h120) (by kernel_rfl) (fun _ _ => Yl.move rfl) (GX.takeG (v := .int .i64 r54) (rs := []) 15 rfl rfl rfl (decide_eq_true h120) (by kernel_rfl) (fun _ _ => Yl.move rfl) (GX.takeG (v := .bool (decide (r40 = r54))) (rs := []) 16 rfl rfl rfl (decide_eq_true h120) (by kernel_rfl) (fun _ _ => Yl.kern rfl rfl (fun _ => by kernel_rfl)) (GX.take (v := .bool (decide (r40 = r54))) (rs := []) 17 rfl (by kernel_rfl) (fun _ _ => Yl.pickT rfl (decide_eq_true h120) rfl) (GX.take (v := .bool (decide (r40 = r54))) (rs := []) 18 rfl (by kernel_rfl) (fun _ _ => Yl.move rfl) ?_))))
  by_cases h121 : r40 = r54
  refine GX.takeG (v := .agg (RangeD.cells r65).toArray) (rs := []) 19 rfl rfl rfl (decide_eq_true h121) (by kernel_rfl) (fun _ ⟨_, H9⟩ => Yl.load rfl (Lds.agg (cs := (RangeD.cells r65)) Try.isAgg24 Try.sizeOf24 ((H9.cls (i := 1) rfl).lit (k := 0) (m := 2) rfl))) (GX.takeG (v := .agg (RangeD.cells r82).toArray) (rs := []) 20 rfl rfl rfl (decide_eq_true h121) (by kernel_rfl) (fun _ ⟨_, H9⟩ => Yl.load rfl (Lds.agg (cs := (RangeD.cells r82)) Try.isAgg24 Try.sizeOf24 ((H9.cls (i := 0) rfl).lit (k := 0) (m := 2) rfl))) (GX.takeG (v := .bool (decide ((r65.xLo = r82.xLo) ∧ (r65.xHi = r82.xHi)))) (rs := []) 21 rfl rfl rfl (decide_eq_true h121) (by kernel_rfl) (fun _ _ => Yl.eqAgg rfl rfl (by kernel_rfl) rfl (Eqv.struct Try.underlying24 (by kernel_rfl) (EqF.dec (EqF.cons (u := .string ⟨List.toArray r65.xLo⟩) (v := .string ⟨List.toArray r82.xLo⟩) (by decide) (fun _ => by kernel_rfl) (fun _ => by kernel_rfl) (Eqv.string Try.underlying9) (EqF.cons (u := .string ⟨List.toArray r65.xHi⟩) (v := .string ⟨List.toArray r82.xHi⟩) (by decide) (fun _ => by kernel_rfl) (fun _ => by kernel_rfl) (Eqv.string Try.underlying9) (EqF.nil.up (Nat.zero_le _)))) ((congrArg (decide (r65.xLo = r82.xLo) && ·) and_dec1).trans and_dec)))) (GX.take (v := .bool (decide ((r65.xLo = r82.xLo) ∧ (r65.xHi = r82.xHi)))) (rs := []) 22 rfl (by kernel_rfl) (fun _ _ => Yl.pickT rfl (decide_eq_true h121) rfl) (GX.take (v := .bool (decide ((r65.xLo = r82.xLo) ∧ (r65.xHi = r82.xHi)))) (rs := []) 23 rfl (by kernel_rfl) (fun _ _ => Yl.move rfl) ?_))))
  by_cases h122 : (r65.xLo = r82.xLo) ∧ (r65.xHi = r82.xHi)
  refine GX.takeG (v := .int .i64 r66) (rs := []) 24 rfl rfl rfl (decide_eq_true h122) (by kernel_rfl) (fun _ _ => Yl.move rfl) (GX.takeG (v := .int .i64 r83) (rs := []) 25 rfl rfl rfl (decide_eq_true h122) (by kernel_rfl) (fun _ _ => Yl.move rfl) (GX.takeG (v := .bool (decide (r66 = r83))) (rs := []) 26 rfl rfl rfl (decide_eq_true h122) (by kernel_rfl) (fun _ _ => Yl.kern rfl rfl (fun _ => by kernel_rfl)) (GX.take (v := .bool (decide (r66 = r83))) (rs := []) 27 rfl (by kernel_rfl) (fun _ _ => Yl.pickT rfl (decide_eq_true h122) rfl) (GX.take (v := .bool (decide (r66 = r83))) (rs := []) 28 rfl (by kernel_rfl) (fun _ _ => Yl.move rfl) ?_))))
  by_cases h123 : r66 = r83
  refine GX.takeG (v := .slice A0 (List.length l0) c0) (rs := []) 29 rfl rfl rfl (decide_eq_true h123) (by kernel_rfl) (fun _ _ => Yl.move rfl) (GX.takeG (v := .int .i64 p3) (rs := []) 30 rfl rfl rfl (decide_eq_true h123) (by kernel_rfl) (fun _ _ => Yl.move rfl) (GX.takeG (v := .agg (RangeD.cells p4).toArray) (rs := []) 31 rfl rfl rfl (decide_eq_true h123) (by kernel_rfl) (fun _ ⟨_, H9⟩ => Yl.load rfl (Lds.agg (cs := (RangeD.cells p4)) Try.isAgg24 Try.sizeOf24 ((H9.cls (i := 2) rfl).lit (k := 0) (m := 2) rfl))) (GX.takeG (v := .slice A0 (List.length l0) c0) (rs := []) 33 rfl rfl rfl (decide_eq_true h123) (by kernel_rfl) (fun _ _ => Yl.move rfl) (GX.takeG (v := .int .i64 p3) (rs := []) 34 rfl rfl rfl (decide_eq_true h123) (by kernel_rfl) (fun _ _ => Yl.move rfl) (GX.takeG (v := .agg (RangeD.cells p4).toArray) (rs := []) 35 rfl rfl rfl (decide_eq_true h123) (by kernel_rfl) (fun _ ⟨_, H9⟩ => Yl.load rfl (Lds.agg (cs := (RangeD.cells p4)) Try.isAgg24 Try.sizeOf24 ((H9.cls (i := 2) rfl).lit (k := 0) (m := 2) rfl))) ?_)))))
  obtain ⟨r129, hr130⟩ : ∃ q, owner_Owns l0 p3 p4 = q := ⟨_, rfl⟩
  obtain ⟨D124, HP125, ro126, bk127, rr128⟩ := Own.enter0 H117
  refine GX.doG 32 rfl rfl rfl (decide_eq_true h123) (by kernel_rfl) (Do.call Try.call16 rfl (owner_Owns_ok _ _ A0 (List.length l0) c0 l0 p3 p4 r129 HP125 (ro126 _ hx0) rfl (by omega) hr130) ?_)
  rintro _ w131 ⟨rfl, HQ132⟩
  have H133 : Own w D w131 [blk g89 (RangeD.cells r82) 24, blk g72 (RangeD.cells r65) 24, blk g21 (RangeD.cells p4) 24] := bk127 _ _ HQ132
  refine ⟨.inr ⟨_, H133⟩, ?_⟩
  obtain ⟨r139, hr140⟩ : ∃ q, r17_Owns l0 p3 p4 = q := ⟨_, rfl⟩
  obtain ⟨D134, HP135, ro136, bk137, rr138⟩ := Own.enter0 H133
  refine GX.doG 36 rfl rfl rfl (decide_eq_true h123) (by kernel_rfl) (Do.call Try.call17 rfl (r17_Owns_ok _ _ A0 (List.length l0) c0 l0 p3 p4 r139 HP135 (ro136 _ hx0) rfl (by omega) hr140) ?_)
  rintro _ w141 ⟨rfl, HQ142⟩
  have H143 : Own w D w141 [blk g89 (RangeD.cells r82) 24, blk g72 (RangeD.cells r65) 24, blk g21 (RangeD.cells p4) 24] := bk137 _ _ HQ142
  refine ⟨.inr ⟨_, H143⟩, ?_⟩
  refine GX.takeG (v := .bool (decide (r129 = r139))) (rs := []) 37 rfl rfl rfl (decide_eq_true h123) (by kernel_rfl) (fun _ _ => Yl.bool (e := (r129 == r139)) (Yl.kern rfl rfl (fun _ => by kernel_rfl)) (by first | exact Bool.beq_eq_decide_eq _ _ | (by_cases q : r129 = r139 <;> simp [q]))) (GX.take (v := .bool (decide (r129 = r139))) (rs := []) 38 rfl (by kernel_rfl) (fun _ _ => Yl.pickT rfl (decide_eq_true h123) rfl) (GX.take (v := .bool (decide (r129 = r139))) (rs := []) 39 rfl (by kernel_rfl) (fun _ _ => Yl.assign rfl) (GX.done (by kernel_rfl) (Fin.then (Wp.ret (Fin.res (res1 rfl rfl) ?_))))))
  have H144 : Own w D w141 [] := H143.pick [] (by decide) rfl
  have e : w17_OwnerAsks l0 p1 p2 p3 p4 = decide (r129 = r139) := Eq.trans (bnd_of hr30) (Eq.trans (bnd_of hr41) (Eq.trans (bnd_of hr55) (Eq.trans (bnd_of hr67) (Eq.trans (bnd_of hr84) (Eq.trans (if_pos h96) (Eq.trans (bnd_of hr103) (Eq.trans (bnd_of hr114) (Eq.trans (if_pos h119) (Eq.trans (if_pos h120) (Eq.trans (if_pos h121) (Eq.trans (if_pos h122) (Eq.trans (if_pos h123) (Eq.trans (bnd_of hr130) (bnd_of hr140))))))))))))))
  obtain rfl := e.symm.trans hr
  exact ⟨rfl, H144⟩
  refine GX.skipG (rs := []) 29 rfl rfl rfl (decide_eq_false h123) (by kernel_rfl) (GX.skipG (rs := []) 30 rfl rfl rfl (decide_eq_false h123) (by kernel_rfl) (GX.skipG (rs := []) 31 rfl rfl rfl (decide_eq_false h123) (by kernel_rfl) (GX.skipG (rs := []) 32 rfl rfl rfl (decide_eq_false h123) (by kernel_rfl) (GX.skipG (rs := []) 33 rfl rfl rfl (decide_eq_false h123) (by kernel_rfl) (GX.skipG (rs := []) 34 rfl rfl rfl (decide_eq_false h123) (by kernel_rfl) (GX.skipG (rs := []) 35 rfl rfl rfl (decide_eq_false h123) (by kernel_rfl) (GX.skipG (rs := []) 36 rfl rfl rfl (decide_eq_false h123) (by kernel_rfl) (GX.skipG (rs := []) 37 rfl rfl rfl (decide_eq_false h123) (by kernel_rfl) (GX.take (v := .bool false) (rs := []) 38 rfl (by kernel_rfl) (fun _ _ => Yl.pickF rfl (decide_eq_false h123) rfl) (GX.take (v := .bool false) (rs := []) 39 rfl (by kernel_rfl) (fun _ _ => Yl.assign rfl) (GX.done (by kernel_rfl) (Fin.then (Wp.ret (Fin.res (res1 rfl rfl) ?_))))))))))))))
  have H145 : Own w D w115 [] := H117.pick [] (by decide) rfl
  have e : w17_OwnerAsks l0 p1 p2 p3 p4 = false := Eq.trans (bnd_of hr30) (Eq.trans (bnd_of hr41) (Eq.trans (bnd_of hr55) (Eq.trans (bnd_of hr67) (Eq.trans (bnd_of hr84) (Eq.trans (if_pos h96) (Eq.trans (bnd_of hr103) (Eq.trans (bnd_of hr114) (Eq.trans (if_pos h119) (Eq.trans (if_pos h120) (Eq.trans (if_pos h121) (Eq.trans (if_pos h122) (if_neg h123))))))))))))
  obtain rfl := e.symm.trans hr
  exact ⟨rfl, H145⟩
  refine GX.skipG (rs := []) 24 rfl rfl rfl (decide_eq_false h122) (by kernel_rfl) (GX.skipG (rs := []) 25 rfl rfl rfl (decide_eq_false h122) (by kernel_rfl) (GX.skipG (rs := []) 26 rfl rfl rfl (decide_eq_false h122) (by kernel_rfl) (GX.take (v := .bool false) (rs := []) 27 rfl (by kernel_rfl) (fun _ _ => Yl.pickF rfl (decide_eq_false h122) rfl) (GX.take (v := .bool false) (rs := []) 28 rfl (by kernel_rfl) (fun _ _ => Yl.move rfl) (GX.skipG (rs := []) 29 rfl rfl rfl rfl (by kernel_rfl) (GX.skipG (rs := []) 30 rfl rfl rfl rfl (by kernel_rfl) (GX.skipG (rs := []) 31 rfl rfl rfl rfl (by kernel_rfl) (GX.skipG (rs := []) 32 rfl rfl rfl rfl (by kernel_rfl) (GX.skipG (rs := []) 33 rfl rfl rfl rfl (by kernel_rfl) (GX.skipG (rs := []) 34 rfl rfl rfl rfl (by kernel_rfl) (GX.skipG (rs := []) 35 rfl rfl rfl rfl (by kernel_rfl) (GX.skipG (rs := []) 36 rfl rfl rfl rfl (by kernel_rfl) (GX.skipG (rs := []) 37 rfl rfl rfl rfl (by kernel_rfl) (GX.take (v := .bool false) (rs := []) 38 rfl (by kernel_rfl) (fun _ _ => Yl.pickF rfl rfl rfl) (GX.take (v := .bool false) (rs := []) 39 rfl (by kernel_rfl) (fun _ _ => Yl.assign rfl) (GX.done (by kernel_rfl) (Fin.then (Wp.ret (Fin.res (res1 rfl rfl) ?_)))))))))))))))))))
  have H146 : Own w D w115 [] := H117.pick [] (by decide) rfl
  have e : w17_OwnerAsks l0 p1 p2 p3 p4 = false := Eq.trans (bnd_of hr30) (Eq.trans (bnd_of hr41) (Eq.trans (bnd_of hr55) (Eq.trans (bnd_of hr67) (Eq.trans (bnd_of hr84) (Eq.trans (if_pos h96) (Eq.trans (bnd_of hr103) (Eq.trans (bnd_of hr114) (Eq.trans (if_pos h119) (Eq.trans (if_pos h120) (Eq.trans (if_pos h121) (if_neg h122)))))))))))
  obtain rfl := e.symm.trans hr
  exact ⟨rfl, H146⟩
  refine GX.skipG (rs := []) 19 rfl rfl rfl (decide_eq_false h121) (by kernel_rfl) (GX.skipG (rs := []) 20 rfl rfl rfl (decide_eq_false h121) (by kernel_rfl) (GX.skipG (rs := []) 21 rfl rfl rfl (decide_eq_false h121) (by kernel_rfl) (GX.take (v := .bool false) (rs := []) 22 rfl (by kernel_rfl) (fun _ _ => Yl.pickF rfl (decide_eq_false h121) rfl) (GX.take (v := .bool false) (rs := []) 23 rfl (by kernel_rfl) (fun _ _ => Yl.move rfl) (GX.skipG (rs := []) 24 rfl rfl rfl rfl (by kernel_rfl) (GX.skipG (rs := []) 25 rfl rfl rfl rfl (by kernel_rfl) (GX.skipG (rs := []) 26 rfl rfl rfl rfl (by kernel_rfl) (GX.take (v := .bool false) (rs := []) 27 rfl (by kernel_rfl) (fun _ _ => Yl.pickF rfl rfl rfl) (GX.take (v := .bool false) (rs := []) 28 rfl (by kernel_rfl) (fun _ _ => Yl.move rfl) (GX.skipG (rs := []) 29 rfl rfl rfl rfl (by kernel_rfl) (GX.skipG (rs := []) 30 rfl rfl rfl rfl (by kernel_rfl) (GX.skipG (rs := []) 31 rfl rfl rfl rfl (by kernel_rfl) (GX.skipG (rs := []) 32 rfl rfl rfl rfl (by kernel_rfl) (GX.skipG (rs := []) 33 rfl rfl rfl rfl (by kernel_rfl) (GX.skipG (rs := []) 34 rfl rfl rfl rfl (by kernel_rfl) (GX.skipG (rs := []) 35 rfl rfl rfl rfl (by kernel_rfl) (GX.skipG (rs := []) 36 rfl rfl rfl rfl (by kernel_rfl) (GX.skipG (rs := []) 37 rfl rfl rfl rfl (by kernel_rfl) (GX.take (v := .bool false) (rs := []) 38 rfl (by kernel_rfl) (fun _ _ => Yl.pickF rfl rfl rfl) (GX.take (v := .bool false) (rs := []) 39 rfl (by kernel_rfl) (fun _ _ => Yl.assign rfl) (GX.done (by kernel_rfl) (Fin.then (Wp.ret (Fin.res (res1 rfl rfl) ?_))))))))))))))))))))))))
  have H147 : Own w D w115 [] := H117.pick [] (by decide) rfl
  have e : w17_OwnerAsks l0 p1 p2 p3 p4 = false := Eq.trans (bnd_of hr30) (Eq.trans (bnd_of hr41) (Eq.trans (bnd_of hr55) (Eq.trans (bnd_of hr67) (Eq.trans (bnd_of hr84) (Eq.trans (if_pos h96) (Eq.trans (bnd_of hr103) (Eq.trans (bnd_of hr114) (Eq.trans (if_pos h119) (Eq.trans (if_pos h120) (if_neg h121))))))))))
  obtain rfl := e.symm.trans hr
  exact ⟨rfl, H147⟩
  refine GX.skipG (rs := []) 14 rfl rfl rfl (decide_eq_false h120) (by kernel_rfl) (GX.skipG (rs := []) 15 rfl rfl rfl (decide_eq_false h120) (by kernel_rfl) (GX.skipG (rs := []) 16 rfl rfl rfl (decide_eq_false h120) (by kernel_rfl) (GX.take (v := .bool false) (rs := []) 17 rfl (by kernel_rfl) (fun _ _ => Yl.pickF rfl (decide_eq_false h120) rfl) (GX.take (v := .bool false) (rs := []) 18 rfl (by kernel_rfl) (fun _ _ => Yl.move rfl) (GX.skipG (rs := []) 19 rfl rfl rfl rfl (by kernel_rfl) (GX.skipG (rs := []) 20 rfl rfl rfl rfl (by kernel_rfl) (GX.skipG (rs := []) 21 rfl rfl rfl rfl (by kernel_rfl) (GX.take (v := .bool false) (rs := []) 22 rfl (by kernel_rfl) (fun _ _ => Yl.pickF rfl rfl rfl) (GX.take (v := .bool false) (rs := []) 23 rfl (by kernel_rfl) (fun _ _ => Yl.move rfl) (GX.skipG (rs := []) 24 rfl rfl rfl rfl (by kernel_rfl) (GX.skipG (rs := []) 25 rfl rfl rfl rfl (by kernel_rfl) (GX.skipG (rs := []) 26 rfl rfl rfl rfl (by kernel_rfl) (GX.take (v := .bool false) (rs := []) 27 rfl (by kernel_rfl) (fun _ _ => Yl.pickF rfl rfl rfl) (GX.take (v := .bool false) (rs := []) 28 rfl (by kernel_rfl) (fun _ _ => Yl.move rfl) (GX.skipG (rs := []) 29 rfl rfl rfl rfl (by kernel_rfl) (GX.skipG (rs := []) 30 rfl rfl rfl rfl (by kernel_rfl) (GX.skipG (rs := []) 31 rfl rfl rfl rfl (by kernel_rfl) (GX.skipG (rs := []) 32 rfl rfl rfl rfl (by kernel_rfl) (GX.skipG (rs := []) 33 rfl rfl rfl rfl (by kernel_rfl) (GX.skipG (rs := []) 34 rfl rfl rfl rfl (by kernel_rfl) (GX.skipG (rs := []) 35 rfl rfl rfl rfl (by kernel_rfl) (GX.skipG (rs := []) 36 rfl rfl rfl rfl (by kernel_rfl) (GX.skipG (rs := []) 37 rfl rfl rfl rfl (by kernel_rfl) (GX.take (v := .bool false) (rs := []) 38 rfl (by kernel_rfl) (fun _ _ => Yl.pickF rfl rfl rfl) (GX.take (v := .bool false) (rs := []) 39 rfl (by kernel_rfl) (fun _ _ => Yl.assign rfl) (GX.done (by kernel_rfl) (Fin.then (Wp.ret (Fin.res (res1 rfl rfl) ?_)))))))))))))))))))))))))))))
  have H148 : Own w D w115 [] := H117.pick [] (by decide) rfl
  have e : w17_OwnerAsks l0 p1 p2 p3 p4 = false := Eq.trans (bnd_of hr30) (Eq.trans (bnd_of hr41) (Eq.trans (bnd_of hr55) (Eq.trans (bnd_of hr67) (Eq.trans (bnd_of hr84) (Eq.trans (if_pos h96) (Eq.trans (bnd_of hr103) (Eq.trans (bnd_of hr114) (Eq.trans (if_pos h119) (if_neg h120)))))))))
  obtain rfl := e.symm.trans hr
  exact ⟨rfl, H148⟩
  refine GX.skipG (rs := []) 9 rfl rfl rfl (decide_eq_false h119) (by kernel_rfl) (GX.skipG (rs := []) 10 rfl rfl rfl (decide_eq_false h119) (by kernel_rfl) (GX.skipG (rs := []) 11 rfl rfl rfl (decide_eq_false h119) (by kernel_rfl) (GX.take (v := .bool false) (rs := []) 12 rfl (by kernel_rfl) (fun _ _ => Yl.pickF rfl (decide_eq_false h119) rfl) (GX.take (v := .bool false) (rs := []) 13 rfl (by kernel_rfl) (fun _ _ => Yl.move rfl) (GX.skipG (rs := []) 14 rfl rfl rfl rfl (by kernel_rfl) (GX.skipG (rs := []) 15 rfl rfl rfl rfl (by kernel_rfl) (GX.skipG (rs := []) 16 rfl rfl rfl rfl (by kernel_rfl) (GX.take (v := .bool false) (rs := []) 17 rfl (by kernel_rfl) (fun _ _ => Yl.pickF rfl rfl rfl) (GX.take (v := .bool false) (rs := []) 18 rfl (by kernel_rfl) (fun _ _ => Yl.move rfl) (GX.skipG (rs := []) 19 rfl rfl rfl rfl (by kernel_rfl) (GX.skipG (rs := []) 20 rfl rfl rfl rfl (by kernel_rfl) (GX.skipG (rs := []) 21 rfl rfl rfl rfl (by kernel_rfl) (GX.take (v := .bool false) (rs := []) 22 rfl (by kernel_rfl) (fun _ _ => Yl.pickF rfl rfl rfl) (GX.take (v := .bool false) (rs := []) 23 rfl (by kernel_rfl) (fun _ _ => Yl.move rfl) (GX.skipG (rs := []) 24 rfl rfl rfl rfl (by kernel_rfl) (GX.skipG (rs := []) 25 rfl rfl rfl rfl (by kernel_rfl) (GX.skipG (rs := []) 26 rfl rfl rfl rfl (by kernel_rfl) (GX.take (v := .bool false) (rs := []) 27 rfl (by kernel_rfl) (fun _ _ => Yl.pickF rfl rfl rfl) (GX.take (v := .bool false) (rs := []) 28 rfl (by kernel_rfl) (fun _ _ => Yl.move rfl) (GX.skipG (rs := []) 29 rfl rfl rfl rfl (by kernel_rfl) (GX.skipG (rs := []) 30 rfl rfl rfl rfl (by kernel_rfl) (GX.skipG (rs := []) 31 rfl rfl rfl rfl (by kernel_rfl) (GX.skipG (rs := []) 32 rfl rfl rfl rfl (by kernel_rfl) (GX.skipG (rs := []) 33 rfl rfl rfl rfl (by kernel_rfl) (GX.skipG (rs := []) 34 rfl rfl rfl rfl (by kernel_rfl) (GX.skipG (rs := []) 35 rfl rfl rfl rfl (by kernel_rfl) (GX.skipG (rs := []) 36 rfl rfl rfl rfl (by kernel_rfl) (GX.skipG (rs := []) 37 rfl rfl rfl rfl (by kernel_rfl) (GX.take (v := .bool false) (rs := []) 38 rfl (by kernel_rfl) (fun _ _ => Yl.pickF rfl rfl rfl) (GX.take (v := .bool false) (rs := []) 39 rfl (by kernel_rfl) (fun _ _ => Yl.assign rfl) (GX.done (by kernel_rfl) (Fin.then (Wp.ret (Fin.res (res1 rfl rfl) ?_))))))))))))))))))))))))))))))))))
  have H149 : Own w D w115 [] := H117.pick [] (by decide) rfl
  have e : w17_OwnerAsks l0 p1 p2 p3 p4 = false := Eq.trans (bnd_of hr30) (Eq.trans (bnd_of hr41) (Eq.trans (bnd_of hr55) (Eq.trans (bnd_of hr67) (Eq.trans (bnd_of hr84) (Eq.trans (if_pos h96) (Eq.trans (bnd_of hr103) (Eq.trans (bnd_of hr114) (if_neg h119))))))))
  obtain rfl := e.symm.trans hr
  exact ⟨rfl, H149⟩
  refine GX.skipG (rs := []) 2 rfl rfl rfl h96 (by kernel_rfl) (GX.skipG (rs := []) 3 rfl rfl rfl h96 (by kernel_rfl) (GX.skipG (rs := []) 4 rfl rfl rfl h96 (by kernel_rfl) (GX.skipG (rs := []) 5 rfl rfl rfl h96 (by kernel_rfl) (GX.skipG (rs := []) 6 rfl rfl rfl h96 (by kernel_rfl) (GX.take (v := .bool false) (rs := []) 7 rfl (by kernel_rfl) (fun _ _ => Yl.pickF rfl h96 rfl) (GX.take (v := .bool false) (rs := []) 8 rfl (by kernel_rfl) (fun _ _ => Yl.move rfl) (GX.skipG (rs := []) 9 rfl rfl rfl rfl (by kernel_rfl) (GX.skipG (rs := []) 10 rfl rfl rfl rfl (by kernel_rfl) (GX.skipG (rs := []) 11 rfl rfl rfl rfl (by kernel_rfl) (GX.take (v := .bool false) (rs := []) 12 rfl (by kernel_rfl) (fun _ _ => Yl.pickF rfl rfl rfl) (GX.take (v := .bool false) (rs := []) 13 rfl (by kernel_rfl) (fun _ _ => Yl.move rfl) (GX.skipG (rs := []) 14 rfl rfl rfl rfl (by kernel_rfl) (GX.skipG (rs := []) 15 rfl rfl rfl rfl (by kernel_rfl) (GX.skipG (rs := []) 16 rfl rfl rfl rfl (by kernel_rfl) (GX.take (v := .bool false) (rs := []) 17 rfl (by kernel_rfl) (fun _ _ => Yl.pickF rfl rfl rfl) (GX.take (v := .bool false) (rs := []) 18 rfl (by kernel_rfl) (fun _ _ => Yl.move rfl) (GX.skipG (rs := []) 19 rfl rfl rfl rfl (by kernel_rfl) (GX.skipG (rs := []) 20 rfl rfl rfl rfl (by kernel_rfl) (GX.skipG (rs := []) 21 rfl rfl rfl rfl (by kernel_rfl) (GX.take (v := .bool false) (rs := []) 22 rfl (by kernel_rfl) (fun _ _ => Yl.pickF rfl rfl rfl) (GX.take (v := .bool false) (rs := []) 23 rfl (by kernel_rfl) (fun _ _ => Yl.move rfl) (GX.skipG (rs := []) 24 rfl rfl rfl rfl (by kernel_rfl) (GX.skipG (rs := []) 25 rfl rfl rfl rfl (by kernel_rfl) (GX.skipG (rs := []) 26 rfl rfl rfl rfl (by kernel_rfl) (GX.take (v := .bool false) (rs := []) 27 rfl (by kernel_rfl) (fun _ _ => Yl.pickF rfl rfl rfl) (GX.take (v := .bool false) (rs := []) 28 rfl (by kernel_rfl) (fun _ _ => Yl.move rfl) (GX.skipG (rs := []) 29 rfl rfl rfl rfl (by kernel_rfl) (GX.skipG (rs := []) 30 rfl rfl rfl rfl (by kernel_rfl) (GX.skipG (rs := []) 31 rfl rfl rfl rfl (by kernel_rfl) (GX.skipG (rs := []) 32 rfl rfl rfl rfl (by kernel_rfl) (GX.skipG (rs := []) 33 rfl rfl rfl rfl (by kernel_rfl) (GX.skipG (rs := []) 34 rfl rfl rfl rfl (by kernel_rfl) (GX.skipG (rs := []) 35 rfl rfl rfl rfl (by kernel_rfl) (GX.skipG (rs := []) 36 rfl rfl rfl rfl (by kernel_rfl) (GX.skipG (rs := []) 37 rfl rfl rfl rfl (by kernel_rfl) (GX.take (v := .bool false) (rs := []) 38 rfl (by kernel_rfl) (fun _ _ => Yl.pickF rfl rfl rfl) (GX.take (v := .bool false) (rs := []) 39 rfl (by kernel_rfl) (fun _ _ => Yl.assign rfl) (GX.done (by kernel_rfl) (Fin.then ?_)))))))))))))))))))))))))))))))))))))))
  refine Wp.ret (Fin.res (res1 rfl rfl) ?_)
  have H150 : Own w D w94 [] := H95.pick [] (by decide) rfl
  have e : w17_OwnerAsks l0 p1 p2 p3 p4 = false := Eq.trans (bnd_of hr30) (Eq.trans (bnd_of hr41) (Eq.trans (bnd_of hr55) (Eq.trans (bnd_of hr67) (Eq.trans (bnd_of hr84) (ifF h96)))))
  obtain rfl := e.symm.trans hr
  exact ⟨rfl, H150⟩
end Go.Proofs.Ytcjjblkgbfaapaa
