/-
  owner: the law OwnerMoved
-/
import Derived.Test.YtcjjblkgbfaapaaNw
namespace Go.Proofs.Ytcjjblkgbfaapaa
open Go.RowKit
set_option linter.unusedVariables false
set_option linter.unusedSectionVars false
set_option linter.unusedSimpArgs false

def w17_OwnerMoved (l0 : List OwnerD) (p1 : List UInt8) (p2 : Int) (p3 : List UInt8) : Bool :=
  bnd (w17_live) fun yr26 => bnd (owner_Split l0 p1) fun yr36 => if yr36.2 = 0 then bnd (owner_Find yr36.1 p1) fun yr53 => bnd (owner_Give yr36.1 yr53.1 p2) fun yr67 => if yr53.2 = 0 then if p2 ≥ 1 then if (decide (yr67.2 = 0)) = (decide (p2 ≤ 4)) then bnd (owner_RangeOf yr36.1 yr53.1) fun yr85 => if yr67.2 = 0 then bnd (span_CheckKey p3) fun yr103 => if yr103 = 0 then bnd (owner_Find l0 p3) fun yr116 => bnd (owner_Find yr67.1 p3) fun yr131 => bnd (List.getD l0 (Int.toNat yr116.1) default) fun yx140 => bnd (span_Has yr85.1 p3) fun yr147 => bnd (if yr147 = true then p2 else yx140.xShard) fun sJrbbtbbtttbtbtbbbbJ => if yr26 = true then if yr85.2 = 0 then if yr131.2 = 0 then if yr85.1.xLo = p1 then bnd (List.getD yr67.1 (Int.toNat yr131.1) default) fun yx164 => decide (yx164.xShard = sJrbbtbbtttbtbtbbbbJ) else false else false else false else false else if yr26 = true then decide (yr85.2 = 0) else false else if yr26 = true then decide (yr85.2 = 0) else false else false else if (decide (yr67.2 = 0)) = false then bnd (owner_RangeOf yr36.1 yr53.1) fun yr184 => if yr67.2 = 0 then bnd (span_CheckKey p3) fun yr202 => if yr202 = 0 then bnd (owner_Find l0 p3) fun yr215 => bnd (owner_Find yr67.1 p3) fun yr230 => bnd (List.getD l0 (Int.toNat yr215.1) default) fun yx239 => bnd (span_Has yr184.1 p3) fun yr246 => bnd (if yr246 = true then p2 else yx239.xShard) fun sJrbbtbbtftbtbtbbbbJ => if yr26 = true then if yr184.2 = 0 then if yr230.2 = 0 then if yr184.1.xLo = p1 then bnd (List.getD yr67.1 (Int.toNat yr230.1) default) fun yx263 => decide (yx263.xShard = sJrbbtbbtftbtbtbbbbJ) else false else false else false else false else if yr26 = true then decide (yr184.2 = 0) else false else if yr26 = true then decide (yr184.2 = 0) else false else false else false else yr26

set_option maxRecDepth 100000 in
set_option maxHeartbeats 1000000 in
theorem w17_OwnerMoved_ok (w : World) (D : Nat → Prop) (A0 : Option Addr) (n0 c0 : Nat) (l0 : List OwnerD) (p1 : List UInt8) (p2 : Int) (p3 : List UInt8) (r0 : Bool) (H : Own w D w []) (hx0 : Ro w D fun w' => Rds w' 2 A0 n0 (List.flatMap OwnerD.cells l0)) (hn0 : n0 = List.length l0) (hl0 : List.length l0 * 24 ≤ 211106232532992) (hh0 : List.length l0 * 24 ≤ 140737488351232) (hh1 : List.length p1 ≤ 140737488351232) (hh2 : (-9223372036854775808) ≤ p2 ∧ p2 ≤ 9223372036854775807) (hh3 : List.length p3 ≤ 140737488351232) (hr : w17_OwnerMoved l0 p1 p2 p3 = r0) :
    Calls Try.prog 8 #[.slice A0 n0 c0, .string ⟨List.toArray p1⟩, .int .i64 p2, .string ⟨List.toArray p3⟩] w (Ret fun v w' => v = .bool r0 ∧ Own w D w' []) := by
  subst hn0
  refine Calls.body (args := [.slice A0 (List.length l0) c0, .string ⟨List.toArray p1⟩, .int .i64 p2, .string ⟨List.toArray p3⟩]) Try.func8 rfl rfl rfl ?_
  show Wp _ _ _ [(0, .slice A0 (List.length l0) c0), (1, .string ⟨List.toArray p1⟩), (2, .int .i64 p2), (3, .string ⟨List.toArray p3⟩)] _ _
  refine Wp.seq (Wp.region (As rfl rfl (WL.nil (Fin.then (Wp.seq (Wp.region ?_))))))
  obtain ⟨r26, hr27⟩ : ∃ q, w17_live = q := ⟨_, rfl⟩
  obtain ⟨D21, HP22, ro23, bk24, rr25⟩ := Own.enter0 H
  refine WL.do rfl (Do.call Try.call9 rfl (w17_live_ok _ _ r26 HP22 hr27) ?_)
  rintro _ w28 ⟨rfl, HQ29⟩
  have H30 : Own w D w28 [] := bk24 _ _ HQ29
  refine As rfl rfl (WL.nil (Fin.then (Wp.seq (Wp.region (Mv rfl rfl (Mv rfl rfl ?_))))))
  obtain ⟨⟨r36, r37⟩, hr38⟩ : ∃ q : (List OwnerD) × Int, owner_Split l0 p1 = q := ⟨_, rfl⟩
  obtain ⟨D31, HP32, ro33, bk34, rr35⟩ := Own.enter0 H30
  refine WL.do rfl (Do.call Try.call18 rfl (owner_Split_ok _ _ A0 (List.length l0) c0 l0 p1 r36 r37 HP32 (ro33 _ hx0) rfl (by omega) hr38) ?_)
  rintro _ w39 ⟨A42, c43, rfl, HQ40, hk44, hk45⟩
  have H41 : Own w D w39 [row A42 (List.length r36) c43 (List.flatMap OwnerD.cells r36) 39 2] := bk34 _ _ HQ40
  have hb46 := H41.rowC (i := 0) rfl
  replace hk44 : List.length r36 ≤ 6 := hk44
  replace hk45 : ¬ (r37 = 0) ∨ owner_Check l0 = 0 := hk45
  refine Mv rfl rfl (Kn (v := .slice A42 (List.length r36) c43) rfl rfl rfl (fun _ => by kernel_rfl) (Kn (v := .int .i64 r37) rfl rfl rfl (fun _ => by kernel_rfl) (As rfl rfl (As rfl rfl (WL.nil (Fin.then (Wp.seq (Wp.seq (Wp.region (Mv rfl rfl (WL.val (v := .bool (decide (¬ (r37 = 0)))) rfl (Yl.bool (e := !(decide (r37 = 0))) (Yl.kern rfl rfl (fun _ => by kernel_rfl)) decide_not.symm) (WL.nil (Fin.then ?_)))))))))))))
  by_cases h47 : r37 = 0
  refine Wp.cond0 rfl (decide_eq_false (not_not_intro h47)) (Wp.skip (Fin.then (Wp.seq (Wp.region (Mv rfl rfl (Mv rfl rfl ?_))))))
  obtain ⟨⟨r53, r54⟩, hr55⟩ : ∃ q : Int × Int, owner_Find r36 p1 = q := ⟨_, rfl⟩
  obtain ⟨D48, HP49, ro50, bk51, rr52⟩ := Own.enter0 H41
  refine WL.do rfl (Do.call Try.call10 rfl (owner_Find_ok _ _ A42 (List.length r36) c43 r36 p1 r53 r54 HP49 (rr52 _ 0 _ rfl row_rds) rfl (by omega) hr55) ?_)
  rintro _ w56 ⟨rfl, HQ57, hk59, hk60, hk61⟩
  have H58 : Own w D w56 [row A42 (List.length r36) c43 (List.flatMap OwnerD.cells r36) 39 2] := bk51 _ _ HQ57
  replace hk59 : ¬ (r54 = 0) ∨ (0 ≤ r53 ∧ r53 < ((List.length r36 : Nat) : Int) ∧ List.length r36 ≤ 6) := hk59
  replace hk60 : ¬ (owner_Check r36 = 0) ∨ List.length p1 < 1 ∨ List.length p1 > 12 ∨ (0 ≤ r53 ∧ r53 < ((List.length r36 : Nat) : Int)) := hk60
  replace hk61 : ¬ (r54 = 0) ∨ owner_Check r36 = 0 := hk61
  clear hk59 hk60 hk61
  refine Mv rfl rfl (Kn (v := .int .i64 r53) rfl rfl rfl (fun _ => by kernel_rfl) (Kn (v := .int .i64 r54) rfl rfl rfl (fun _ => by kernel_rfl) (As rfl rfl (As rfl rfl (WL.nil (Fin.then (Wp.seq (Wp.region (Mv rfl rfl (Mv rfl rfl (Mv rfl rfl ?_)))))))))))
  obtain ⟨⟨r67, r68⟩, hr69⟩ : ∃ q : (List OwnerD) × Int, owner_Give r36 r53 p2 = q := ⟨_, rfl⟩
  obtain ⟨D62, HP63, ro64, bk65, rr66⟩ := Own.enter0 H58
  refine WL.do rfl (Do.call Try.call20 rfl (owner_Give_ok _ _ A42 (List.length r36) c43 r36 r53 p2 r67 r68 HP63 (rr66 _ 0 _ rfl row_rds) rfl (by omega) hr69) ?_)
  rintro _ w70 ⟨A73, c74, rfl, HQ71, hk75⟩
  have H72 : Own w D w70 [row A73 (List.length r67) c74 (List.flatMap OwnerD.cells r67) 39 2, row A42 (List.length r36) c43 (List.flatMap OwnerD.cells r36) 39 2] := bk65 _ _ HQ71
  have hb76 := H72.rowC (i := 0) rfl
  replace hk75 : List.length r67 ≤ 6 := hk75
  refine Mv rfl rfl (Kn (v := .slice A73 (List.length r67) c74) rfl rfl rfl (fun _ => by kernel_rfl) (Kn (v := .int .i64 r68) rfl rfl rfl (fun _ => by kernel_rfl) (As rfl rfl (As rfl rfl (WL.nil (Fin.then (Wp.seq (Wp.seq (Wp.region (Mv rfl rfl (WL.val (v := .bool (decide (¬ (r54 = 0)))) rfl (Yl.bool (e := !(decide (r54 = 0))) (Yl.kern rfl rfl (fun _ => by kernel_rfl)) decide_not.symm) (Mv rfl rfl ?_))))))))))))
  by_cases h77 : r54 = 0
  refine WL.valG (v := .int .i64 r68) rfl rfl (decide_eq_false (not_not_intro h77)) rfl (Yl.move rfl) (WL.valG (v := .bool (decide (r68 = 0))) rfl rfl (decide_eq_false (not_not_intro h77)) rfl (Yl.kern rfl rfl (fun _ => by kernel_rfl)) (WL.valG (v := .int .i64 p2) rfl rfl (decide_eq_false (not_not_intro h77)) rfl (Yl.move rfl) (WL.valG (v := .bool (decide (p2 ≥ 1))) rfl rfl (decide_eq_false (not_not_intro h77)) rfl (Yl.kern rfl rfl (fun _ => by kernel_rfl)) (WL.valG (v := .bool (decide (p2 ≥ 1))) rfl rfl (decide_eq_false (not_not_intro h77)) rfl (Yl.move rfl) ?_))))
  by_cases h78 : p2 ≥ 1
  refine WL.valG (v := .int .i64 p2) rfl rfl (decide_eq_true h78) rfl (Yl.move rfl) (WL.valG (v := .bool (decide (p2 ≤ 4))) rfl rfl (decide_eq_true h78) rfl (Yl.kern rfl rfl (fun _ => by kernel_rfl)) (WL.valG (v := .bool (decide (p2 ≤ 4))) rfl rfl (decide_eq_false (not_not_intro h77)) rfl (Yl.pickT rfl (decide_eq_true h78) rfl) (WL.valG (v := .bool (decide (¬ ((decide (r68 = 0)) = (decide (p2 ≤ 4)))))) rfl rfl (decide_eq_false (not_not_intro h77)) rfl (Yl.bool (e := !(decide (r68 = 0) == decide (p2 ≤ 4))) (Yl.kern rfl rfl (fun _ => by kernel_rfl)) (by first | (rw [Bool.beq_eq_decide_eq]; exact decide_not.symm) | (by_cases q : (decide (r68 = 0)) = (decide (p2 ≤ 4)) <;> simp [q]))) (WL.val (v := .bool (decide (¬ ((decide (r68 = 0)) = (decide (p2 ≤ 4)))))) rfl (Yl.pickF rfl (decide_eq_false (not_not_intro h77)) rfl) (WL.nil (Fin.then ?_))))))
  by_cases h79 : (decide (r68 = 0)) = (decide (p2 ≤ 4))
  refine Wp.cond0 rfl (decide_eq_false (not_not_intro h79)) (Wp.skip (Fin.then (Wp.seq (Wp.region (Mv rfl rfl (Mv rfl rfl ?_))))))
  obtain ⟨⟨r85, r86⟩, hr87⟩ : ∃ q : RangeD × Int, owner_RangeOf r36 r53 = q := ⟨_, rfl⟩
  obtain ⟨D80, HP81, ro82, bk83, rr84⟩ := Own.enter0 H72
  refine WL.do rfl (Do.call Try.call12 rfl (owner_RangeOf_ok _ _ A42 (List.length r36) c43 r36 r53 r85 r86 HP81 (rr84 _ 1 _ rfl row_rds) rfl (by omega) hr87) ?_)
  rintro _ w88 ⟨rfl, HQ89, hk91⟩
  have H90 : Own w D w88 [row A73 (List.length r67) c74 (List.flatMap OwnerD.cells r67) 39 2, row A42 (List.length r36) c43 (List.flatMap OwnerD.cells r36) 39 2] := bk83 _ _ HQ89
  replace hk91 : ¬ (r86 = 0) ∨ (0 ≤ r53 ∧ r53 < ((List.length r36 : Nat) : Int) ∧ List.length r36 ≤ 6) := hk91
  refine Mv rfl rfl (Kn (v := .agg (RangeD.cells r85).toArray) rfl rfl rfl (fun _ => by kernel_rfl) (Kn (v := .int .i64 r86) rfl rfl rfl (fun _ => by kernel_rfl) ?_))
  refine WL.do rfl (Do.newP (cs := [.string ⟨List.toArray ([])⟩, .string ⟨List.toArray ([])⟩]) (t := 24) H90 rfl rfl (fun _ => by kernel_rfl) ?_)
  intro g92 w93 H94
  replace H94 : Own w D w93 [blk g92 [.string ⟨List.toArray ([])⟩, .string ⟨List.toArray ([])⟩] 24, row A73 (List.length r67) c74 (List.flatMap OwnerD.cells r67) 39 2, row A42 (List.length r36) c43 (List.flatMap OwnerD.cells r36) 39 2] := H94
  refine WL.do0 (Do.store (vs := (RangeD.cells r85)) (o := 0) H94 rfl rfl Try.sizeOf24 rfl rfl rfl rfl ?_)
  intro w95 H96
  replace H96 : Own w D w95 [blk g92 (RangeD.cells r85) 24, row A73 (List.length r67) c74 (List.flatMap OwnerD.cells r67) 39 2, row A42 (List.length r36) c43 (List.flatMap OwnerD.cells r36) 39 2] := H96
  refine As rfl rfl (WL.nil (Fin.then (Wp.seq (Wp.seq (Wp.region (Mv rfl rfl (WL.val (v := .bool (decide (¬ (r68 = 0)))) rfl (Yl.bool (e := !(decide (r68 = 0))) (Yl.kern rfl rfl (fun _ => by kernel_rfl)) decide_not.symm) (Mv rfl rfl ?_))))))))
  by_cases h97 : r68 = 0
  refine WL.valG (v := .string ⟨List.toArray p3⟩) rfl rfl (decide_eq_false (not_not_intro h97)) rfl (Yl.move rfl) ?_
  obtain ⟨r103, hr104⟩ : ∃ q, span_CheckKey p3 = q := ⟨_, rfl⟩
  obtain ⟨D98, HP99, ro100, bk101, rr102⟩ := Own.enter0 H96
  refine WL.doG rfl rfl (decide_eq_false (not_not_intro h97)) rfl (Do.call Try.call31 rfl (span_CheckKey_ok _ _ p3 r103 HP99 hr104) ?_)
  rintro _ w105 ⟨rfl, HQ106, hk108, hk109⟩
  have H107 : Own w D w105 [blk g92 (RangeD.cells r85) 24, row A73 (List.length r67) c74 (List.flatMap OwnerD.cells r67) 39 2, row A42 (List.length r36) c43 (List.flatMap OwnerD.cells r36) 39 2] := bk101 _ _ HQ106
  replace hk108 : ¬ (r103 = 0) ∨ (1 ≤ List.length p3 ∧ List.length p3 ≤ 12) := hk108
  replace hk109 : List.length p3 < 1 ∨ List.length p3 > 12 ∨ r103 = 0 := hk109
  refine WL.valG (v := .bool (decide (¬ (r103 = 0)))) rfl rfl (decide_eq_false (not_not_intro h97)) rfl (Yl.bool (e := !(decide (r103 = 0))) (Yl.kern rfl rfl (fun _ => by kernel_rfl)) decide_not.symm) (WL.val (v := .bool (decide (¬ (r103 = 0)))) rfl (Yl.pickF rfl (decide_eq_false (not_not_intro h97)) rfl) (WL.nil (Fin.then ?_)))
  by_cases h110 : r103 = 0
  refine Wp.cond0 rfl (decide_eq_false (not_not_intro h110)) (Wp.skip (Fin.then (Wp.seq (Wp.region (Mv rfl rfl (Mv rfl rfl ?_))))))
  obtain ⟨⟨r116, r117⟩, hr118⟩ : ∃ q : Int × Int, owner_Find l0 p3 = q := ⟨_, rfl⟩
  obtain ⟨D111, HP112, ro113, bk114, rr115⟩ := Own.enter0 H107
  refine WL.do rfl (Do.call Try.call10 rfl (owner_Find_ok _ _ A0 (List.length l0) c0 l0 p3 r116 r117 HP112 (ro113 _ hx0) rfl (by omega) hr118) ?_)
  rintro _ w119 ⟨rfl, HQ120, hk122, hk123, hk124⟩
  have H121 : Own w D w119 [blk g92 (RangeD.cells r85) 24, row A73 (List.length r67) c74 (List.flatMap OwnerD.cells r67) 39 2, row A42 (List.length r36) c43 (List.flatMap OwnerD.cells r36) 39 2] := bk114 _ _ HQ120
  replace hk122 : ¬ (r117 = 0) ∨ (0 ≤ r116 ∧ r116 < ((List.length l0 : Nat) : Int) ∧ List.length l0 ≤ 6) := hk122
  replace hk123 : ¬ (owner_Check l0 = 0) ∨ List.length p3 < 1 ∨ List.length p3 > 12 ∨ (0 ≤ r116 ∧ r116 < ((List.length l0 : Nat) : Int)) := hk123
  replace hk124 : ¬ (r117 = 0) ∨ owner_Check l0 = 0 := hk124
  have hz125 : 0 ≤ r116 ∧ r116 < ((List.length l0 : Nat) : Int) := by omega
  clear hk122 hk123 hk124
  refine Mv rfl rfl (Kn (v := .int .i64 r116) rfl rfl rfl (fun _ => by kernel_rfl) (Kn (v := .int .i64 r117) rfl rfl rfl (fun _ => by kernel_rfl) (As rfl rfl (As rfl rfl (WL.nil (Fin.then (Wp.seq (Wp.region (Mv rfl rfl (Mv rfl rfl ?_))))))))))
  obtain ⟨⟨r131, r132⟩, hr133⟩ : ∃ q : Int × Int, owner_Find r67 p3 = q := ⟨_, rfl⟩
  obtain ⟨D126, HP127, ro128, bk129, rr130⟩ := Own.enter0 H121
  refine WL.do rfl (Do.call Try.call10 rfl (owner_Find_ok _ _ A73 (List.length r67) c74 r67 p3 r131 r132 HP127 (rr130 _ 1 _ rfl row_rds) rfl (by omega) hr133) ?_)
  rintro _ w134 ⟨rfl, HQ135, hk137, hk138, hk139⟩
  have H136 : Own w D w134 [blk g92 (RangeD.cells r85) 24, row A73 (List.length r67) c74 (List.flatMap OwnerD.cells r67) 39 2, row A42 (List.length r36) c43 (List.flatMap OwnerD.cells r36) 39 2] := bk129 _ _ HQ135
  replace hk137 : ¬ (r132 = 0) ∨ (0 ≤ r131 ∧ r131 < ((List.length r67 : Nat) : Int) ∧ List.length r67 ≤ 6) := hk137
  replace hk138 : ¬ (owner_Check r67 = 0) ∨ List.length p3 < 1 ∨ List.length p3 > 12 ∨ (0 ≤ r131 ∧ r131 < ((List.length r67 : Nat) : Int)) := hk138
  replace hk139 : ¬ (r132 = 0) ∨ owner_Check r67 = 0 := hk139
  refine Mv rfl rfl (Kn (v := .int .i64 r131) rfl rfl rfl (fun _ => by kernel_rfl) (Kn (v := .int .i64 r132) rfl rfl rfl (fun _ => by kernel_rfl) (As rfl rfl (As rfl rfl (WL.nil (Fin.then (Wp.seq (Wp.region (Mv rfl rfl (WL.val (v := .int .i64 ((Int.toNat r116 : Nat) : Int)) rfl (Yl.int (e := r116) (Yl.move rfl) (by omega)) ?_))))))))))
  obtain ⟨x140, hx141⟩ := rds_at (ls := l0) (i := Int.toNat r116) OwnerD.len (by decide) (H136.ro hx0) (by first | omega | (simp; done) | (simp; omega))
  refine WL.val (v := .pointer (some ⟨ab A0, ao A0 + (Int.toNat r116) * 2, none⟩)) rfl (Yl.indexAddr (El22) rfl rfl ((H136.ro hx0).addr (i := Int.toNat r116) (by omega)) (by omega)) (Kn (v := .pointer (some ⟨ab A0, ao A0 + (Int.toNat r116) * 2 + 1, none⟩)) rfl rfl rfl (fun _ => by kernel_rfl) (WL.val (v := .int .i64 x140.xShard) rfl (Yl.load rfl (Lds.one Try.isAgg3 (((H136.ro hx0).elem OwnerD.len hx141 (by decide)).at_ (k := 1) rfl))) (As rfl rfl (WL.nil (Fin.then (Wp.seq (Wp.seq (Wp.region (WL.val (v := .agg (RangeD.cells r85).toArray) rfl (Yl.load rfl (Lds.agg (cs := (RangeD.cells r85)) Try.isAgg24 Try.sizeOf24 ((H136.cls (i := 0) rfl).lit (k := 0) (m := 2) rfl))) (Mv rfl rfl ?_))))))))))
  obtain ⟨r147, hr148⟩ : ∃ q, span_Has r85 p3 = q := ⟨_, rfl⟩
  obtain ⟨D142, HP143, ro144, bk145, rr146⟩ := Own.enter0 H136
  refine WL.do rfl (Do.call Try.call30 rfl (span_Has_ok _ _ r85 p3 r147 HP143 hr148) ?_)
  rintro _ w149 ⟨rfl, HQ150⟩
  have H151 : Own w D w149 [blk g92 (RangeD.cells r85) 24, row A73 (List.length r67) c74 (List.flatMap OwnerD.cells r67) 39 2, row A42 (List.length r36) c43 (List.flatMap OwnerD.cells r36) 39 2] := bk145 _ _ HQ150
  refine WL.nil (Fin.then ?_)
  refine Wp.joinT (ι := Int) (fun i => [(22, .int .i64 i), (21, .int .i64 r132), (20, .int .i64 r131), (17, .int .i64 r86), (16, .pointer (some ⟨g92, 0, none⟩)), (14, .slice A73 (List.length r67) c74), (9, .bool r26), (8, .bool false), (1, .string ⟨List.toArray p1⟩)]) (fun (i : Int) w' => Own w D w' [blk g92 (RangeD.cells r85) 24, row A73 (List.length r67) c74 (List.flatMap OwnerD.cells r67) 39 2, row A42 (List.length r36) c43 (List.flatMap OwnerD.cells r36) 39 2] ∧ ((if r147 = true then p2 else x140.xShard) = i)) ?_ ?_
  rcases Bool.eq_false_or_eq_true (r147) with h153 | h153
  refine Wp.cond1 rfl h153 (Wp.region (Mv rfl rfl (As rfl rfl (WL.nil ?_))))
  have H154 : Own w D w149 [blk g92 (RangeD.cells r85) 24, row A73 (List.length r67) c74 (List.flatMap OwnerD.cells r67) 39 2, row A42 (List.length r36) c43 (List.flatMap OwnerD.cells r36) 39 2] := H151.pick [0, 1, 2] (by decide) rfl
  exact Fin.join p2 ⟨rfl, rfl, rfl, rfl, rfl, rfl, rfl, rfl, rfl, trivial⟩ ⟨H154, (show (if r147 = true then p2 else x140.xShard) = p2 from if_pos h153)⟩
  refine Wp.cond0 rfl h153 (Wp.skip ?_)
  have H155 : Own w D w149 [blk g92 (RangeD.cells r85) 24, row A73 (List.length r67) c74 (List.flatMap OwnerD.cells r67) 39 2, row A42 (List.length r36) c43 (List.flatMap OwnerD.cells r36) 39 2] := H151.pick [0, 1, 2] (by decide) rfl
  exact Fin.join x140.xShard ⟨rfl, rfl, rfl, rfl, rfl, rfl, rfl, rfl, rfl, trivial⟩ ⟨H155, (show (if r147 = true then p2 else x140.xShard) = x140.xShard from ifF h153)⟩
  rintro z152 w156 ⟨H157, hf158⟩
  show Wp _ _ _ [(22, .int .i64 z152), (21, .int .i64 r132), (20, .int .i64 r131), (17, .int .i64 r86), (16, .pointer (some ⟨g92, 0, none⟩)), (14, .slice A73 (List.length r67) c74), (9, .bool r26), (8, .bool false), (1, .string ⟨List.toArray p1⟩)] _ _
  replace H157 : Own w D w156 [blk g92 (RangeD.cells r85) 24, row A73 (List.length r67) c74 (List.flatMap OwnerD.cells r67) 39 2, row A42 (List.length r36) c43 (List.flatMap OwnerD.cells r36) 39 2] := H157
  replace hf158 : (if r147 = true then p2 else x140.xShard) = z152 := hf158
  have hj159 := hf158
  refine Wp.seq (Wp.region (Mv rfl rfl (Mv rfl rfl ?_)))
  rcases Bool.eq_false_or_eq_true (r26) with h160 | h160
  refine WL.valG (v := .int .i64 r86) rfl rfl h160 rfl (Yl.move rfl) (WL.valG (v := .bool (decide (r86 = 0))) rfl rfl h160 rfl (Yl.kern rfl rfl (fun _ => by kernel_rfl)) (WL.val (v := .bool (decide (r86 = 0))) rfl (Yl.pickT rfl h160 rfl) (Mv rfl rfl ?_)))
  by_cases h161 : r86 = 0
  refine WL.valG (v := .int .i64 r132) rfl rfl (decide_eq_true h161) rfl (Yl.move rfl) (WL.valG (v := .bool (decide (r132 = 0))) rfl rfl (decide_eq_true h161) rfl (Yl.kern rfl rfl (fun _ => by kernel_rfl)) (WL.val (v := .bool (decide (r132 = 0))) rfl (Yl.pickT rfl (decide_eq_true h161) rfl) (Mv rfl rfl ?_)))
  by_cases h162 : r132 = 0
  refine WL.valG (v := .pointer (some ⟨g92, 0, none⟩)) rfl rfl (decide_eq_true h162) rfl (Yl.kern rfl rfl (fun _ => by kernel_rfl)) (WL.valG (v := .string ⟨List.toArray r85.xLo⟩) rfl rfl (decide_eq_true h162) rfl (Yl.load rfl (Lds.one Try.isAgg9 (Cls.of (H157.cls (i := 0) rfl) rfl))) (WL.valG (v := .string ⟨List.toArray p1⟩) rfl rfl (decide_eq_true h162) rfl (Yl.move rfl) (WL.valG (v := .bool (decide (r85.xLo = p1))) rfl rfl (decide_eq_true h162) rfl (Yl.strEq rfl rfl) (WL.val (v := .bool (decide (r85.xLo = p1))) rfl (Yl.pickT rfl (decide_eq_true h162) rfl) (Mv rfl rfl ?_)))))
  by_cases h163 : r85.xLo = p1
  refine WL.valG (v := .slice A73 (List.length r67) c74) rfl rfl (decide_eq_true h163) rfl (Yl.move rfl) (WL.valG (v := .int .i64 ((Int.toNat r131 : Nat) : Int)) rfl rfl (decide_eq_true h163) rfl (Yl.int (e := r131) (Yl.move rfl) (by omega)) ?_)
  obtain ⟨x164, hx165⟩ := rds_at (ls := r67) (i := Int.toNat r131) OwnerD.len (by decide) (H157.rds (i := 1) rfl) (by first | omega | (simp; done) | (simp; omega))
  refine WL.valG (v := .pointer (some ⟨ab A73, ao A73 + (Int.toNat r131) * 2, none⟩)) rfl rfl (decide_eq_true h163) rfl (Yl.indexAddr (El22) rfl rfl ((H157.rds (i := 1) rfl).addr (i := Int.toNat r131) (by omega)) (by omega)) (WL.valG (v := .pointer (some ⟨ab A73, ao A73 + (Int.toNat r131) * 2 + 1, none⟩)) rfl rfl (decide_eq_true h163) rfl (Yl.kern rfl rfl (fun _ => by kernel_rfl)) (WL.valG (v := .int .i64 x164.xShard) rfl rfl (decide_eq_true h163) rfl (Yl.load rfl (Lds.one Try.isAgg3 (((H157.rds (i := 1) rfl).elem OwnerD.len hx165 (by decide)).at_ (k := 1) rfl))) (WL.valG (v := .int .i64 z152) rfl rfl (decide_eq_true h163) rfl (Yl.move rfl) (WL.valG (v := .bool (decide (x164.xShard = z152))) rfl rfl (decide_eq_true h163) rfl (Yl.kern rfl rfl (fun _ => by kernel_rfl)) (WL.val (v := .bool (decide (x164.xShard = z152))) rfl (Yl.pickT rfl (decide_eq_true h163) rfl) (As rfl rfl (WL.nil (Fin.then (Wp.ret (Fin.res (res1 rfl rfl) ?_))))))))))
  have H166 : Own w D w156 [] := H157.pick [] (by decide) rfl
  have e : w17_OwnerMoved l0 p1 p2 p3 = decide (x164.xShard = z152) := Eq.trans (bnd_of hr27) (Eq.trans (bnd_of hr38) (Eq.trans (if_pos h47) (Eq.trans (bnd_of hr55) (Eq.trans (bnd_of hr69) (Eq.trans (if_pos h77) (Eq.trans (if_pos h78) (Eq.trans (if_pos h79) (Eq.trans (bnd_of hr87) (Eq.trans (if_pos h97) (Eq.trans (bnd_of hr104) (Eq.trans (if_pos h110) (Eq.trans (bnd_of hr118) (Eq.trans (bnd_of hr133) (Eq.trans (bnd_of (getD_of hx141)) (Eq.trans (bnd_of hr148) (Eq.trans (bnd_of hj159) (Eq.trans (if_pos h160) (Eq.trans (if_pos h161) (Eq.trans (if_pos h162) (Eq.trans (if_pos h163) (bnd_of (getD_of hx165))))))))))))))))))))))
  obtain rfl := e.symm.trans hr
  exact ⟨rfl, H166⟩
  refine Sk rfl rfl (decide_eq_false h163) rfl (Sk rfl rfl (decide_eq_false h163) rfl (Sk rfl rfl (decide_eq_false h163) rfl (Sk rfl rfl (decide_eq_false h163) rfl (Sk rfl rfl (decide_eq_false h163) rfl (Sk rfl rfl (decide_eq_false h163) rfl (Sk rfl rfl (decide_eq_false h163) rfl (WL.val (v := .bool false) rfl (Yl.pickF rfl (decide_eq_false h163) rfl) (As rfl rfl (WL.nil (Fin.then (Wp.ret (Fin.res (res1 rfl rfl) ?_))))))))))))
  have H167 : Own w D w156 [] := H157.pick [] (by decide) rfl
  have e : w17_OwnerMoved l0 p1 p2 p3 = false := Eq.trans (bnd_of hr27) (Eq.trans (bnd_of hr38) (Eq.trans (if_pos h47) (Eq.trans (bnd_of hr55) (Eq.trans (bnd_of hr69) (Eq.trans (if_pos h77) (Eq.trans (if_pos h78) (Eq.trans (if_pos h79) (Eq.trans (bnd_of hr87) (Eq.trans (if_pos h97) (Eq.trans (bnd_of hr104) (Eq.trans (if_pos h110) (Eq.trans (bnd_of hr118) (Eq.trans (bnd_of hr133) (Eq.trans (bnd_of (getD_of hx141)) (Eq.trans (bnd_of hr148) (Eq.trans (bnd_of hj159) (Eq.trans (if_pos h160) (Eq.trans (if_pos h161) (Eq.trans (if_pos h162) (if_neg h163))))))))))))))))))))
  obtain rfl := e.symm.trans hr
  exact ⟨rfl, H167⟩
  refine Sk rfl rfl (decide_eq_false h162) rfl (Sk rfl rfl (decide_eq_false h162) rfl (Sk rfl rfl (decide_eq_false h162) rfl (Sk rfl rfl (decide_eq_false h162) rfl (WL.val (v := .bool false) rfl (Yl.pickF rfl (decide_eq_false h162) rfl) (Mv rfl rfl (Sk rfl rfl rfl rfl (Sk rfl rfl rfl rfl (Sk rfl rfl rfl rfl (Sk rfl rfl rfl rfl (Sk rfl rfl rfl rfl (Sk rfl rfl rfl rfl (Sk rfl rfl rfl rfl (WL.val (v := .bool false) rfl (Yl.pickF rfl rfl rfl) (As rfl rfl (WL.nil (Fin.then (Wp.ret (Fin.res (res1 rfl rfl) ?_))))))))))))))))))
  have H168 : Own w D w156 [] := H157.pick [] (by decide) rfl
  have e : w17_OwnerMoved l0 p1 p2 p3 = false := Eq.trans (bnd_of hr27) (Eq.trans (bnd_of hr38) (Eq.trans (if_pos h47) (Eq.trans (bnd_of hr55) (Eq.trans (bnd_of hr69) (Eq.trans (if_pos h77) (Eq.trans (if_pos h78) (Eq.trans (if_pos h79) (Eq.trans (bnd_of hr87) (Eq.trans (if_pos h97) (Eq.trans (bnd_of hr104) (Eq.trans (if_pos h110) (Eq.trans (bnd_of hr118) (Eq.trans (bnd_of hr133) (Eq.trans (bnd_of (getD_of hx141)) (Eq.trans (bnd_of hr148) (Eq.trans (bnd_of hj159) (Eq.trans (if_pos h160) (Eq.trans (if_pos h161) (if_neg h162)))))))))))))))))))
  obtain rfl := e.symm.trans hr
  exact ⟨rfl, H168⟩
  refine Sk rfl rfl (decide_eq_false h161) rfl (Sk rfl rfl (decide_eq_false h161) rfl (WL.val (v := .bool false) rfl (Yl.pickF rfl (decide_eq_false h161) rfl) (Mv rfl rfl (Sk rfl rfl rfl rfl (Sk rfl rfl rfl rfl (Sk rfl rfl rfl rfl (Sk rfl rfl rfl rfl (WL.val (v := .bool false) rfl (Yl.pickF rfl rfl rfl) (Mv rfl rfl (Sk rfl rfl rfl rfl (Sk rfl rfl rfl rfl (Sk rfl rfl rfl rfl (Sk rfl rfl rfl rfl (Sk rfl rfl rfl rfl (Sk rfl rfl rfl rfl (Sk rfl rfl rfl rfl (WL.val (v := .bool false) rfl (Yl.pickF rfl rfl rfl) (As rfl rfl (WL.nil (Fin.then (Wp.ret (Fin.res (res1 rfl rfl) ?_))))))))))))))))))))))
  have H169 : Own w D w156 [] := H157.pick [] (by decide) rfl
  have e : w17_OwnerMoved l0 p1 p2 p3 = false := Eq.trans (bnd_of hr27) (Eq.trans (bnd_of hr38) (Eq.trans (if_pos h47) (Eq.trans (bnd_of hr55) (Eq.trans (bnd_of hr69) (Eq.trans (if_pos h77) (Eq.trans (if_pos h78) (Eq.trans (if_pos h79) (Eq.trans (bnd_of hr87) (Eq.trans (if_pos h97) (Eq.trans (bnd_of hr104) (Eq.trans (if_pos h110) (Eq.trans (bnd_of hr118) (Eq.trans (bnd_of hr133) (Eq.trans (bnd_of (getD_of hx141)) (Eq.trans (bnd_of hr148) (Eq.trans (bnd_of hj159) (Eq.trans (if_pos h160) (if_neg h161))))))))))))))))))
  obtain rfl := e.symm.trans hr
  exact ⟨rfl, H169⟩
  refine Sk rfl rfl h160 rfl (Sk rfl rfl h160 rfl (WL.val (v := .bool false) rfl (Yl.pickF rfl h160 rfl) (Mv rfl rfl (Sk rfl rfl rfl rfl (Sk rfl rfl rfl rfl (WL.val (v := .bool false) rfl (Yl.pickF rfl rfl rfl) (Mv rfl rfl (Sk rfl rfl rfl rfl (Sk rfl rfl rfl rfl (Sk rfl rfl rfl rfl (Sk rfl rfl rfl rfl (WL.val (v := .bool false) rfl (Yl.pickF rfl rfl rfl) (Mv rfl rfl (Sk rfl rfl rfl rfl (Sk rfl rfl rfl rfl (Sk rfl rfl rfl rfl (Sk rfl rfl rfl rfl (Sk rfl rfl rfl rfl (Sk rfl rfl rfl rfl (Sk rfl rfl rfl rfl (WL.val (v := .bool false) rfl (Yl.pickF rfl rfl rfl) (As rfl rfl (WL.nil (Fin.then (Wp.ret (Fin.res (res1 rfl rfl) ?_))))))))))))))))))))))))))
  have H170 : Own w D w156 [] := H157.pick [] (by decide) rfl
  have e : w17_OwnerMoved l0 p1 p2 p3 = false := Eq.trans (bnd_of hr27) (Eq.trans (bnd_of hr38) (Eq.trans (if_pos h47) (Eq.trans (bnd_of hr55) (Eq.trans (bnd_of hr69) (Eq.trans (if_pos h77) (Eq.trans (if_pos h78) (Eq.trans (if_pos h79) (Eq.trans (bnd_of hr87) (Eq.trans (if_pos h97) (Eq.trans (bnd_of hr104) (Eq.trans (if_pos h110) (Eq.trans (bnd_of hr118) (Eq.trans (bnd_of hr133) (Eq.trans (bnd_of (getD_of hx141)) (Eq.trans (bnd_of hr148) (Eq.trans (bnd_of hj159) (ifF h160)))))))))))))))))
  obtain rfl := e.symm.trans hr
  exact ⟨rfl, H170⟩
  refine Wp.cond1 rfl (decide_eq_true h110) (Wp.seq (Wp.region (Mv rfl rfl (Mv rfl rfl ?_))))
  rcases Bool.eq_false_or_eq_true (r26) with h171 | h171
  refine WL.valG (v := .int .i64 r86) rfl rfl h171 rfl (Yl.move rfl) (WL.valG (v := .bool (decide (r86 = 0))) rfl rfl h171 rfl (Yl.kern rfl rfl (fun _ => by kernel_rfl)) (WL.val (v := .bool (decide (r86 = 0))) rfl (Yl.pickT rfl h171 rfl) (As rfl rfl (WL.nil (Fin.then (Wp.ret (Fin.thenR (Fin.res (res1 rfl rfl) ?_))))))))
  have H172 : Own w D w105 [] := H107.pick [] (by decide) rfl
  have e : w17_OwnerMoved l0 p1 p2 p3 = decide (r86 = 0) := Eq.trans (bnd_of hr27) (Eq.trans (bnd_of hr38) (Eq.trans (if_pos h47) (Eq.trans (bnd_of hr55) (Eq.trans (bnd_of hr69) (Eq.trans (if_pos h77) (Eq.trans (if_pos h78) (Eq.trans (if_pos h79) (Eq.trans (bnd_of hr87) (Eq.trans (if_pos h97) (Eq.trans (bnd_of hr104) (Eq.trans (if_neg h110) (if_pos h171))))))))))))
  obtain rfl := e.symm.trans hr
  exact ⟨rfl, H172⟩
  refine Sk rfl rfl h171 rfl (Sk rfl rfl h171 rfl (WL.val (v := .bool false) rfl (Yl.pickF rfl h171 rfl) (As rfl rfl (WL.nil (Fin.then (Wp.ret (Fin.thenR (Fin.res (res1 rfl rfl) ?_))))))))
  have H173 : Own w D w105 [] := H107.pick [] (by decide) rfl
  have e : w17_OwnerMoved l0 p1 p2 p3 = false := Eq.trans (bnd_of hr27) (Eq.trans (bnd_of hr38) (Eq.trans (if_pos h47) (Eq.trans (bnd_of hr55) (Eq.trans (bnd_of hr69) (Eq.trans (if_pos h77) (Eq.trans (if_pos h78) (Eq.trans (if_pos h79) (Eq.trans (bnd_of hr87) (Eq.trans (if_pos h97) (Eq.trans (bnd_of hr104) (Eq.trans (if_neg h110) (ifF h171))))))))))))
  obtain rfl := e.symm.trans hr
  exact ⟨rfl, H173⟩
  refine Sk rfl rfl (decide_eq_true h97) rfl (Sk rfl rfl (decide_eq_true h97) rfl (Sk rfl rfl (decide_eq_true h97) rfl (WL.val (v := .bool true) rfl (Yl.pickT rfl (decide_eq_true h97) rfl) (WL.nil (Fin.then (Wp.cond1 rfl rfl (Wp.seq (Wp.region (Mv rfl rfl (Mv rfl rfl ?_))))))))))
  rcases Bool.eq_false_or_eq_true (r26) with h174 | h174
  refine WL.valG (v := .int .i64 r86) rfl rfl h174 rfl (Yl.move rfl) (WL.valG (v := .bool (decide (r86 = 0))) rfl rfl h174 rfl (Yl.kern rfl rfl (fun _ => by kernel_rfl)) (WL.val (v := .bool (decide (r86 = 0))) rfl (Yl.pickT rfl h174 rfl) (As rfl rfl (WL.nil (Fin.then (Wp.ret (Fin.thenR (Fin.res (res1 rfl rfl) ?_))))))))
  have H175 : Own w D w95 [] := H96.pick [] (by decide) rfl
  have e : w17_OwnerMoved l0 p1 p2 p3 = decide (r86 = 0) := Eq.trans (bnd_of hr27) (Eq.trans (bnd_of hr38) (Eq.trans (if_pos h47) (Eq.trans (bnd_of hr55) (Eq.trans (bnd_of hr69) (Eq.trans (if_pos h77) (Eq.trans (if_pos h78) (Eq.trans (if_pos h79) (Eq.trans (bnd_of hr87) (Eq.trans (if_neg h97) (if_pos h174))))))))))
  obtain rfl := e.symm.trans hr
  exact ⟨rfl, H175⟩
  refine Sk rfl rfl h174 rfl (Sk rfl rfl h174 rfl (WL.val (v := .bool false) rfl (Yl.pickF rfl h174 rfl) (As rfl rfl (WL.nil (Fin.then (Wp.ret (Fin.thenR (Fin.res (res1 rfl rfl) ?_))))))))
  have H176 : Own w D w95 [] := H96.pick [] (by decide) rfl
  have e : w17_OwnerMoved l0 p1 p2 p3 = false := Eq.trans (bnd_of hr27) (Eq.trans (bnd_of hr38) (Eq.trans (if_pos h47) (Eq.trans (bnd_of hr55) (Eq.trans (bnd_of hr69) (Eq.trans (if_pos h77) (Eq.trans (if_pos h78) (Eq.trans (if_pos h79) (Eq.trans (bnd_of hr87) (Eq.trans (if_neg h97) (ifF h174))))))))))
  obtain rfl := e.symm.trans hr
  exact ⟨rfl, H176⟩
  refine Wp.cond1 rfl (decide_eq_true h79) (Wp.seq (Wp.region (As rfl rfl (WL.nil (Fin.then (Wp.ret (Fin.thenR (Fin.res (res1 rfl rfl) ?_))))))))
  have H177 : Own w D w70 [] := H72.pick [] (by decide) rfl
  have e : w17_OwnerMoved l0 p1 p2 p3 = false := Eq.trans (bnd_of hr27) (Eq.trans (bnd_of hr38) (Eq.trans (if_pos h47) (Eq.trans (bnd_of hr55) (Eq.trans (bnd_of hr69) (Eq.trans (if_pos h77) (Eq.trans (if_pos h78) (if_neg h79)))))))
  obtain rfl := e.symm.trans hr
  exact ⟨rfl, H177⟩
  refine Sk rfl rfl (decide_eq_false h78) rfl (Sk rfl rfl (decide_eq_false h78) rfl (WL.valG (v := .bool false) rfl rfl (decide_eq_false (not_not_intro h77)) rfl (Yl.pickF rfl (decide_eq_false h78) rfl) (WL.valG (v := .bool (decide (¬ ((decide (r68 = 0)) = false)))) rfl rfl (decide_eq_false (not_not_intro h77)) rfl (Yl.bool (e := !(decide (r68 = 0) == false)) (Yl.kern rfl rfl (fun _ => by kernel_rfl)) (by first | (rw [Bool.beq_eq_decide_eq]; exact decide_not.symm) | (by_cases q : (decide (r68 = 0)) = false <;> simp [q]))) (WL.val (v := .bool (decide (¬ ((decide (r68 = 0)) = false)))) rfl (Yl.pickF rfl (decide_eq_false (not_not_intro h77)) rfl) (WL.nil (Fin.then ?_))))))
  by_cases h178 : (decide (r68 = 0)) = false
  refine Wp.cond0 rfl (decide_eq_false (not_not_intro h178)) (Wp.skip (Fin.then (Wp.seq (Wp.region (Mv rfl rfl (Mv rfl rfl ?_))))))
  obtain ⟨⟨r184, r185⟩, hr186⟩ : ∃ q : RangeD × Int, owner_RangeOf r36 r53 = q := ⟨_, rfl⟩
  obtain ⟨D179, HP180, ro181, bk182, rr183⟩ := Own.enter0 H72
  refine WL.do rfl (Do.call Try.call12 rfl (owner_RangeOf_ok _ _ A42 (List.length r36) c43 r36 r53 r184 r185 HP180 (rr183 _ 1 _ rfl row_rds) rfl (by omega) hr186) ?_)
  rintro _ w187 ⟨rfl, HQ188, hk190⟩
  have H189 : Own w D w187 [row A73 (List.length r67) c74 (List.flatMap OwnerD.cells r67) 39 2, row A42 (List.length r36) c43 (List.flatMap OwnerD.cells r36) 39 2] := bk182 _ _ HQ188
  replace hk190 : ¬ (r185 = 0) ∨ (0 ≤ r53 ∧ r53 < ((List.length r36 : Nat) : Int) ∧ List.length r36 ≤ 6) := hk190
  refine Mv rfl rfl (Kn (v := .agg (RangeD.cells r184).toArray) rfl rfl rfl (fun _ => by kernel_rfl) (Kn (v := .int .i64 r185) rfl rfl rfl (fun _ => by kernel_rfl) ?_))
  refine WL.do rfl (Do.newP (cs := [.string ⟨List.toArray ([])⟩, .string ⟨List.toArray ([])⟩]) (t := 24) H189 rfl rfl (fun _ => by kernel_rfl) ?_)
  intro g191 w192 H193
  replace H193 : Own w D w192 [blk g191 [.string ⟨List.toArray ([])⟩, .string ⟨List.toArray ([])⟩] 24, row A73 (List.length r67) c74 (List.flatMap OwnerD.cells r67) 39 2, row A42 (List.length r36) c43 (List.flatMap OwnerD.cells r36) 39 2] := H193
  refine WL.do0 (Do.store (vs := (RangeD.cells r184)) (o := 0) H193 rfl rfl Try.sizeOf24 rfl rfl rfl rfl ?_)
  intro w194 H195
  replace H195 : Own w D w194 [blk g191 (RangeD.cells r184) 24, row A73 (List.length r67) c74 (List.flatMap OwnerD.cells r67) 39 2, row A42 (List.length r36) c43 (List.flatMap OwnerD.cells r36) 39 2] := H195
  refine As rfl rfl (WL.nil (Fin.then (Wp.seq (Wp.seq (Wp.region (Mv rfl rfl (WL.val (v := .bool (decide (¬ (r68 = 0)))) rfl (Yl.bool (e := !(decide (r68 = 0))) (Yl.kern rfl rfl (fun _ => by kernel_rfl)) decide_not.symm) (Mv rfl rfl ?_))))))))
  by_cases h196 : r68 = 0
  refine WL.valG (v := .string ⟨List.toArray p3⟩) rfl rfl (decide_eq_false (not_not_intro h196)) rfl (Yl.move rfl) ?_
  obtain ⟨r202, hr203⟩ : ∃ q, span_CheckKey p3 = q := ⟨_, rfl⟩
  obtain ⟨D197, HP198, ro199, bk200, rr201⟩ := Own.enter0 H195
  refine WL.doG rfl rfl (decide_eq_false (not_not_intro h196)) rfl (Do.call Try.call31 rfl (span_CheckKey_ok _ _ p3 r202 HP198 hr203) ?_)
  rintro _ w204 ⟨rfl, HQ205, hk207, hk208⟩
  have H206 : Own w D w204 [blk g191 (RangeD.cells r184) 24, row A73 (List.length r67) c74 (List.flatMap OwnerD.cells r67) 39 2, row A42 (List.length r36) c43 (List.flatMap OwnerD.cells r36) 39 2] := bk200 _ _ HQ205
  replace hk207 : ¬ (r202 = 0) ∨ (1 ≤ List.length p3 ∧ List.length p3 ≤ 12) := hk207
  replace hk208 : List.length p3 < 1 ∨ List.length p3 > 12 ∨ r202 = 0 := hk208
  refine WL.valG (v := .bool (decide (¬ (r202 = 0)))) rfl rfl (decide_eq_false (not_not_intro h196)) rfl (Yl.bool (e := !(decide (r202 = 0))) (Yl.kern rfl rfl (fun _ => by kernel_rfl)) decide_not.symm) (WL.val (v := .bool (decide (¬ (r202 = 0)))) rfl (Yl.pickF rfl (decide_eq_false (not_not_intro h196)) rfl) (WL.nil (Fin.then ?_)))
  by_cases h209 : r202 = 0
  refine Wp.cond0 rfl (decide_eq_false (not_not_intro h209)) (Wp.skip (Fin.then (Wp.seq (Wp.region (Mv rfl rfl (Mv rfl rfl ?_))))))
  obtain ⟨⟨r215, r216⟩, hr217⟩ : ∃ q : Int × Int, owner_Find l0 p3 = q := ⟨_, rfl⟩
  obtain ⟨D210, HP211, ro212, bk213, rr214⟩ := Own.enter0 H206
  refine WL.do rfl (Do.call Try.call10 rfl (owner_Find_ok _ _ A0 (List.length l0) c0 l0 p3 r215 r216 HP211 (ro212 _ hx0) rfl (by omega) hr217) ?_)
  rintro _ w218 ⟨rfl, HQ219, hk221, hk222, hk223⟩
  have H220 : Own w D w218 [blk g191 (RangeD.cells r184) 24, row A73 (List.length r67) c74 (List.flatMap OwnerD.cells r67) 39 2, row A42 (List.length r36) c43 (List.flatMap OwnerD.cells r36) 39 2] := bk213 _ _ HQ219
  replace hk221 : ¬ (r216 = 0) ∨ (0 ≤ r215 ∧ r215 < ((List.length l0 : Nat) : Int) ∧ List.length l0 ≤ 6) := hk221
  replace hk222 : ¬ (owner_Check l0 = 0) ∨ List.length p3 < 1 ∨ List.length p3 > 12 ∨ (0 ≤ r215 ∧ r215 < ((List.length l0 : Nat) : Int)) := hk222
  replace hk223 : ¬ (r216 = 0) ∨ owner_Check l0 = 0 := hk223
  have hz224 : 0 ≤ r215 ∧ r215 < ((List.length l0 : Nat) : Int) := by omega
  clear hk221 hk222 hk223
  refine Mv rfl rfl (Kn (v := .int .i64 r215) rfl rfl rfl (fun _ => by kernel_rfl) (Kn (v := .int .i64 r216) rfl rfl rfl (fun _ => by kernel_rfl) (As rfl rfl (As rfl rfl (WL.nil (Fin.then (Wp.seq (Wp.region (Mv rfl rfl (Mv rfl rfl ?_))))))))))
  obtain ⟨⟨r230, r231⟩, hr232⟩ : ∃ q : Int × Int, owner_Find r67 p3 = q := ⟨_, rfl⟩
  obtain ⟨D225, HP226, ro227, bk228, rr229⟩ := Own.enter0 H220
  refine WL.do rfl (Do.call Try.call10 rfl (owner_Find_ok _ _ A73 (List.length r67) c74 r67 p3 r230 r231 HP226 (rr229 _ 1 _ rfl row_rds) rfl (by omega) hr232) ?_)
  rintro _ w233 ⟨rfl, HQ234, hk236, hk237, hk238⟩
  have H235 : Own w D w233 [blk g191 (RangeD.cells r184) 24, row A73 (List.length r67) c74 (List.flatMap OwnerD.cells r67) 39 2, row A42 (List.length r36) c43 (List.flatMap OwnerD.cells r36) 39 2] := bk228 _ _ HQ234
  replace hk236 : ¬ (r231 = 0) ∨ (0 ≤ r230 ∧ r230 < ((List.length r67 : Nat) : Int) ∧ List.length r67 ≤ 6) := hk236
  replace hk237 : ¬ (owner_Check r67 = 0) ∨ List.length p3 < 1 ∨ List.length p3 > 12 ∨ (0 ≤ r230 ∧ r230 < ((List.length r67 : Nat) : Int)) := hk237
  replace hk238 : ¬ (r231 = 0) ∨ owner_Check r67 = 0 := hk238
  refine Mv rfl rfl (Kn (v := .int .i64 r230) rfl rfl rfl (fun _ => by kernel_rfl) (Kn (v := .int .i64 r231) rfl rfl rfl (fun _ => by kernel_rfl) (As rfl rfl (As rfl rfl (WL.nil (Fin.then (Wp.seq (Wp.region (Mv rfl rfl (WL.val (v := .int .i64 ((Int.toNat r215 : Nat) : Int)) rfl (Yl.int (e := r215) (Yl.move rfl) (by omega)) ?_))))))))))
  obtain ⟨x239, hx240⟩ := rds_at (ls := l0) (i := Int.toNat r215) OwnerD.len (by decide) (H235.ro hx0) (by first | omega | (simp; done) | (simp; omega))
  refine WL.val (v := .pointer (some ⟨ab A0, ao A0 + (Int.toNat r215) * 2, none⟩)) rfl (Yl.indexAddr (El22) rfl rfl ((H235.ro hx0).addr (i := Int.toNat r215) (by omega)) (by omega)) (Kn (v := .pointer (some ⟨ab A0, ao A0 + (Int.toNat r215) * 2 + 1, none⟩)) rfl rfl rfl (fun _ => by kernel_rfl) (WL.val (v := .int .i64 x239.xShard) rfl (Yl.load rfl (Lds.one Try.isAgg3 (((H235.ro hx0).elem OwnerD.len hx240 (by decide)).at_ (k := 1) rfl))) (As rfl rfl (WL.nil (Fin.then (Wp.seq (Wp.seq (Wp.region (WL.val (v := .agg (RangeD.cells r184).toArray) rfl (Yl.load rfl (Lds.agg (cs := (RangeD.cells r184)) Try.isAgg24 Try.sizeOf24 ((H235.cls (i := 0) rfl).lit (k := 0) (m := 2) rfl))) (Mv rfl rfl ?_))))))))))
  obtain ⟨r246, hr247⟩ : ∃ q, span_Has r184 p3 = q := ⟨_, rfl⟩
  obtain ⟨D241, HP242, ro243, bk244, rr245⟩ := Own.enter0 H235
  refine WL.do rfl (Do.call Try.call30 rfl (span_Has_ok _ _ r184 p3 r246 HP242 hr247) ?_)
  rintro _ w248 ⟨rfl, HQ249⟩
  have H250 : Own w D w248 [blk g191 (RangeD.cells r184) 24, row A73 (List.length r67) c74 (List.flatMap OwnerD.cells r67) 39 2, row A42 (List.length r36) c43 (List.flatMap OwnerD.cells r36) 39 2] := bk244 _ _ HQ249
  refine WL.nil (Fin.then ?_)
  refine Wp.joinT (ι := Int) (fun i => [(22, .int .i64 i), (21, .int .i64 r231), (20, .int .i64 r230), (17, .int .i64 r185), (16, .pointer (some ⟨g191, 0, none⟩)), (14, .slice A73 (List.length r67) c74), (9, .bool r26), (8, .bool false), (1, .string ⟨List.toArray p1⟩)]) (fun (i : Int) w' => Own w D w' [blk g191 (RangeD.cells r184) 24, row A73 (List.length r67) c74 (List.flatMap OwnerD.cells r67) 39 2, row A42 (List.length r36) c43 (List.flatMap OwnerD.cells r36) 39 2] ∧ ((if r246 = true then p2 else x239.xShard) = i)) ?_ ?_
  rcases Bool.eq_false_or_eq_true (r246) with h252 | h252
  refine Wp.cond1 rfl h252 (Wp.region (Mv rfl rfl (As rfl rfl (WL.nil ?_))))
  have H253 : Own w D w248 [blk g191 (RangeD.cells r184) 24, row A73 (List.length r67) c74 (List.flatMap OwnerD.cells r67) 39 2, row A42 (List.length r36) c43 (List.flatMap OwnerD.cells r36) 39 2] := H250.pick [0, 1, 2] (by decide) rfl
  exact Fin.join p2 ⟨rfl, rfl, rfl, rfl, rfl, rfl, rfl, rfl, rfl, trivial⟩ ⟨H253, (show (if r246 = true then p2 else x239.xShard) = p2 from if_pos h252)⟩
  refine Wp.cond0 rfl h252 (Wp.skip ?_)
  have H254 : Own w D w248 [blk g191 (RangeD.cells r184) 24, row A73 (List.length r67) c74 (List.flatMap OwnerD.cells r67) 39 2, row A42 (List.length r36) c43 (List.flatMap OwnerD.cells r36) 39 2] := H250.pick [0, 1, 2] (by decide) rfl
  exact Fin.join x239.xShard ⟨rfl, rfl, rfl, rfl, rfl, rfl, rfl, rfl, rfl, trivial⟩ ⟨H254, (show (if r246 = true then p2 else x239.xShard) = x239.xShard from ifF h252)⟩
  rintro z251 w255 ⟨H256, hf257⟩
  show Wp _ _ _ [(22, .int .i64 z251), (21, .int .i64 r231), (20, .int .i64 r230), (17, .int .i64 r185), (16, .pointer (some ⟨g191, 0, none⟩)), (14, .slice A73 (List.length r67) c74), (9, .bool r26), (8, .bool false), (1, .string ⟨List.toArray p1⟩)] _ _
  replace H256 : Own w D w255 [blk g191 (RangeD.cells r184) 24, row A73 (List.length r67) c74 (List.flatMap OwnerD.cells r67) 39 2, row A42 (List.length r36) c43 (List.flatMap OwnerD.cells r36) 39 2] := H256
  replace hf257 : (if r246 = true then p2 else x239.xShard) = z251 := hf257
  have hj258 := hf257
  refine Wp.seq (Wp.region (Mv rfl rfl (Mv rfl rfl ?_)))
  rcases Bool.eq_false_or_eq_true (r26) with h259 | h259
  refine WL.valG (v := .int .i64 r185) rfl rfl h259 rfl (Yl.move rfl) (WL.valG (v := .bool (decide (r185 = 0))) rfl rfl h259 rfl (Yl.kern rfl rfl (fun _ => by kernel_rfl)) (WL.val (v := .bool (decide (r185 = 0))) rfl (Yl.pickT rfl h259 rfl) (Mv rfl rfl ?_)))
  by_cases h260 : r185 = 0
  refine WL.valG (v := .int .i64 r231) rfl rfl (decide_eq_true h260) rfl (Yl.move rfl) (WL.valG (v := .bool (decide (r231 = 0))) rfl rfl (decide_eq_true h260) rfl (Yl.kern rfl rfl (fun _ => by kernel_rfl)) (WL.val (v := .bool (decide (r231 = 0))) rfl (Yl.pickT rfl (decide_eq_true h260) rfl) (Mv rfl rfl ?_)))
  by_cases h261 : r231 = 0
  refine WL.valG (v := .pointer (some ⟨g191, 0, none⟩)) rfl rfl (decide_eq_true h261) rfl (Yl.kern rfl rfl (fun _ => by kernel_rfl)) (WL.valG (v := .string ⟨List.toArray r184.xLo⟩) rfl rfl (decide_eq_true h261) rfl (Yl.load rfl (Lds.one Try.isAgg9 (Cls.of (H256.cls (i := 0) rfl) rfl))) (WL.valG (v := .string ⟨List.toArray p1⟩) rfl rfl (decide_eq_true h261) rfl (Yl.move rfl) (WL.valG (v := .bool (decide (r184.xLo = p1))) rfl rfl (decide_eq_true h261) rfl (Yl.strEq rfl rfl) (WL.val (v := .bool (decide (r184.xLo = p1))) rfl (Yl.pickT rfl (decide_eq_true h261) rfl) (Mv rfl rfl ?_)))))
  by_cases h262 : r184.xLo = p1
  refine WL.valG (v := .slice A73 (List.length r67) c74) rfl rfl (decide_eq_true h262) rfl (Yl.move rfl) (WL.valG (v := .int .i64 ((Int.toNat r230 : Nat) : Int)) rfl rfl (decide_eq_true h262) rfl (Yl.int (e := r230) (Yl.move rfl) (by omega)) ?_)
  obtain ⟨x263, hx264⟩ := rds_at (ls := r67) (i := Int.toNat r230) OwnerD.len (by decide) (H256.rds (i := 1) rfl) (by first | omega | (simp; done) | (simp; omega))
  refine WL.valG (v := .pointer (some ⟨ab A73, ao A73 + (Int.toNat r230) * 2, none⟩)) rfl rfl (decide_eq_true h262) rfl (Yl.indexAddr (El22) rfl rfl ((H256.rds (i := 1) rfl).addr (i := Int.toNat r230) (by omega)) (by omega)) (WL.valG (v := .pointer (some ⟨ab A73, ao A73 + (Int.toNat r230) * 2 + 1, none⟩)) rfl rfl (decide_eq_true h262) rfl (Yl.kern rfl rfl (fun _ => by kernel_rfl)) (WL.valG (v := .int .i64 x263.xShard) rfl rfl (decide_eq_true h262) rfl (Yl.load rfl (Lds.one Try.isAgg3 (((H256.rds (i := 1) rfl).elem OwnerD.len hx264 (by decide)).at_ (k := 1) rfl))) (WL.valG (v := .int .i64 z251) rfl rfl (decide_eq_true h262) rfl (Yl.move rfl) (WL.valG (v := .bool (decide (x263.xShard = z251))) rfl rfl (decide_eq_true h262) rfl (Yl.kern rfl rfl (fun _ => by kernel_rfl)) (WL.val (v := .bool (decide (x263.xShard = z251))) rfl (Yl.pickT rfl (decide_eq_true h262) rfl) (As rfl rfl (WL.nil (Fin.then (Wp.ret (Fin.res (res1 rfl rfl) ?_))))))))))
  have H265 : Own w D w255 [] := H256.pick [] (by decide) rfl
  have e : w17_OwnerMoved l0 p1 p2 p3 = decide (x263.xShard = z251) := Eq.trans (bnd_of hr27) (Eq.trans (bnd_of hr38) (Eq.trans (if_pos h47) (Eq.trans (bnd_of hr55) (Eq.trans (bnd_of hr69) (Eq.trans (if_pos h77) (Eq.trans (if_neg h78) (Eq.trans (if_pos h178) (Eq.trans (bnd_of hr186) (Eq.trans (if_pos h196) (Eq.trans (bnd_of hr203) (Eq.trans (if_pos h209) (Eq.trans (bnd_of hr217) (Eq.trans (bnd_of hr232) (Eq.trans (bnd_of (getD_of hx240)) (Eq.trans (bnd_of hr247) (Eq.trans (bnd_of hj258) (Eq.trans (if_pos h259) (Eq.trans (if_pos h260) (Eq.trans (if_pos h261) (Eq.trans (if_pos h262) (bnd_of (getD_of hx264))))))))))))))))))))))
  obtain rfl := e.symm.trans hr
  exact ⟨rfl, H265⟩
  refine Sk rfl rfl (decide_eq_false h262) rfl (Sk rfl rfl (decide_eq_false h262) rfl (Sk rfl rfl (decide_eq_false h262) rfl (Sk rfl rfl (decide_eq_false h262) rfl (Sk rfl rfl (decide_eq_false h262) rfl (Sk rfl rfl (decide_eq_false h262) rfl (Sk rfl rfl (decide_eq_false h262) rfl (WL.val (v := .bool false) rfl (Yl.pickF rfl (decide_eq_false h262) rfl) (As rfl rfl (WL.nil (Fin.then (Wp.ret (Fin.res (res1 rfl rfl) ?_))))))))))))
  have H266 : Own w D w255 [] := H256.pick [] (by decide) rfl
  have e : w17_OwnerMoved l0 p1 p2 p3 = false := Eq.trans (bnd_of hr27) (Eq.trans (bnd_of hr38) (Eq.trans (if_pos h47) (Eq.trans (bnd_of hr55) (Eq.trans (bnd_of hr69) (Eq.trans (if_pos h77) (Eq.trans (if_neg h78) (Eq.trans (if_pos h178) (Eq.trans (bnd_of hr186) (Eq.trans (if_pos h196) (Eq.trans (bnd_of hr203) (Eq.trans (if_pos h209) (Eq.trans (bnd_of hr217) (Eq.trans (bnd_of hr232) (Eq.trans (bnd_of (getD_of hx240)) (Eq.trans (bnd_of hr247) (Eq.trans (bnd_of hj258) (Eq.trans (if_pos h259) (Eq.trans (if_pos h260) (Eq.trans (if_pos h261) (if_neg h262))))))))))))))))))))
  obtain rfl := e.symm.trans hr
  exact ⟨rfl, H266⟩
  refine Sk rfl rfl (decide_eq_false h261) rfl (Sk rfl rfl (decide_eq_false h261) rfl (Sk rfl rfl (decide_eq_false h261) rfl (Sk rfl rfl (decide_eq_false h261) rfl (WL.val (v := .bool false) rfl (Yl.pickF rfl (decide_eq_false h261) rfl) (Mv rfl rfl (Sk rfl rfl rfl rfl (Sk rfl rfl rfl rfl (Sk rfl rfl rfl rfl (Sk rfl rfl rfl rfl (Sk rfl rfl rfl rfl (Sk rfl rfl rfl rfl (Sk rfl rfl rfl rfl (WL.val (v := .bool false) rfl (Yl.pickF rfl rfl rfl) (As rfl rfl (WL.nil (Fin.then (Wp.ret (Fin.res (res1 rfl rfl) ?_))))))))))))))))))
  have H267 : Own w D w255 [] := H256.pick [] (by decide) rfl
  have e : w17_OwnerMoved l0 p1 p2 p3 = false := Eq.trans (bnd_of hr27) (Eq.trans (bnd_of hr38) (Eq.trans (if_pos h47) (Eq.trans (bnd_of hr55) (Eq.trans (bnd_of hr69) (Eq.trans (if_pos h77) (Eq.trans (if_neg h78) (Eq.trans (if_pos h178) (Eq.trans (bnd_of hr186) (Eq.trans (if_pos h196) (Eq.trans (bnd_of hr203) (Eq.trans (if_pos h209) (Eq.trans (bnd_of hr217) (Eq.trans (bnd_of hr232) (Eq.trans (bnd_of (getD_of hx240)) (Eq.trans (bnd_of hr247) (Eq.trans (bnd_of hj258) (Eq.trans (if_pos h259) (Eq.trans (if_pos h260) (if_neg h261)))))))))))))))))))
  obtain rfl := e.symm.trans hr
  exact ⟨rfl, H267⟩
  refine Sk rfl rfl (decide_eq_false h260) rfl (Sk rfl rfl (decide_eq_false h260) rfl (WL.val (v := .bool false) rfl (Yl.pickF rfl (decide_eq_false h260) rfl) (Mv rfl rfl (Sk rfl rfl rfl rfl (Sk rfl rfl rfl rfl (Sk rfl rfl rfl rfl (Sk rfl rfl rfl rfl (WL.val (v := .bool false) rfl (Yl.pickF rfl rfl rfl) (Mv rfl rfl (Sk rfl rfl rfl rfl (Sk rfl rfl rfl rfl (Sk rfl rfl rfl rfl (Sk rfl rfl rfl rfl (Sk rfl rfl rfl rfl (Sk rfl rfl rfl rfl (Sk rfl rfl rfl rfl (WL.val (v := .bool false) rfl (Yl.pickF rfl rfl rfl) (As rfl rfl (WL.nil (Fin.then (Wp.ret (Fin.res (res1 rfl rfl) ?_))))))))))))))))))))))
  have H268 : Own w D w255 [] := H256.pick [] (by decide) rfl
  have e : w17_OwnerMoved l0 p1 p2 p3 = false := Eq.trans (bnd_of hr27) (Eq.trans (bnd_of hr38) (Eq.trans (if_pos h47) (Eq.trans (bnd_of hr55) (Eq.trans (bnd_of hr69) (Eq.trans (if_pos h77) (Eq.trans (if_neg h78) (Eq.trans (if_pos h178) (Eq.trans (bnd_of hr186) (Eq.trans (if_pos h196) (Eq.trans (bnd_of hr203) (Eq.trans (if_pos h209) (Eq.trans (bnd_of hr217) (Eq.trans (bnd_of hr232) (Eq.trans (bnd_of (getD_of hx240)) (Eq.trans (bnd_of hr247) (Eq.trans (bnd_of hj258) (Eq.trans (if_pos h259) (if_neg h260))))))))))))))))))
  obtain rfl := e.symm.trans hr
  exact ⟨rfl, H268⟩
  refine Sk rfl rfl h259 rfl (Sk rfl rfl h259 rfl (WL.val (v := .bool false) rfl (Yl.pickF rfl h259 rfl) (Mv rfl rfl (Sk rfl rfl rfl rfl (Sk rfl rfl rfl rfl (WL.val (v := .bool false) rfl (Yl.pickF rfl rfl rfl) (Mv rfl rfl (Sk rfl rfl rfl rfl (Sk rfl rfl rfl rfl (Sk rfl rfl rfl rfl (Sk rfl rfl rfl rfl (WL.val (v := .bool false) rfl (Yl.pickF rfl rfl rfl) (Mv rfl rfl (Sk rfl rfl rfl rfl (Sk rfl rfl rfl rfl (Sk rfl rfl rfl rfl (Sk rfl rfl rfl rfl (Sk rfl rfl rfl rfl (Sk rfl rfl rfl rfl (Sk rfl rfl rfl rfl (WL.val (v := .bool false) rfl (Yl.pickF rfl rfl rfl) (As rfl rfl (WL.nil (Fin.then (Wp.ret (Fin.res (res1 rfl rfl) ?_))))))))))))))))))))))))))
  have H269 : Own w D w255 [] := H256.pick [] (by decide) rfl
  have e : w17_OwnerMoved l0 p1 p2 p3 = false := Eq.trans (bnd_of hr27) (Eq.trans (bnd_of hr38) (Eq.trans (if_pos h47) (Eq.trans (bnd_of hr55) (Eq.trans (bnd_of hr69) (Eq.trans (if_pos h77) (Eq.trans (if_neg h78) (Eq.trans (if_pos h178) (Eq.trans (bnd_of hr186) (Eq.trans (if_pos h196) (Eq.trans (bnd_of hr203) (Eq.trans (if_pos h209) (Eq.trans (bnd_of hr217) (Eq.trans (bnd_of hr232) (Eq.trans (bnd_of (getD_of hx240)) (Eq.trans (bnd_of hr247) (Eq.trans (bnd_of hj258) (ifF h259)))))))))))))))))
  obtain rfl := e.symm.trans hr
  exact ⟨rfl, H269⟩
  refine Wp.cond1 rfl (decide_eq_true h209) (Wp.seq (Wp.region (Mv rfl rfl (Mv rfl rfl ?_))))
  rcases Bool.eq_false_or_eq_true (r26) with h270 | h270
  refine WL.valG (v := .int .i64 r185) rfl rfl h270 rfl (Yl.move rfl) (WL.valG (v := .bool (decide (r185 = 0))) rfl rfl h270 rfl (Yl.kern rfl rfl (fun _ => by kernel_rfl)) (WL.val (v := .bool (decide (r185 = 0))) rfl (Yl.pickT rfl h270 rfl) (As rfl rfl (WL.nil (Fin.then (Wp.ret (Fin.thenR (Fin.res (res1 rfl rfl) ?_))))))))
  have H271 : Own w D w204 [] := H206.pick [] (by decide) rfl
  have e : w17_OwnerMoved l0 p1 p2 p3 = decide (r185 = 0) := Eq.trans (bnd_of hr27) (Eq.trans (bnd_of hr38) (Eq.trans (if_pos h47) (Eq.trans (bnd_of hr55) (Eq.trans (bnd_of hr69) (Eq.trans (if_pos h77) (Eq.trans (if_neg h78) (Eq.trans (if_pos h178) (Eq.trans (bnd_of hr186) (Eq.trans (if_pos h196) (Eq.trans (bnd_of hr203) (Eq.trans (if_neg h209) (if_pos h270))))))))))))
  obtain rfl := e.symm.trans hr
  exact ⟨rfl, H271⟩
  refine Sk rfl rfl h270 rfl (Sk rfl rfl h270 rfl (WL.val (v := .bool false) rfl (Yl.pickF rfl h270 rfl) (As rfl rfl (WL.nil (Fin.then (Wp.ret (Fin.thenR (Fin.res (res1 rfl rfl) ?_))))))))
  have H272 : Own w D w204 [] := H206.pick [] (by decide) rfl
  have e : w17_OwnerMoved l0 p1 p2 p3 = false := Eq.trans (bnd_of hr27) (Eq.trans (bnd_of hr38) (Eq.trans (if_pos h47) (Eq.trans (bnd_of hr55) (Eq.trans (bnd_of hr69) (Eq.trans (if_pos h77) (Eq.trans (if_neg h78) (Eq.trans (if_pos h178) (Eq.trans (bnd_of hr186) (Eq.trans (if_pos h196) (Eq.trans (bnd_of hr203) (Eq.trans (if_neg h209) (ifF h270))))))))))))
  obtain rfl := e.symm.trans hr
  exact ⟨rfl, H272⟩
  refine Sk rfl rfl (decide_eq_true h196) rfl (Sk rfl rfl (decide_eq_true h196) rfl (Sk rfl rfl (decide_eq_true h196) rfl (WL.val (v := .bool true) rfl (Yl.pickT rfl (decide_eq_true h196) rfl) (WL.nil (Fin.then (Wp.cond1 rfl rfl (Wp.seq (Wp.region (Mv rfl rfl (Mv rfl rfl ?_))))))))))
  rcases Bool.eq_false_or_eq_true (r26) with h273 | h273
  refine WL.valG (v := .int .i64 r185) rfl rfl h273 rfl (Yl.move rfl) (WL.valG (v := .bool (decide (r185 = 0))) rfl rfl h273 rfl (Yl.kern rfl rfl (fun _ => by kernel_rfl)) (WL.val (v := .bool (decide (r185 = 0))) rfl (Yl.pickT rfl h273 rfl) (As rfl rfl (WL.nil (Fin.then (Wp.ret (Fin.thenR (Fin.res (res1 rfl rfl) ?_))))))))
  have H274 : Own w D w194 [] := H195.pick [] (by decide) rfl
  have e : w17_OwnerMoved l0 p1 p2 p3 = decide (r185 = 0) := Eq.trans (bnd_of hr27) (Eq.trans (bnd_of hr38) (Eq.trans (if_pos h47) (Eq.trans (bnd_of hr55) (Eq.trans (bnd_of hr69) (Eq.trans (if_pos h77) (Eq.trans (if_neg h78) (Eq.trans (if_pos h178) (Eq.trans (bnd_of hr186) (Eq.trans (if_neg h196) (if_pos h273))))))))))
  obtain rfl := e.symm.trans hr
  exact ⟨rfl, H274⟩
  refine Sk rfl rfl h273 rfl (Sk rfl rfl h273 rfl (WL.val (v := .bool false) rfl (Yl.pickF rfl h273 rfl) (As rfl rfl (WL.nil (Fin.then (Wp.ret (Fin.thenR (Fin.res (res1 rfl rfl) ?_))))))))
  have H275 : Own w D w194 [] := H195.pick [] (by decide) rfl
  have e : w17_OwnerMoved l0 p1 p2 p3 = false := Eq.trans (bnd_of hr27) (Eq.trans (bnd_of hr38) (Eq.trans (if_pos h47) (Eq.trans (bnd_of hr55) (Eq.trans (bnd_of hr69) (Eq.trans (if_pos h77) (Eq.trans (if_neg h78) (Eq.trans (if_pos h178) (Eq.trans (bnd_of hr186) (Eq.trans (if_neg h196) (ifF h273))))))))))
  obtain rfl := e.symm.trans hr
  exact ⟨rfl, H275⟩
  refine Wp.cond1 rfl (decide_eq_true h178) (Wp.seq (Wp.region (As rfl rfl (WL.nil (Fin.then (Wp.ret (Fin.thenR (Fin.res (res1 rfl rfl) ?_))))))))
  have H276 : Own w D w70 [] := H72.pick [] (by decide) rfl
  have e : w17_OwnerMoved l0 p1 p2 p3 = false := Eq.trans (bnd_of hr27) (Eq.trans (bnd_of hr38) (Eq.trans (if_pos h47) (Eq.trans (bnd_of hr55) (Eq.trans (bnd_of hr69) (Eq.trans (if_pos h77) (Eq.trans (if_neg h78) (if_neg h178)))))))
  obtain rfl := e.symm.trans hr
  exact ⟨rfl, H276⟩
  refine Sk rfl rfl (decide_eq_true h77) rfl (Sk rfl rfl (decide_eq_true h77) rfl (Sk rfl rfl (decide_eq_true h77) rfl (Sk rfl rfl (decide_eq_true h77) rfl (Sk rfl rfl (decide_eq_true h77) rfl (WL.skipU rfl rfl rfl (WL.skipU rfl rfl rfl (Sk rfl rfl (decide_eq_true h77) rfl (Sk rfl rfl (decide_eq_true h77) rfl (WL.val (v := .bool true) rfl (Yl.pickT rfl (decide_eq_true h77) rfl) (WL.nil (Fin.then (Wp.cond1 rfl rfl (Wp.seq (Wp.region (As rfl rfl (WL.nil (Fin.then (Wp.ret (Fin.thenR (Fin.res (res1 rfl rfl) ?_))))))))))))))))))))
  have H277 : Own w D w70 [] := H72.pick [] (by decide) rfl
  have e : w17_OwnerMoved l0 p1 p2 p3 = false := Eq.trans (bnd_of hr27) (Eq.trans (bnd_of hr38) (Eq.trans (if_pos h47) (Eq.trans (bnd_of hr55) (Eq.trans (bnd_of hr69) (if_neg h77)))))
  obtain rfl := e.symm.trans hr
  exact ⟨rfl, H277⟩
  refine Wp.cond1 rfl (decide_eq_true h47) (Wp.seq (Wp.region (Mv rfl rfl (As rfl rfl (WL.nil (Fin.then (Wp.ret (Fin.thenR (Fin.res (res1 rfl rfl) ?_)))))))))
  have H278 : Own w D w39 [] := H41.pick [] (by decide) rfl
  have e : w17_OwnerMoved l0 p1 p2 p3 = r26 := Eq.trans (bnd_of hr27) (Eq.trans (bnd_of hr38) (if_neg h47))
  obtain rfl := e.symm.trans hr
  exact ⟨rfl, H278⟩
end Go.Proofs.Ytcjjblkgbfaapaa
