/-
  op: the law OpReads
-/
import Derived.Test.YtcognlpfeoabgaaOw
namespace Go.Proofs.Ytcognlpfeoabgaa
open Go.RowKit
set_option linter.unusedVariables false
set_option linter.unusedSectionVars false

def w04_OpReads_L0 (l0 : List PairD) (l1 : List OpD) (r26 : Bool) (r36 : List PairD) (r37 : List ResultT) : List OpD → Bool → Bool
  | [], b54 => b54
  | x64 :: q56, b54 => if b54 = true then w04_OpReads_L0 l0 l1 r26 r36 r37 q56 true else bnd (op_Writes x64) fun yr79 => w04_OpReads_L0 l0 l1 r26 r36 r37 q56 yr79

def w04_OpReads (l0 : List PairD) (l1 : List OpD) : Bool :=
  bnd (w04_live) fun yr26 => bnd (op_Apply l0 l1) fun yr36 => if yr36.2.2 = 0 then bnd (w04_OpReads_L0 l0 l1 yr26 yr36.1 yr36.2.1 l1 false) fun sLrbbtL => if yr26 = true then bnd (op_CheckMap yr36.1) fun yr92 => if yr92 = 0 then if ((List.length yr36.2.1 : Nat) : Int) = ((List.length l1 : Nat) : Int) then if sLrbbtL = true then true else bnd (r04_SameMap yr36.1 l0) fun yr106 => yr106 else false else false else false else if yr26 = true then if ((List.length yr36.1 : Nat) : Int) = 0 then decide (((List.length yr36.2.1 : Nat) : Int) = 0) else false else false

set_option maxRecDepth 100000 in
theorem w04_OpReads_ok (w : World) (D : Nat → Prop) (A0 : Option Addr) (n0 c0 : Nat) (l0 : List PairD) (A1 : Option Addr) (n1 c1 : Nat) (l1 : List OpD) (r0 : Bool) (H : Own w D w []) (hx0 : Ro w D fun w' => Rds w' 2 A0 n0 (List.flatMap PairD.cells l0)) (hn0 : n0 = List.length l0) (hl0 : List.length l0 * 32 ≤ 211106232532992) (hx1 : Ro w D fun w' => Rds w' 6 A1 n1 (List.flatMap OpD.cells l1)) (hn1 : n1 = List.length l1) (hl1 : List.length l1 * 80 ≤ 211106232532992) (hh0 : List.length l0 * 32 ≤ 140737488351232) (hh1 : List.length l1 * 80 ≤ 140737488351232) (hr : w04_OpReads l0 l1 = r0) :
    Calls Try.prog 6 #[.slice A0 n0 c0, .slice A1 n1 c1] w (Ret fun v w' => v = .bool r0 ∧ Own w D w' []) := by
  subst hn0 hn1
  refine Calls.body (args := [.slice A0 (List.length l0) c0, .slice A1 (List.length l1) c1]) Try.func6 rfl rfl rfl ?_
  show Wp _ _ _ [(0, .slice A0 (List.length l0) c0), (1, .slice A1 (List.length l1) c1)] _ _
  refine Wp.seq (Wp.region (As rfl rfl (WL.nil (Fin.then (Wp.seq (Wp.region ?_))))))
  obtain ⟨r26, hr27⟩ : ∃ q, w04_live = q := ⟨_, rfl⟩
  obtain ⟨D21, HP22, ro23, bk24, rr25⟩ := Own.enter0 H
  refine WL.do rfl (Do.call Try.call10 rfl (w04_live_ok _ _ r26 HP22 hr27) ?_)
  rintro _ w28 ⟨rfl, HQ29⟩
  have H30 : Own w D w28 [] := bk24 _ _ HQ29
  refine As rfl rfl (WL.nil (Fin.then (Wp.seq (Wp.region (Mv rfl rfl (Mv rfl rfl ?_))))))
  obtain ⟨⟨r36, r37, r38⟩, hr39⟩ : ∃ q : (List PairD) × (List ResultT) × Int, op_Apply l0 l1 = q := ⟨_, rfl⟩
  obtain ⟨D31, HP32, ro33, bk34, rr35⟩ := Own.enter0 H30
  refine WL.do rfl (Do.call Try.call23 rfl (op_Apply_ok _ _ A0 (List.length l0) c0 l0 A1 (List.length l1) c1 l1 r36 r37 r38 HP32 (ro33 _ hx0) rfl (by omega) (ro33 _ hx1) rfl (by omega) (by first | omega | (simp only [List.length_cons, List.length_nil]; done) | (simp only [List.length_cons, List.length_nil]; omega)) hr39) ?_)
  rintro _ w40 ⟨A43, c44, A45, c46, d47, rfl, HQ41, hd48, hk49⟩
  have H42 : Own w D w40 [row A43 (List.length r36) c44 (List.flatMap PairD.cells r36) 48 2, row A45 (List.length r37) c46 (List.flatMap ResultD.cells d47) 50 3, sepL (List.flatMap ResultD.own d47)] := bk34 _ _ HQ41
  have hl50 := abs_len hd48
  have hb51 := H42.rowC (i := 0) rfl
  have hb52 := H42.rowC (i := 1) rfl
  replace hk49 : List.length r36 ≤ List.length l0 + List.length l1 := hk49
  refine Mv rfl rfl (Kn (v := .slice A43 (List.length r36) c44) rfl rfl rfl (fun _ => by kernel_rfl) (Kn (v := .slice A45 (List.length r37) c46) rfl rfl rfl (fun _ => by kernel_rfl) (Kn (v := .int .i64 r38) rfl rfl rfl (fun _ => by kernel_rfl) (As rfl rfl (As rfl rfl (As rfl rfl (WL.nil (Fin.then (Wp.seq (Wp.seq (Wp.region (Mv rfl rfl (WL.val (v := .bool (decide (¬ (r38 = 0)))) rfl (Yl.bool (e := !(decide (r38 = 0))) (Yl.kern rfl rfl (fun _ => by kernel_rfl)) decide_not.symm) (WL.nil (Fin.then ?_)))))))))))))))
  by_cases h53 : r38 = 0
  refine Wp.cond0 rfl (decide_eq_false (not_not_intro h53)) (Wp.skip (Fin.then (Wp.seq (Wp.region (As rfl rfl (WL.nil (Fin.then (Wp.seq (Wp.seq (Wp.region (Mv rfl rfl (Kn (v := .int .i64 ((List.length l1 : Nat) : Int)) rfl rfl rfl (fun _ => by kernel_rfl) (Mv rfl rfl (WL.nil (Fin.then (Wp.block ?_))))))))))))))))
  have H57 : Own w D w40 [row A43 (List.length r36) c44 (List.flatMap PairD.cells r36) 48 2, row A45 (List.length r37) c46 (List.flatMap ResultD.cells d47) 50 3, sepL (List.flatMap ResultD.own d47)] := H42.pick [0, 1, 2] (by decide) rfl
  refine Wp.loop (ι := Bool × Nat) (fun i => [(9, .bool i.1), (35, .int .i64 ((i.2 : Nat) : Int)), (34, .int .i64 ((List.length l1 : Nat) : Int)), (33, .slice A1 (List.length l1) c1), (7, .slice A45 (List.length r37) c46), (6, .slice A43 (List.length r36) c44), (5, .bool r26), (4, .bool false), (0, .slice A0 (List.length l0) c0), (1, .slice A1 (List.length l1) c1)]) (fun (i : Bool × Nat) w' => Own w D w' [row A43 (List.length r36) c44 (List.flatMap PairD.cells r36) 48 2, row A45 (List.length r37) c46 (List.flatMap ResultD.cells d47) 50 3, sepL (List.flatMap ResultD.own d47)] ∧ (i.2 ≤ List.length l1 ∧ w04_OpReads_L0 l0 l1 r26 r36 r37 l1 false = w04_OpReads_L0 l0 l1 r26 r36 r37 (List.drop i.2 l1) i.1)) (fun i => List.length l1 - i.2) (false, 0) ⟨rfl, rfl, rfl, rfl, rfl, rfl, rfl, rfl, rfl, rfl, trivial⟩ ⟨H57, (show 0 ≤ List.length l1 ∧ w04_OpReads_L0 l0 l1 r26 r36 r37 l1 false = w04_OpReads_L0 l0 l1 r26 r36 r37 (List.drop 0 l1) false from ⟨by omega, rfl⟩)⟩ ?_
  rintro ⟨b54, k55⟩ w58 ⟨H59, hf60⟩
  show Wp _ _ _ [(9, .bool b54), (35, .int .i64 ((k55 : Nat) : Int)), (34, .int .i64 ((List.length l1 : Nat) : Int)), (33, .slice A1 (List.length l1) c1), (7, .slice A45 (List.length r37) c46), (6, .slice A43 (List.length r36) c44), (5, .bool r26), (4, .bool false), (0, .slice A0 (List.length l0) c0), (1, .slice A1 (List.length l1) c1)] _ _
  replace H59 : Own w D w58 [row A43 (List.length r36) c44 (List.flatMap PairD.cells r36) 48 2, row A45 (List.length r37) c46 (List.flatMap ResultD.cells d47) 50 3, sepL (List.flatMap ResultD.own d47)] := H59
  replace hf60 : k55 ≤ List.length l1 ∧ w04_OpReads_L0 l0 l1 r26 r36 r37 l1 false = w04_OpReads_L0 l0 l1 r26 r36 r37 (List.drop k55 l1) b54 := hf60
  obtain ⟨hi62, hq61⟩ := hf60
  refine Wp.seq (Wp.region (Kn (v := .bool (decide (((k55 : Nat) : Int) < ((List.length l1 : Nat) : Int)))) rfl rfl rfl (fun _ => by kernel_rfl) (WL.nil (Fin.then (Wp.seq ?_)))))
  by_cases h63 : ((k55 : Nat) : Int) < ((List.length l1 : Nat) : Int)
  obtain ⟨x64, hx65⟩ := rds_at (ls := l1) (i := k55) OpD.len (by decide) (H59.ro hx1) (by first | omega | (simp; done) | (simp; omega))
  have hd66 := drop_at hx65
  refine Wp.cond1 rfl (decide_eq_true h63) (Wp.skip (Fin.then (Wp.seq (Wp.block (Wp.seq (Wp.region (WL.val (v := .pointer (some ⟨ab A1, ao A1 + k55 * 6, none⟩)) rfl (Yl.indexAddr (El24) rfl rfl ((H59.ro hx1).addr (i := k55) (by omega)) (by omega)) (WL.val (v := .agg (OpD.cells x64).toArray) rfl (Yl.load rfl (Lds.agg (cs := (OpD.cells x64)) Try.isAgg23 Try.sizeOf23 ((H59.ro hx1).elem OpD.len hx65 (by decide)))) ?_))))))))
  refine WL.do rfl (Do.newP (cs := [.int .i64 0, .string ⟨List.toArray ([])⟩, .string ⟨List.toArray ([])⟩, .string ⟨List.toArray ([])⟩, .string ⟨List.toArray ([])⟩, .int .i64 0]) (t := 23) H59 rfl rfl (fun _ => by kernel_rfl) ?_)
  intro g67 w68 H69
  replace H69 : Own w D w68 [blk g67 [.int .i64 0, .string ⟨List.toArray ([])⟩, .string ⟨List.toArray ([])⟩, .string ⟨List.toArray ([])⟩, .string ⟨List.toArray ([])⟩, .int .i64 0] 23, row A43 (List.length r36) c44 (List.flatMap PairD.cells r36) 48 2, row A45 (List.length r37) c46 (List.flatMap ResultD.cells d47) 50 3, sepL (List.flatMap ResultD.own d47)] := H69
  refine WL.do0 (Do.store (vs := (OpD.cells x64)) (o := 0) H69 rfl rfl Try.sizeOf23 rfl rfl rfl rfl ?_)
  intro w70 H71
  replace H71 : Own w D w70 [blk g67 (OpD.cells x64) 23, row A43 (List.length r36) c44 (List.flatMap PairD.cells r36) 48 2, row A45 (List.length r37) c46 (List.flatMap ResultD.cells d47) 50 3, sepL (List.flatMap ResultD.own d47)] := H71
  refine WL.nil (Fin.then (Wp.region (Mv rfl rfl (Mv rfl rfl ?_))))
  rcases Bool.eq_false_or_eq_true (b54) with h72 | h72
  refine Sk rfl rfl h72 rfl (Sk rfl rfl h72 rfl (WL.val (v := .bool true) rfl (Yl.pickT rfl h72 rfl) (As rfl rfl (WL.nil (Fin.blockN (Fin.then (Wp.region (WL.val (v := .int .i64 ((k55 + 1 : Nat) : Int)) rfl (Yl.int (e := IntKind.i64.wrap (((k55 : Nat) : Int) + 1)) (Yl.kern rfl rfl (fun _ => by kernel_rfl)) (by rw [IntWalk.i64_in _ (by omega)]; omega)) (Mv rfl rfl (WL.nil ?_))))))))))
  have H73 : Own w D w70 [row A43 (List.length r36) c44 (List.flatMap PairD.cells r36) 48 2, row A45 (List.length r37) c46 (List.flatMap ResultD.cells d47) 50 3, sepL (List.flatMap ResultD.own d47)] := H71.pick [1, 2, 3] (by decide) rfl
  exact Fin.round (true, k55 + 1) ⟨rfl, rfl, rfl, rfl, rfl, rfl, rfl, rfl, rfl, rfl, trivial⟩ ⟨H73, (show (k55 + 1) ≤ List.length l1 ∧ w04_OpReads_L0 l0 l1 r26 r36 r37 l1 false = w04_OpReads_L0 l0 l1 r26 r36 r37 (List.drop (k55 + 1) l1) true from ⟨by omega, Eq.trans (hq61) (Eq.trans (congrArg (fun q => w04_OpReads_L0 l0 l1 r26 r36 r37 q b54) hd66) (if_pos h72))⟩)⟩ (by show List.length l1 - (k55 + 1) < List.length l1 - k55; omega)
  refine WL.valG (v := .agg (OpD.cells x64).toArray) rfl rfl h72 rfl (Yl.load rfl (Lds.agg (cs := (OpD.cells x64)) Try.isAgg23 Try.sizeOf23 ((H71.cls (i := 0) rfl).lit (k := 0) (m := 6) rfl))) ?_
  obtain ⟨r79, hr80⟩ : ∃ q, op_Writes x64 = q := ⟨_, rfl⟩
  obtain ⟨D74, HP75, ro76, bk77, rr78⟩ := Own.enter0 H71
  refine WL.doG rfl rfl h72 rfl (Do.call Try.call21 rfl (op_Writes_ok _ _ x64 r79 HP75 hr80) ?_)
  rintro _ w81 ⟨rfl, HQ82⟩
  have H83 : Own w D w81 [blk g67 (OpD.cells x64) 23, row A43 (List.length r36) c44 (List.flatMap PairD.cells r36) 48 2, row A45 (List.length r37) c46 (List.flatMap ResultD.cells d47) 50 3, sepL (List.flatMap ResultD.own d47)] := bk77 _ _ HQ82
  refine WL.val (v := .bool r79) rfl (Yl.pickF rfl h72 rfl) (As rfl rfl (WL.nil (Fin.blockN (Fin.then (Wp.region (WL.val (v := .int .i64 ((k55 + 1 : Nat) : Int)) rfl (Yl.int (e := IntKind.i64.wrap (((k55 : Nat) : Int) + 1)) (Yl.kern rfl rfl (fun _ => by kernel_rfl)) (by rw [IntWalk.i64_in _ (by omega)]; omega)) (Mv rfl rfl (WL.nil ?_))))))))
  have H84 : Own w D w81 [row A43 (List.length r36) c44 (List.flatMap PairD.cells r36) 48 2, row A45 (List.length r37) c46 (List.flatMap ResultD.cells d47) 50 3, sepL (List.flatMap ResultD.own d47)] := H83.pick [1, 2, 3] (by decide) rfl
  exact Fin.round (r79, k55 + 1) ⟨rfl, rfl, rfl, rfl, rfl, rfl, rfl, rfl, rfl, rfl, trivial⟩ ⟨H84, (show (k55 + 1) ≤ List.length l1 ∧ w04_OpReads_L0 l0 l1 r26 r36 r37 l1 false = w04_OpReads_L0 l0 l1 r26 r36 r37 (List.drop (k55 + 1) l1) r79 from ⟨by omega, Eq.trans (hq61) (Eq.trans (congrArg (fun q => w04_OpReads_L0 l0 l1 r26 r36 r37 q b54) hd66) (Eq.trans (ifF h72) (bnd_of hr80)))⟩)⟩ (by show List.length l1 - (k55 + 1) < List.length l1 - k55; omega)
  refine Wp.cond0 rfl (decide_eq_false h63) (Wp.exit (Fin.thenX ?_))
  have hL85 : w04_OpReads_L0 l0 l1 r26 r36 r37 l1 false = b54 := Eq.trans (hq61) (congrArg (fun q => w04_OpReads_L0 l0 l1 r26 r36 r37 q b54) (drop_end (ls := l1) (i := k55) (by omega)))
  refine Fin.thenX (Fin.blockX (Fin.then (Wp.seq (Wp.region (Mv rfl rfl (Mv rfl rfl ?_))))))
  rcases Bool.eq_false_or_eq_true (r26) with h86 | h86
  refine WL.valG (v := .slice A43 (List.length r36) c44) rfl rfl h86 rfl (Yl.move rfl) ?_
  obtain ⟨r92, hr93⟩ : ∃ q, op_CheckMap r36 = q := ⟨_, rfl⟩
  obtain ⟨D87, HP88, ro89, bk90, rr91⟩ := Own.enter0 H59
  refine WL.doG rfl rfl h86 rfl (Do.call Try.call19 rfl (op_CheckMap_ok _ _ A43 (List.length r36) c44 r36 r92 HP88 (rr91 _ 0 _ rfl row_rds) rfl (by omega) hr93) ?_)
  rintro _ w94 ⟨rfl, HQ95⟩
  have H96 : Own w D w94 [row A43 (List.length r36) c44 (List.flatMap PairD.cells r36) 48 2, row A45 (List.length r37) c46 (List.flatMap ResultD.cells d47) 50 3, sepL (List.flatMap ResultD.own d47)] := bk90 _ _ HQ95
  refine WL.valG (v := .bool (decide (r92 = 0))) rfl rfl h86 rfl (Yl.kern rfl rfl (fun _ => by kernel_rfl)) (WL.val (v := .bool (decide (r92 = 0))) rfl (Yl.pickT rfl h86 rfl) (Mv rfl rfl ?_))
  by_cases h97 : r92 = 0
  refine WL.valG (v := .slice A45 (List.length r37) c46) rfl rfl (decide_eq_true h97) rfl (Yl.move rfl) (WL.valG (v := .int .i64 ((List.length r37 : Nat) : Int)) rfl rfl (decide_eq_true h97) rfl (Yl.kern rfl rfl (fun _ => by kernel_rfl)) (WL.valG (v := .slice A1 (List.length l1) c1) rfl rfl (decide_eq_true h97) rfl (Yl.move rfl) (WL.valG (v := .int .i64 ((List.length l1 : Nat) : Int)) rfl rfl (decide_eq_true h97) rfl (Yl.kern rfl rfl (fun _ => by kernel_rfl)) (WL.valG (v := .bool (decide (((List.length r37 : Nat) : Int) = ((List.length l1 : Nat) : Int)))) rfl rfl (decide_eq_true h97) rfl (Yl.kern rfl rfl (fun _ => by kernel_rfl)) (WL.val (v := .bool (decide (((List.length r37 : Nat) : Int) = ((List.length l1 : Nat) : Int)))) rfl (Yl.pickT rfl (decide_eq_true h97) rfl) (Mv rfl rfl ?_))))))
  by_cases h98 : ((List.length r37 : Nat) : Int) = ((List.length l1 : Nat) : Int)
  refine WL.valG (v := .bool b54) rfl rfl (decide_eq_true h98) rfl (Yl.move rfl) (WL.valG (v := .bool b54) rfl rfl (decide_eq_true h98) rfl (Yl.move rfl) ?_)
  rcases Bool.eq_false_or_eq_true (b54) with h99 | h99
  refine Sk rfl rfl h99 rfl (Sk rfl rfl h99 rfl (Sk rfl rfl h99 rfl (WL.valG (v := .bool true) rfl rfl (decide_eq_true h98) rfl (Yl.pickT rfl h99 rfl) (WL.val (v := .bool true) rfl (Yl.pickT rfl (decide_eq_true h98) rfl) (As rfl rfl (WL.nil (Fin.then (Wp.ret (Fin.res (res1 rfl rfl) ?_)))))))))
  have H100 : Own w D w94 [] := H96.pick [] (by decide) rfl
  have e : w04_OpReads l0 l1 = true := Eq.trans (bnd_of hr27) (Eq.trans (bnd_of hr39) (Eq.trans (if_pos h53) (Eq.trans (bnd_of hL85) (Eq.trans (if_pos h86) (Eq.trans (bnd_of hr93) (Eq.trans (if_pos h97) (Eq.trans (if_pos h98) (if_pos h99))))))))
  obtain rfl := e.symm.trans hr
  exact ⟨rfl, H100⟩
  refine WL.valG (v := .slice A43 (List.length r36) c44) rfl rfl h99 rfl (Yl.move rfl) (WL.valG (v := .slice A0 (List.length l0) c0) rfl rfl h99 rfl (Yl.move rfl) ?_)
  obtain ⟨r106, hr107⟩ : ∃ q, r04_SameMap r36 l0 = q := ⟨_, rfl⟩
  obtain ⟨D101, HP102, ro103, bk104, rr105⟩ := Own.enter0 H96
  refine WL.doG rfl rfl h99 rfl (Do.call Try.call25 rfl (r04_SameMap_ok _ _ A43 (List.length r36) c44 r36 A0 (List.length l0) c0 l0 r106 HP102 (rr105 _ 0 _ rfl row_rds) rfl (by omega) (ro103 _ hx0) rfl (by omega) hr107) ?_)
  rintro _ w108 ⟨rfl, HQ109⟩
  have H110 : Own w D w108 [row A43 (List.length r36) c44 (List.flatMap PairD.cells r36) 48 2, row A45 (List.length r37) c46 (List.flatMap ResultD.cells d47) 50 3, sepL (List.flatMap ResultD.own d47)] := bk104 _ _ HQ109
  refine WL.valG (v := .bool r106) rfl rfl (decide_eq_true h98) rfl (Yl.pickF rfl h99 rfl) (WL.val (v := .bool r106) rfl (Yl.pickT rfl (decide_eq_true h98) rfl) (As rfl rfl (WL.nil (Fin.then (Wp.ret (Fin.res (res1 rfl rfl) ?_))))))
  have H111 : Own w D w108 [] := H110.pick [] (by decide) rfl
  have e : w04_OpReads l0 l1 = r106 := Eq.trans (bnd_of hr27) (Eq.trans (bnd_of hr39) (Eq.trans (if_pos h53) (Eq.trans (bnd_of hL85) (Eq.trans (if_pos h86) (Eq.trans (bnd_of hr93) (Eq.trans (if_pos h97) (Eq.trans (if_pos h98) (Eq.trans (ifF h99) (bnd_of hr107)))))))))
  obtain rfl := e.symm.trans hr
  exact ⟨rfl, H111⟩
  refine Sk rfl rfl (decide_eq_false h98) rfl (Sk rfl rfl (decide_eq_false h98) rfl (WL.skipU rfl rfl rfl (WL.skipU rfl rfl rfl (WL.skipU rfl rfl rfl (Sk rfl rfl (decide_eq_false h98) rfl (WL.val (v := .bool false) rfl (Yl.pickF rfl (decide_eq_false h98) rfl) (As rfl rfl (WL.nil (Fin.then (Wp.ret (Fin.res (res1 rfl rfl) ?_)))))))))))
  have H112 : Own w D w94 [] := H96.pick [] (by decide) rfl
  have e : w04_OpReads l0 l1 = false := Eq.trans (bnd_of hr27) (Eq.trans (bnd_of hr39) (Eq.trans (if_pos h53) (Eq.trans (bnd_of hL85) (Eq.trans (if_pos h86) (Eq.trans (bnd_of hr93) (Eq.trans (if_pos h97) (if_neg h98)))))))
  obtain rfl := e.symm.trans hr
  exact ⟨rfl, H112⟩
  refine Sk rfl rfl (decide_eq_false h97) rfl (Sk rfl rfl (decide_eq_false h97) rfl (Sk rfl rfl (decide_eq_false h97) rfl (Sk rfl rfl (decide_eq_false h97) rfl (Sk rfl rfl (decide_eq_false h97) rfl (WL.val (v := .bool false) rfl (Yl.pickF rfl (decide_eq_false h97) rfl) (Mv rfl rfl (Sk rfl rfl rfl rfl (Sk rfl rfl rfl rfl (WL.skipU rfl rfl rfl (WL.skipU rfl rfl rfl (WL.skipU rfl rfl rfl (Sk rfl rfl rfl rfl (WL.val (v := .bool false) rfl (Yl.pickF rfl rfl rfl) (As rfl rfl (WL.nil (Fin.then (Wp.ret (Fin.res (res1 rfl rfl) ?_))))))))))))))))))
  have H113 : Own w D w94 [] := H96.pick [] (by decide) rfl
  have e : w04_OpReads l0 l1 = false := Eq.trans (bnd_of hr27) (Eq.trans (bnd_of hr39) (Eq.trans (if_pos h53) (Eq.trans (bnd_of hL85) (Eq.trans (if_pos h86) (Eq.trans (bnd_of hr93) (if_neg h97))))))
  obtain rfl := e.symm.trans hr
  exact ⟨rfl, H113⟩
  refine Sk rfl rfl h86 rfl (Sk rfl rfl h86 rfl (Sk rfl rfl h86 rfl (WL.val (v := .bool false) rfl (Yl.pickF rfl h86 rfl) (Mv rfl rfl (Sk rfl rfl rfl rfl (Sk rfl rfl rfl rfl (Sk rfl rfl rfl rfl (Sk rfl rfl rfl rfl (Sk rfl rfl rfl rfl (WL.val (v := .bool false) rfl (Yl.pickF rfl rfl rfl) (Mv rfl rfl (Sk rfl rfl rfl rfl (Sk rfl rfl rfl rfl (WL.skipU rfl rfl rfl (WL.skipU rfl rfl rfl (WL.skipU rfl rfl rfl (Sk rfl rfl rfl rfl (WL.val (v := .bool false) rfl (Yl.pickF rfl rfl rfl) (As rfl rfl (WL.nil (Fin.then (Wp.ret (Fin.res (res1 rfl rfl) ?_)))))))))))))))))))))))
  have H114 : Own w D w58 [] := H59.pick [] (by decide) rfl
  have e : w04_OpReads l0 l1 = false := Eq.trans (bnd_of hr27) (Eq.trans (bnd_of hr39) (Eq.trans (if_pos h53) (Eq.trans (bnd_of hL85) (ifF h86))))
  obtain rfl := e.symm.trans hr
  exact ⟨rfl, H114⟩
  refine Wp.cond1 rfl (decide_eq_true h53) (Wp.seq (Wp.region (Mv rfl rfl (Mv rfl rfl ?_))))
  rcases Bool.eq_false_or_eq_true (r26) with h115 | h115
  refine WL.valG (v := .slice A43 (List.length r36) c44) rfl rfl h115 rfl (Yl.move rfl) (WL.valG (v := .int .i64 ((List.length r36 : Nat) : Int)) rfl rfl h115 rfl (Yl.kern rfl rfl (fun _ => by kernel_rfl)) (WL.valG (v := .bool (decide (((List.length r36 : Nat) : Int) = 0))) rfl rfl h115 rfl (Yl.kern rfl rfl (fun _ => by kernel_rfl)) (WL.val (v := .bool (decide (((List.length r36 : Nat) : Int) = 0))) rfl (Yl.pickT rfl h115 rfl) (Mv rfl rfl ?_))))
  by_cases h116 : ((List.length r36 : Nat) : Int) = 0
  refine WL.valG (v := .slice A45 (List.length r37) c46) rfl rfl (decide_eq_true h116) rfl (Yl.move rfl) (WL.valG (v := .int .i64 ((List.length r37 : Nat) : Int)) rfl rfl (decide_eq_true h116) rfl (Yl.kern rfl rfl (fun _ => by kernel_rfl)) (WL.valG (v := .bool (decide (((List.length r37 : Nat) : Int) = 0))) rfl rfl (decide_eq_true h116) rfl (Yl.kern rfl rfl (fun _ => by kernel_rfl)) (WL.val (v := .bool (decide (((List.length r37 : Nat) : Int) = 0))) rfl (Yl.pickT rfl (decide_eq_true h116) rfl) (As rfl rfl (WL.nil (Fin.then (Wp.ret (Fin.thenR (Fin.res (res1 rfl rfl) ?_)))))))))
  have H117 : Own w D w40 [] := H42.pick [] (by decide) rfl
  have e : w04_OpReads l0 l1 = decide (((List.length r37 : Nat) : Int) = 0) := Eq.trans (bnd_of hr27) (Eq.trans (bnd_of hr39) (Eq.trans (if_neg h53) (Eq.trans (if_pos h115) (if_pos h116))))
  obtain rfl := e.symm.trans hr
  exact ⟨rfl, H117⟩
  refine Sk rfl rfl (decide_eq_false h116) rfl (Sk rfl rfl (decide_eq_false h116) rfl (Sk rfl rfl (decide_eq_false h116) rfl (WL.val (v := .bool false) rfl (Yl.pickF rfl (decide_eq_false h116) rfl) (As rfl rfl (WL.nil (Fin.then (Wp.ret (Fin.thenR (Fin.res (res1 rfl rfl) ?_)))))))))
  have H118 : Own w D w40 [] := H42.pick [] (by decide) rfl
  have e : w04_OpReads l0 l1 = false := Eq.trans (bnd_of hr27) (Eq.trans (bnd_of hr39) (Eq.trans (if_neg h53) (Eq.trans (if_pos h115) (if_neg h116))))
  obtain rfl := e.symm.trans hr
  exact ⟨rfl, H118⟩
  refine Sk rfl rfl h115 rfl (Sk rfl rfl h115 rfl (Sk rfl rfl h115 rfl (WL.val (v := .bool false) rfl (Yl.pickF rfl h115 rfl) (Mv rfl rfl (Sk rfl rfl rfl rfl (Sk rfl rfl rfl rfl (Sk rfl rfl rfl rfl (WL.val (v := .bool false) rfl (Yl.pickF rfl rfl rfl) (As rfl rfl (WL.nil (Fin.then (Wp.ret (Fin.thenR (Fin.res (res1 rfl rfl) ?_))))))))))))))
  have H119 : Own w D w40 [] := H42.pick [] (by decide) rfl
  have e : w04_OpReads l0 l1 = false := Eq.trans (bnd_of hr27) (Eq.trans (bnd_of hr39) (Eq.trans (if_neg h53) (ifF h115)))
  obtain rfl := e.symm.trans hr
  exact ⟨rfl, H119⟩
end Go.Proofs.Ytcognlpfeoabgaa
