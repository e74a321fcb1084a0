/-
  net: the law's live, NetOrder.
-/
import Derived.Test.YtbflloaamnphkaaNb
import Derived.Test.YtbflloaamnphkaaKh
namespace Go.Proofs.Ytbflloaamnphkaa
open Go.RowKit
set_option linter.unusedVariables false
set_option linter.unusedSectionVars false

theorem El49 : Elem Try.prog 49 9 1 16 := elem_of (z := .string ⟨List.toArray ([])⟩) Try.underlying49 (by kernel_rfl) rfl (by decide)

theorem keys2 {ds : List Lt} {a b c d : Int} {x y : List UInt8} (h : keys ds = [(a, b, x), (c, d, y)]) : ∃ A A' k k', ds = [Lt.mk a b A k x, Lt.mk c d A' k' y] := by
  match ds, h with
  | [p, q], h =>
    obtain ⟨p1, p2, p3, p4, p5⟩ := p
    obtain ⟨q1, q2, q3, q4, q5⟩ := q
    simp only [keys, List.map_cons, List.map_nil, Lt.key, List.cons.injEq, Prod.mk.injEq, and_true] at h
    obtain ⟨⟨rfl, rfl, rfl⟩, rfl, rfl, rfl⟩ := h
    exact ⟨p3, q3, p4, q4, rfl⟩

set_option maxRecDepth 100000 in
theorem live_ok  (w : World) (D : Nat → Prop) (H : Own w D w [])  :
    Calls Try.prog 5 #[] w (Ret fun v w' => v = .bool true ∧ Own w D w' []) := by
  refine Calls.body (args := []) Try.func5 rfl rfl rfl ?_
  show Wp _ _ _ [] _ _
  refine Wp.seq ?_
  refine Wp.region ?_
  refine WL.val (v := .bool false) rfl (Yl.assign rfl) ?_
  refine WL.nil ?_
  refine Fin.then ?_
  refine Wp.seq ?_
  refine Wp.region ?_
  obtain ⟨D1, HP2, ro3, bk4, rr5⟩ := Own.enter (L1 := []) (L2 := []) H
  refine WL.do rfl (Do.call Try.call6 rfl (New_ok _ _ HP2) ?_)
  rintro _ w6 ⟨h8, rfl, HQ7⟩
  have H9 : Own w D w6 [net h8 ([])] := bk4 _ _ HQ7
  refine WL.val (v := .pointer (some ⟨h8, 0, none⟩)) rfl (Yl.assign rfl) ?_
  refine WL.nil ?_
  refine Fin.then ?_
  refine Wp.seq ?_
  refine Wp.seq ?_
  refine Wp.region ?_
  refine WL.val (v := .pointer (some ⟨h8, 0, none⟩)) rfl (Yl.move rfl) ?_
  refine WL.val (v := .bool false) rfl (Yl.kern rfl rfl (fun _ => by kernel_rfl)) ?_
  refine WL.nil ?_
  refine Fin.then ?_
  refine Wp.cond0 rfl rfl ?_
  refine Wp.skip ?_
  refine Fin.then ?_
  refine Wp.seq ?_
  refine Wp.region ?_
  refine WL.val (v := .pointer (some ⟨h8, 0, none⟩)) rfl (Yl.move rfl) ?_
  refine WL.do rfl (Do.newRow (cs := [.int .u8 97]) (t := 5) (sz := 1) (m := 1) H9 rfl rfl (fun _ => by kernel_rfl) rfl (by decide) ?_)
  intro A10 w11 H12
  replace H12 : Own w D w11 [row A10 1 1 (List.flatMap eB ([97])) 5 1, net h8 ([])] := H12
  refine WL.do rfl (Do.mark Try.underlying32 Try.underlying5 H12 (by omega) rfl ?_)
  intro w13 H14
  replace H14 : Own w D w13 [row A10 1 1 (List.flatMap eB ([97])) 5 1, net h8 ([])] := H14
  have H15 : Own w D w13 [net h8 ([]), row A10 1 1 (List.flatMap eB ([97])) 5 1] := H14.pick [1, 0] (by decide) rfl
  obtain ⟨D16, HP17, ro18, bk19, rr20⟩ := Own.enter (L1 := [net h8 ([])]) (L2 := [row A10 1 1 (List.flatMap eB ([97])) 5 1]) H15
  refine WL.do rfl (Do.call Try.call7 rfl (Send_put h8 ([]) 1 0 A10 1 ([97]) _ _ HP17 (rr20 _ 0 _ rfl row_rds) (by first | omega | (simp; done) | (simp; omega)) (by first | omega | (simp; done) | (simp; omega)) (by first | omega | (simp; done) | (simp; omega)) (by first | omega | (simp; done) | (simp; omega))) ?_)
  rintro _ w21 ⟨rfl, A23, c24, HQ22⟩
  have H25 : Own w D w21 [net h8 ([(Lt.mk 1 0 A23 c24 ([97]))]), row A10 1 1 (List.flatMap eB ([97])) 5 1] := bk19 _ _ HQ22
  refine WL.nil ?_
  refine Fin.then ?_
  refine Wp.seq ?_
  refine Wp.region ?_
  refine WL.val (v := .pointer (some ⟨h8, 0, none⟩)) rfl (Yl.move rfl) ?_
  refine WL.do rfl (Do.newRow (cs := [.int .u8 98]) (t := 5) (sz := 1) (m := 1) H25 rfl rfl (fun _ => by kernel_rfl) rfl (by decide) ?_)
  intro A26 w27 H28
  replace H28 : Own w D w27 [row A26 1 1 (List.flatMap eB ([98])) 5 1, net h8 ([(Lt.mk 1 0 A23 c24 ([97]))]), row A10 1 1 (List.flatMap eB ([97])) 5 1] := H28
  refine WL.do rfl (Do.mark Try.underlying32 Try.underlying5 H28 (by omega) rfl ?_)
  intro w29 H30
  replace H30 : Own w D w29 [row A26 1 1 (List.flatMap eB ([98])) 5 1, net h8 ([(Lt.mk 1 0 A23 c24 ([97]))]), row A10 1 1 (List.flatMap eB ([97])) 5 1] := H30
  have H31 : Own w D w29 [net h8 ([(Lt.mk 1 0 A23 c24 ([97]))]), row A26 1 1 (List.flatMap eB ([98])) 5 1, row A10 1 1 (List.flatMap eB ([97])) 5 1] := H30.pick [1, 0, 2] (by decide) rfl
  obtain ⟨D32, HP33, ro34, bk35, rr36⟩ := Own.enter (L1 := [net h8 ([(Lt.mk 1 0 A23 c24 ([97]))])]) (L2 := [row A26 1 1 (List.flatMap eB ([98])) 5 1, row A10 1 1 (List.flatMap eB ([97])) 5 1]) H31
  refine WL.do rfl (Do.call Try.call7 rfl (Send_put h8 ([(Lt.mk 1 0 A23 c24 ([97]))]) 2 0 A26 1 ([98]) _ _ HP33 (rr36 _ 0 _ rfl row_rds) (by first | omega | (simp; done) | (simp; omega)) (by first | omega | (simp; done) | (simp; omega)) (by first | omega | (simp; done) | (simp; omega)) (by first | omega | (simp; done) | (simp; omega))) ?_)
  rintro _ w37 ⟨rfl, A39, c40, HQ38⟩
  have H41 : Own w D w37 [net h8 ([(Lt.mk 1 0 A23 c24 ([97])), (Lt.mk 2 0 A39 c40 ([98]))]), row A26 1 1 (List.flatMap eB ([98])) 5 1, row A10 1 1 (List.flatMap eB ([97])) 5 1] := bk35 _ _ HQ38
  refine WL.nil ?_
  refine Fin.then ?_
  refine Wp.seq ?_
  refine Wp.region ?_
  refine WL.val (v := .pointer (some ⟨h8, 0, none⟩)) rfl (Yl.move rfl) ?_
  obtain ⟨D42, HP43, ro44, bk45, rr46⟩ := Own.enter (L1 := [net h8 ([(Lt.mk 1 0 A23 c24 ([97])), (Lt.mk 2 0 A39 c40 ([98]))])]) (L2 := [row A26 1 1 (List.flatMap eB ([98])) 5 1, row A10 1 1 (List.flatMap eB ([97])) 5 1]) H41
  refine WL.do rfl (Do.call Try.call12 rfl (Double_put h8 0 ([(Lt.mk 1 0 A23 c24 ([97])), (Lt.mk 2 0 A39 c40 ([98]))]) (Lt.mk 1 0 A23 c24 ([97])) _ _ HP43 rfl (by first | omega | (simp; done) | (simp; omega)) (by first | omega | (simp; done) | (simp; omega))) ?_)
  rintro _ w47 ⟨rfl, A49, c50, HQ48⟩
  have H51 : Own w D w47 [net h8 ([(Lt.mk 1 0 A23 c24 ([97])), (Lt.mk 2 0 A39 c40 ([98])), (Lt.mk 1 0 A49 c50 ([97]))]), row A26 1 1 (List.flatMap eB ([98])) 5 1, row A10 1 1 (List.flatMap eB ([97])) 5 1] := bk45 _ _ HQ48
  refine WL.val (v := .int .i64 0) rfl (Yl.assign rfl) ?_
  refine WL.nil ?_
  refine Fin.then ?_
  refine Wp.seq ?_
  refine Wp.region ?_
  refine WL.val (v := .pointer (some ⟨h8, 0, none⟩)) rfl (Yl.move rfl) ?_
  obtain ⟨D52, HP53, ro54, bk55, rr56⟩ := Own.enter (L1 := [net h8 ([(Lt.mk 1 0 A23 c24 ([97])), (Lt.mk 2 0 A39 c40 ([98])), (Lt.mk 1 0 A49 c50 ([97]))])]) (L2 := [row A26 1 1 (List.flatMap eB ([98])) 5 1, row A10 1 1 (List.flatMap eB ([97])) 5 1]) H51
  refine WL.do rfl (Do.call Try.call9 rfl (Take_ok h8 1 ([(Lt.mk 1 0 A23 c24 ([97])), (Lt.mk 2 0 A39 c40 ([98])), (Lt.mk 1 0 A49 c50 ([97]))]) (Lt.mk 2 0 A39 c40 ([98])) _ _ HP53 rfl (by first | omega | (simp; done) | (simp; omega))) ?_)
  rintro _ w57 ⟨rfl, HQ58⟩
  have H59 : Own w D w57 [net h8 ([(Lt.mk 1 0 A23 c24 ([97])), (Lt.mk 1 0 A49 c50 ([97]))]), row A39 (List.length ([98])) c40 (List.flatMap eB ([98])) 5 1, row A26 1 1 (List.flatMap eB ([98])) 5 1, row A10 1 1 (List.flatMap eB ([97])) 5 1] := bk55 _ _ HQ58
  refine WL.val (v := .tuple #[.agg #[.int .i64 2, .int .i64 0, .slice A39 (List.length ([98])) c40], .int .i64 0]) rfl (Yl.move rfl) ?_
  refine WL.val (v := .agg #[.int .i64 2, .int .i64 0, .slice A39 (List.length ([98])) c40]) rfl (Yl.kern rfl rfl (fun _ => by kernel_rfl)) ?_
  refine WL.val (v := .int .i64 0) rfl (Yl.kern rfl rfl (fun _ => by kernel_rfl)) ?_
  refine WL.do rfl (Do.newP (cs := [.int .i64 0, .int .i64 0, .slice none 0 0]) (t := 37) H59 rfl rfl (fun _ => by kernel_rfl) ?_)
  intro g60 w61 H62
  replace H62 : Own w D w61 [blk g60 [.int .i64 0, .int .i64 0, .slice none 0 0] 37, net h8 ([(Lt.mk 1 0 A23 c24 ([97])), (Lt.mk 1 0 A49 c50 ([97]))]), row A39 (List.length ([98])) c40 (List.flatMap eB ([98])) 5 1, row A26 1 1 (List.flatMap eB ([98])) 5 1, row A10 1 1 (List.flatMap eB ([97])) 5 1] := H62
  refine WL.do0 (Do.store (vs := [.int .i64 2, .int .i64 0, .slice A39 (List.length ([98])) c40]) (o := 0) H62 rfl rfl Try.sizeOf37 rfl rfl rfl rfl ?_)
  intro w63 H64
  replace H64 : Own w D w63 [blk g60 [.int .i64 2, .int .i64 0, .slice A39 (List.length ([98])) c40] 37, net h8 ([(Lt.mk 1 0 A23 c24 ([97])), (Lt.mk 1 0 A49 c50 ([97]))]), row A39 (List.length ([98])) c40 (List.flatMap eB ([98])) 5 1, row A26 1 1 (List.flatMap eB ([98])) 5 1, row A10 1 1 (List.flatMap eB ([97])) 5 1] := H64
  refine WL.val (v := .int .i64 0) rfl (Yl.assign rfl) ?_
  refine WL.nil ?_
  refine Fin.then ?_
  refine Wp.seq ?_
  refine Wp.region ?_
  refine WL.val (v := .pointer (some ⟨h8, 0, none⟩)) rfl (Yl.move rfl) ?_
  have H65 : Own w D w63 [net h8 ([(Lt.mk 1 0 A23 c24 ([97])), (Lt.mk 1 0 A49 c50 ([97]))]), blk g60 [.int .i64 2, .int .i64 0, .slice A39 (List.length ([98])) c40] 37, row A39 (List.length ([98])) c40 (List.flatMap eB ([98])) 5 1, row A26 1 1 (List.flatMap eB ([98])) 5 1, row A10 1 1 (List.flatMap eB ([97])) 5 1] := H64.pick [1, 0, 2, 3, 4] (by decide) rfl
  obtain ⟨D66, HP67, ro68, bk69, rr70⟩ := Own.enter (L1 := [net h8 ([(Lt.mk 1 0 A23 c24 ([97])), (Lt.mk 1 0 A49 c50 ([97]))])]) (L2 := [blk g60 [.int .i64 2, .int .i64 0, .slice A39 (List.length ([98])) c40] 37, row A39 (List.length ([98])) c40 (List.flatMap eB ([98])) 5 1, row A26 1 1 (List.flatMap eB ([98])) 5 1, row A10 1 1 (List.flatMap eB ([97])) 5 1]) H65
  refine WL.do rfl (Do.call Try.call9 rfl (Take_none h8 ([(Lt.mk 1 0 A23 c24 ([97])), (Lt.mk 1 0 A49 c50 ([97]))]) 5 _ _ HP67 (by first | omega | (simp; done) | (simp; omega))) ?_)
  rintro _ w71 ⟨rfl, HQ72⟩
  have H73 : Own w D w71 [net h8 ([(Lt.mk 1 0 A23 c24 ([97])), (Lt.mk 1 0 A49 c50 ([97]))]), blk g60 [.int .i64 2, .int .i64 0, .slice A39 (List.length ([98])) c40] 37, row A39 (List.length ([98])) c40 (List.flatMap eB ([98])) 5 1, row A26 1 1 (List.flatMap eB ([98])) 5 1, row A10 1 1 (List.flatMap eB ([97])) 5 1] := bk69 _ _ HQ72
  refine WL.val (v := .tuple #[.agg #[.int .i64 0, .int .i64 0, .slice none 0 0], .int .i64 5]) rfl (Yl.move rfl) ?_
  refine WL.val (v := .agg #[.int .i64 0, .int .i64 0, .slice none 0 0]) rfl (Yl.kern rfl rfl (fun _ => by kernel_rfl)) ?_
  refine WL.val (v := .int .i64 5) rfl (Yl.kern rfl rfl (fun _ => by kernel_rfl)) ?_
  refine WL.do rfl (Do.newP (cs := [.int .i64 0, .int .i64 0, .slice none 0 0]) (t := 37) H73 rfl rfl (fun _ => by kernel_rfl) ?_)
  intro g74 w75 H76
  replace H76 : Own w D w75 [blk g74 [.int .i64 0, .int .i64 0, .slice none 0 0] 37, net h8 ([(Lt.mk 1 0 A23 c24 ([97])), (Lt.mk 1 0 A49 c50 ([97]))]), blk g60 [.int .i64 2, .int .i64 0, .slice A39 (List.length ([98])) c40] 37, row A39 (List.length ([98])) c40 (List.flatMap eB ([98])) 5 1, row A26 1 1 (List.flatMap eB ([98])) 5 1, row A10 1 1 (List.flatMap eB ([97])) 5 1] := H76
  refine WL.do0 (Do.store (vs := [.int .i64 0, .int .i64 0, .slice none 0 0]) (o := 0) H76 rfl rfl Try.sizeOf37 rfl rfl rfl rfl ?_)
  intro w77 H78
  replace H78 : Own w D w77 [blk g74 [.int .i64 0, .int .i64 0, .slice none 0 0] 37, net h8 ([(Lt.mk 1 0 A23 c24 ([97])), (Lt.mk 1 0 A49 c50 ([97]))]), blk g60 [.int .i64 2, .int .i64 0, .slice A39 (List.length ([98])) c40] 37, row A39 (List.length ([98])) c40 (List.flatMap eB ([98])) 5 1, row A26 1 1 (List.flatMap eB ([98])) 5 1, row A10 1 1 (List.flatMap eB ([97])) 5 1] := H78
  refine WL.val (v := .int .i64 5) rfl (Yl.assign rfl) ?_
  refine WL.nil ?_
  refine Fin.then ?_
  refine Wp.seq ?_
  refine Wp.region ?_
  refine WL.val (v := .pointer (some ⟨h8, 0, none⟩)) rfl (Yl.move rfl) ?_
  have H79 : Own w D w77 [net h8 ([(Lt.mk 1 0 A23 c24 ([97])), (Lt.mk 1 0 A49 c50 ([97]))]), blk g74 [.int .i64 0, .int .i64 0, .slice none 0 0] 37, blk g60 [.int .i64 2, .int .i64 0, .slice A39 (List.length ([98])) c40] 37, row A39 (List.length ([98])) c40 (List.flatMap eB ([98])) 5 1, row A26 1 1 (List.flatMap eB ([98])) 5 1, row A10 1 1 (List.flatMap eB ([97])) 5 1] := H78.pick [1, 0, 2, 3, 4, 5] (by decide) rfl
  obtain ⟨D80, HP81, ro82, bk83, rr84⟩ := Own.enter (L1 := [net h8 ([(Lt.mk 1 0 A23 c24 ([97])), (Lt.mk 1 0 A49 c50 ([97]))])]) (L2 := [blk g74 [.int .i64 0, .int .i64 0, .slice none 0 0] 37, blk g60 [.int .i64 2, .int .i64 0, .slice A39 (List.length ([98])) c40] 37, row A39 (List.length ([98])) c40 (List.flatMap eB ([98])) 5 1, row A26 1 1 (List.flatMap eB ([98])) 5 1, row A10 1 1 (List.flatMap eB ([97])) 5 1]) H79
  refine WL.do rfl (Do.call Try.call19 rfl (All_ok h8 ([(Lt.mk 1 0 A23 c24 ([97])), (Lt.mk 1 0 A49 c50 ([97]))]) _ _ HP81 (by simp) (fun l hl => by simp only [List.mem_cons, List.not_mem_nil, or_false] at hl; rcases hl with rfl | rfl <;> simp)) ?_)
  rintro _ w85 ⟨A87, ds88, rfl, hd89, hk90, HQ86⟩
  have H91 : Own w D w85 [net h8 ([(Lt.mk 1 0 A23 c24 ([97])), (Lt.mk 1 0 A49 c50 ([97]))]), row A87 2 2 (List.flatMap Lt.cells ds88) 37 3, sepL (List.map Lt.own ds88), blk g74 [.int .i64 0, .int .i64 0, .slice none 0 0] 37, blk g60 [.int .i64 2, .int .i64 0, .slice A39 (List.length ([98])) c40] 37, row A39 (List.length ([98])) c40 (List.flatMap eB ([98])) 5 1, row A26 1 1 (List.flatMap eB ([98])) 5 1, row A10 1 1 (List.flatMap eB ([97])) 5 1] := bk83 _ _ HQ86
  obtain ⟨A92, B93, c94, d95, rfl⟩ := keys2 hk90
  replace H91 : Own w D w85 [net h8 ([(Lt.mk 1 0 A23 c24 ([97])), (Lt.mk 1 0 A49 c50 ([97]))]), row A87 2 2 (List.flatMap Lt.cells ([(Lt.mk 1 0 A92 c94 ([97])), (Lt.mk 1 0 B93 d95 ([97]))])) 37 3, sepL (List.map Lt.own ([(Lt.mk 1 0 A92 c94 ([97])), (Lt.mk 1 0 B93 d95 ([97]))])), blk g74 [.int .i64 0, .int .i64 0, .slice none 0 0] 37, blk g60 [.int .i64 2, .int .i64 0, .slice A39 (List.length ([98])) c40] 37, row A39 (List.length ([98])) c40 (List.flatMap eB ([98])) 5 1, row A26 1 1 (List.flatMap eB ([98])) 5 1, row A10 1 1 (List.flatMap eB ([97])) 5 1] := H91
  refine WL.val (v := .slice A87 2 2) rfl (Yl.assign rfl) ?_
  refine WL.nil ?_
  refine Fin.then ?_
  refine Wp.seq ?_
  refine Wp.region ?_
  refine WL.val (v := .int .i64 0) rfl (Yl.move rfl) ?_
  refine WL.val (v := .bool true) rfl (Yl.kern rfl rfl (fun _ => by kernel_rfl)) ?_
  refine WL.val (v := .bool true) rfl (Yl.move rfl) ?_
  refine WL.valG (v := .pointer (some ⟨g60, 0, none⟩)) rfl rfl rfl rfl (Yl.kern rfl rfl (fun _ => by kernel_rfl)) ?_
  refine WL.valG (v := .int .i64 2) rfl rfl rfl rfl (Yl.load rfl (Lds.one Try.isAgg3 (Cls.of (H91.cls (i := 4) rfl) rfl))) ?_
  refine WL.valG (v := .bool true) rfl rfl rfl rfl (Yl.kern rfl rfl (fun _ => by kernel_rfl)) ?_
  refine WL.val (v := .bool true) rfl (Yl.pickT rfl rfl rfl) ?_
  refine WL.val (v := .bool true) rfl (Yl.move rfl) ?_
  refine WL.valG (v := .pointer (some ⟨g60, 2, none⟩)) rfl rfl rfl rfl (Yl.kern rfl rfl (fun _ => by kernel_rfl)) ?_
  refine WL.valG (v := .slice A39 (List.length ([98])) c40) rfl rfl rfl rfl (Yl.load rfl (Lds.one Try.isAgg32 (Cls.of (H91.cls (i := 4) rfl) rfl))) ?_
  refine WL.valG (v := .string ⟨List.toArray ([98])⟩) rfl rfl rfl rfl (Yl.toStringE (l := ([98])) Try.underlying32 Try.underlying5 Try.underlying9 (H91.rds (i := 5) rfl) rfl) ?_
  refine WL.valG (v := .bool true) rfl rfl rfl rfl (Yl.bool (e := decide (([98]) = ([98]))) (Yl.strEq rfl rfl) (by simp)) ?_
  refine WL.val (v := .bool true) rfl (Yl.pickT rfl rfl rfl) ?_
  refine WL.val (v := .bool true) rfl (Yl.move rfl) ?_
  refine WL.valG (v := .int .i64 0) rfl rfl rfl rfl (Yl.move rfl) ?_
  refine WL.valG (v := .bool true) rfl rfl rfl rfl (Yl.kern rfl rfl (fun _ => by kernel_rfl)) ?_
  refine WL.val (v := .bool true) rfl (Yl.pickT rfl rfl rfl) ?_
  refine WL.val (v := .bool true) rfl (Yl.move rfl) ?_
  refine WL.valG (v := .int .i64 5) rfl rfl rfl rfl (Yl.move rfl) ?_
  refine WL.valG (v := .bool true) rfl rfl rfl rfl (Yl.kern rfl rfl (fun _ => by kernel_rfl)) ?_
  refine WL.val (v := .bool true) rfl (Yl.pickT rfl rfl rfl) ?_
  refine WL.val (v := .bool true) rfl (Yl.move rfl) ?_
  refine WL.valG (v := .pointer (some ⟨h8, 0, none⟩)) rfl rfl rfl rfl (Yl.move rfl) ?_
  obtain ⟨D96, HP97, ro98, bk99, rr100⟩ := Own.enter (L1 := [net h8 ([(Lt.mk 1 0 A23 c24 ([97])), (Lt.mk 1 0 A49 c50 ([97]))])]) (L2 := [row A87 2 2 (List.flatMap Lt.cells ([(Lt.mk 1 0 A92 c94 ([97])), (Lt.mk 1 0 B93 d95 ([97]))])) 37 3, sepL (List.map Lt.own ([(Lt.mk 1 0 A92 c94 ([97])), (Lt.mk 1 0 B93 d95 ([97]))])), blk g74 [.int .i64 0, .int .i64 0, .slice none 0 0] 37, blk g60 [.int .i64 2, .int .i64 0, .slice A39 (List.length ([98])) c40] 37, row A39 (List.length ([98])) c40 (List.flatMap eB ([98])) 5 1, row A26 1 1 (List.flatMap eB ([98])) 5 1, row A10 1 1 (List.flatMap eB ([97])) 5 1]) H91
  refine WL.doG rfl rfl rfl rfl (Do.call Try.call18 rfl (Len_ok h8 ([(Lt.mk 1 0 A23 c24 ([97])), (Lt.mk 1 0 A49 c50 ([97]))]) _ _ HP97) ?_)
  rintro _ w101 ⟨rfl, HQ102⟩
  have H103 : Own w D w101 [net h8 ([(Lt.mk 1 0 A23 c24 ([97])), (Lt.mk 1 0 A49 c50 ([97]))]), row A87 2 2 (List.flatMap Lt.cells ([(Lt.mk 1 0 A92 c94 ([97])), (Lt.mk 1 0 B93 d95 ([97]))])) 37 3, sepL (List.map Lt.own ([(Lt.mk 1 0 A92 c94 ([97])), (Lt.mk 1 0 B93 d95 ([97]))])), blk g74 [.int .i64 0, .int .i64 0, .slice none 0 0] 37, blk g60 [.int .i64 2, .int .i64 0, .slice A39 (List.length ([98])) c40] 37, row A39 (List.length ([98])) c40 (List.flatMap eB ([98])) 5 1, row A26 1 1 (List.flatMap eB ([98])) 5 1, row A10 1 1 (List.flatMap eB ([97])) 5 1] := bk99 _ _ HQ102
  refine WL.valG (v := .bool true) rfl rfl rfl rfl (Yl.kern rfl rfl (fun _ => by kernel_rfl)) ?_
  refine WL.val (v := .bool true) rfl (Yl.pickT rfl rfl rfl) ?_
  refine WL.val (v := .bool true) rfl (Yl.move rfl) ?_
  refine WL.valG (v := .slice A87 2 2) rfl rfl rfl rfl (Yl.move rfl) ?_
  refine WL.valG (v := .int .i64 2) rfl rfl rfl rfl (Yl.kern rfl rfl (fun _ => by kernel_rfl)) ?_
  refine WL.valG (v := .bool true) rfl rfl rfl rfl (Yl.kern rfl rfl (fun _ => by kernel_rfl)) ?_
  refine WL.val (v := .bool true) rfl (Yl.pickT rfl rfl rfl) ?_
  refine WL.val (v := .bool true) rfl (Yl.move rfl) ?_
  refine WL.valG (v := .slice A87 2 2) rfl rfl rfl rfl (Yl.move rfl) ?_
  have hx104 : ([(Lt.mk 1 0 A92 c94 ([97])), (Lt.mk 1 0 B93 d95 ([97]))])[1]? = some (Lt.mk 1 0 B93 d95 ([97])) := rfl
  refine WL.valG (v := .pointer (some ⟨ab A87, ao A87 + 1 * 3, none⟩)) rfl rfl rfl rfl (Yl.indexAddr (El52) rfl rfl ((H103.rds (i := 1) rfl).addr (i := 1) (by omega)) (by omega)) ?_
  refine WL.valG (v := .pointer (some ⟨ab A87, ao A87 + 1 * 3 + 2, none⟩)) rfl rfl rfl rfl (Yl.kern rfl rfl (fun _ => by kernel_rfl)) ?_
  refine WL.valG (v := .slice B93 (List.length ([97])) d95) rfl rfl rfl rfl (Yl.load rfl (Lds.one Try.isAgg32 (((H103.rds (i := 1) rfl).elem Lt.len hx104 (by decide)).at_ (k := 2) rfl))) ?_
  refine WL.valG (v := .string ⟨List.toArray ([97])⟩) rfl rfl rfl rfl (Yl.toStringE (l := [97]) Try.underlying32 Try.underlying5 Try.underlying9 (own_rd H103 (i := 2) rfl (Lt.rd (ls := [(Lt.mk 1 0 A92 c94 ([97])), (Lt.mk 1 0 B93 d95 ([97]))]) (i := 1) rfl)) rfl) ?_
  refine WL.valG (v := .bool true) rfl rfl rfl rfl (Yl.bool (e := decide (([97]) = ([97]))) (Yl.strEq rfl rfl) (by simp)) ?_
  refine WL.val (v := .bool true) rfl (Yl.pickT rfl rfl rfl) ?_
  refine WL.val (v := .bool true) rfl (Yl.move rfl) ?_
  refine WL.valG (v := .slice A87 2 2) rfl rfl rfl rfl (Yl.move rfl) ?_
  refine WL.valG (v := .pointer (some ⟨ab A87, ao A87 + 1 * 3, none⟩)) rfl rfl rfl rfl (Yl.indexAddr (El52) rfl rfl ((H103.rds (i := 1) rfl).addr (i := 1) (by omega)) (by omega)) ?_
  refine WL.valG (v := .pointer (some ⟨ab A87, ao A87 + 1 * 3, none⟩)) rfl rfl rfl rfl (Yl.kern rfl rfl (fun _ => by kernel_rfl)) ?_
  refine WL.valG (v := .int .i64 1) rfl rfl rfl rfl (Yl.load rfl (Lds.one Try.isAgg3 (((H103.rds (i := 1) rfl).elem Lt.len hx104 (by decide)).at_ (k := 0) rfl))) ?_
  refine WL.valG (v := .bool true) rfl rfl rfl rfl (Yl.kern rfl rfl (fun _ => by kernel_rfl)) ?_
  refine WL.val (v := .bool true) rfl (Yl.pickT rfl rfl rfl) ?_
  refine WL.val (v := .bool true) rfl (Yl.assign rfl) ?_
  refine WL.nil ?_
  refine Fin.then ?_
  refine Wp.ret ?_
  refine Fin.res (res1 rfl rfl) ?_
  have H105 : Own w D w101 [] := H103.pick [] (by decide) rfl
  exact ⟨rfl, H105⟩

set_option maxRecDepth 100000 in
theorem order_ok (w : World) (l : Sv (List UInt8)) (hl : SvOk w 1 16 eS (fun s => List.length s ≤ 140737488351232) l) :
    Calls Try.prog 4 #[.slice l.A (List.length l.ls) l.c] w (Ret fun v w' => v = .bool true ∧ Own w (fun _ : Nat => False) w' []) := by
  have rol : Ro w (fun _ : Nat => False) fun w' => Rds w' 1 l.A (List.length l.ls) (List.flatMap eS l.ls) := Rds.ro hl.2.2.1 (by decide)
  have lel := hl.1
  have lcl := hl.2.1
  have H : Own w (fun _ : Nat => False) w [] := Own.start w
  refine Calls.body (args := [.slice l.A (List.length l.ls) l.c]) Try.func4 rfl rfl rfl ?_
  show Wp _ _ _ [(0, .slice l.A (List.length l.ls) l.c)] _ _
  refine Wp.seq ?_
  refine Wp.region ?_
  refine WL.val (v := .bool false) rfl (Yl.assign rfl) ?_
  refine WL.nil ?_
  refine Fin.then ?_
  refine Wp.seq ?_
  refine Wp.region ?_
  obtain ⟨D1, HP2, ro3, bk4, rr5⟩ := Own.enter (L1 := []) (L2 := []) H
  refine WL.do rfl (Do.call Try.call5 rfl (live_ok _ _ HP2) ?_)
  rintro _ w6 ⟨rfl, HQ7⟩
  have H8 : Own w (fun _ : Nat => False) w6 [] := bk4 _ _ HQ7
  refine WL.val (v := .bool true) rfl (Yl.assign rfl) ?_
  refine WL.nil ?_
  refine Fin.then ?_
  refine Wp.seq ?_
  refine Wp.region ?_
  obtain ⟨D9, HP10, ro11, bk12, rr13⟩ := Own.enter (L1 := []) (L2 := []) H8
  refine WL.do rfl (Do.call Try.call6 rfl (New_ok _ _ HP10) ?_)
  rintro _ w14 ⟨h16, rfl, HQ15⟩
  have H17 : Own w (fun _ : Nat => False) w14 [net h16 ([])] := bk12 _ _ HQ15
  refine WL.val (v := .pointer (some ⟨h16, 0, none⟩)) rfl (Yl.assign rfl) ?_
  refine WL.nil ?_
  refine Fin.then ?_
  refine Wp.seq ?_
  refine Wp.seq ?_
  refine Wp.region ?_
  refine WL.val (v := .pointer (some ⟨h16, 0, none⟩)) rfl (Yl.move rfl) ?_
  refine WL.val (v := .bool false) rfl (Yl.kern rfl rfl (fun _ => by kernel_rfl)) ?_
  refine WL.val (v := .bool false) rfl (Yl.move rfl) ?_
  refine WL.valG (v := .slice l.A (List.length l.ls) l.c) rfl rfl rfl rfl (Yl.move rfl) ?_
  refine WL.valG (v := .int .i64 ((List.length l.ls : Nat) : Int)) rfl rfl rfl rfl (Yl.kern rfl rfl (fun _ => by kernel_rfl)) ?_
  refine WL.valG (v := .bool (decide (((List.length l.ls : Nat) : Int) > 200))) rfl rfl rfl rfl (Yl.kern rfl rfl (fun _ => by kernel_rfl)) ?_
  refine WL.val (v := .bool (decide (((List.length l.ls : Nat) : Int) > 200))) rfl (Yl.pickF rfl rfl rfl) ?_
  refine WL.nil ?_
  refine Fin.then ?_
  by_cases h18 : ((List.length l.ls : Nat) : Int) > 200
  · skip
    refine Wp.cond1 rfl (decide_eq_true h18) ?_
    refine Wp.seq ?_
    refine Wp.region ?_
    refine WL.val (v := .bool true) rfl (Yl.move rfl) ?_
    refine WL.val (v := .bool true) rfl (Yl.move rfl) ?_
    refine WL.valG (v := .pointer (some ⟨h16, 0, none⟩)) rfl rfl rfl rfl (Yl.move rfl) ?_
    refine WL.valG (v := .bool true) rfl rfl rfl rfl (Yl.kern rfl rfl (fun _ => by kernel_rfl)) ?_
    refine WL.val (v := .bool true) rfl (Yl.pickT rfl rfl rfl) ?_
    refine WL.val (v := .bool true) rfl (Yl.assign rfl) ?_
    refine WL.nil ?_
    refine Fin.then ?_
    refine Wp.ret ?_
    refine Fin.thenR ?_
    refine Fin.res (res1 rfl rfl) ?_
    have H19 : Own w (fun _ : Nat => False) w14 [] := H17.pick [] (by decide) rfl
    exact ⟨rfl, H19⟩
  · skip
    refine Wp.cond0 rfl (decide_eq_false h18) ?_
    refine Wp.skip ?_
    refine Fin.then ?_
    refine Wp.seq ?_
    refine Wp.region ?_
    refine WL.val (v := .slice none 0 0) rfl (Yl.assign rfl) ?_
    refine WL.nil ?_
    refine Fin.then ?_
    refine Wp.seq ?_
    refine Wp.seq ?_
    refine Wp.region ?_
    refine WL.val (v := .slice l.A (List.length l.ls) l.c) rfl (Yl.move rfl) ?_
    refine WL.val (v := .int .i64 ((List.length l.ls : Nat) : Int)) rfl (Yl.kern rfl rfl (fun _ => by kernel_rfl)) ?_
    refine WL.val (v := .int .i64 0) rfl (Yl.move rfl) ?_
    refine WL.nil ?_
    refine Fin.then ?_
    refine Wp.block ?_
    have H20 := (H17.free (row_nil 9 1)).pick [1, 0] (by decide) rfl
    refine Wp.loop (ι := Nat × Nat × (List Lt) × (List (List UInt8)) × (Option Addr) × Nat) (fun i => [(32, .int .i64 ((i.1 : Nat) : Int)), (5, .slice i.2.2.2.2.1 i.2.1 i.2.2.2.2.2), (31, .int .i64 ((List.length l.ls : Nat) : Int)), (30, .slice l.A (List.length l.ls) l.c), (24, .bool (decide (((List.length l.ls : Nat) : Int) > 200))), (23, .bool (decide (((List.length l.ls : Nat) : Int) > 200))), (22, .int .i64 ((List.length l.ls : Nat) : Int)), (21, .slice l.A (List.length l.ls) l.c), (20, .bool false), (19, .bool false), (18, .pointer (some ⟨h16, 0, none⟩)), (4, .pointer (some ⟨h16, 0, none⟩)), (17, .pointer (some ⟨h16, 0, none⟩)), (3, .bool true), (16, .bool true), (0, .slice l.A (List.length l.ls) l.c)]) (fun (i : Nat × Nat × (List Lt) × (List (List UInt8)) × (Option Addr) × Nat) w' => Own w (fun _ : Nat => False) w' [net h16 i.2.2.1, row i.2.2.2.2.1 i.2.1 i.2.2.2.2.2 (List.flatMap eS i.2.2.2.1) 9 1] ∧ (i.1 ≤ List.length l.ls ∧ i.2.1 = List.length i.2.2.1 ∧ i.2.2.2.1 = List.map Lt.bs i.2.2.1 ∧ List.length i.2.2.1 ≤ 128 ∧ ∀ y : Lt, y ∈ i.2.2.1 → y.to = y.fr + 1 ∧ List.length y.bs ≤ 4103 ∧ 0 ≤ y.fr ∧ y.fr ≤ 200)) (fun i => List.length l.ls - i.1) (0, 0, [], [], none, 0) ⟨rfl, rfl, rfl, rfl, rfl, rfl, rfl, rfl, rfl, rfl, rfl, rfl, rfl, rfl, rfl, rfl, trivial⟩ ⟨H20, (show 0 ≤ List.length l.ls ∧ 0 = List.length ([]) ∧ ([]) = List.map Lt.bs ([]) ∧ List.length ([]) ≤ 128 ∧ ∀ y : Lt, y ∈ ([]) → y.to = y.fr + 1 ∧ List.length y.bs ≤ 4103 ∧ 0 ≤ y.fr ∧ y.fr ≤ 200 from ⟨by omega, rfl, rfl, by simp, fun y hy => by cases hy⟩)⟩ ?_
    rintro ⟨k, m, ls, ws, A, c⟩ w21 ⟨H22, hf23⟩
    show Wp _ _ _ [(32, .int .i64 ((k : Nat) : Int)), (5, .slice A m c), (31, .int .i64 ((List.length l.ls : Nat) : Int)), (30, .slice l.A (List.length l.ls) l.c), (24, .bool (decide (((List.length l.ls : Nat) : Int) > 200))), (23, .bool (decide (((List.length l.ls : Nat) : Int) > 200))), (22, .int .i64 ((List.length l.ls : Nat) : Int)), (21, .slice l.A (List.length l.ls) l.c), (20, .bool false), (19, .bool false), (18, .pointer (some ⟨h16, 0, none⟩)), (4, .pointer (some ⟨h16, 0, none⟩)), (17, .pointer (some ⟨h16, 0, none⟩)), (3, .bool true), (16, .bool true), (0, .slice l.A (List.length l.ls) l.c)] _ _
    replace H22 : Own w (fun _ : Nat => False) w21 [net h16 ls, row A m c (List.flatMap eS ws) 9 1] := H22
    replace hf23 : k ≤ List.length l.ls ∧ m = List.length ls ∧ ws = List.map Lt.bs ls ∧ List.length ls ≤ 128 ∧ ∀ y : Lt, y ∈ ls → y.to = y.fr + 1 ∧ List.length y.bs ≤ 4103 ∧ 0 ≤ y.fr ∧ y.fr ≤ 200 := hf23
    obtain ⟨hk, hm, hw, hle, hto⟩ := hf23
    refine Wp.seq ?_
    refine Wp.region ?_
    refine WL.val (v := .bool (decide (((k : Nat) : Int) < ((List.length l.ls : Nat) : Int)))) rfl (Yl.kern rfl rfl (fun _ => by kernel_rfl)) ?_
    refine WL.nil ?_
    refine Fin.then ?_
    refine Wp.seq ?_
    by_cases h24 : ((k : Nat) : Int) < ((List.length l.ls : Nat) : Int)
    · skip
      refine Wp.cond1 rfl (decide_eq_true h24) ?_
      refine Wp.skip ?_
      refine Fin.then ?_
      refine Wp.seq ?_
      refine Wp.block ?_
      refine Wp.seq ?_
      refine Wp.region ?_
      refine WL.val (v := .int .i64 ((k : Nat) : Int)) rfl (Yl.move rfl) ?_
      obtain ⟨x25, hx26⟩ := rds_at (ls := l.ls) (i := k) eS_len (by decide) (H22.ro rol) (by first | omega | (simp; done) | (simp; omega))
      have ok27 := (hl.2.2.2 _ (List.mem_of_getElem? hx26))
      refine WL.val (v := .pointer (some ⟨ab l.A, ao l.A + k * 1, none⟩)) rfl (Yl.indexAddr (El49) rfl rfl ((H22.ro rol).addr (i := k) (by omega)) (by omega)) ?_
      refine WL.val (v := .string ⟨List.toArray x25⟩) rfl (Yl.load rfl (Lds.one Try.isAgg9 (((H22.ro rol).elem eS_len hx26 (by decide)).at_ (k := 0) rfl))) ?_
      refine WL.val (v := .int .i64 ((k : Nat) : Int)) rfl (Yl.assign rfl) ?_
      refine WL.val (v := .string ⟨List.toArray x25⟩) rfl (Yl.assign rfl) ?_
      refine WL.nil ?_
      refine Fin.then ?_
      refine Wp.seq ?_
      refine Wp.region ?_
      refine WL.val (v := .pointer (some ⟨h16, 0, none⟩)) rfl (Yl.move rfl) ?_
      refine WL.val (v := .int .i64 ((k : Nat) : Int)) rfl (Yl.move rfl) ?_
      refine WL.val (v := .int .i64 ((k : Nat) : Int)) rfl (Yl.move rfl) ?_
      refine WL.val (v := .int .i64 ((k + 1 : Nat) : Int)) rfl (Yl.int (e := IntKind.i64.wrap (((k : Nat) : Int) + 1)) (Yl.kern rfl rfl (fun _ => by kernel_rfl)) (by rw [IntWalk.i64_in _ (by omega)]; omega)) ?_
      refine WL.val (v := .string ⟨List.toArray x25⟩) rfl (Yl.move rfl) ?_
      refine WL.do rfl (Do.toBytesE (l := x25) Try.underlying9 Try.underlying32 Try.underlying5 H22 rfl (by unfold maxLen; omega) ?_)
      intro A28 c29 w30 H31
      replace H31 : Own w (fun _ : Nat => False) w30 [row A28 (List.length x25) c29 (List.flatMap eB x25) 5 1, net h16 ls, row A m c (List.flatMap eS ws) 9 1] := H31
      have H32 : Own w (fun _ : Nat => False) w30 [net h16 ls, row A28 (List.length x25) c29 (List.flatMap eB x25) 5 1, row A m c (List.flatMap eS ws) 9 1] := H31.pick [1, 0, 2] (by decide) rfl
      obtain ⟨D33, HP34, ro35, bk36, rr37⟩ := Own.enter (L1 := [net h16 ls]) (L2 := [row A28 (List.length x25) c29 (List.flatMap eB x25) 5 1, row A m c (List.flatMap eS ws) 9 1]) H32
      refine WL.do rfl (Do.call Try.call7 rfl (Send_ok h16 ls ((k : Nat) : Int) ((k + 1 : Nat) : Int) A28 c29 x25 _ _ HP34 (rr37 _ 0 _ rfl row_rds)) ?_)
      rintro _ w38 (⟨q040, rfl, HQ39⟩ | ⟨q042, q143, rfl, HQ41⟩ | ⟨q045, q146, rfl, HQ44⟩ | ⟨q148, q249, rfl, A50, c51, HQ47⟩)
      · skip
        have H52 : Own w (fun _ : Nat => False) w38 [net h16 ls, row A28 (List.length x25) c29 (List.flatMap eB x25) 5 1, row A m c (List.flatMap eS ws) 9 1] := bk36 _ _ HQ39
        exfalso; omega
      · skip
        have H53 : Own w (fun _ : Nat => False) w38 [net h16 ls, row A28 (List.length x25) c29 (List.flatMap eB x25) 5 1, row A m c (List.flatMap eS ws) 9 1] := bk36 _ _ HQ41
        refine WL.val (v := .int .i64 2) rfl (Yl.assign rfl) ?_
        refine WL.nil ?_
        refine Fin.then ?_
        refine Wp.seq ?_
        refine Wp.region ?_
        refine WL.val (v := .int .i64 0) rfl (Yl.assign rfl) ?_
        refine WL.nil ?_
        refine Fin.then ?_
        refine Wp.seq ?_
        refine Wp.block ?_
        refine Wp.seq ?_
        refine Wp.region ?_
        refine WL.val (v := .string ⟨List.toArray x25⟩) rfl (Yl.move rfl) ?_
        refine WL.val (v := .int .i64 ((List.length x25 : Nat) : Int)) rfl (Yl.kern rfl rfl (fun _ => by kernel_rfl)) ?_
        refine WL.val (v := .bool (decide (((List.length x25 : Nat) : Int) > 4103))) rfl (Yl.kern rfl rfl (fun _ => by kernel_rfl)) ?_
        refine WL.val (v := .bool (decide (((List.length x25 : Nat) : Int) > 4103))) rfl (Yl.assign rfl) ?_
        refine WL.nil ?_
        refine Fin.then ?_
        have hb54 : (decide (((List.length x25 : Nat) : Int) > 4103)) = true := (decide_eq_true (by omega))
        refine Wp.cond1 rfl hb54 ?_
        refine Wp.region ?_
        refine WL.val (v := .int .i64 2) rfl (Yl.assign rfl) ?_
        refine WL.nil ?_
        refine Fin.blockN ?_
        refine Fin.then ?_
        refine Wp.seq ?_
        refine Wp.region ?_
        refine WL.val (v := .int .i64 2) rfl (Yl.move rfl) ?_
        refine WL.val (v := .int .i64 2) rfl (Yl.move rfl) ?_
        refine WL.val (v := .bool false) rfl (Yl.kern rfl rfl (fun _ => by kernel_rfl)) ?_
        refine WL.nil ?_
        refine Fin.then ?_
        refine Wp.cond0 rfl rfl ?_
        refine Wp.skip ?_
        refine Fin.blockN ?_
        refine Fin.then ?_
        refine Wp.region ?_
        refine WL.val (v := .int .i64 ((k + 1 : Nat) : Int)) rfl (Yl.int (e := IntKind.i64.wrap (((k : Nat) : Int) + 1)) (Yl.kern rfl rfl (fun _ => by kernel_rfl)) (by rw [IntWalk.i64_in _ (by omega)]; omega)) ?_
        refine WL.val (v := .int .i64 ((k + 1 : Nat) : Int)) rfl (Yl.move rfl) ?_
        refine WL.nil ?_
        have H55 : Own w (fun _ : Nat => False) w38 [net h16 ls, row A m c (List.flatMap eS ws) 9 1] := H53.pick [0, 2] (by decide) rfl
        exact Fin.round (k + 1, m, ls, ws, A, c) ⟨rfl, rfl, rfl, rfl, rfl, rfl, rfl, rfl, rfl, rfl, rfl, rfl, rfl, rfl, rfl, rfl, trivial⟩ ⟨H55, (show (k + 1) ≤ List.length l.ls ∧ m = List.length ls ∧ ws = List.map Lt.bs ls ∧ List.length ls ≤ 128 ∧ ∀ y : Lt, y ∈ ls → y.to = y.fr + 1 ∧ List.length y.bs ≤ 4103 ∧ 0 ≤ y.fr ∧ y.fr ≤ 200 from ⟨by omega, hm, hw, hle, hto⟩)⟩ (by show List.length l.ls - (k + 1) < List.length l.ls - k; omega)
      · skip
        have H56 : Own w (fun _ : Nat => False) w38 [net h16 ls, row A28 (List.length x25) c29 (List.flatMap eB x25) 5 1, row A m c (List.flatMap eS ws) 9 1] := bk36 _ _ HQ44
        refine WL.val (v := .int .i64 62) rfl (Yl.assign rfl) ?_
        refine WL.nil ?_
        refine Fin.then ?_
        refine Wp.seq ?_
        refine Wp.region ?_
        refine WL.val (v := .int .i64 0) rfl (Yl.assign rfl) ?_
        refine WL.nil ?_
        refine Fin.then ?_
        refine Wp.seq ?_
        refine Wp.block ?_
        refine Wp.seq ?_
        refine Wp.region ?_
        refine WL.val (v := .string ⟨List.toArray x25⟩) rfl (Yl.move rfl) ?_
        refine WL.val (v := .int .i64 ((List.length x25 : Nat) : Int)) rfl (Yl.kern rfl rfl (fun _ => by kernel_rfl)) ?_
        refine WL.val (v := .bool (decide (((List.length x25 : Nat) : Int) > 4103))) rfl (Yl.kern rfl rfl (fun _ => by kernel_rfl)) ?_
        refine WL.val (v := .bool (decide (((List.length x25 : Nat) : Int) > 4103))) rfl (Yl.assign rfl) ?_
        refine WL.nil ?_
        refine Fin.then ?_
        have hb57 : (decide (((List.length x25 : Nat) : Int) > 4103)) = false := (decide_eq_false (by omega))
        refine Wp.cond0 rfl hb57 ?_
        refine Wp.seq ?_
        refine Wp.region ?_
        refine WL.val (v := .slice A m c) rfl (Yl.move rfl) ?_
        refine WL.val (v := .int .i64 ((m : Nat) : Int)) rfl (Yl.kern rfl rfl (fun _ => by kernel_rfl)) ?_
        refine WL.val (v := .bool (decide (((m : Nat) : Int) ≥ 128))) rfl (Yl.kern rfl rfl (fun _ => by kernel_rfl)) ?_
        refine WL.val (v := .bool (decide (((m : Nat) : Int) ≥ 128))) rfl (Yl.assign rfl) ?_
        refine WL.nil ?_
        refine Fin.then ?_
        have hb58 : (decide (((m : Nat) : Int) ≥ 128)) = true := (decide_eq_true (by omega))
        refine Wp.cond1 rfl hb58 ?_
        refine Wp.region ?_
        refine WL.val (v := .int .i64 62) rfl (Yl.assign rfl) ?_
        refine WL.nil ?_
        refine Fin.blockN ?_
        refine Fin.then ?_
        refine Wp.seq ?_
        refine Wp.region ?_
        refine WL.val (v := .int .i64 62) rfl (Yl.move rfl) ?_
        refine WL.val (v := .int .i64 62) rfl (Yl.move rfl) ?_
        refine WL.val (v := .bool false) rfl (Yl.kern rfl rfl (fun _ => by kernel_rfl)) ?_
        refine WL.nil ?_
        refine Fin.then ?_
        refine Wp.cond0 rfl rfl ?_
        refine Wp.skip ?_
        refine Fin.blockN ?_
        refine Fin.then ?_
        refine Wp.region ?_
        refine WL.val (v := .int .i64 ((k + 1 : Nat) : Int)) rfl (Yl.int (e := IntKind.i64.wrap (((k : Nat) : Int) + 1)) (Yl.kern rfl rfl (fun _ => by kernel_rfl)) (by rw [IntWalk.i64_in _ (by omega)]; omega)) ?_
        refine WL.val (v := .int .i64 ((k + 1 : Nat) : Int)) rfl (Yl.move rfl) ?_
        refine WL.nil ?_
        have H59 : Own w (fun _ : Nat => False) w38 [net h16 ls, row A m c (List.flatMap eS ws) 9 1] := H56.pick [0, 2] (by decide) rfl
        exact Fin.round (k + 1, m, ls, ws, A, c) ⟨rfl, rfl, rfl, rfl, rfl, rfl, rfl, rfl, rfl, rfl, rfl, rfl, rfl, rfl, rfl, rfl, trivial⟩ ⟨H59, (show (k + 1) ≤ List.length l.ls ∧ m = List.length ls ∧ ws = List.map Lt.bs ls ∧ List.length ls ≤ 128 ∧ ∀ y : Lt, y ∈ ls → y.to = y.fr + 1 ∧ List.length y.bs ≤ 4103 ∧ 0 ≤ y.fr ∧ y.fr ≤ 200 from ⟨by omega, hm, hw, hle, hto⟩)⟩ (by show List.length l.ls - (k + 1) < List.length l.ls - k; omega)
      · skip
        have H60 : Own w (fun _ : Nat => False) w38 [net h16 (ls ++ [(Lt.mk ((k : Nat) : Int) ((k + 1 : Nat) : Int) A50 c51 x25)]), row A28 (List.length x25) c29 (List.flatMap eB x25) 5 1, row A m c (List.flatMap eS ws) 9 1] := bk36 _ _ HQ47
        refine WL.val (v := .int .i64 0) rfl (Yl.assign rfl) ?_
        refine WL.nil ?_
        refine Fin.then ?_
        refine Wp.seq ?_
        refine Wp.region ?_
        refine WL.val (v := .int .i64 0) rfl (Yl.assign rfl) ?_
        refine WL.nil ?_
        refine Fin.then ?_
        refine Wp.seq ?_
        refine Wp.block ?_
        refine Wp.seq ?_
        refine Wp.region ?_
        refine WL.val (v := .string ⟨List.toArray x25⟩) rfl (Yl.move rfl) ?_
        refine WL.val (v := .int .i64 ((List.length x25 : Nat) : Int)) rfl (Yl.kern rfl rfl (fun _ => by kernel_rfl)) ?_
        refine WL.val (v := .bool (decide (((List.length x25 : Nat) : Int) > 4103))) rfl (Yl.kern rfl rfl (fun _ => by kernel_rfl)) ?_
        refine WL.val (v := .bool (decide (((List.length x25 : Nat) : Int) > 4103))) rfl (Yl.assign rfl) ?_
        refine WL.nil ?_
        refine Fin.then ?_
        have hb61 : (decide (((List.length x25 : Nat) : Int) > 4103)) = false := (decide_eq_false (by omega))
        refine Wp.cond0 rfl hb61 ?_
        refine Wp.seq ?_
        refine Wp.region ?_
        refine WL.val (v := .slice A m c) rfl (Yl.move rfl) ?_
        refine WL.val (v := .int .i64 ((m : Nat) : Int)) rfl (Yl.kern rfl rfl (fun _ => by kernel_rfl)) ?_
        refine WL.val (v := .bool (decide (((m : Nat) : Int) ≥ 128))) rfl (Yl.kern rfl rfl (fun _ => by kernel_rfl)) ?_
        refine WL.val (v := .bool (decide (((m : Nat) : Int) ≥ 128))) rfl (Yl.assign rfl) ?_
        refine WL.nil ?_
        refine Fin.then ?_
        have hb62 : (decide (((m : Nat) : Int) ≥ 128)) = false := (decide_eq_false (by omega))
        refine Wp.cond0 rfl hb62 ?_
        refine Wp.region ?_
        refine WL.val (v := .slice A m c) rfl (Yl.move rfl) ?_
        refine WL.val (v := .string ⟨List.toArray x25⟩) rfl (Yl.move rfl) ?_
        refine WL.do rfl (Do.newRow (cs := [.string ⟨List.toArray x25⟩]) (t := 9) (sz := 1) (m := 1) H60 rfl rfl (fun _ => by kernel_rfl) rfl (by decide) ?_)
        intro A63 w64 H65
        replace H65 : Own w (fun _ : Nat => False) w64 [row A63 1 1 (List.flatMap eS ([x25])) 9 1, net h16 (ls ++ [(Lt.mk ((k : Nat) : Int) ((k + 1 : Nat) : Int) A50 c51 x25)]), row A28 (List.length x25) c29 (List.flatMap eB x25) 5 1, row A m c (List.flatMap eS ws) 9 1] := H65
        have H66 : Own w (fun _ : Nat => False) w64 [row A m c (List.flatMap eS ws) 9 1, row A63 1 1 (List.flatMap eS ([x25])) 9 1, net h16 (ls ++ [(Lt.mk ((k : Nat) : Int) ((k + 1 : Nat) : Int) A50 c51 x25)]), row A28 (List.length x25) c29 (List.flatMap eB x25) 5 1] := H65.pick [3, 0, 1, 2] (by decide) rfl
        refine WL.do rfl (Do.append (k := m) (m := 1) (El49) H66 rfl rfl (src_of Try.underlying49 (H66.rds (i := 1) rfl) (flat_one eS_one ([x25]))) (by unfold maxLen; omega) (by omega) (s := m + 1) (by omega) (List.flatMap_append).symm ?_)
        intro A67 c68 w69 H70
        replace H70 : Own w (fun _ : Nat => False) w69 [row A67 (m + 1) c68 (List.flatMap eS (ws ++ [x25])) 9 1, row A63 1 1 (List.flatMap eS ([x25])) 9 1, net h16 (ls ++ [(Lt.mk ((k : Nat) : Int) ((k + 1 : Nat) : Int) A50 c51 x25)]), row A28 (List.length x25) c29 (List.flatMap eB x25) 5 1] := H70
        refine WL.val (v := .slice A67 (m + 1) c68) rfl (Yl.assign rfl) ?_
        refine WL.nil ?_
        refine Fin.blockN ?_
        refine Fin.then ?_
        refine Wp.seq ?_
        refine Wp.region ?_
        refine WL.val (v := .int .i64 0) rfl (Yl.move rfl) ?_
        refine WL.val (v := .int .i64 0) rfl (Yl.move rfl) ?_
        refine WL.val (v := .bool false) rfl (Yl.kern rfl rfl (fun _ => by kernel_rfl)) ?_
        refine WL.nil ?_
        refine Fin.then ?_
        refine Wp.cond0 rfl rfl ?_
        refine Wp.skip ?_
        refine Fin.blockN ?_
        refine Fin.then ?_
        refine Wp.region ?_
        refine WL.val (v := .int .i64 ((k + 1 : Nat) : Int)) rfl (Yl.int (e := IntKind.i64.wrap (((k : Nat) : Int) + 1)) (Yl.kern rfl rfl (fun _ => by kernel_rfl)) (by rw [IntWalk.i64_in _ (by omega)]; omega)) ?_
        refine WL.val (v := .int .i64 ((k + 1 : Nat) : Int)) rfl (Yl.move rfl) ?_
        refine WL.nil ?_
        have H71 : Own w (fun _ : Nat => False) w69 [net h16 (ls ++ [(Lt.mk ((k : Nat) : Int) ((k + 1 : Nat) : Int) A50 c51 x25)]), row A67 (m + 1) c68 (List.flatMap eS (ws ++ [x25])) 9 1] := H70.pick [2, 0] (by decide) rfl
        exact Fin.round (k + 1, m + 1, ls ++ [(Lt.mk ((k : Nat) : Int) ((k + 1 : Nat) : Int) A50 c51 x25)], ws ++ [x25], A67, c68) ⟨rfl, rfl, rfl, rfl, rfl, rfl, rfl, rfl, rfl, rfl, rfl, rfl, rfl, rfl, rfl, rfl, trivial⟩ ⟨H71, (show (k + 1) ≤ List.length l.ls ∧ (m + 1) = List.length (ls ++ [(Lt.mk ((k : Nat) : Int) ((k + 1 : Nat) : Int) A50 c51 x25)]) ∧ (ws ++ [x25]) = List.map Lt.bs (ls ++ [(Lt.mk ((k : Nat) : Int) ((k + 1 : Nat) : Int) A50 c51 x25)]) ∧ List.length (ls ++ [(Lt.mk ((k : Nat) : Int) ((k + 1 : Nat) : Int) A50 c51 x25)]) ≤ 128 ∧ ∀ y : Lt, y ∈ (ls ++ [(Lt.mk ((k : Nat) : Int) ((k + 1 : Nat) : Int) A50 c51 x25)]) → y.to = y.fr + 1 ∧ List.length y.bs ≤ 4103 ∧ 0 ≤ y.fr ∧ y.fr ≤ 200 from ⟨by omega, by simp [hm], by simp [hw], by simp; omega, fun y hy => by
                  rcases List.mem_append.1 hy with hy | hy
                  · exact hto y hy
                  · rw [List.mem_singleton.1 hy]; exact ⟨by simp, by dsimp only; omega, by dsimp only; omega, by dsimp only; omega⟩⟩)⟩ (by show List.length l.ls - (k + 1) < List.length l.ls - k; omega)
    · skip
      refine Wp.cond0 rfl (decide_eq_false h24) ?_
      refine Wp.exit ?_
      refine Fin.thenX ?_
      refine Fin.thenX ?_
      refine Fin.blockX ?_
      refine Fin.then ?_
      refine Wp.seq ?_
      refine Wp.seq ?_
      refine Wp.region ?_
      refine WL.val (v := .slice A m c) rfl (Yl.move rfl) ?_
      refine WL.val (v := .int .i64 ((m : Nat) : Int)) rfl (Yl.kern rfl rfl (fun _ => by kernel_rfl)) ?_
      refine WL.val (v := .int .i64 0) rfl (Yl.move rfl) ?_
      refine WL.nil ?_
      refine Fin.then ?_
      refine Wp.block ?_
      have H72 : Own w (fun _ : Nat => False) w21 [net h16 ls, row A m c (List.flatMap eS ws) 9 1] := H22.pick [0, 1] (by decide) rfl
      refine Wp.loop (ι := Nat × (List Lt)) (fun i => [(62, .int .i64 ((i.1 : Nat) : Int)), (61, .int .i64 ((m : Nat) : Int)), (60, .slice A m c), (33, .bool (decide (((k : Nat) : Int) < ((List.length l.ls : Nat) : Int)))), (32, .int .i64 ((k : Nat) : Int)), (5, .slice A m c), (31, .int .i64 ((List.length l.ls : Nat) : Int)), (30, .slice l.A (List.length l.ls) l.c), (24, .bool (decide (((List.length l.ls : Nat) : Int) > 200))), (23, .bool (decide (((List.length l.ls : Nat) : Int) > 200))), (22, .int .i64 ((List.length l.ls : Nat) : Int)), (21, .slice l.A (List.length l.ls) l.c), (20, .bool false), (19, .bool false), (18, .pointer (some ⟨h16, 0, none⟩)), (4, .pointer (some ⟨h16, 0, none⟩)), (17, .pointer (some ⟨h16, 0, none⟩)), (3, .bool true), (16, .bool true), (0, .slice l.A (List.length l.ls) l.c)]) (fun (i : Nat × (List Lt)) w' => Own w (fun _ : Nat => False) w' [net h16 i.2, row A m c (List.flatMap eS ws) 9 1] ∧ (i.1 ≤ m ∧ i.2 = List.drop i.1 ls ∧ List.length i.2 + i.1 = m)) (fun i => m - i.1) (0, ls) ⟨rfl, rfl, rfl, rfl, rfl, rfl, rfl, rfl, rfl, rfl, rfl, rfl, rfl, rfl, rfl, rfl, rfl, rfl, rfl, rfl, trivial⟩ ⟨H72, (show 0 ≤ m ∧ ls = List.drop 0 ls ∧ List.length ls + 0 = m from ⟨by omega, rfl, by omega⟩)⟩ ?_
      rintro ⟨j, rest⟩ w73 ⟨H74, hf75⟩
      show Wp _ _ _ [(62, .int .i64 ((j : Nat) : Int)), (61, .int .i64 ((m : Nat) : Int)), (60, .slice A m c), (33, .bool (decide (((k : Nat) : Int) < ((List.length l.ls : Nat) : Int)))), (32, .int .i64 ((k : Nat) : Int)), (5, .slice A m c), (31, .int .i64 ((List.length l.ls : Nat) : Int)), (30, .slice l.A (List.length l.ls) l.c), (24, .bool (decide (((List.length l.ls : Nat) : Int) > 200))), (23, .bool (decide (((List.length l.ls : Nat) : Int) > 200))), (22, .int .i64 ((List.length l.ls : Nat) : Int)), (21, .slice l.A (List.length l.ls) l.c), (20, .bool false), (19, .bool false), (18, .pointer (some ⟨h16, 0, none⟩)), (4, .pointer (some ⟨h16, 0, none⟩)), (17, .pointer (some ⟨h16, 0, none⟩)), (3, .bool true), (16, .bool true), (0, .slice l.A (List.length l.ls) l.c)] _ _
      replace H74 : Own w (fun _ : Nat => False) w73 [net h16 rest, row A m c (List.flatMap eS ws) 9 1] := H74
      replace hf75 : j ≤ m ∧ rest = List.drop j ls ∧ List.length rest + j = m := hf75
      obtain ⟨hj, hr, hrl⟩ := hf75
      refine Wp.seq ?_
      refine Wp.region ?_
      refine WL.val (v := .bool (decide (((j : Nat) : Int) < ((m : Nat) : Int)))) rfl (Yl.kern rfl rfl (fun _ => by kernel_rfl)) ?_
      refine WL.nil ?_
      refine Fin.then ?_
      refine Wp.seq ?_
      by_cases h76 : ((j : Nat) : Int) < ((m : Nat) : Int)
      · skip
        refine Wp.cond1 rfl (decide_eq_true h76) ?_
        refine Wp.skip ?_
        refine Fin.then ?_
        refine Wp.seq ?_
        refine Wp.block ?_
        refine Wp.seq ?_
        refine Wp.region ?_
        obtain ⟨x77, hx78⟩ := rds_at (ls := ws) (i := j) eS_len (by decide) (H74.rds (i := 1) rfl) (by first | omega | (simp; done) | (simp; omega))
        refine WL.val (v := .pointer (some ⟨ab A, ao A + j * 1, none⟩)) rfl (Yl.indexAddr (El49) rfl rfl ((H74.rds (i := 1) rfl).addr (i := j) (by omega)) (by omega)) ?_
        refine WL.val (v := .string ⟨List.toArray x77⟩) rfl (Yl.load rfl (Lds.one Try.isAgg9 (((H74.rds (i := 1) rfl).elem eS_len hx78 (by decide)).at_ (k := 0) rfl))) ?_
        refine WL.val (v := .string ⟨List.toArray x77⟩) rfl (Yl.assign rfl) ?_
        refine WL.nil ?_
        refine Fin.then ?_
        refine Wp.seq ?_
        refine Wp.region ?_
        refine WL.val (v := .pointer (some ⟨h16, 0, none⟩)) rfl (Yl.move rfl) ?_
        obtain ⟨l0, hl0⟩ := at_of (ls := rest) (i := 0) (by omega)
        have hl1 : ls[j]? = some l0 := by rw [hr, List.getElem?_drop] at hl0; simpa using hl0
        have hb0 : l0.bs = x77 := by rw [hw, List.getElem?_map, hl1] at hx78; injection hx78
        have hto0 := hto l0 (List.mem_of_getElem? hl1)
        obtain ⟨D79, HP80, ro81, bk82, rr83⟩ := Own.enter (L1 := [net h16 rest]) (L2 := [row A m c (List.flatMap eS ws) 9 1]) H74
        refine WL.do rfl (Do.call Try.call9 rfl (Take_ok h16 0 rest l0 _ _ HP80 hl0 (by first | omega | (simp; done) | (simp; omega))) ?_)
        rintro _ w84 ⟨rfl, HQ85⟩
        have H86 : Own w (fun _ : Nat => False) w84 [net h16 (List.eraseIdx rest 0), row l0.A (List.length l0.bs) l0.c (List.flatMap eB l0.bs) 5 1, row A m c (List.flatMap eS ws) 9 1] := bk82 _ _ HQ85
        refine WL.val (v := .tuple #[.agg #[.int .i64 l0.fr, .int .i64 l0.to, .slice l0.A (List.length l0.bs) l0.c], .int .i64 0]) rfl (Yl.move rfl) ?_
        refine WL.val (v := .agg #[.int .i64 l0.fr, .int .i64 l0.to, .slice l0.A (List.length l0.bs) l0.c]) rfl (Yl.kern rfl rfl (fun _ => by kernel_rfl)) ?_
        refine WL.val (v := .int .i64 0) rfl (Yl.kern rfl rfl (fun _ => by kernel_rfl)) ?_
        refine WL.do rfl (Do.newP (cs := [.int .i64 0, .int .i64 0, .slice none 0 0]) (t := 37) H86 rfl rfl (fun _ => by kernel_rfl) ?_)
        intro g87 w88 H89
        replace H89 : Own w (fun _ : Nat => False) w88 [blk g87 [.int .i64 0, .int .i64 0, .slice none 0 0] 37, net h16 (List.eraseIdx rest 0), row l0.A (List.length l0.bs) l0.c (List.flatMap eB l0.bs) 5 1, row A m c (List.flatMap eS ws) 9 1] := H89
        refine WL.do0 (Do.store (vs := [.int .i64 l0.fr, .int .i64 l0.to, .slice l0.A (List.length l0.bs) l0.c]) (o := 0) H89 rfl rfl Try.sizeOf37 rfl rfl rfl rfl ?_)
        intro w90 H91
        replace H91 : Own w (fun _ : Nat => False) w90 [blk g87 [.int .i64 l0.fr, .int .i64 l0.to, .slice l0.A (List.length l0.bs) l0.c] 37, net h16 (List.eraseIdx rest 0), row l0.A (List.length l0.bs) l0.c (List.flatMap eB l0.bs) 5 1, row A m c (List.flatMap eS ws) 9 1] := H91
        refine WL.val (v := .int .i64 0) rfl (Yl.assign rfl) ?_
        refine WL.nil ?_
        refine Fin.then ?_
        refine Wp.seq ?_
        refine Wp.region ?_
        refine WL.val (v := .int .i64 0) rfl (Yl.move rfl) ?_
        refine WL.val (v := .bool false) rfl (Yl.kern rfl rfl (fun _ => by kernel_rfl)) ?_
        refine WL.val (v := .bool false) rfl (Yl.move rfl) ?_
        refine WL.valG (v := .pointer (some ⟨g87, 2, none⟩)) rfl rfl rfl rfl (Yl.kern rfl rfl (fun _ => by kernel_rfl)) ?_
        refine WL.valG (v := .slice l0.A (List.length l0.bs) l0.c) rfl rfl rfl rfl (Yl.load rfl (Lds.one Try.isAgg32 (Cls.of (H91.cls (i := 0) rfl) rfl))) ?_
        refine WL.valG (v := .string ⟨List.toArray l0.bs⟩) rfl rfl rfl rfl (Yl.toStringE (l := l0.bs) Try.underlying32 Try.underlying5 Try.underlying9 (H91.rds (i := 2) rfl) rfl) ?_
        refine WL.valG (v := .string ⟨List.toArray x77⟩) rfl rfl rfl rfl (Yl.move rfl) ?_
        refine WL.valG (v := .bool (decide (l0.bs ≠ x77))) rfl rfl rfl rfl (Yl.strNe rfl rfl) ?_
        refine WL.val (v := .bool (decide (l0.bs ≠ x77))) rfl (Yl.pickF rfl rfl rfl) ?_
        refine WL.val (v := .bool (decide (l0.bs ≠ x77))) rfl (Yl.move rfl) ?_
        refine WL.valG (v := .pointer (some ⟨g87, 1, none⟩)) rfl rfl (decide_eq_false fun h => h hb0) rfl (Yl.kern rfl rfl (fun _ => by kernel_rfl)) ?_
        refine WL.valG (v := .int .i64 l0.to) rfl rfl (decide_eq_false fun h => h hb0) rfl (Yl.load rfl (Lds.one Try.isAgg3 (Cls.of (H91.cls (i := 0) rfl) rfl))) ?_
        refine WL.valG (v := .pointer (some ⟨g87, 0, none⟩)) rfl rfl (decide_eq_false fun h => h hb0) rfl (Yl.kern rfl rfl (fun _ => by kernel_rfl)) ?_
        refine WL.valG (v := .int .i64 l0.fr) rfl rfl (decide_eq_false fun h => h hb0) rfl (Yl.load rfl (Lds.one Try.isAgg3 (Cls.of (H91.cls (i := 0) rfl) rfl))) ?_
        refine WL.valG (v := .int .i64 (l0.fr + 1)) rfl rfl (decide_eq_false fun h => h hb0) rfl (Yl.int (e := IntKind.i64.wrap (l0.fr + 1)) (Yl.kern rfl rfl (fun _ => by kernel_rfl)) (by rw [IntWalk.i64_in _ (by omega)])) ?_
        refine WL.valG (v := .bool (decide (¬ (l0.to = l0.fr + 1)))) rfl rfl (decide_eq_false fun h => h hb0) rfl (Yl.bool (e := !(decide (l0.to = l0.fr + 1))) (Yl.kern rfl rfl (fun _ => by kernel_rfl)) decide_not.symm) ?_
        refine WL.val (v := .bool (decide (¬ (l0.to = l0.fr + 1)))) rfl (Yl.pickF rfl (decide_eq_false fun h => h hb0) rfl) ?_
        refine WL.nil ?_
        refine Fin.then ?_
        refine Wp.cond0 rfl (decide_eq_false fun h => h hto0.1) ?_
        refine Wp.skip ?_
        refine Fin.blockN ?_
        refine Fin.then ?_
        refine Wp.region ?_
        refine WL.val (v := .int .i64 ((j + 1 : Nat) : Int)) rfl (Yl.int (e := IntKind.i64.wrap (((j : Nat) : Int) + 1)) (Yl.kern rfl rfl (fun _ => by kernel_rfl)) (by rw [IntWalk.i64_in _ (by omega)]; omega)) ?_
        refine WL.val (v := .int .i64 ((j + 1 : Nat) : Int)) rfl (Yl.move rfl) ?_
        refine WL.nil ?_
        have H92 : Own w (fun _ : Nat => False) w90 [net h16 (List.eraseIdx rest 0), row A m c (List.flatMap eS ws) 9 1] := H91.pick [1, 3] (by decide) rfl
        exact Fin.round (j + 1, List.eraseIdx rest 0) ⟨rfl, rfl, rfl, rfl, rfl, rfl, rfl, rfl, rfl, rfl, rfl, rfl, rfl, rfl, rfl, rfl, rfl, rfl, rfl, rfl, trivial⟩ ⟨H92, (show (j + 1) ≤ m ∧ (List.eraseIdx rest 0) = List.drop (j + 1) ls ∧ List.length (List.eraseIdx rest 0) + (j + 1) = m from ⟨by omega, by rw [List.eraseIdx_zero, hr, List.tail_drop], by rw [List.length_eraseIdx, if_pos (by omega)]; omega⟩)⟩ (by show m - (j + 1) < m - j; omega)
      · skip
        refine Wp.cond0 rfl (decide_eq_false h76) ?_
        refine Wp.exit ?_
        refine Fin.thenX ?_
        refine Fin.thenX ?_
        refine Fin.blockX ?_
        refine Fin.then ?_
        refine Wp.seq ?_
        refine Wp.region ?_
        refine WL.val (v := .pointer (some ⟨h16, 0, none⟩)) rfl (Yl.move rfl) ?_
        obtain ⟨D93, HP94, ro95, bk96, rr97⟩ := Own.enter (L1 := [net h16 rest]) (L2 := [row A m c (List.flatMap eS ws) 9 1]) H74
        refine WL.do rfl (Do.call Try.call9 rfl (Take_none h16 rest 0 _ _ HP94 (by first | omega | (simp; done) | (simp; omega))) ?_)
        rintro _ w98 ⟨rfl, HQ99⟩
        have H100 : Own w (fun _ : Nat => False) w98 [net h16 rest, row A m c (List.flatMap eS ws) 9 1] := bk96 _ _ HQ99
        refine WL.val (v := .tuple #[.agg #[.int .i64 0, .int .i64 0, .slice none 0 0], .int .i64 5]) rfl (Yl.move rfl) ?_
        refine WL.val (v := .agg #[.int .i64 0, .int .i64 0, .slice none 0 0]) rfl (Yl.kern rfl rfl (fun _ => by kernel_rfl)) ?_
        refine WL.val (v := .int .i64 5) rfl (Yl.kern rfl rfl (fun _ => by kernel_rfl)) ?_
        refine WL.do rfl (Do.newP (cs := [.int .i64 0, .int .i64 0, .slice none 0 0]) (t := 37) H100 rfl rfl (fun _ => by kernel_rfl) ?_)
        intro g101 w102 H103
        replace H103 : Own w (fun _ : Nat => False) w102 [blk g101 [.int .i64 0, .int .i64 0, .slice none 0 0] 37, net h16 rest, row A m c (List.flatMap eS ws) 9 1] := H103
        refine WL.do0 (Do.store (vs := [.int .i64 0, .int .i64 0, .slice none 0 0]) (o := 0) H103 rfl rfl Try.sizeOf37 rfl rfl rfl rfl ?_)
        intro w104 H105
        replace H105 : Own w (fun _ : Nat => False) w104 [blk g101 [.int .i64 0, .int .i64 0, .slice none 0 0] 37, net h16 rest, row A m c (List.flatMap eS ws) 9 1] := H105
        refine WL.val (v := .int .i64 5) rfl (Yl.assign rfl) ?_
        refine WL.nil ?_
        refine Fin.then ?_
        refine Wp.seq ?_
        refine Wp.region ?_
        refine WL.val (v := .bool true) rfl (Yl.move rfl) ?_
        refine WL.val (v := .bool true) rfl (Yl.move rfl) ?_
        refine WL.valG (v := .int .i64 5) rfl rfl rfl rfl (Yl.move rfl) ?_
        refine WL.valG (v := .bool true) rfl rfl rfl rfl (Yl.kern rfl rfl (fun _ => by kernel_rfl)) ?_
        refine WL.val (v := .bool true) rfl (Yl.pickT rfl rfl rfl) ?_
        refine WL.val (v := .bool true) rfl (Yl.move rfl) ?_
        refine WL.valG (v := .pointer (some ⟨h16, 0, none⟩)) rfl rfl rfl rfl (Yl.move rfl) ?_
        have H106 : Own w (fun _ : Nat => False) w104 [net h16 rest, blk g101 [.int .i64 0, .int .i64 0, .slice none 0 0] 37, row A m c (List.flatMap eS ws) 9 1] := H105.pick [1, 0, 2] (by decide) rfl
        obtain ⟨D107, HP108, ro109, bk110, rr111⟩ := Own.enter (L1 := [net h16 rest]) (L2 := [blk g101 [.int .i64 0, .int .i64 0, .slice none 0 0] 37, row A m c (List.flatMap eS ws) 9 1]) H106
        refine WL.doG rfl rfl rfl rfl (Do.call Try.call18 rfl (Len_ok h16 rest _ _ HP108) ?_)
        rintro _ w112 ⟨rfl, HQ113⟩
        have H114 : Own w (fun _ : Nat => False) w112 [net h16 rest, blk g101 [.int .i64 0, .int .i64 0, .slice none 0 0] 37, row A m c (List.flatMap eS ws) 9 1] := bk110 _ _ HQ113
        refine WL.valG (v := .bool (decide (((List.length rest : Nat) : Int) = 0))) rfl rfl rfl rfl (Yl.kern rfl rfl (fun _ => by kernel_rfl)) ?_
        refine WL.val (v := .bool (decide (((List.length rest : Nat) : Int) = 0))) rfl (Yl.pickT rfl rfl rfl) ?_
        refine WL.val (v := .bool (decide (((List.length rest : Nat) : Int) = 0))) rfl (Yl.assign rfl) ?_
        refine WL.nil ?_
        refine Fin.then ?_
        refine Wp.ret ?_
        refine Fin.res (res1 rfl rfl) ?_
        have H115 : Own w (fun _ : Nat => False) w112 [] := H114.pick [] (by decide) rfl
        exact ⟨congrArg Value.bool (decide_eq_true (by omega)), H115⟩

theorem W_NetOrder (w : World) (l : Sv (List UInt8)) (hl : SvOk w 1 16 eS (fun s => List.length s ≤ 140737488351232) l) :
    Calls Try.prog 4 #[.slice l.A (List.length l.ls) l.c] w fun e w' => e = .returned (.bool true) ∧ Below w.heap.size w w' :=
  (order_ok w l hl).mono fun e w' ⟨v, he, hv, H⟩ => ⟨by rw [he, hv], H.below⟩
end Go.Proofs.Ytbflloaamnphkaa
