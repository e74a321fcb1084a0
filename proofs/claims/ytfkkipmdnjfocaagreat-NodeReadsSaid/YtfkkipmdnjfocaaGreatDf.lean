/-
  node: a node of its bytes.
-/
import Derived.Test.YtfkkipmdnjfocaaGreatDc
namespace Go.Proofs.YtfkkipmdnjfocaaGreat
open Go.RowKit
set_option linter.unusedVariables false
set_option linter.unusedSectionVars false
set_option linter.unusedSimpArgs false

def node_readText (p0 : ReaderT) : (List UInt8) × ReaderT :=
  bnd (reader_Reader_Text p0 480) fun yr26 => (yr26.1, yr26.2)

set_option maxRecDepth 100000 in
theorem node_readText_ok (w : World) (D : Nat → Prop) (g0 : Nat) (p0 : ReaderT) (A0x0 : Option Addr) (c0x0 : Nat) (r0 : List UInt8) (r1 : ReaderT) (H : Own w D w [blk g0 [.slice A0x0 p0.xrest.ls.length c0x0, .int .i64 p0.xerrno] 102]) (hx0x0 : Ro w D fun w' => Rds w' 1 A0x0 p0.xrest.ls.length (List.flatMap eB p0.xrest.ls)) (hb0x0 : p0.xrest.ls.length ≤ c0x0 ∧ p0.xrest.ls.length ≤ 9223372036854775807) (hr : node_readText p0 = (r0, r1)) :
    Calls Tryz.prog 71 #[.pointer (some ⟨g0, 0, none⟩)] w (Ret fun v w' => ∃ (B1ox0 : Option Addr) (b1ox0 : Nat), v = .string ⟨List.toArray r0⟩ ∧ Own w D w' [blk g0 [.slice B1ox0 r1.xrest.ls.length b1ox0, .int .i64 r1.xerrno] 102] ∧ (SubS 1 A0x0 c0x0 p0.xrest.ls B1ox0 b1ox0 r1.xrest.ls)) := by
  refine Calls.body (args := [.pointer (some ⟨g0, 0, none⟩)]) Tryz.func71 rfl rfl rfl ?_
  show Wp _ _ _ [(0, .pointer (some ⟨g0, 0, none⟩))] _ _
  refine Wp.seq (Wp.region (As rfl rfl (WL.nil (Fin.then (Wp.seq (Wp.region (Mv rfl rfl ?_)))))))
  obtain ⟨⟨r26, r27⟩, hr28⟩ : ∃ q : (List UInt8) × ReaderT, reader_Reader_Text p0 480 = q := ⟨_, rfl⟩
  obtain ⟨D21, HP22, ro23, bk24, rr25⟩ := Own.enter1 H
  refine WL.do rfl (Do.call Tryz.call85 rfl (reader_Reader_Text_ok _ _ g0 p0 A0x0 c0x0 480 r26 r27 HP22 (ro23 _ hx0x0) (show p0.xrest.ls.length ≤ c0x0 ∧ p0.xrest.ls.length ≤ 9223372036854775807 from by omega) hr28) ?_)
  rintro _ w29 ⟨A32, c33, rfl, HQ30, hs34⟩
  have H31 := bk24 _ _ HQ30
  replace hs34 : SubS 1 A0x0 c0x0 p0.xrest.ls A32 c33 r27.xrest.ls := hs34
  have hz35 := (hs34).le
  refine As rfl rfl (WL.nil (Fin.then (Wp.ret (Fin.res (res1 rfl rfl) ?_))))
  have H36 := H31.pick [0] (by decide) rfl
  have e : node_readText p0 = (r26, r27) := bnd_of hr28
  obtain ⟨rfl, rfl⟩ := pj2 (e.symm.trans hr)
  exact ⟨A32, c33, rfl, H36, hs34⟩

def node_readPair (p0 : ReaderT) : PairD × ReaderT :=
  bnd (node_readText p0) fun yr30 => bnd (node_readText yr30.2) fun yr45 => (PairD.mk yr30.1 yr45.1, yr45.2)

set_option maxRecDepth 100000 in
theorem node_readPair_ok (w : World) (D : Nat → Prop) (g0 : Nat) (p0 : ReaderT) (A0x0 : Option Addr) (c0x0 : Nat) (r0 : PairD) (r1 : ReaderT) (H : Own w D w [blk g0 [.slice A0x0 p0.xrest.ls.length c0x0, .int .i64 p0.xerrno] 102]) (hx0x0 : Ro w D fun w' => Rds w' 1 A0x0 p0.xrest.ls.length (List.flatMap eB p0.xrest.ls)) (hb0x0 : p0.xrest.ls.length ≤ c0x0 ∧ p0.xrest.ls.length ≤ 9223372036854775807) (hr : node_readPair p0 = (r0, r1)) :
    Calls Tryz.prog 50 #[.pointer (some ⟨g0, 0, none⟩)] w (Ret fun v w' => ∃ (B1ox0 : Option Addr) (b1ox0 : Nat), v = .agg (PairD.cells r0).toArray ∧ Own w D w' [blk g0 [.slice B1ox0 r1.xrest.ls.length b1ox0, .int .i64 r1.xerrno] 102] ∧ (SubS 1 A0x0 c0x0 p0.xrest.ls B1ox0 b1ox0 r1.xrest.ls)) := by
  refine Calls.body (args := [.pointer (some ⟨g0, 0, none⟩)]) Tryz.func50 rfl rfl rfl ?_
  show Wp _ _ _ [(0, .pointer (some ⟨g0, 0, none⟩))] _ _
  refine Wp.seq (Wp.region ?_)
  refine WL.do rfl (Do.newP (cs := [.string ⟨List.toArray ([])⟩, .string ⟨List.toArray ([])⟩]) (t := 44) H rfl rfl (fun _ => by kernel_rfl) ?_)
  intro g21 w22 H23
  refine WL.nil (Fin.then (Wp.seq (Wp.region (Mv rfl rfl ?_))))
  have H24 := H23.pick [1, 0] (by decide) rfl
  obtain ⟨⟨r30, r31⟩, hr32⟩ : ∃ q : (List UInt8) × ReaderT, node_readText p0 = q := ⟨_, rfl⟩
  obtain ⟨D25, HP26, ro27, bk28, rr29⟩ := Own.enter1 H24
  refine WL.do rfl (Do.call Tryz.call71 rfl (node_readText_ok _ _ g0 p0 A0x0 c0x0 r30 r31 HP26 (ro27 _ hx0x0) (show p0.xrest.ls.length ≤ c0x0 ∧ p0.xrest.ls.length ≤ 9223372036854775807 from by omega) hr32) ?_)
  rintro _ w33 ⟨A36, c37, rfl, HQ34, hs38⟩
  have H35 := bk28 _ _ HQ34
  replace hs38 : SubS 1 A0x0 c0x0 p0.xrest.ls A36 c37 r31.xrest.ls := hs38
  have hz39 := (hs38).le
  refine As rfl rfl (WL.nil (Fin.then (Wp.seq (Wp.region (Mv rfl rfl (Mv rfl rfl ?_))))))
  obtain ⟨⟨r45, r46⟩, hr47⟩ : ∃ q : (List UInt8) × ReaderT, node_readText r31 = q := ⟨_, rfl⟩
  obtain ⟨D40, HP41, ro42, bk43, rr44⟩ := Own.enter1 H35
  refine WL.do rfl (Do.call Tryz.call71 rfl (node_readText_ok _ _ g0 r31 A36 c37 r45 r46 HP41 (fun w9 h9 => SubS.rds eB_len (by decide) hs38 ((ro42 _ hx0x0) w9 h9)) (show r31.xrest.ls.length ≤ c37 ∧ r31.xrest.ls.length ≤ 9223372036854775807 from by omega) hr47) ?_)
  rintro _ w48 ⟨A51, c52, rfl, HQ49, hs53⟩
  have H50 := bk43 _ _ HQ49
  replace hs53 : SubS 1 A36 c37 r31.xrest.ls A51 c52 r46.xrest.ls := hs53
  have hz54 := (hs53).le
  refine Kn (v := .agg #[.string ⟨List.toArray r30⟩, .string ⟨List.toArray r45⟩]) rfl rfl rfl (fun _ => by kernel_rfl) ?_
  have H55 := H50.pick [1, 0] (by decide) rfl
  refine WL.do0 (Do.store (vs := [.string ⟨List.toArray r30⟩, .string ⟨List.toArray r45⟩]) (o := 0) H55 rfl rfl Tryz.sizeOf44 rfl rfl rfl rfl ?_)
  intro w56 H57
  refine WL.nil (Fin.then (Wp.ret (Fin.res (resC rfl rfl (Lds.agg (cs := [.string ⟨List.toArray r30⟩, .string ⟨List.toArray r45⟩]) Tryz.isAgg44 Tryz.sizeOf44 ((H57.cls (i := 0) rfl).lit (k := 0) (m := 2) rfl))) ?_)))
  have H58 := H57.pick [1] (by decide) rfl
  have e : node_readPair p0 = (PairD.mk r30 r45, r46) := Eq.trans (bnd_of hr32) (bnd_of hr47)
  obtain ⟨rfl, rfl⟩ := pj2 (e.symm.trans hr)
  exact ⟨A51, c52, rfl, H58, (SubS.trans hs38 hs53)⟩

def reader_Times_api_Pair_L0 (p1 : Int) : Nat → List PairD → Nat → List UInt8 → Int → (List PairD) × (List UInt8) × Int
  | 0, l31, k32, l35, z36 => default
  | q37 + 1, l31, k32, l35, z36 => if ((k32 : Nat) : Int) < p1 then if z36 = 0 then bnd (node_readPair (ReaderT.mk (Ll.mk l35) z36)) fun yr58 => reader_Times_api_Pair_L0 p1 q37 (l31 ++ [yr58.1]) (k32 + 1) yr58.2.xrest.ls yr58.2.xerrno else (l31, l35, z36) else (l31, l35, z36)

def reader_Times_api_Pair (p0 : ReaderT) (p1 : Int) : (List PairD) × ReaderT :=
  bnd (bnd (reader_Times_api_Pair_L0 p1 ((Int.toNat p1 - 0) + 1) ([]) 0 p0.xrest.ls p0.xerrno) fun sLrJjL => (sLrJjL.1, sLrJjL.2.1, sLrJjL.2.2)) fun sJrJ => (sJrJ.1, ReaderT.mk (Ll.mk sJrJ.2.1) sJrJ.2.2)

set_option maxRecDepth 100000 in
theorem reader_Times_api_Pair_ok (w : World) (D : Nat → Prop) (g0 : Nat) (p0 : ReaderT) (A0x0 : Option Addr) (c0x0 : Nat) (p1 : Int) (r0 : List PairD) (r1 : ReaderT) (H : Own w D w [blk g0 [.slice A0x0 p0.xrest.ls.length c0x0, .int .i64 p0.xerrno] 102]) (hx0x0 : Ro w D fun w' => Rds w' 1 A0x0 p0.xrest.ls.length (List.flatMap eB p0.xrest.ls)) (hb0x0 : p0.xrest.ls.length ≤ c0x0 ∧ p0.xrest.ls.length ≤ 9223372036854775807) (hh0 : p1 ≤ 1000) (hr : reader_Times_api_Pair p0 p1 = (r0, r1)) :
    Calls Tryz.prog 69 #[.pointer (some ⟨g0, 0, none⟩), .int .i64 p1, .func (.func 50) #[] #[]] w (Ret fun v w' => ∃ (B0 : Option Addr) (b0 : Nat) (B1ox0 : Option Addr) (b1ox0 : Nat), v = .slice B0 r0.length b0 ∧ Own w D w' [row B0 r0.length b0 (List.flatMap PairD.cells r0) 44 2, blk g0 [.slice B1ox0 r1.xrest.ls.length b1ox0, .int .i64 r1.xerrno] 102] ∧ (SubS 1 A0x0 c0x0 p0.xrest.ls B1ox0 b1ox0 r1.xrest.ls) ∧ (r0.length ≤ 1000)) := by
  refine Calls.body (args := [.pointer (some ⟨g0, 0, none⟩), .int .i64 p1, .func (.func 50) #[] #[]]) Tryz.func69 rfl rfl rfl ?_
  show Wp _ _ _ [(0, .pointer (some ⟨g0, 0, none⟩)), (1, .int .i64 p1), (2, .func (.func 50) #[] #[])] _ _
  refine Wp.seq (Wp.region (As rfl rfl (WL.nil (Fin.then (Wp.seq (Wp.region (As rfl rfl (WL.nil (Fin.then (Wp.seq (Wp.seq (Wp.region (As rfl rfl (WL.nil (Fin.then ?_)))))))))))))))
  refine Wp.joinT (ι := (Option Addr) × Nat × (List PairD) × (Option Addr) × Nat × (List UInt8) × Int) (fun i => [(7, .slice i.1 i.2.2.1.length i.2.1), (6, .slice none 0 0)]) (fun (i : (Option Addr) × Nat × (List PairD) × (Option Addr) × Nat × (List UInt8) × Int) w' => Own w D w' [blk g0 [.slice i.2.2.2.1 i.2.2.2.2.2.1.length i.2.2.2.2.1, .int .i64 i.2.2.2.2.2.2] 102, row i.1 i.2.2.1.length i.2.1 (List.flatMap PairD.cells i.2.2.1) 44 2] ∧ (SubS 1 A0x0 c0x0 p0.xrest.ls i.2.2.2.1 i.2.2.2.2.1 i.2.2.2.2.2.1 ∧ 0 ≤ i.2.2.1.length ∧ i.2.2.2.2.2.1.length ≤ p0.xrest.ls.length ∧ i.2.2.2.2.2.1.length ≤ p0.xrest.ls.length + 1 ∧ i.2.2.1.length ≤ 1000 ∧ (bnd (reader_Times_api_Pair_L0 p1 ((Int.toNat p1 - 0) + 1) ([]) 0 p0.xrest.ls p0.xerrno) fun sLrJjL => (sLrJjL.1, sLrJjL.2.1, sLrJjL.2.2)) = (i.2.2.1, i.2.2.2.2.2.1, i.2.2.2.2.2.2))) ?_ ?_
  refine Wp.block ?_
  have H28 : Own w D w [row none 0 0 (List.flatMap PairD.cells ([])) 44 2, blk g0 [.slice A0x0 p0.xrest.ls.length c0x0, .int .i64 p0.xerrno] 102] := H.free (row_nil 44 2)
  have H39 := H28.pick [1, 0] (by decide) rfl
  refine Wp.loop (ι := (Option Addr) × Nat × (List PairD) × Nat × (Option Addr) × Nat × (List UInt8) × Int × Nat) (fun i => [(7, .slice i.1 i.2.2.1.length i.2.1), (8, .int .i64 ((i.2.2.2.1 : Nat) : Int)), (6, .slice none 0 0), (0, .pointer (some ⟨g0, 0, none⟩)), (1, .int .i64 p1), (2, .func (.func 50) #[] #[])]) (fun (i : (Option Addr) × Nat × (List PairD) × Nat × (Option Addr) × Nat × (List UInt8) × Int × Nat) w' => Own w D w' [blk g0 [.slice i.2.2.2.2.1 i.2.2.2.2.2.2.1.length i.2.2.2.2.2.1, .int .i64 i.2.2.2.2.2.2.2.1] 102, row i.1 i.2.2.1.length i.2.1 (List.flatMap PairD.cells i.2.2.1) 44 2] ∧ (SubS 1 A0x0 c0x0 p0.xrest.ls i.2.2.2.2.1 i.2.2.2.2.2.1 i.2.2.2.2.2.2.1 ∧ i.2.2.1.length ≤ i.2.2.2.1 ∧ (i.2.2.2.1 = 0 ∨ ((i.2.2.2.1 : Nat) : Int) ≤ p1) ∧ Int.toNat p1 - i.2.2.2.1 < i.2.2.2.2.2.2.2.2 ∧ reader_Times_api_Pair_L0 p1 ((Int.toNat p1 - 0) + 1) ([]) 0 p0.xrest.ls p0.xerrno = reader_Times_api_Pair_L0 p1 i.2.2.2.2.2.2.2.2 i.2.2.1 i.2.2.2.1 i.2.2.2.2.2.2.1 i.2.2.2.2.2.2.2.1)) (fun i => i.2.2.2.2.2.2.2.2) (none, 0, [], 0, A0x0, c0x0, p0.xrest.ls, p0.xerrno, (Int.toNat p1 - 0) + 1) ⟨rfl, rfl, rfl, rfl, rfl, rfl, trivial⟩ ⟨H39, (show SubS 1 A0x0 c0x0 p0.xrest.ls A0x0 c0x0 p0.xrest.ls ∧ 0 ≤ 0 ∧ (0 = 0 ∨ ((0 : Nat) : Int) ≤ p1) ∧ Int.toNat p1 - 0 < ((Int.toNat p1 - 0) + 1) ∧ reader_Times_api_Pair_L0 p1 ((Int.toNat p1 - 0) + 1) ([]) 0 p0.xrest.ls p0.xerrno = reader_Times_api_Pair_L0 p1 ((Int.toNat p1 - 0) + 1) ([]) 0 p0.xrest.ls p0.xerrno from ⟨by exact (SubS.refl (by omega)), by omega, by omega, by omega, rfl⟩)⟩ ?_
  rintro ⟨A29, c30, l31, k32, A33, c34, l35, z36, f38⟩ w40 ⟨H41, hf42⟩
  show Wp _ _ _ [(7, .slice A29 l31.length c30), (8, .int .i64 ((k32 : Nat) : Int)), (6, .slice none 0 0), (0, .pointer (some ⟨g0, 0, none⟩)), (1, .int .i64 p1), (2, .func (.func 50) #[] #[])] _ _
  replace hf42 : SubS 1 A0x0 c0x0 p0.xrest.ls A33 c34 l35 ∧ l31.length ≤ k32 ∧ (k32 = 0 ∨ ((k32 : Nat) : Int) ≤ p1) ∧ Int.toNat p1 - k32 < f38 ∧ reader_Times_api_Pair_L0 p1 ((Int.toNat p1 - 0) + 1) ([]) 0 p0.xrest.ls p0.xerrno = reader_Times_api_Pair_L0 p1 f38 l31 k32 l35 z36 := hf42
  obtain ⟨hi44, hi45, hi46, hi47, hq43⟩ := hf42
  have hz48 := (hi44).le
  obtain ⟨f49, hf50⟩ : ∃ q, f38 = q + 1 := ⟨f38 - 1, by omega⟩
  subst hf50
  refine Wp.seq (Wp.seq (Wp.region (Mv rfl rfl (Mv rfl rfl (Kn (v := .bool (decide (((k32 : Nat) : Int) < p1))) rfl rfl rfl (fun _ => by kernel_rfl) (Mv rfl rfl ?_))))))
  by_cases h51 : ((k32 : Nat) : Int) < p1
  refine WL.valG (v := .pointer (some ⟨g0, 0, none⟩)) rfl rfl (decide_eq_true h51) rfl (Yl.move rfl) (WL.valG (v := .pointer (some ⟨g0, 0, none⟩)) rfl rfl (decide_eq_true h51) rfl (Yl.kern rfl rfl (fun _ => by kernel_rfl)) (WL.valG (v := .pointer (some ⟨g0, 1, none⟩)) rfl rfl (decide_eq_true h51) rfl (Yl.kern rfl rfl (fun _ => by kernel_rfl)) (WL.valG (v := .int .i64 z36) rfl rfl (decide_eq_true h51) rfl (Yl.load rfl (Lds.one Tryz.isAgg30 (Cls.of (H41.cls (i := 0) rfl) rfl))) (WL.valG (v := .bool (decide (z36 = 0))) rfl rfl (decide_eq_true h51) rfl (Yl.kern rfl rfl (fun _ => by kernel_rfl)) (WL.val (v := .bool (decide (z36 = 0))) rfl (Yl.pickT rfl (decide_eq_true h51) rfl) (WL.nil (Fin.then ?_)))))))
  by_cases h52 : z36 = 0
  refine Wp.cond1 rfl (decide_eq_true h52) (Wp.skip (Fin.then (Wp.seq (Wp.block (Wp.region (Mv rfl rfl (Mv rfl rfl (Mv rfl rfl ?_))))))))
  obtain ⟨⟨r58, r59⟩, hr60⟩ : ∃ q : PairD × ReaderT, node_readPair (ReaderT.mk (Ll.mk l35) z36) = q := ⟨_, rfl⟩
  obtain ⟨D53, HP54, ro55, bk56, rr57⟩ := Own.enter1 H41
  refine WL.do rfl (Do.callV Tryz.call50 rfl rfl (node_readPair_ok _ _ g0 (ReaderT.mk (Ll.mk l35) z36) A33 c34 r58 r59 HP54 (fun w9 h9 => SubS.rds eB_len (by decide) hi44 ((ro55 _ hx0x0) w9 h9)) (show l35.length ≤ c34 ∧ l35.length ≤ 9223372036854775807 from by omega) hr60) ?_)
  rintro _ w61 ⟨A64, c65, rfl, HQ62, hs66⟩
  have H63 := bk56 _ _ HQ62
  replace hs66 : SubS 1 A33 c34 l35 A64 c65 r59.xrest.ls := hs66
  have hz67 := (hs66).le
  refine WL.do rfl (Do.newRow (cs := (PairD.cells r58)) (t := 44) (sz := 2) (m := 1) H63 rfl rfl (fun _ => by kernel_rfl) rfl (by decide) ?_)
  intro A68 w69 H70
  replace H70 : Own w D w69 [row A68 1 1 (List.flatMap PairD.cells ([r58])) 44 2, blk g0 [.slice A64 r59.xrest.ls.length c65, .int .i64 r59.xerrno] 102, row A29 l31.length c30 (List.flatMap PairD.cells l31) 44 2] := H70
  have H71 := H70.pick [2, 0, 1] (by decide) rfl
  refine WL.do rfl (Do.appendW (k := l31.length) (m := 1) (El22) H71 rfl rfl (src_of Tryz.underlying22 (H71.rds (i := 1) rfl) (flat_one PairD.one ([r58]))) rfl (by omega) (s := List.length (l31 ++ [r58])) (by first | omega | (simp only [List.length_append, List.length_cons, List.length_nil] <;> omega)) (List.flatMap_append).symm ?_)
  intro A72 c73 w74 H75
  have hl76 : List.length (l31 ++ [r58]) = l31.length + 1 := by simp only [List.length_append, List.length_cons, List.length_nil]
  refine As rfl rfl (WL.nil (Fin.blockN (Fin.then (Wp.region (Mv rfl rfl (WL.val (v := .int .i64 ((k32 + 1 : Nat) : Int)) rfl (Yl.int (e := IntKind.i64.wrap (((k32 : Nat) : Int) + 1)) (Yl.kern rfl rfl (fun _ => by kernel_rfl)) (by rw [IntWalk.i64_in _ (by omega)]; omega)) (As rfl rfl (WL.nil ?_))))))))
  have H77 := H75.pick [2, 0] (by decide) rfl
  exact Fin.round (A72, c73, (l31 ++ [r58]), k32 + 1, A64, c65, r59.xrest.ls, r59.xerrno, f49) ⟨rfl, rfl, rfl, rfl, rfl, rfl, trivial⟩ ⟨H77, (show SubS 1 A0x0 c0x0 p0.xrest.ls A64 c65 r59.xrest.ls ∧ List.length (l31 ++ [r58]) ≤ (k32 + 1) ∧ ((k32 + 1) = 0 ∨ (((k32 + 1) : Nat) : Int) ≤ p1) ∧ Int.toNat p1 - (k32 + 1) < f49 ∧ reader_Times_api_Pair_L0 p1 ((Int.toNat p1 - 0) + 1) ([]) 0 p0.xrest.ls p0.xerrno = reader_Times_api_Pair_L0 p1 f49 (l31 ++ [r58]) (k32 + 1) r59.xrest.ls r59.xerrno from ⟨by exact (SubS.trans hi44 hs66), by omega, by omega, by omega, Eq.trans (hq43) (Eq.trans (if_pos h51) (Eq.trans (if_pos h52) (bnd_of hr60)))⟩)⟩ (by show f49 < f49 + 1; omega)
  refine Wp.cond0 rfl (decide_eq_false h52) (Wp.exit (Fin.thenX (Fin.thenX (Fin.blockX ?_))))
  have H78 := H41.pick [0, 1] (by decide) rfl
  exact Fin.join (A29, c30, l31, A33, c34, l35, z36) ⟨rfl, rfl, trivial⟩ ⟨H78, (show SubS 1 A0x0 c0x0 p0.xrest.ls A33 c34 l35 ∧ 0 ≤ l31.length ∧ l35.length ≤ p0.xrest.ls.length ∧ l35.length ≤ p0.xrest.ls.length + 1 ∧ l31.length ≤ 1000 ∧ (bnd (reader_Times_api_Pair_L0 p1 ((Int.toNat p1 - 0) + 1) ([]) 0 p0.xrest.ls p0.xerrno) fun sLrJjL => (sLrJjL.1, sLrJjL.2.1, sLrJjL.2.2)) = (l31, l35, z36) from ⟨by exact hi44, by omega, by omega, by omega, by omega, bnd_of (Eq.trans (hq43) (Eq.trans (if_pos h51) (if_neg h52)))⟩)⟩
  refine Sk rfl rfl (decide_eq_false h51) rfl (Sk rfl rfl (decide_eq_false h51) rfl (Sk rfl rfl (decide_eq_false h51) rfl (Sk rfl rfl (decide_eq_false h51) rfl (Sk rfl rfl (decide_eq_false h51) rfl (WL.val (v := .bool false) rfl (Yl.pickF rfl (decide_eq_false h51) rfl) (WL.nil (Fin.then (Wp.cond0 rfl rfl (Wp.exit (Fin.thenX (Fin.thenX (Fin.blockX ?_))))))))))))
  have H79 := H41.pick [0, 1] (by decide) rfl
  exact Fin.join (A29, c30, l31, A33, c34, l35, z36) ⟨rfl, rfl, trivial⟩ ⟨H79, (show SubS 1 A0x0 c0x0 p0.xrest.ls A33 c34 l35 ∧ 0 ≤ l31.length ∧ l35.length ≤ p0.xrest.ls.length ∧ l35.length ≤ p0.xrest.ls.length + 1 ∧ l31.length ≤ 1000 ∧ (bnd (reader_Times_api_Pair_L0 p1 ((Int.toNat p1 - 0) + 1) ([]) 0 p0.xrest.ls p0.xerrno) fun sLrJjL => (sLrJjL.1, sLrJjL.2.1, sLrJjL.2.2)) = (l31, l35, z36) from ⟨by exact hi44, by omega, by omega, by omega, by omega, bnd_of (Eq.trans (hq43) (if_neg h51))⟩)⟩
  rintro ⟨A21, c22, l23, A24, c25, l26, z27⟩ w80 ⟨H81, hf82⟩
  show Wp _ _ _ [(7, .slice A21 l23.length c22), (6, .slice none 0 0)] _ _
  replace hf82 : SubS 1 A0x0 c0x0 p0.xrest.ls A24 c25 l26 ∧ 0 ≤ l23.length ∧ l26.length ≤ p0.xrest.ls.length ∧ l26.length ≤ p0.xrest.ls.length + 1 ∧ l23.length ≤ 1000 ∧ (bnd (reader_Times_api_Pair_L0 p1 ((Int.toNat p1 - 0) + 1) ([]) 0 p0.xrest.ls p0.xerrno) fun sLrJjL => (sLrJjL.1, sLrJjL.2.1, sLrJjL.2.2)) = (l23, l26, z27) := hf82
  obtain ⟨hi84, hi85, hi86, hi87, hi88, hj83⟩ := hf82
  have hz89 := (hi84).le
  refine Wp.seq (Wp.region (Mv rfl rfl (As rfl rfl (WL.nil (Fin.then (Wp.ret (Fin.res (res1 rfl rfl) ?_)))))))
  have H90 := H81.pick [1, 0] (by decide) rfl
  have e : reader_Times_api_Pair p0 p1 = (l23, ReaderT.mk (Ll.mk l26) z27) := bnd_of hj83
  obtain ⟨rfl, rfl⟩ := pj2 (e.symm.trans hr)
  exact ⟨A21, c22, A24, c25, rfl, H90, hi84, (by omega)⟩

def reader_List_api_Pair (p0 : ReaderT) (p1 : Nat) : (List PairD) × ReaderT :=
  bnd (reader_Reader_Num p0 p1) fun yr26 => bnd (reader_Times_api_Pair yr26.2 ((yr26.1 : Nat) : Int)) fun yr42 => (yr42.1, yr42.2)

set_option maxRecDepth 100000 in
theorem reader_List_api_Pair_ok (w : World) (D : Nat → Prop) (g0 : Nat) (p0 : ReaderT) (A0x0 : Option Addr) (c0x0 : Nat) (p1 : Nat) (r0 : List PairD) (r1 : ReaderT) (H : Own w D w [blk g0 [.slice A0x0 p0.xrest.ls.length c0x0, .int .i64 p0.xerrno] 102]) (hx0x0 : Ro w D fun w' => Rds w' 1 A0x0 p0.xrest.ls.length (List.flatMap eB p0.xrest.ls)) (hb0x0 : p0.xrest.ls.length ≤ c0x0 ∧ p0.xrest.ls.length ≤ 9223372036854775807) (hh0 : p1 ≤ 1000) (hr : reader_List_api_Pair p0 p1 = (r0, r1)) :
    Calls Tryz.prog 49 #[.pointer (some ⟨g0, 0, none⟩), .int .u64 ((p1 : Nat) : Int), .func (.func 50) #[] #[]] w (Ret fun v w' => ∃ (B0 : Option Addr) (b0 : Nat) (B1ox0 : Option Addr) (b1ox0 : Nat), v = .slice B0 r0.length b0 ∧ Own w D w' [row B0 r0.length b0 (List.flatMap PairD.cells r0) 44 2, blk g0 [.slice B1ox0 r1.xrest.ls.length b1ox0, .int .i64 r1.xerrno] 102] ∧ (SubS 1 A0x0 c0x0 p0.xrest.ls B1ox0 b1ox0 r1.xrest.ls) ∧ (r0.length ≤ 1000)) := by
  refine Calls.body (args := [.pointer (some ⟨g0, 0, none⟩), .int .u64 ((p1 : Nat) : Int), .func (.func 50) #[] #[]]) Tryz.func49 rfl rfl rfl ?_
  show Wp _ _ _ [(0, .pointer (some ⟨g0, 0, none⟩)), (1, .int .u64 ((p1 : Nat) : Int)), (2, .func (.func 50) #[] #[])] _ _
  refine Wp.seq (Wp.region (As rfl rfl (WL.nil (Fin.then (Wp.seq (Wp.region (Mv rfl rfl (Mv rfl rfl (Mv rfl rfl ?_)))))))))
  obtain ⟨⟨r26, r27⟩, hr28⟩ : ∃ q : Nat × ReaderT, reader_Reader_Num p0 p1 = q := ⟨_, rfl⟩
  obtain ⟨D21, HP22, ro23, bk24, rr25⟩ := Own.enter1 H
  refine WL.do rfl (Do.call Tryz.call70 rfl (reader_Reader_Num_ok _ _ g0 p0 A0x0 c0x0 p1 r26 r27 HP22 (ro23 _ hx0x0) (show p0.xrest.ls.length ≤ c0x0 ∧ p0.xrest.ls.length ≤ 9223372036854775807 from by omega) hr28) ?_)
  rintro _ w29 ⟨A32, c33, rfl, HQ30, hs34, hk35⟩
  have H31 := bk24 _ _ HQ30
  replace hs34 : SubS 1 A0x0 c0x0 p0.xrest.ls A32 c33 r27.xrest.ls := hs34
  have hz36 := (hs34).le
  replace hk35 : r26 ≤ p1 := hk35
  refine WL.val (v := .int .i64 ((r26 : Nat) : Int)) rfl (Yl.int (e := IntKind.i64.wrap ((r26 : Nat) : Int)) (Yl.kern rfl rfl (fun _ => by kernel_rfl)) (IntWalk.i64_in _ (by omega))) (Mv rfl rfl ?_)
  obtain ⟨⟨r42, r43⟩, hr44⟩ : ∃ q : (List PairD) × ReaderT, reader_Times_api_Pair r27 ((r26 : Nat) : Int) = q := ⟨_, rfl⟩
  obtain ⟨D37, HP38, ro39, bk40, rr41⟩ := Own.enter1 H31
  refine WL.do rfl (Do.call Tryz.call69 rfl (reader_Times_api_Pair_ok _ _ g0 r27 A32 c33 ((r26 : Nat) : Int) r42 r43 HP38 (fun w9 h9 => SubS.rds eB_len (by decide) hs34 ((ro39 _ hx0x0) w9 h9)) (show r27.xrest.ls.length ≤ c33 ∧ r27.xrest.ls.length ≤ 9223372036854775807 from by omega) (by omega) hr44) ?_)
  rintro _ w45 ⟨A48, c49, A50, c51, rfl, HQ46, hs52, hk53⟩
  have H47 := bk40 _ _ HQ46
  replace hs52 : SubS 1 A32 c33 r27.xrest.ls A50 c51 r43.xrest.ls := hs52
  have hz54 := (hs52).le
  have hb55 := H47.rowC (i := 0) rfl
  replace hk53 : r42.length ≤ 1000 := hk53
  refine As rfl rfl (WL.nil (Fin.then (Wp.ret (Fin.res (res1 rfl rfl) ?_))))
  have H56 := H47.pick [0, 1] (by decide) rfl
  have e : reader_List_api_Pair p0 p1 = (r42, r43) := Eq.trans (bnd_of hr28) (bnd_of hr44)
  obtain ⟨rfl, rfl⟩ := pj2 (e.symm.trans hr)
  exact ⟨A48, c49, A50, c51, rfl, H56, (SubS.trans hs34 hs52), (by omega)⟩

def node_readKid (p0 : ReaderT) : Int × ReaderT :=
  bnd (reader_Reader_Num p0 2147483647) fun yr26 => (((yr26.1 : Nat) : Int), yr26.2)

set_option maxRecDepth 100000 in
theorem node_readKid_ok (w : World) (D : Nat → Prop) (g0 : Nat) (p0 : ReaderT) (A0x0 : Option Addr) (c0x0 : Nat) (r0 : Int) (r1 : ReaderT) (H : Own w D w [blk g0 [.slice A0x0 p0.xrest.ls.length c0x0, .int .i64 p0.xerrno] 102]) (hx0x0 : Ro w D fun w' => Rds w' 1 A0x0 p0.xrest.ls.length (List.flatMap eB p0.xrest.ls)) (hb0x0 : p0.xrest.ls.length ≤ c0x0 ∧ p0.xrest.ls.length ≤ 9223372036854775807) (hr : node_readKid p0 = (r0, r1)) :
    Calls Tryz.prog 73 #[.pointer (some ⟨g0, 0, none⟩)] w (Ret fun v w' => ∃ (B1ox0 : Option Addr) (b1ox0 : Nat), v = .int .i64 r0 ∧ Own w D w' [blk g0 [.slice B1ox0 r1.xrest.ls.length b1ox0, .int .i64 r1.xerrno] 102] ∧ (SubS 1 A0x0 c0x0 p0.xrest.ls B1ox0 b1ox0 r1.xrest.ls)) := by
  refine Calls.body (args := [.pointer (some ⟨g0, 0, none⟩)]) Tryz.func73 rfl rfl rfl ?_
  show Wp _ _ _ [(0, .pointer (some ⟨g0, 0, none⟩))] _ _
  refine Wp.seq (Wp.region (As rfl rfl (WL.nil (Fin.then (Wp.seq (Wp.region (Mv rfl rfl ?_)))))))
  obtain ⟨⟨r26, r27⟩, hr28⟩ : ∃ q : Nat × ReaderT, reader_Reader_Num p0 2147483647 = q := ⟨_, rfl⟩
  obtain ⟨D21, HP22, ro23, bk24, rr25⟩ := Own.enter1 H
  refine WL.do rfl (Do.call Tryz.call70 rfl (reader_Reader_Num_ok _ _ g0 p0 A0x0 c0x0 2147483647 r26 r27 HP22 (ro23 _ hx0x0) (show p0.xrest.ls.length ≤ c0x0 ∧ p0.xrest.ls.length ≤ 9223372036854775807 from by omega) hr28) ?_)
  rintro _ w29 ⟨A32, c33, rfl, HQ30, hs34, hk35⟩
  have H31 := bk24 _ _ HQ30
  replace hs34 : SubS 1 A0x0 c0x0 p0.xrest.ls A32 c33 r27.xrest.ls := hs34
  have hz36 := (hs34).le
  replace hk35 : r26 ≤ 2147483647 := hk35
  refine WL.val (v := .int .i64 ((r26 : Nat) : Int)) rfl (Yl.int (e := IntKind.i64.wrap ((r26 : Nat) : Int)) (Yl.kern rfl rfl (fun _ => by kernel_rfl)) (IntWalk.i64_in _ (by omega))) (As rfl rfl (WL.nil (Fin.then (Wp.ret (Fin.res (res1 rfl rfl) ?_)))))
  have H37 := H31.pick [0] (by decide) rfl
  have e : node_readKid p0 = (((r26 : Nat) : Int), r27) := bnd_of hr28
  obtain ⟨rfl, rfl⟩ := pj2 (e.symm.trans hr)
  exact ⟨A32, c33, rfl, H37, hs34⟩

def reader_Times_int_L0 (p1 : Int) : Nat → List Int → Nat → List UInt8 → Int → (List Int) × (List UInt8) × Int
  | 0, l31, k32, l35, z36 => default
  | q37 + 1, l31, k32, l35, z36 => if ((k32 : Nat) : Int) < p1 then if z36 = 0 then bnd (node_readKid (ReaderT.mk (Ll.mk l35) z36)) fun yr58 => reader_Times_int_L0 p1 q37 (l31 ++ [yr58.1]) (k32 + 1) yr58.2.xrest.ls yr58.2.xerrno else (l31, l35, z36) else (l31, l35, z36)

def reader_Times_int (p0 : ReaderT) (p1 : Int) : (List Int) × ReaderT :=
  bnd (bnd (reader_Times_int_L0 p1 ((Int.toNat p1 - 0) + 1) ([]) 0 p0.xrest.ls p0.xerrno) fun sLrJjL => (sLrJjL.1, sLrJjL.2.1, sLrJjL.2.2)) fun sJrJ => (sJrJ.1, ReaderT.mk (Ll.mk sJrJ.2.1) sJrJ.2.2)

set_option maxRecDepth 100000 in
theorem reader_Times_int_ok (w : World) (D : Nat → Prop) (g0 : Nat) (p0 : ReaderT) (A0x0 : Option Addr) (c0x0 : Nat) (p1 : Int) (r0 : List Int) (r1 : ReaderT) (H : Own w D w [blk g0 [.slice A0x0 p0.xrest.ls.length c0x0, .int .i64 p0.xerrno] 102]) (hx0x0 : Ro w D fun w' => Rds w' 1 A0x0 p0.xrest.ls.length (List.flatMap eB p0.xrest.ls)) (hb0x0 : p0.xrest.ls.length ≤ c0x0 ∧ p0.xrest.ls.length ≤ 9223372036854775807) (hh0 : p1 ≤ 1000) (hr : reader_Times_int p0 p1 = (r0, r1)) :
    Calls Tryz.prog 86 #[.pointer (some ⟨g0, 0, none⟩), .int .i64 p1, .func (.func 73) #[] #[]] w (Ret fun v w' => ∃ (B0 : Option Addr) (b0 : Nat) (B1ox0 : Option Addr) (b1ox0 : Nat), v = .slice B0 r0.length b0 ∧ Own w D w' [row B0 r0.length b0 (List.flatMap (eI .i64) r0) 3 1, blk g0 [.slice B1ox0 r1.xrest.ls.length b1ox0, .int .i64 r1.xerrno] 102] ∧ (SubS 1 A0x0 c0x0 p0.xrest.ls B1ox0 b1ox0 r1.xrest.ls) ∧ (r0.length ≤ 1000)) := by
  refine Calls.body (args := [.pointer (some ⟨g0, 0, none⟩), .int .i64 p1, .func (.func 73) #[] #[]]) Tryz.func86 rfl rfl rfl ?_
  show Wp _ _ _ [(0, .pointer (some ⟨g0, 0, none⟩)), (1, .int .i64 p1), (2, .func (.func 73) #[] #[])] _ _
  refine Wp.seq (Wp.region (As rfl rfl (WL.nil (Fin.then (Wp.seq (Wp.region (As rfl rfl (WL.nil (Fin.then (Wp.seq (Wp.seq (Wp.region (As rfl rfl (WL.nil (Fin.then ?_)))))))))))))))
  refine Wp.joinT (ι := (Option Addr) × Nat × (List Int) × (Option Addr) × Nat × (List UInt8) × Int) (fun i => [(7, .slice i.1 i.2.2.1.length i.2.1), (6, .slice none 0 0)]) (fun (i : (Option Addr) × Nat × (List Int) × (Option Addr) × Nat × (List UInt8) × Int) w' => Own w D w' [blk g0 [.slice i.2.2.2.1 i.2.2.2.2.2.1.length i.2.2.2.2.1, .int .i64 i.2.2.2.2.2.2] 102, row i.1 i.2.2.1.length i.2.1 (List.flatMap (eI .i64) i.2.2.1) 3 1] ∧ (SubS 1 A0x0 c0x0 p0.xrest.ls i.2.2.2.1 i.2.2.2.2.1 i.2.2.2.2.2.1 ∧ 0 ≤ i.2.2.1.length ∧ i.2.2.2.2.2.1.length ≤ p0.xrest.ls.length ∧ i.2.2.2.2.2.1.length ≤ p0.xrest.ls.length + 1 ∧ i.2.2.1.length ≤ 1000 ∧ (bnd (reader_Times_int_L0 p1 ((Int.toNat p1 - 0) + 1) ([]) 0 p0.xrest.ls p0.xerrno) fun sLrJjL => (sLrJjL.1, sLrJjL.2.1, sLrJjL.2.2)) = (i.2.2.1, i.2.2.2.2.2.1, i.2.2.2.2.2.2))) ?_ ?_
  refine Wp.block ?_
  have H28 : Own w D w [row none 0 0 (List.flatMap (eI .i64) ([])) 3 1, blk g0 [.slice A0x0 p0.xrest.ls.length c0x0, .int .i64 p0.xerrno] 102] := H.free (row_nil 3 1)
  have H39 := H28.pick [1, 0] (by decide) rfl
  refine Wp.loop (ι := (Option Addr) × Nat × (List Int) × Nat × (Option Addr) × Nat × (List UInt8) × Int × Nat) (fun i => [(7, .slice i.1 i.2.2.1.length i.2.1), (8, .int .i64 ((i.2.2.2.1 : Nat) : Int)), (6, .slice none 0 0), (0, .pointer (some ⟨g0, 0, none⟩)), (1, .int .i64 p1), (2, .func (.func 73) #[] #[])]) (fun (i : (Option Addr) × Nat × (List Int) × Nat × (Option Addr) × Nat × (List UInt8) × Int × Nat) w' => Own w D w' [blk g0 [.slice i.2.2.2.2.1 i.2.2.2.2.2.2.1.length i.2.2.2.2.2.1, .int .i64 i.2.2.2.2.2.2.2.1] 102, row i.1 i.2.2.1.length i.2.1 (List.flatMap (eI .i64) i.2.2.1) 3 1] ∧ (SubS 1 A0x0 c0x0 p0.xrest.ls i.2.2.2.2.1 i.2.2.2.2.2.1 i.2.2.2.2.2.2.1 ∧ i.2.2.1.length ≤ i.2.2.2.1 ∧ (i.2.2.2.1 = 0 ∨ ((i.2.2.2.1 : Nat) : Int) ≤ p1) ∧ Int.toNat p1 - i.2.2.2.1 < i.2.2.2.2.2.2.2.2 ∧ reader_Times_int_L0 p1 ((Int.toNat p1 - 0) + 1) ([]) 0 p0.xrest.ls p0.xerrno = reader_Times_int_L0 p1 i.2.2.2.2.2.2.2.2 i.2.2.1 i.2.2.2.1 i.2.2.2.2.2.2.1 i.2.2.2.2.2.2.2.1)) (fun i => i.2.2.2.2.2.2.2.2) (none, 0, [], 0, A0x0, c0x0, p0.xrest.ls, p0.xerrno, (Int.toNat p1 - 0) + 1) ⟨rfl, rfl, rfl, rfl, rfl, rfl, trivial⟩ ⟨H39, (show SubS 1 A0x0 c0x0 p0.xrest.ls A0x0 c0x0 p0.xrest.ls ∧ 0 ≤ 0 ∧ (0 = 0 ∨ ((0 : Nat) : Int) ≤ p1) ∧ Int.toNat p1 - 0 < ((Int.toNat p1 - 0) + 1) ∧ reader_Times_int_L0 p1 ((Int.toNat p1 - 0) + 1) ([]) 0 p0.xrest.ls p0.xerrno = reader_Times_int_L0 p1 ((Int.toNat p1 - 0) + 1) ([]) 0 p0.xrest.ls p0.xerrno from ⟨by exact (SubS.refl (by omega)), by omega, by omega, by omega, rfl⟩)⟩ ?_
  rintro ⟨A29, c30, l31, k32, A33, c34, l35, z36, f38⟩ w40 ⟨H41, hf42⟩
  show Wp _ _ _ [(7, .slice A29 l31.length c30), (8, .int .i64 ((k32 : Nat) : Int)), (6, .slice none 0 0), (0, .pointer (some ⟨g0, 0, none⟩)), (1, .int .i64 p1), (2, .func (.func 73) #[] #[])] _ _
  replace hf42 : SubS 1 A0x0 c0x0 p0.xrest.ls A33 c34 l35 ∧ l31.length ≤ k32 ∧ (k32 = 0 ∨ ((k32 : Nat) : Int) ≤ p1) ∧ Int.toNat p1 - k32 < f38 ∧ reader_Times_int_L0 p1 ((Int.toNat p1 - 0) + 1) ([]) 0 p0.xrest.ls p0.xerrno = reader_Times_int_L0 p1 f38 l31 k32 l35 z36 := hf42
  obtain ⟨hi44, hi45, hi46, hi47, hq43⟩ := hf42
  have hz48 := (hi44).le
  obtain ⟨f49, hf50⟩ : ∃ q, f38 = q + 1 := ⟨f38 - 1, by omega⟩
  subst hf50
  refine Wp.seq (Wp.seq (Wp.region (Mv rfl rfl (Mv rfl rfl (Kn (v := .bool (decide (((k32 : Nat) : Int) < p1))) rfl rfl rfl (fun _ => by kernel_rfl) (Mv rfl rfl ?_))))))
  by_cases h51 : ((k32 : Nat) : Int) < p1
  refine WL.valG (v := .pointer (some ⟨g0, 0, none⟩)) rfl rfl (decide_eq_true h51) rfl (Yl.move rfl) (WL.valG (v := .pointer (some ⟨g0, 0, none⟩)) rfl rfl (decide_eq_true h51) rfl (Yl.kern rfl rfl (fun _ => by kernel_rfl)) (WL.valG (v := .pointer (some ⟨g0, 1, none⟩)) rfl rfl (decide_eq_true h51) rfl (Yl.kern rfl rfl (fun _ => by kernel_rfl)) (WL.valG (v := .int .i64 z36) rfl rfl (decide_eq_true h51) rfl (Yl.load rfl (Lds.one Tryz.isAgg30 (Cls.of (H41.cls (i := 0) rfl) rfl))) (WL.valG (v := .bool (decide (z36 = 0))) rfl rfl (decide_eq_true h51) rfl (Yl.kern rfl rfl (fun _ => by kernel_rfl)) (WL.val (v := .bool (decide (z36 = 0))) rfl (Yl.pickT rfl (decide_eq_true h51) rfl) (WL.nil (Fin.then ?_)))))))
  by_cases h52 : z36 = 0
  refine Wp.cond1 rfl (decide_eq_true h52) (Wp.skip (Fin.then (Wp.seq (Wp.block (Wp.region (Mv rfl rfl (Mv rfl rfl (Mv rfl rfl ?_))))))))
  obtain ⟨⟨r58, r59⟩, hr60⟩ : ∃ q : Int × ReaderT, node_readKid (ReaderT.mk (Ll.mk l35) z36) = q := ⟨_, rfl⟩
  obtain ⟨D53, HP54, ro55, bk56, rr57⟩ := Own.enter1 H41
  refine WL.do rfl (Do.callV Tryz.call73 rfl rfl (node_readKid_ok _ _ g0 (ReaderT.mk (Ll.mk l35) z36) A33 c34 r58 r59 HP54 (fun w9 h9 => SubS.rds eB_len (by decide) hi44 ((ro55 _ hx0x0) w9 h9)) (show l35.length ≤ c34 ∧ l35.length ≤ 9223372036854775807 from by omega) hr60) ?_)
  rintro _ w61 ⟨A64, c65, rfl, HQ62, hs66⟩
  have H63 := bk56 _ _ HQ62
  replace hs66 : SubS 1 A33 c34 l35 A64 c65 r59.xrest.ls := hs66
  have hz67 := (hs66).le
  refine WL.do rfl (Do.newRow (cs := [.int .i64 r58]) (t := 3) (sz := 1) (m := 1) H63 rfl rfl (fun _ => by kernel_rfl) rfl (by decide) ?_)
  intro A68 w69 H70
  replace H70 : Own w D w69 [row A68 1 1 (List.flatMap (eI .i64) ([r58])) 3 1, blk g0 [.slice A64 r59.xrest.ls.length c65, .int .i64 r59.xerrno] 102, row A29 l31.length c30 (List.flatMap (eI .i64) l31) 3 1] := H70
  have H71 := H70.pick [2, 0, 1] (by decide) rfl
  refine WL.do rfl (Do.appendW (k := l31.length) (m := 1) (El23) H71 rfl rfl (src_of Tryz.underlying23 (H71.rds (i := 1) rfl) (flat_one eI_one ([r58]))) rfl (by omega) (s := List.length (l31 ++ [r58])) (by first | omega | (simp only [List.length_append, List.length_cons, List.length_nil] <;> omega)) (List.flatMap_append).symm ?_)
  intro A72 c73 w74 H75
  have hl76 : List.length (l31 ++ [r58]) = l31.length + 1 := by simp only [List.length_append, List.length_cons, List.length_nil]
  refine As rfl rfl (WL.nil (Fin.blockN (Fin.then (Wp.region (Mv rfl rfl (WL.val (v := .int .i64 ((k32 + 1 : Nat) : Int)) rfl (Yl.int (e := IntKind.i64.wrap (((k32 : Nat) : Int) + 1)) (Yl.kern rfl rfl (fun _ => by kernel_rfl)) (by rw [IntWalk.i64_in _ (by omega)]; omega)) (As rfl rfl (WL.nil ?_))))))))
  have H77 := H75.pick [2, 0] (by decide) rfl
  exact Fin.round (A72, c73, (l31 ++ [r58]), k32 + 1, A64, c65, r59.xrest.ls, r59.xerrno, f49) ⟨rfl, rfl, rfl, rfl, rfl, rfl, trivial⟩ ⟨H77, (show SubS 1 A0x0 c0x0 p0.xrest.ls A64 c65 r59.xrest.ls ∧ List.length (l31 ++ [r58]) ≤ (k32 + 1) ∧ ((k32 + 1) = 0 ∨ (((k32 + 1) : Nat) : Int) ≤ p1) ∧ Int.toNat p1 - (k32 + 1) < f49 ∧ reader_Times_int_L0 p1 ((Int.toNat p1 - 0) + 1) ([]) 0 p0.xrest.ls p0.xerrno = reader_Times_int_L0 p1 f49 (l31 ++ [r58]) (k32 + 1) r59.xrest.ls r59.xerrno from ⟨by exact (SubS.trans hi44 hs66), by omega, by omega, by omega, Eq.trans (hq43) (Eq.trans (if_pos h51) (Eq.trans (if_pos h52) (bnd_of hr60)))⟩)⟩ (by show f49 < f49 + 1; omega)
  refine Wp.cond0 rfl (decide_eq_false h52) (Wp.exit (Fin.thenX (Fin.thenX (Fin.blockX ?_))))
  have H78 := H41.pick [0, 1] (by decide) rfl
  exact Fin.join (A29, c30, l31, A33, c34, l35, z36) ⟨rfl, rfl, trivial⟩ ⟨H78, (show SubS 1 A0x0 c0x0 p0.xrest.ls A33 c34 l35 ∧ 0 ≤ l31.length ∧ l35.length ≤ p0.xrest.ls.length ∧ l35.length ≤ p0.xrest.ls.length + 1 ∧ l31.length ≤ 1000 ∧ (bnd (reader_Times_int_L0 p1 ((Int.toNat p1 - 0) + 1) ([]) 0 p0.xrest.ls p0.xerrno) fun sLrJjL => (sLrJjL.1, sLrJjL.2.1, sLrJjL.2.2)) = (l31, l35, z36) from ⟨by exact hi44, by omega, by omega, by omega, by omega, bnd_of (Eq.trans (hq43) (Eq.trans (if_pos h51) (if_neg h52)))⟩)⟩
  refine Sk rfl rfl (decide_eq_false h51) rfl (Sk rfl rfl (decide_eq_false h51) rfl (Sk rfl rfl (decide_eq_false h51) rfl (Sk rfl rfl (decide_eq_false h51) rfl (Sk rfl rfl (decide_eq_false h51) rfl (WL.val (v := .bool false) rfl (Yl.pickF rfl (decide_eq_false h51) rfl) (WL.nil (Fin.then (Wp.cond0 rfl rfl (Wp.exit (Fin.thenX (Fin.thenX (Fin.blockX ?_))))))))))))
  have H79 := H41.pick [0, 1] (by decide) rfl
  exact Fin.join (A29, c30, l31, A33, c34, l35, z36) ⟨rfl, rfl, trivial⟩ ⟨H79, (show SubS 1 A0x0 c0x0 p0.xrest.ls A33 c34 l35 ∧ 0 ≤ l31.length ∧ l35.length ≤ p0.xrest.ls.length ∧ l35.length ≤ p0.xrest.ls.length + 1 ∧ l31.length ≤ 1000 ∧ (bnd (reader_Times_int_L0 p1 ((Int.toNat p1 - 0) + 1) ([]) 0 p0.xrest.ls p0.xerrno) fun sLrJjL => (sLrJjL.1, sLrJjL.2.1, sLrJjL.2.2)) = (l31, l35, z36) from ⟨by exact hi44, by omega, by omega, by omega, by omega, bnd_of (Eq.trans (hq43) (if_neg h51))⟩)⟩
  rintro ⟨A21, c22, l23, A24, c25, l26, z27⟩ w80 ⟨H81, hf82⟩
  show Wp _ _ _ [(7, .slice A21 l23.length c22), (6, .slice none 0 0)] _ _
  replace hf82 : SubS 1 A0x0 c0x0 p0.xrest.ls A24 c25 l26 ∧ 0 ≤ l23.length ∧ l26.length ≤ p0.xrest.ls.length ∧ l26.length ≤ p0.xrest.ls.length + 1 ∧ l23.length ≤ 1000 ∧ (bnd (reader_Times_int_L0 p1 ((Int.toNat p1 - 0) + 1) ([]) 0 p0.xrest.ls p0.xerrno) fun sLrJjL => (sLrJjL.1, sLrJjL.2.1, sLrJjL.2.2)) = (l23, l26, z27) := hf82
  obtain ⟨hi84, hi85, hi86, hi87, hi88, hj83⟩ := hf82
  have hz89 := (hi84).le
  refine Wp.seq (Wp.region (Mv rfl rfl (As rfl rfl (WL.nil (Fin.then (Wp.ret (Fin.res (res1 rfl rfl) ?_)))))))
  have H90 := H81.pick [1, 0] (by decide) rfl
  have e : reader_Times_int p0 p1 = (l23, ReaderT.mk (Ll.mk l26) z27) := bnd_of hj83
  obtain ⟨rfl, rfl⟩ := pj2 (e.symm.trans hr)
  exact ⟨A21, c22, A24, c25, rfl, H90, hi84, (by omega)⟩

def reader_List_int (p0 : ReaderT) (p1 : Nat) : (List Int) × ReaderT :=
  bnd (reader_Reader_Num p0 p1) fun yr26 => bnd (reader_Times_int yr26.2 ((yr26.1 : Nat) : Int)) fun yr42 => (yr42.1, yr42.2)

set_option maxRecDepth 100000 in
theorem reader_List_int_ok (w : World) (D : Nat → Prop) (g0 : Nat) (p0 : ReaderT) (A0x0 : Option Addr) (c0x0 : Nat) (p1 : Nat) (r0 : List Int) (r1 : ReaderT) (H : Own w D w [blk g0 [.slice A0x0 p0.xrest.ls.length c0x0, .int .i64 p0.xerrno] 102]) (hx0x0 : Ro w D fun w' => Rds w' 1 A0x0 p0.xrest.ls.length (List.flatMap eB p0.xrest.ls)) (hb0x0 : p0.xrest.ls.length ≤ c0x0 ∧ p0.xrest.ls.length ≤ 9223372036854775807) (hh0 : p1 ≤ 1000) (hr : reader_List_int p0 p1 = (r0, r1)) :
    Calls Tryz.prog 72 #[.pointer (some ⟨g0, 0, none⟩), .int .u64 ((p1 : Nat) : Int), .func (.func 73) #[] #[]] w (Ret fun v w' => ∃ (B0 : Option Addr) (b0 : Nat) (B1ox0 : Option Addr) (b1ox0 : Nat), v = .slice B0 r0.length b0 ∧ Own w D w' [row B0 r0.length b0 (List.flatMap (eI .i64) r0) 3 1, blk g0 [.slice B1ox0 r1.xrest.ls.length b1ox0, .int .i64 r1.xerrno] 102] ∧ (SubS 1 A0x0 c0x0 p0.xrest.ls B1ox0 b1ox0 r1.xrest.ls) ∧ (r0.length ≤ 1000)) := by
  refine Calls.body (args := [.pointer (some ⟨g0, 0, none⟩), .int .u64 ((p1 : Nat) : Int), .func (.func 73) #[] #[]]) Tryz.func72 rfl rfl rfl ?_
  show Wp _ _ _ [(0, .pointer (some ⟨g0, 0, none⟩)), (1, .int .u64 ((p1 : Nat) : Int)), (2, .func (.func 73) #[] #[])] _ _
  refine Wp.seq (Wp.region (As rfl rfl (WL.nil (Fin.then (Wp.seq (Wp.region (Mv rfl rfl (Mv rfl rfl (Mv rfl rfl ?_)))))))))
  obtain ⟨⟨r26, r27⟩, hr28⟩ : ∃ q : Nat × ReaderT, reader_Reader_Num p0 p1 = q := ⟨_, rfl⟩
  obtain ⟨D21, HP22, ro23, bk24, rr25⟩ := Own.enter1 H
  refine WL.do rfl (Do.call Tryz.call70 rfl (reader_Reader_Num_ok _ _ g0 p0 A0x0 c0x0 p1 r26 r27 HP22 (ro23 _ hx0x0) (show p0.xrest.ls.length ≤ c0x0 ∧ p0.xrest.ls.length ≤ 9223372036854775807 from by omega) hr28) ?_)
  rintro _ w29 ⟨A32, c33, rfl, HQ30, hs34, hk35⟩
  have H31 := bk24 _ _ HQ30
  replace hs34 : SubS 1 A0x0 c0x0 p0.xrest.ls A32 c33 r27.xrest.ls := hs34
  have hz36 := (hs34).le
  replace hk35 : r26 ≤ p1 := hk35
  refine WL.val (v := .int .i64 ((r26 : Nat) : Int)) rfl (Yl.int (e := IntKind.i64.wrap ((r26 : Nat) : Int)) (Yl.kern rfl rfl (fun _ => by kernel_rfl)) (IntWalk.i64_in _ (by omega))) (Mv rfl rfl ?_)
  obtain ⟨⟨r42, r43⟩, hr44⟩ : ∃ q : (List Int) × ReaderT, reader_Times_int r27 ((r26 : Nat) : Int) = q := ⟨_, rfl⟩
  obtain ⟨D37, HP38, ro39, bk40, rr41⟩ := Own.enter1 H31
  refine WL.do rfl (Do.call Tryz.call86 rfl (reader_Times_int_ok _ _ g0 r27 A32 c33 ((r26 : Nat) : Int) r42 r43 HP38 (fun w9 h9 => SubS.rds eB_len (by decide) hs34 ((ro39 _ hx0x0) w9 h9)) (show r27.xrest.ls.length ≤ c33 ∧ r27.xrest.ls.length ≤ 9223372036854775807 from by omega) (by omega) hr44) ?_)
  rintro _ w45 ⟨A48, c49, A50, c51, rfl, HQ46, hs52, hk53⟩
  have H47 := bk40 _ _ HQ46
  replace hs52 : SubS 1 A32 c33 r27.xrest.ls A50 c51 r43.xrest.ls := hs52
  have hz54 := (hs52).le
  have hb55 := H47.rowC (i := 0) rfl
  replace hk53 : r42.length ≤ 1000 := hk53
  refine As rfl rfl (WL.nil (Fin.then (Wp.ret (Fin.res (res1 rfl rfl) ?_))))
  have H56 := H47.pick [0, 1] (by decide) rfl
  have e : reader_List_int p0 p1 = (r42, r43) := Eq.trans (bnd_of hr28) (bnd_of hr44)
  obtain ⟨rfl, rfl⟩ := pj2 (e.symm.trans hr)
  exact ⟨A48, c49, A50, c51, rfl, H56, (SubS.trans hs34 hs52), (by omega)⟩

def reader_Times_string_L0 (p1 : Int) : Nat → List (List UInt8) → Nat → List UInt8 → Int → (List (List UInt8)) × (List UInt8) × Int
  | 0, l31, k32, l35, z36 => default
  | q37 + 1, l31, k32, l35, z36 => if ((k32 : Nat) : Int) < p1 then if z36 = 0 then bnd (node_readText (ReaderT.mk (Ll.mk l35) z36)) fun yr58 => reader_Times_string_L0 p1 q37 (l31 ++ [yr58.1]) (k32 + 1) yr58.2.xrest.ls yr58.2.xerrno else (l31, l35, z36) else (l31, l35, z36)

def reader_Times_string (p0 : ReaderT) (p1 : Int) : (List (List UInt8)) × ReaderT :=
  bnd (bnd (reader_Times_string_L0 p1 ((Int.toNat p1 - 0) + 1) ([]) 0 p0.xrest.ls p0.xerrno) fun sLrJjL => (sLrJjL.1, sLrJjL.2.1, sLrJjL.2.2)) fun sJrJ => (sJrJ.1, ReaderT.mk (Ll.mk sJrJ.2.1) sJrJ.2.2)

set_option maxRecDepth 100000 in
theorem reader_Times_string_ok (w : World) (D : Nat → Prop) (g0 : Nat) (p0 : ReaderT) (A0x0 : Option Addr) (c0x0 : Nat) (p1 : Int) (r0 : List (List UInt8)) (r1 : ReaderT) (H : Own w D w [blk g0 [.slice A0x0 p0.xrest.ls.length c0x0, .int .i64 p0.xerrno] 102]) (hx0x0 : Ro w D fun w' => Rds w' 1 A0x0 p0.xrest.ls.length (List.flatMap eB p0.xrest.ls)) (hb0x0 : p0.xrest.ls.length ≤ c0x0 ∧ p0.xrest.ls.length ≤ 9223372036854775807) (hh0 : p1 ≤ 1000) (hr : reader_Times_string p0 p1 = (r0, r1)) :
    Calls Tryz.prog 74 #[.pointer (some ⟨g0, 0, none⟩), .int .i64 p1, .func (.func 71) #[] #[]] w (Ret fun v w' => ∃ (B0 : Option Addr) (b0 : Nat) (B1ox0 : Option Addr) (b1ox0 : Nat), v = .slice B0 r0.length b0 ∧ Own w D w' [row B0 r0.length b0 (List.flatMap eS r0) 9 1, blk g0 [.slice B1ox0 r1.xrest.ls.length b1ox0, .int .i64 r1.xerrno] 102] ∧ (SubS 1 A0x0 c0x0 p0.xrest.ls B1ox0 b1ox0 r1.xrest.ls) ∧ (r0.length ≤ 1000)) := by
  refine Calls.body (args := [.pointer (some ⟨g0, 0, none⟩), .int .i64 p1, .func (.func 71) #[] #[]]) Tryz.func74 rfl rfl rfl ?_
  show Wp _ _ _ [(0, .pointer (some ⟨g0, 0, none⟩)), (1, .int .i64 p1), (2, .func (.func 71) #[] #[])] _ _
  refine Wp.seq (Wp.region (As rfl rfl (WL.nil (Fin.then (Wp.seq (Wp.region (As rfl rfl (WL.nil (Fin.then (Wp.seq (Wp.seq (Wp.region (As rfl rfl (WL.nil (Fin.then ?_)))))))))))))))
  refine Wp.joinT (ι := (Option Addr) × Nat × (List (List UInt8)) × (Option Addr) × Nat × (List UInt8) × Int) (fun i => [(7, .slice i.1 i.2.2.1.length i.2.1), (6, .slice none 0 0)]) (fun (i : (Option Addr) × Nat × (List (List UInt8)) × (Option Addr) × Nat × (List UInt8) × Int) w' => Own w D w' [blk g0 [.slice i.2.2.2.1 i.2.2.2.2.2.1.length i.2.2.2.2.1, .int .i64 i.2.2.2.2.2.2] 102, row i.1 i.2.2.1.length i.2.1 (List.flatMap eS i.2.2.1) 9 1] ∧ (SubS 1 A0x0 c0x0 p0.xrest.ls i.2.2.2.1 i.2.2.2.2.1 i.2.2.2.2.2.1 ∧ 0 ≤ i.2.2.1.length ∧ i.2.2.2.2.2.1.length ≤ p0.xrest.ls.length ∧ i.2.2.2.2.2.1.length ≤ p0.xrest.ls.length + 1 ∧ i.2.2.1.length ≤ 1000 ∧ (bnd (reader_Times_string_L0 p1 ((Int.toNat p1 - 0) + 1) ([]) 0 p0.xrest.ls p0.xerrno) fun sLrJjL => (sLrJjL.1, sLrJjL.2.1, sLrJjL.2.2)) = (i.2.2.1, i.2.2.2.2.2.1, i.2.2.2.2.2.2))) ?_ ?_
  refine Wp.block ?_
  have H28 : Own w D w [row none 0 0 (List.flatMap eS ([])) 9 1, blk g0 [.slice A0x0 p0.xrest.ls.length c0x0, .int .i64 p0.xerrno] 102] := H.free (row_nil 9 1)
  have H39 := H28.pick [1, 0] (by decide) rfl
  refine Wp.loop (ι := (Option Addr) × Nat × (List (List UInt8)) × Nat × (Option Addr) × Nat × (List UInt8) × Int × Nat) (fun i => [(7, .slice i.1 i.2.2.1.length i.2.1), (8, .int .i64 ((i.2.2.2.1 : Nat) : Int)), (6, .slice none 0 0), (0, .pointer (some ⟨g0, 0, none⟩)), (1, .int .i64 p1), (2, .func (.func 71) #[] #[])]) (fun (i : (Option Addr) × Nat × (List (List UInt8)) × Nat × (Option Addr) × Nat × (List UInt8) × Int × Nat) w' => Own w D w' [blk g0 [.slice i.2.2.2.2.1 i.2.2.2.2.2.2.1.length i.2.2.2.2.2.1, .int .i64 i.2.2.2.2.2.2.2.1] 102, row i.1 i.2.2.1.length i.2.1 (List.flatMap eS i.2.2.1) 9 1] ∧ (SubS 1 A0x0 c0x0 p0.xrest.ls i.2.2.2.2.1 i.2.2.2.2.2.1 i.2.2.2.2.2.2.1 ∧ i.2.2.1.length ≤ i.2.2.2.1 ∧ (i.2.2.2.1 = 0 ∨ ((i.2.2.2.1 : Nat) : Int) ≤ p1) ∧ Int.toNat p1 - i.2.2.2.1 < i.2.2.2.2.2.2.2.2 ∧ reader_Times_string_L0 p1 ((Int.toNat p1 - 0) + 1) ([]) 0 p0.xrest.ls p0.xerrno = reader_Times_string_L0 p1 i.2.2.2.2.2.2.2.2 i.2.2.1 i.2.2.2.1 i.2.2.2.2.2.2.1 i.2.2.2.2.2.2.2.1)) (fun i => i.2.2.2.2.2.2.2.2) (none, 0, [], 0, A0x0, c0x0, p0.xrest.ls, p0.xerrno, (Int.toNat p1 - 0) + 1) ⟨rfl, rfl, rfl, rfl, rfl, rfl, trivial⟩ ⟨H39, (show SubS 1 A0x0 c0x0 p0.xrest.ls A0x0 c0x0 p0.xrest.ls ∧ 0 ≤ 0 ∧ (0 = 0 ∨ ((0 : Nat) : Int) ≤ p1) ∧ Int.toNat p1 - 0 < ((Int.toNat p1 - 0) + 1) ∧ reader_Times_string_L0 p1 ((Int.toNat p1 - 0) + 1) ([]) 0 p0.xrest.ls p0.xerrno = reader_Times_string_L0 p1 ((Int.toNat p1 - 0) + 1) ([]) 0 p0.xrest.ls p0.xerrno from ⟨by exact (SubS.refl (by omega)), by omega, by omega, by omega, rfl⟩)⟩ ?_
  rintro ⟨A29, c30, l31, k32, A33, c34, l35, z36, f38⟩ w40 ⟨H41, hf42⟩
  show Wp _ _ _ [(7, .slice A29 l31.length c30), (8, .int .i64 ((k32 : Nat) : Int)), (6, .slice none 0 0), (0, .pointer (some ⟨g0, 0, none⟩)), (1, .int .i64 p1), (2, .func (.func 71) #[] #[])] _ _
  replace hf42 : SubS 1 A0x0 c0x0 p0.xrest.ls A33 c34 l35 ∧ l31.length ≤ k32 ∧ (k32 = 0 ∨ ((k32 : Nat) : Int) ≤ p1) ∧ Int.toNat p1 - k32 < f38 ∧ reader_Times_string_L0 p1 ((Int.toNat p1 - 0) + 1) ([]) 0 p0.xrest.ls p0.xerrno = reader_Times_string_L0 p1 f38 l31 k32 l35 z36 := hf42
  obtain ⟨hi44, hi45, hi46, hi47, hq43⟩ := hf42
  have hz48 := (hi44).le
  obtain ⟨f49, hf50⟩ : ∃ q, f38 = q + 1 := ⟨f38 - 1, by omega⟩
  subst hf50
  refine Wp.seq (Wp.seq (Wp.region (Mv rfl rfl (Mv rfl rfl (Kn (v := .bool (decide (((k32 : Nat) : Int) < p1))) rfl rfl rfl (fun _ => by kernel_rfl) (Mv rfl rfl ?_))))))
  by_cases h51 : ((k32 : Nat) : Int) < p1
  refine WL.valG (v := .pointer (some ⟨g0, 0, none⟩)) rfl rfl (decide_eq_true h51) rfl (Yl.move rfl) (WL.valG (v := .pointer (some ⟨g0, 0, none⟩)) rfl rfl (decide_eq_true h51) rfl (Yl.kern rfl rfl (fun _ => by kernel_rfl)) (WL.valG (v := .pointer (some ⟨g0, 1, none⟩)) rfl rfl (decide_eq_true h51) rfl (Yl.kern rfl rfl (fun _ => by kernel_rfl)) (WL.valG (v := .int .i64 z36) rfl rfl (decide_eq_true h51) rfl (Yl.load rfl (Lds.one Tryz.isAgg30 (Cls.of (H41.cls (i := 0) rfl) rfl))) (WL.valG (v := .bool (decide (z36 = 0))) rfl rfl (decide_eq_true h51) rfl (Yl.kern rfl rfl (fun _ => by kernel_rfl)) (WL.val (v := .bool (decide (z36 = 0))) rfl (Yl.pickT rfl (decide_eq_true h51) rfl) (WL.nil (Fin.then ?_)))))))
  by_cases h52 : z36 = 0
  refine Wp.cond1 rfl (decide_eq_true h52) (Wp.skip (Fin.then (Wp.seq (Wp.block (Wp.region (Mv rfl rfl (Mv rfl rfl (Mv rfl rfl ?_))))))))
  obtain ⟨⟨r58, r59⟩, hr60⟩ : ∃ q : (List UInt8) × ReaderT, node_readText (ReaderT.mk (Ll.mk l35) z36) = q := ⟨_, rfl⟩
  obtain ⟨D53, HP54, ro55, bk56, rr57⟩ := Own.enter1 H41
  refine WL.do rfl (Do.callV Tryz.call71 rfl rfl (node_readText_ok _ _ g0 (ReaderT.mk (Ll.mk l35) z36) A33 c34 r58 r59 HP54 (fun w9 h9 => SubS.rds eB_len (by decide) hi44 ((ro55 _ hx0x0) w9 h9)) (show l35.length ≤ c34 ∧ l35.length ≤ 9223372036854775807 from by omega) hr60) ?_)
  rintro _ w61 ⟨A64, c65, rfl, HQ62, hs66⟩
  have H63 := bk56 _ _ HQ62
  replace hs66 : SubS 1 A33 c34 l35 A64 c65 r59.xrest.ls := hs66
  have hz67 := (hs66).le
  refine WL.do rfl (Do.newRow (cs := [.string ⟨List.toArray r58⟩]) (t := 9) (sz := 1) (m := 1) H63 rfl rfl (fun _ => by kernel_rfl) rfl (by decide) ?_)
  intro A68 w69 H70
  replace H70 : Own w D w69 [row A68 1 1 (List.flatMap eS ([r58])) 9 1, blk g0 [.slice A64 r59.xrest.ls.length c65, .int .i64 r59.xerrno] 102, row A29 l31.length c30 (List.flatMap eS l31) 9 1] := H70
  have H71 := H70.pick [2, 0, 1] (by decide) rfl
  refine WL.do rfl (Do.appendW (k := l31.length) (m := 1) (El24) H71 rfl rfl (src_of Tryz.underlying24 (H71.rds (i := 1) rfl) (flat_one eS_one ([r58]))) rfl (by omega) (s := List.length (l31 ++ [r58])) (by first | omega | (simp only [List.length_append, List.length_cons, List.length_nil] <;> omega)) (List.flatMap_append).symm ?_)
  intro A72 c73 w74 H75
  have hl76 : List.length (l31 ++ [r58]) = l31.length + 1 := by simp only [List.length_append, List.length_cons, List.length_nil]
  refine As rfl rfl (WL.nil (Fin.blockN (Fin.then (Wp.region (Mv rfl rfl (WL.val (v := .int .i64 ((k32 + 1 : Nat) : Int)) rfl (Yl.int (e := IntKind.i64.wrap (((k32 : Nat) : Int) + 1)) (Yl.kern rfl rfl (fun _ => by kernel_rfl)) (by rw [IntWalk.i64_in _ (by omega)]; omega)) (As rfl rfl (WL.nil ?_))))))))
  have H77 := H75.pick [2, 0] (by decide) rfl
  exact Fin.round (A72, c73, (l31 ++ [r58]), k32 + 1, A64, c65, r59.xrest.ls, r59.xerrno, f49) ⟨rfl, rfl, rfl, rfl, rfl, rfl, trivial⟩ ⟨H77, (show SubS 1 A0x0 c0x0 p0.xrest.ls A64 c65 r59.xrest.ls ∧ List.length (l31 ++ [r58]) ≤ (k32 + 1) ∧ ((k32 + 1) = 0 ∨ (((k32 + 1) : Nat) : Int) ≤ p1) ∧ Int.toNat p1 - (k32 + 1) < f49 ∧ reader_Times_string_L0 p1 ((Int.toNat p1 - 0) + 1) ([]) 0 p0.xrest.ls p0.xerrno = reader_Times_string_L0 p1 f49 (l31 ++ [r58]) (k32 + 1) r59.xrest.ls r59.xerrno from ⟨by exact (SubS.trans hi44 hs66), by omega, by omega, by omega, Eq.trans (hq43) (Eq.trans (if_pos h51) (Eq.trans (if_pos h52) (bnd_of hr60)))⟩)⟩ (by show f49 < f49 + 1; omega)
  refine Wp.cond0 rfl (decide_eq_false h52) (Wp.exit (Fin.thenX (Fin.thenX (Fin.blockX ?_))))
  have H78 := H41.pick [0, 1] (by decide) rfl
  exact Fin.join (A29, c30, l31, A33, c34, l35, z36) ⟨rfl, rfl, trivial⟩ ⟨H78, (show SubS 1 A0x0 c0x0 p0.xrest.ls A33 c34 l35 ∧ 0 ≤ l31.length ∧ l35.length ≤ p0.xrest.ls.length ∧ l35.length ≤ p0.xrest.ls.length + 1 ∧ l31.length ≤ 1000 ∧ (bnd (reader_Times_string_L0 p1 ((Int.toNat p1 - 0) + 1) ([]) 0 p0.xrest.ls p0.xerrno) fun sLrJjL => (sLrJjL.1, sLrJjL.2.1, sLrJjL.2.2)) = (l31, l35, z36) from ⟨by exact hi44, by omega, by omega, by omega, by omega, bnd_of (Eq.trans (hq43) (Eq.trans (if_pos h51) (if_neg h52)))⟩)⟩
  refine Sk rfl rfl (decide_eq_false h51) rfl (Sk rfl rfl (decide_eq_false h51) rfl (Sk rfl rfl (decide_eq_false h51) rfl (Sk rfl rfl (decide_eq_false h51) rfl (Sk rfl rfl (decide_eq_false h51) rfl (WL.val (v := .bool false) rfl (Yl.pickF rfl (decide_eq_false h51) rfl) (WL.nil (Fin.then (Wp.cond0 rfl rfl (Wp.exit (Fin.thenX (Fin.thenX (Fin.blockX ?_))))))))))))
  have H79 := H41.pick [0, 1] (by decide) rfl
  exact Fin.join (A29, c30, l31, A33, c34, l35, z36) ⟨rfl, rfl, trivial⟩ ⟨H79, (show SubS 1 A0x0 c0x0 p0.xrest.ls A33 c34 l35 ∧ 0 ≤ l31.length ∧ l35.length ≤ p0.xrest.ls.length ∧ l35.length ≤ p0.xrest.ls.length + 1 ∧ l31.length ≤ 1000 ∧ (bnd (reader_Times_string_L0 p1 ((Int.toNat p1 - 0) + 1) ([]) 0 p0.xrest.ls p0.xerrno) fun sLrJjL => (sLrJjL.1, sLrJjL.2.1, sLrJjL.2.2)) = (l31, l35, z36) from ⟨by exact hi44, by omega, by omega, by omega, by omega, bnd_of (Eq.trans (hq43) (if_neg h51))⟩)⟩
  rintro ⟨A21, c22, l23, A24, c25, l26, z27⟩ w80 ⟨H81, hf82⟩
  show Wp _ _ _ [(7, .slice A21 l23.length c22), (6, .slice none 0 0)] _ _
  replace hf82 : SubS 1 A0x0 c0x0 p0.xrest.ls A24 c25 l26 ∧ 0 ≤ l23.length ∧ l26.length ≤ p0.xrest.ls.length ∧ l26.length ≤ p0.xrest.ls.length + 1 ∧ l23.length ≤ 1000 ∧ (bnd (reader_Times_string_L0 p1 ((Int.toNat p1 - 0) + 1) ([]) 0 p0.xrest.ls p0.xerrno) fun sLrJjL => (sLrJjL.1, sLrJjL.2.1, sLrJjL.2.2)) = (l23, l26, z27) := hf82
  obtain ⟨hi84, hi85, hi86, hi87, hi88, hj83⟩ := hf82
  have hz89 := (hi84).le
  refine Wp.seq (Wp.region (Mv rfl rfl (As rfl rfl (WL.nil (Fin.then (Wp.ret (Fin.res (res1 rfl rfl) ?_)))))))
  have H90 := H81.pick [1, 0] (by decide) rfl
  have e : reader_Times_string p0 p1 = (l23, ReaderT.mk (Ll.mk l26) z27) := bnd_of hj83
  obtain ⟨rfl, rfl⟩ := pj2 (e.symm.trans hr)
  exact ⟨A21, c22, A24, c25, rfl, H90, hi84, (by omega)⟩

def node_readOp (p0 : ReaderT) : OpD × ReaderT :=
  bnd (reader_Reader_Octet p0) fun yr30 => if ((yr30.1.toNat : Nat) : Int) = 2 then bnd (node_readText yr30.2) fun yr53 => bnd (node_readText yr53.2) fun yr72 => (OpD.mk ((yr30.1.toNat : Nat) : Int) yr53.1 yr72.1 ([]) ([]) 0, yr72.2) else if ((yr30.1.toNat : Nat) : Int) = 3 then bnd (node_readText yr30.2) fun yr96 => (OpD.mk ((yr30.1.toNat : Nat) : Int) yr96.1 ([]) ([]) ([]) 0, yr96.2) else if ((yr30.1.toNat : Nat) : Int) = 5 then bnd (node_readText yr30.2) fun yr120 => bnd (node_readText yr120.2) fun yr139 => (OpD.mk ((yr30.1.toNat : Nat) : Int) ([]) ([]) yr120.1 yr139.1 0, yr139.2) else bnd (reader_Reader_Fail yr30.2 11) fun yr162 => (OpD.mk ((yr30.1.toNat : Nat) : Int) ([]) ([]) ([]) ([]) 0, yr162)

set_option maxRecDepth 100000 in
theorem node_readOp_ok (w : World) (D : Nat → Prop) (g0 : Nat) (p0 : ReaderT) (A0x0 : Option Addr) (c0x0 : Nat) (r0 : OpD) (r1 : ReaderT) (H : Own w D w [blk g0 [.slice A0x0 p0.xrest.ls.length c0x0, .int .i64 p0.xerrno] 102]) (hx0x0 : Ro w D fun w' => Rds w' 1 A0x0 p0.xrest.ls.length (List.flatMap eB p0.xrest.ls)) (hb0x0 : p0.xrest.ls.length ≤ c0x0 ∧ p0.xrest.ls.length ≤ 9223372036854775807) (hr : node_readOp p0 = (r0, r1)) :
    Calls Tryz.prog 96 #[.pointer (some ⟨g0, 0, none⟩)] w (Ret fun v w' => ∃ (B1ox0 : Option Addr) (b1ox0 : Nat), v = .agg (OpD.cells r0).toArray ∧ Own w D w' [blk g0 [.slice B1ox0 r1.xrest.ls.length b1ox0, .int .i64 r1.xerrno] 102] ∧ (SubS 1 A0x0 c0x0 p0.xrest.ls B1ox0 b1ox0 r1.xrest.ls)) := by
  refine Calls.body (args := [.pointer (some ⟨g0, 0, none⟩)]) Tryz.func96 rfl rfl rfl ?_
  show Wp _ _ _ [(0, .pointer (some ⟨g0, 0, none⟩))] _ _
  refine Wp.seq (Wp.region ?_)
  refine WL.do rfl (Do.newP (cs := [.int .i64 0, .string ⟨List.toArray ([])⟩, .string ⟨List.toArray ([])⟩, .string ⟨List.toArray ([])⟩, .string ⟨List.toArray ([])⟩, .int .i64 0]) (t := 59) H rfl rfl (fun _ => by kernel_rfl) ?_)
  intro g21 w22 H23
  refine WL.nil (Fin.then (Wp.seq (Wp.region (Mv rfl rfl ?_))))
  have H24 := H23.pick [1, 0] (by decide) rfl
  obtain ⟨⟨r30, r31⟩, hr32⟩ : ∃ q : UInt8 × ReaderT, reader_Reader_Octet p0 = q := ⟨_, rfl⟩
  obtain ⟨D25, HP26, ro27, bk28, rr29⟩ := Own.enter1 H24
  refine WL.do rfl (Do.call Tryz.call48 rfl (reader_Reader_Octet_ok _ _ g0 p0 A0x0 c0x0 r30 r31 HP26 (ro27 _ hx0x0) (show p0.xrest.ls.length ≤ c0x0 ∧ p0.xrest.ls.length ≤ 9223372036854775807 from by omega) hr32) ?_)
  rintro _ w33 ⟨A36, c37, rfl, HQ34, hs38⟩
  have H35 := bk28 _ _ HQ34
  replace hs38 : SubS 1 A0x0 c0x0 p0.xrest.ls A36 c37 r31.xrest.ls := hs38
  have hz39 := (hs38).le
  have hz40 : r30.toNat ≤ 255 := Nat.le_of_lt_succ (UInt8.toNat_lt _)
  refine WL.val (v := .int .i64 ((r30.toNat : Nat) : Int)) rfl (Yl.int (e := IntKind.i64.wrap ((r30.toNat : Nat) : Int)) (Yl.kern rfl rfl (fun _ => by kernel_rfl)) (IntWalk.i64_in _ (by omega))) (Kn (v := .agg #[.int .i64 ((r30.toNat : Nat) : Int), .string ⟨List.toArray ([])⟩, .string ⟨List.toArray ([])⟩, .string ⟨List.toArray ([])⟩, .string ⟨List.toArray ([])⟩, .int .i64 0]) rfl rfl rfl (fun _ => by kernel_rfl) ?_)
  refine WL.do rfl (Do.newP (cs := [.int .i64 0, .string ⟨List.toArray ([])⟩, .string ⟨List.toArray ([])⟩, .string ⟨List.toArray ([])⟩, .string ⟨List.toArray ([])⟩, .int .i64 0]) (t := 59) H35 rfl rfl (fun _ => by kernel_rfl) ?_)
  intro g41 w42 H43
  refine WL.do0 (Do.store (vs := [.int .i64 ((r30.toNat : Nat) : Int), .string ⟨List.toArray ([])⟩, .string ⟨List.toArray ([])⟩, .string ⟨List.toArray ([])⟩, .string ⟨List.toArray ([])⟩, .int .i64 0]) (o := 0) H43 rfl rfl Tryz.sizeOf59 rfl rfl rfl rfl ?_)
  intro w44 H45
  refine WL.nil (Fin.then (Wp.seq (Wp.seq (Wp.region (Kn (v := .pointer (some ⟨g41, 0, none⟩)) rfl rfl rfl (fun _ => by kernel_rfl) (WL.val (v := .int .i64 ((r30.toNat : Nat) : Int)) rfl (Yl.load rfl (Lds.one Tryz.isAgg3 (Cls.of (H45.cls (i := 0) rfl) rfl))) (WL.nil (Fin.then (Wp.block (Wp.seq (Wp.region (Kn (v := .bool (decide (((r30.toNat : Nat) : Int) = 2))) rfl rfl rfl (fun _ => by kernel_rfl) (As rfl rfl (WL.nil (Fin.then ?_)))))))))))))))
  by_cases h46 : ((r30.toNat : Nat) : Int) = 2
  refine Wp.cond1 rfl (decide_eq_true h46) (Wp.seq (Wp.region (Mv rfl rfl ?_)))
  have H47 := H45.pick [1, 0, 2] (by decide) rfl
  obtain ⟨⟨r53, r54⟩, hr55⟩ : ∃ q : (List UInt8) × ReaderT, node_readText r31 = q := ⟨_, rfl⟩
  obtain ⟨D48, HP49, ro50, bk51, rr52⟩ := Own.enter1 H47
  refine WL.do rfl (Do.call Tryz.call71 rfl (node_readText_ok _ _ g0 r31 A36 c37 r53 r54 HP49 (fun w9 h9 => SubS.rds eB_len (by decide) hs38 ((ro50 _ hx0x0) w9 h9)) (show r31.xrest.ls.length ≤ c37 ∧ r31.xrest.ls.length ≤ 9223372036854775807 from by omega) hr55) ?_)
  rintro _ w56 ⟨A59, c60, rfl, HQ57, hs61⟩
  have H58 := bk51 _ _ HQ57
  replace hs61 : SubS 1 A36 c37 r31.xrest.ls A59 c60 r54.xrest.ls := hs61
  have hz62 := (hs61).le
  refine Kn (v := .pointer (some ⟨g41, 1, none⟩)) rfl rfl rfl (fun _ => by kernel_rfl) ?_
  have H63 := H58.pick [1, 0, 2] (by decide) rfl
  refine WL.do0 (Do.store (vs := [.string ⟨List.toArray r53⟩]) (o := 1) H63 rfl rfl Tryz.sizeOf9 rfl rfl rfl rfl ?_)
  intro w64 H65
  refine WL.nil (Fin.then (Wp.region (Mv rfl rfl ?_)))
  have H66 := H65.pick [1, 0, 2] (by decide) rfl
  obtain ⟨⟨r72, r73⟩, hr74⟩ : ∃ q : (List UInt8) × ReaderT, node_readText r54 = q := ⟨_, rfl⟩
  obtain ⟨D67, HP68, ro69, bk70, rr71⟩ := Own.enter1 H66
  refine WL.do rfl (Do.call Tryz.call71 rfl (node_readText_ok _ _ g0 r54 A59 c60 r72 r73 HP68 (fun w9 h9 => SubS.rds eB_len (by decide) hs61 ((fun w9 h9 => SubS.rds eB_len (by decide) hs38 ((ro69 _ hx0x0) w9 h9)) w9 h9)) (show r54.xrest.ls.length ≤ c60 ∧ r54.xrest.ls.length ≤ 9223372036854775807 from by omega) hr74) ?_)
  rintro _ w75 ⟨A78, c79, rfl, HQ76, hs80⟩
  have H77 := bk70 _ _ HQ76
  replace hs80 : SubS 1 A59 c60 r54.xrest.ls A78 c79 r73.xrest.ls := hs80
  have hz81 := (hs80).le
  refine Kn (v := .pointer (some ⟨g41, 2, none⟩)) rfl rfl rfl (fun _ => by kernel_rfl) ?_
  have H82 := H77.pick [1, 0, 2] (by decide) rfl
  refine WL.do0 (Do.store (vs := [.string ⟨List.toArray r72⟩]) (o := 2) H82 rfl rfl Tryz.sizeOf9 rfl rfl rfl rfl ?_)
  intro w83 H84
  refine WL.nil (Fin.blockN (Fin.then (Wp.seq (Wp.region (WL.val (v := .agg #[.int .i64 ((r30.toNat : Nat) : Int), .string ⟨List.toArray r53⟩, .string ⟨List.toArray r72⟩, .string ⟨List.toArray ([])⟩, .string ⟨List.toArray ([])⟩, .int .i64 0]) rfl (Yl.load rfl (Lds.agg (cs := [.int .i64 ((r30.toNat : Nat) : Int), .string ⟨List.toArray r53⟩, .string ⟨List.toArray r72⟩, .string ⟨List.toArray ([])⟩, .string ⟨List.toArray ([])⟩, .int .i64 0]) Tryz.isAgg59 Tryz.sizeOf59 ((H84.cls (i := 0) rfl).lit (k := 0) (m := 6) rfl))) ?_)))))
  have H85 := H84.pick [2, 0, 1] (by decide) rfl
  refine WL.do0 (Do.store (vs := [.int .i64 ((r30.toNat : Nat) : Int), .string ⟨List.toArray r53⟩, .string ⟨List.toArray r72⟩, .string ⟨List.toArray ([])⟩, .string ⟨List.toArray ([])⟩, .int .i64 0]) (o := 0) H85 rfl rfl Tryz.sizeOf59 rfl rfl rfl rfl ?_)
  intro w86 H87
  refine WL.nil (Fin.then (Wp.ret (Fin.res (resC rfl rfl (Lds.agg (cs := [.int .i64 ((r30.toNat : Nat) : Int), .string ⟨List.toArray r53⟩, .string ⟨List.toArray r72⟩, .string ⟨List.toArray ([])⟩, .string ⟨List.toArray ([])⟩, .int .i64 0]) Tryz.isAgg59 Tryz.sizeOf59 ((H87.cls (i := 0) rfl).lit (k := 0) (m := 6) rfl))) ?_)))
  have H88 := H87.pick [2] (by decide) rfl
  have e : node_readOp p0 = (OpD.mk ((r30.toNat : Nat) : Int) r53 r72 ([]) ([]) 0, r73) := Eq.trans (bnd_of hr32) (Eq.trans (if_pos h46) (Eq.trans (bnd_of hr55) (bnd_of hr74)))
  obtain ⟨rfl, rfl⟩ := pj2 (e.symm.trans hr)
  exact ⟨A78, c79, rfl, H88, (SubS.trans (SubS.trans hs38 hs61) hs80)⟩
  refine Wp.cond0 rfl (decide_eq_false h46) (Wp.seq (Wp.region (Kn (v := .bool (decide (((r30.toNat : Nat) : Int) = 3))) rfl rfl rfl (fun _ => by kernel_rfl) (As rfl rfl (WL.nil (Fin.then ?_))))))
  by_cases h89 : ((r30.toNat : Nat) : Int) = 3
  refine Wp.cond1 rfl (decide_eq_true h89) (Wp.region (Mv rfl rfl ?_))
  have H90 := H45.pick [1, 0, 2] (by decide) rfl
  obtain ⟨⟨r96, r97⟩, hr98⟩ : ∃ q : (List UInt8) × ReaderT, node_readText r31 = q := ⟨_, rfl⟩
  obtain ⟨D91, HP92, ro93, bk94, rr95⟩ := Own.enter1 H90
  refine WL.do rfl (Do.call Tryz.call71 rfl (node_readText_ok _ _ g0 r31 A36 c37 r96 r97 HP92 (fun w9 h9 => SubS.rds eB_len (by decide) hs38 ((ro93 _ hx0x0) w9 h9)) (show r31.xrest.ls.length ≤ c37 ∧ r31.xrest.ls.length ≤ 9223372036854775807 from by omega) hr98) ?_)
  rintro _ w99 ⟨A102, c103, rfl, HQ100, hs104⟩
  have H101 := bk94 _ _ HQ100
  replace hs104 : SubS 1 A36 c37 r31.xrest.ls A102 c103 r97.xrest.ls := hs104
  have hz105 := (hs104).le
  refine Kn (v := .pointer (some ⟨g41, 1, none⟩)) rfl rfl rfl (fun _ => by kernel_rfl) ?_
  have H106 := H101.pick [1, 0, 2] (by decide) rfl
  refine WL.do0 (Do.store (vs := [.string ⟨List.toArray r96⟩]) (o := 1) H106 rfl rfl Tryz.sizeOf9 rfl rfl rfl rfl ?_)
  intro w107 H108
  refine WL.nil (Fin.blockN (Fin.then (Wp.seq (Wp.region (WL.val (v := .agg #[.int .i64 ((r30.toNat : Nat) : Int), .string ⟨List.toArray r96⟩, .string ⟨List.toArray ([])⟩, .string ⟨List.toArray ([])⟩, .string ⟨List.toArray ([])⟩, .int .i64 0]) rfl (Yl.load rfl (Lds.agg (cs := [.int .i64 ((r30.toNat : Nat) : Int), .string ⟨List.toArray r96⟩, .string ⟨List.toArray ([])⟩, .string ⟨List.toArray ([])⟩, .string ⟨List.toArray ([])⟩, .int .i64 0]) Tryz.isAgg59 Tryz.sizeOf59 ((H108.cls (i := 0) rfl).lit (k := 0) (m := 6) rfl))) ?_)))))
  have H109 := H108.pick [2, 0, 1] (by decide) rfl
  refine WL.do0 (Do.store (vs := [.int .i64 ((r30.toNat : Nat) : Int), .string ⟨List.toArray r96⟩, .string ⟨List.toArray ([])⟩, .string ⟨List.toArray ([])⟩, .string ⟨List.toArray ([])⟩, .int .i64 0]) (o := 0) H109 rfl rfl Tryz.sizeOf59 rfl rfl rfl rfl ?_)
  intro w110 H111
  refine WL.nil (Fin.then (Wp.ret (Fin.res (resC rfl rfl (Lds.agg (cs := [.int .i64 ((r30.toNat : Nat) : Int), .string ⟨List.toArray r96⟩, .string ⟨List.toArray ([])⟩, .string ⟨List.toArray ([])⟩, .string ⟨List.toArray ([])⟩, .int .i64 0]) Tryz.isAgg59 Tryz.sizeOf59 ((H111.cls (i := 0) rfl).lit (k := 0) (m := 6) rfl))) ?_)))
  have H112 := H111.pick [2] (by decide) rfl
  have e : node_readOp p0 = (OpD.mk ((r30.toNat : Nat) : Int) r96 ([]) ([]) ([]) 0, r97) := Eq.trans (bnd_of hr32) (Eq.trans (if_neg h46) (Eq.trans (if_pos h89) (bnd_of hr98)))
  obtain ⟨rfl, rfl⟩ := pj2 (e.symm.trans hr)
  exact ⟨A102, c103, rfl, H112, (SubS.trans hs38 hs104)⟩
  refine Wp.cond0 rfl (decide_eq_false h89) (Wp.seq (Wp.region (Kn (v := .bool (decide (((r30.toNat : Nat) : Int) = 5))) rfl rfl rfl (fun _ => by kernel_rfl) (As rfl rfl (WL.nil (Fin.then ?_))))))
  by_cases h113 : ((r30.toNat : Nat) : Int) = 5
  refine Wp.cond1 rfl (decide_eq_true h113) (Wp.seq (Wp.region (Mv rfl rfl ?_)))
  have H114 := H45.pick [1, 0, 2] (by decide) rfl
  obtain ⟨⟨r120, r121⟩, hr122⟩ : ∃ q : (List UInt8) × ReaderT, node_readText r31 = q := ⟨_, rfl⟩
  obtain ⟨D115, HP116, ro117, bk118, rr119⟩ := Own.enter1 H114
  refine WL.do rfl (Do.call Tryz.call71 rfl (node_readText_ok _ _ g0 r31 A36 c37 r120 r121 HP116 (fun w9 h9 => SubS.rds eB_len (by decide) hs38 ((ro117 _ hx0x0) w9 h9)) (show r31.xrest.ls.length ≤ c37 ∧ r31.xrest.ls.length ≤ 9223372036854775807 from by omega) hr122) ?_)
  rintro _ w123 ⟨A126, c127, rfl, HQ124, hs128⟩
  have H125 := bk118 _ _ HQ124
  replace hs128 : SubS 1 A36 c37 r31.xrest.ls A126 c127 r121.xrest.ls := hs128
  have hz129 := (hs128).le
  refine Kn (v := .pointer (some ⟨g41, 3, none⟩)) rfl rfl rfl (fun _ => by kernel_rfl) ?_
  have H130 := H125.pick [1, 0, 2] (by decide) rfl
  refine WL.do0 (Do.store (vs := [.string ⟨List.toArray r120⟩]) (o := 3) H130 rfl rfl Tryz.sizeOf9 rfl rfl rfl rfl ?_)
  intro w131 H132
  refine WL.nil (Fin.then (Wp.region (Mv rfl rfl ?_)))
  have H133 := H132.pick [1, 0, 2] (by decide) rfl
  obtain ⟨⟨r139, r140⟩, hr141⟩ : ∃ q : (List UInt8) × ReaderT, node_readText r121 = q := ⟨_, rfl⟩
  obtain ⟨D134, HP135, ro136, bk137, rr138⟩ := Own.enter1 H133
  refine WL.do rfl (Do.call Tryz.call71 rfl (node_readText_ok _ _ g0 r121 A126 c127 r139 r140 HP135 (fun w9 h9 => SubS.rds eB_len (by decide) hs128 ((fun w9 h9 => SubS.rds eB_len (by decide) hs38 ((ro136 _ hx0x0) w9 h9)) w9 h9)) (show r121.xrest.ls.length ≤ c127 ∧ r121.xrest.ls.length ≤ 9223372036854775807 from by omega) hr141) ?_)
  rintro _ w142 ⟨A145, c146, rfl, HQ143, hs147⟩
  have H144 := bk137 _ _ HQ143
  replace hs147 : SubS 1 A126 c127 r121.xrest.ls A145 c146 r140.xrest.ls := hs147
  have hz148 := (hs147).le
  refine Kn (v := .pointer (some ⟨g41, 4, none⟩)) rfl rfl rfl (fun _ => by kernel_rfl) ?_
  have H149 := H144.pick [1, 0, 2] (by decide) rfl
  refine WL.do0 (Do.store (vs := [.string ⟨List.toArray r139⟩]) (o := 4) H149 rfl rfl Tryz.sizeOf9 rfl rfl rfl rfl ?_)
  intro w150 H151
  refine WL.nil (Fin.blockN (Fin.then (Wp.seq (Wp.region (WL.val (v := .agg #[.int .i64 ((r30.toNat : Nat) : Int), .string ⟨List.toArray ([])⟩, .string ⟨List.toArray ([])⟩, .string ⟨List.toArray r120⟩, .string ⟨List.toArray r139⟩, .int .i64 0]) rfl (Yl.load rfl (Lds.agg (cs := [.int .i64 ((r30.toNat : Nat) : Int), .string ⟨List.toArray ([])⟩, .string ⟨List.toArray ([])⟩, .string ⟨List.toArray r120⟩, .string ⟨List.toArray r139⟩, .int .i64 0]) Tryz.isAgg59 Tryz.sizeOf59 ((H151.cls (i := 0) rfl).lit (k := 0) (m := 6) rfl))) ?_)))))
  have H152 := H151.pick [2, 0, 1] (by decide) rfl
  refine WL.do0 (Do.store (vs := [.int .i64 ((r30.toNat : Nat) : Int), .string ⟨List.toArray ([])⟩, .string ⟨List.toArray ([])⟩, .string ⟨List.toArray r120⟩, .string ⟨List.toArray r139⟩, .int .i64 0]) (o := 0) H152 rfl rfl Tryz.sizeOf59 rfl rfl rfl rfl ?_)
  intro w153 H154
  refine WL.nil (Fin.then (Wp.ret (Fin.res (resC rfl rfl (Lds.agg (cs := [.int .i64 ((r30.toNat : Nat) : Int), .string ⟨List.toArray ([])⟩, .string ⟨List.toArray ([])⟩, .string ⟨List.toArray r120⟩, .string ⟨List.toArray r139⟩, .int .i64 0]) Tryz.isAgg59 Tryz.sizeOf59 ((H154.cls (i := 0) rfl).lit (k := 0) (m := 6) rfl))) ?_)))
  have H155 := H154.pick [2] (by decide) rfl
  have e : node_readOp p0 = (OpD.mk ((r30.toNat : Nat) : Int) ([]) ([]) r120 r139 0, r140) := Eq.trans (bnd_of hr32) (Eq.trans (if_neg h46) (Eq.trans (if_neg h89) (Eq.trans (if_pos h113) (Eq.trans (bnd_of hr122) (bnd_of hr141)))))
  obtain ⟨rfl, rfl⟩ := pj2 (e.symm.trans hr)
  exact ⟨A145, c146, rfl, H155, (SubS.trans (SubS.trans hs38 hs128) hs147)⟩
  refine Wp.cond0 rfl (decide_eq_false h113) (Wp.region (Mv rfl rfl ?_))
  have H156 := H45.pick [1, 0, 2] (by decide) rfl
  obtain ⟨r162, hr163⟩ : ∃ q, reader_Reader_Fail r31 11 = q := ⟨_, rfl⟩
  obtain ⟨D157, HP158, ro159, bk160, rr161⟩ := Own.enter1 H156
  refine WL.do rfl (Do.call Tryz.call52 rfl (reader_Reader_Fail_ok _ _ g0 r31 A36 c37 11 r162 HP158 (fun w9 h9 => SubS.rds eB_len (by decide) hs38 ((ro159 _ hx0x0) w9 h9)) (show r31.xrest.ls.length ≤ c37 ∧ r31.xrest.ls.length ≤ 9223372036854775807 from by omega) hr163) ?_)
  rintro _ w164 ⟨A167, c168, rfl, HQ165, hs169⟩
  have H166 := bk160 _ _ HQ165
  replace hs169 : SubS 1 A36 c37 r31.xrest.ls A167 c168 r162.xrest.ls := hs169
  have hz170 := (hs169).le
  refine WL.nil (Fin.blockN (Fin.then (Wp.seq (Wp.region (WL.val (v := .agg #[.int .i64 ((r30.toNat : Nat) : Int), .string ⟨List.toArray ([])⟩, .string ⟨List.toArray ([])⟩, .string ⟨List.toArray ([])⟩, .string ⟨List.toArray ([])⟩, .int .i64 0]) rfl (Yl.load rfl (Lds.agg (cs := [.int .i64 ((r30.toNat : Nat) : Int), .string ⟨List.toArray ([])⟩, .string ⟨List.toArray ([])⟩, .string ⟨List.toArray ([])⟩, .string ⟨List.toArray ([])⟩, .int .i64 0]) Tryz.isAgg59 Tryz.sizeOf59 ((H166.cls (i := 1) rfl).lit (k := 0) (m := 6) rfl))) ?_)))))
  have H171 := H166.pick [2, 0, 1] (by decide) rfl
  refine WL.do0 (Do.store (vs := [.int .i64 ((r30.toNat : Nat) : Int), .string ⟨List.toArray ([])⟩, .string ⟨List.toArray ([])⟩, .string ⟨List.toArray ([])⟩, .string ⟨List.toArray ([])⟩, .int .i64 0]) (o := 0) H171 rfl rfl Tryz.sizeOf59 rfl rfl rfl rfl ?_)
  intro w172 H173
  refine WL.nil (Fin.then (Wp.ret (Fin.res (resC rfl rfl (Lds.agg (cs := [.int .i64 ((r30.toNat : Nat) : Int), .string ⟨List.toArray ([])⟩, .string ⟨List.toArray ([])⟩, .string ⟨List.toArray ([])⟩, .string ⟨List.toArray ([])⟩, .int .i64 0]) Tryz.isAgg59 Tryz.sizeOf59 ((H173.cls (i := 0) rfl).lit (k := 0) (m := 6) rfl))) ?_)))
  have H174 := H173.pick [1] (by decide) rfl
  have e : node_readOp p0 = (OpD.mk ((r30.toNat : Nat) : Int) ([]) ([]) ([]) ([]) 0, r162) := Eq.trans (bnd_of hr32) (Eq.trans (if_neg h46) (Eq.trans (if_neg h89) (Eq.trans (if_neg h113) (bnd_of hr163))))
  obtain ⟨rfl, rfl⟩ := pj2 (e.symm.trans hr)
  exact ⟨A167, c168, rfl, H174, (SubS.trans hs38 hs169)⟩

def node_readEntry (p0 : ReaderT) : EntryD × ReaderT :=
  bnd (reader_Reader_Num p0 18446744073709551615) fun yr30 => bnd (node_readOp yr30.2) fun yr46 => (EntryD.mk yr30.1 yr46.1, yr46.2)

set_option maxRecDepth 100000 in
theorem node_readEntry_ok (w : World) (D : Nat → Prop) (g0 : Nat) (p0 : ReaderT) (A0x0 : Option Addr) (c0x0 : Nat) (r0 : EntryD) (r1 : ReaderT) (H : Own w D w [blk g0 [.slice A0x0 p0.xrest.ls.length c0x0, .int .i64 p0.xerrno] 102]) (hx0x0 : Ro w D fun w' => Rds w' 1 A0x0 p0.xrest.ls.length (List.flatMap eB p0.xrest.ls)) (hb0x0 : p0.xrest.ls.length ≤ c0x0 ∧ p0.xrest.ls.length ≤ 9223372036854775807) (hr : node_readEntry p0 = (r0, r1)) :
    Calls Tryz.prog 88 #[.pointer (some ⟨g0, 0, none⟩)] w (Ret fun v w' => ∃ (B1ox0 : Option Addr) (b1ox0 : Nat), v = .agg (EntryD.cells r0).toArray ∧ Own w D w' [blk g0 [.slice B1ox0 r1.xrest.ls.length b1ox0, .int .i64 r1.xerrno] 102] ∧ (SubS 1 A0x0 c0x0 p0.xrest.ls B1ox0 b1ox0 r1.xrest.ls)) := by
  refine Calls.body (args := [.pointer (some ⟨g0, 0, none⟩)]) Tryz.func88 rfl rfl rfl ?_
  show Wp _ _ _ [(0, .pointer (some ⟨g0, 0, none⟩))] _ _
  refine Wp.seq (Wp.region ?_)
  refine WL.do rfl (Do.newP (cs := [.int .u64 0, .int .i64 0, .string ⟨List.toArray ([])⟩, .string ⟨List.toArray ([])⟩, .string ⟨List.toArray ([])⟩, .string ⟨List.toArray ([])⟩, .int .i64 0]) (t := 61) H rfl rfl (fun _ => by kernel_rfl) ?_)
  intro g21 w22 H23
  refine WL.nil (Fin.then (Wp.seq (Wp.region (Mv rfl rfl ?_))))
  have H24 := H23.pick [1, 0] (by decide) rfl
  obtain ⟨⟨r30, r31⟩, hr32⟩ : ∃ q : Nat × ReaderT, reader_Reader_Num p0 18446744073709551615 = q := ⟨_, rfl⟩
  obtain ⟨D25, HP26, ro27, bk28, rr29⟩ := Own.enter1 H24
  refine WL.do rfl (Do.call Tryz.call70 rfl (reader_Reader_Num_ok _ _ g0 p0 A0x0 c0x0 18446744073709551615 r30 r31 HP26 (ro27 _ hx0x0) (show p0.xrest.ls.length ≤ c0x0 ∧ p0.xrest.ls.length ≤ 9223372036854775807 from by omega) hr32) ?_)
  rintro _ w33 ⟨A36, c37, rfl, HQ34, hs38, hk39⟩
  have H35 := bk28 _ _ HQ34
  replace hs38 : SubS 1 A0x0 c0x0 p0.xrest.ls A36 c37 r31.xrest.ls := hs38
  have hz40 := (hs38).le
  replace hk39 : r30 ≤ 18446744073709551615 := hk39
  refine As rfl rfl (WL.nil (Fin.then (Wp.seq (Wp.region (Mv rfl rfl (Mv rfl rfl ?_))))))
  obtain ⟨⟨r46, r47⟩, hr48⟩ : ∃ q : OpD × ReaderT, node_readOp r31 = q := ⟨_, rfl⟩
  obtain ⟨D41, HP42, ro43, bk44, rr45⟩ := Own.enter1 H35
  refine WL.do rfl (Do.call Tryz.call96 rfl (node_readOp_ok _ _ g0 r31 A36 c37 r46 r47 HP42 (fun w9 h9 => SubS.rds eB_len (by decide) hs38 ((ro43 _ hx0x0) w9 h9)) (show r31.xrest.ls.length ≤ c37 ∧ r31.xrest.ls.length ≤ 9223372036854775807 from by omega) hr48) ?_)
  rintro _ w49 ⟨A52, c53, rfl, HQ50, hs54⟩
  have H51 := bk44 _ _ HQ50
  replace hs54 : SubS 1 A36 c37 r31.xrest.ls A52 c53 r47.xrest.ls := hs54
  have hz55 := (hs54).le
  refine Kn (v := .agg #[.int .u64 ((r30 : Nat) : Int), .int .i64 r46.xKind, .string ⟨List.toArray r46.xKey⟩, .string ⟨List.toArray r46.xValue⟩, .string ⟨List.toArray r46.xLo⟩, .string ⟨List.toArray r46.xHi⟩, .int .i64 r46.xMost]) rfl rfl rfl (fun _ => by kernel_rfl) ?_
  have H56 := H51.pick [1, 0] (by decide) rfl
  refine WL.do0 (Do.store (vs := [.int .u64 ((r30 : Nat) : Int), .int .i64 r46.xKind, .string ⟨List.toArray r46.xKey⟩, .string ⟨List.toArray r46.xValue⟩, .string ⟨List.toArray r46.xLo⟩, .string ⟨List.toArray r46.xHi⟩, .int .i64 r46.xMost]) (o := 0) H56 rfl rfl Tryz.sizeOf61 rfl rfl rfl rfl ?_)
  intro w57 H58
  refine WL.nil (Fin.then (Wp.ret (Fin.res (resC rfl rfl (Lds.agg (cs := [.int .u64 ((r30 : Nat) : Int), .int .i64 r46.xKind, .string ⟨List.toArray r46.xKey⟩, .string ⟨List.toArray r46.xValue⟩, .string ⟨List.toArray r46.xLo⟩, .string ⟨List.toArray r46.xHi⟩, .int .i64 r46.xMost]) Tryz.isAgg61 Tryz.sizeOf61 ((H58.cls (i := 0) rfl).lit (k := 0) (m := 7) rfl))) ?_)))
  have H59 := H58.pick [1] (by decide) rfl
  have e : node_readEntry p0 = (EntryD.mk r30 r46, r47) := Eq.trans (bnd_of hr32) (bnd_of hr48)
  obtain ⟨rfl, rfl⟩ := pj2 (e.symm.trans hr)
  exact ⟨A52, c53, rfl, H59, (SubS.trans hs38 hs54)⟩

def reader_Times_api_Entryx_L0 (p1 : Int) : Nat → List EntryD → Nat → List UInt8 → Int → (List EntryD) × (List UInt8) × Int
  | 0, l31, k32, l35, z36 => default
  | q37 + 1, l31, k32, l35, z36 => if ((k32 : Nat) : Int) < p1 then if z36 = 0 then bnd (node_readEntry (ReaderT.mk (Ll.mk l35) z36)) fun yr58 => reader_Times_api_Entryx_L0 p1 q37 (l31 ++ [yr58.1]) (k32 + 1) yr58.2.xrest.ls yr58.2.xerrno else (l31, l35, z36) else (l31, l35, z36)

def reader_Times_api_Entryx (p0 : ReaderT) (p1 : Int) : (List EntryD) × ReaderT :=
  bnd (bnd (reader_Times_api_Entryx_L0 p1 ((Int.toNat p1 - 0) + 1) ([]) 0 p0.xrest.ls p0.xerrno) fun sLrJjL => (sLrJjL.1, sLrJjL.2.1, sLrJjL.2.2)) fun sJrJ => (sJrJ.1, ReaderT.mk (Ll.mk sJrJ.2.1) sJrJ.2.2)

set_option maxRecDepth 100000 in
theorem reader_Times_api_Entryx_ok (w : World) (D : Nat → Prop) (g0 : Nat) (p0 : ReaderT) (A0x0 : Option Addr) (c0x0 : Nat) (p1 : Int) (r0 : List EntryD) (r1 : ReaderT) (H : Own w D w [blk g0 [.slice A0x0 p0.xrest.ls.length c0x0, .int .i64 p0.xerrno] 102]) (hx0x0 : Ro w D fun w' => Rds w' 1 A0x0 p0.xrest.ls.length (List.flatMap eB p0.xrest.ls)) (hb0x0 : p0.xrest.ls.length ≤ c0x0 ∧ p0.xrest.ls.length ≤ 9223372036854775807) (hh0 : p1 ≤ 1000) (hr : reader_Times_api_Entryx p0 p1 = (r0, r1)) :
    Calls Tryz.prog 95 #[.pointer (some ⟨g0, 0, none⟩), .int .i64 p1, .func (.func 88) #[] #[]] w (Ret fun v w' => ∃ (B0 : Option Addr) (b0 : Nat) (B1ox0 : Option Addr) (b1ox0 : Nat), v = .slice B0 r0.length b0 ∧ Own w D w' [row B0 r0.length b0 (List.flatMap EntryD.cells r0) 61 7, blk g0 [.slice B1ox0 r1.xrest.ls.length b1ox0, .int .i64 r1.xerrno] 102] ∧ (SubS 1 A0x0 c0x0 p0.xrest.ls B1ox0 b1ox0 r1.xrest.ls) ∧ (r0.length ≤ 1000)) := by
  refine Calls.body (args := [.pointer (some ⟨g0, 0, none⟩), .int .i64 p1, .func (.func 88) #[] #[]]) Tryz.func95 rfl rfl rfl ?_
  show Wp _ _ _ [(0, .pointer (some ⟨g0, 0, none⟩)), (1, .int .i64 p1), (2, .func (.func 88) #[] #[])] _ _
  refine Wp.seq (Wp.region (As rfl rfl (WL.nil (Fin.then (Wp.seq (Wp.region (As rfl rfl (WL.nil (Fin.then (Wp.seq (Wp.seq (Wp.region (As rfl rfl (WL.nil (Fin.then ?_)))))))))))))))
  refine Wp.joinT (ι := (Option Addr) × Nat × (List EntryD) × (Option Addr) × Nat × (List UInt8) × Int) (fun i => [(7, .slice i.1 i.2.2.1.length i.2.1), (6, .slice none 0 0)]) (fun (i : (Option Addr) × Nat × (List EntryD) × (Option Addr) × Nat × (List UInt8) × Int) w' => Own w D w' [blk g0 [.slice i.2.2.2.1 i.2.2.2.2.2.1.length i.2.2.2.2.1, .int .i64 i.2.2.2.2.2.2] 102, row i.1 i.2.2.1.length i.2.1 (List.flatMap EntryD.cells i.2.2.1) 61 7] ∧ (SubS 1 A0x0 c0x0 p0.xrest.ls i.2.2.2.1 i.2.2.2.2.1 i.2.2.2.2.2.1 ∧ 0 ≤ i.2.2.1.length ∧ i.2.2.2.2.2.1.length ≤ p0.xrest.ls.length ∧ i.2.2.2.2.2.1.length ≤ p0.xrest.ls.length + 1 ∧ i.2.2.1.length ≤ 1000 ∧ (bnd (reader_Times_api_Entryx_L0 p1 ((Int.toNat p1 - 0) + 1) ([]) 0 p0.xrest.ls p0.xerrno) fun sLrJjL => (sLrJjL.1, sLrJjL.2.1, sLrJjL.2.2)) = (i.2.2.1, i.2.2.2.2.2.1, i.2.2.2.2.2.2))) ?_ ?_
  refine Wp.block ?_
  have H28 : Own w D w [row none 0 0 (List.flatMap EntryD.cells ([])) 61 7, blk g0 [.slice A0x0 p0.xrest.ls.length c0x0, .int .i64 p0.xerrno] 102] := H.free (row_nil 61 7)
  have H39 := H28.pick [1, 0] (by decide) rfl
  refine Wp.loop (ι := (Option Addr) × Nat × (List EntryD) × Nat × (Option Addr) × Nat × (List UInt8) × Int × Nat) (fun i => [(7, .slice i.1 i.2.2.1.length i.2.1), (8, .int .i64 ((i.2.2.2.1 : Nat) : Int)), (6, .slice none 0 0), (0, .pointer (some ⟨g0, 0, none⟩)), (1, .int .i64 p1), (2, .func (.func 88) #[] #[])]) (fun (i : (Option Addr) × Nat × (List EntryD) × Nat × (Option Addr) × Nat × (List UInt8) × Int × Nat) w' => Own w D w' [blk g0 [.slice i.2.2.2.2.1 i.2.2.2.2.2.2.1.length i.2.2.2.2.2.1, .int .i64 i.2.2.2.2.2.2.2.1] 102, row i.1 i.2.2.1.length i.2.1 (List.flatMap EntryD.cells i.2.2.1) 61 7] ∧ (SubS 1 A0x0 c0x0 p0.xrest.ls i.2.2.2.2.1 i.2.2.2.2.2.1 i.2.2.2.2.2.2.1 ∧ i.2.2.1.length ≤ i.2.2.2.1 ∧ (i.2.2.2.1 = 0 ∨ ((i.2.2.2.1 : Nat) : Int) ≤ p1) ∧ Int.toNat p1 - i.2.2.2.1 < i.2.2.2.2.2.2.2.2 ∧ reader_Times_api_Entryx_L0 p1 ((Int.toNat p1 - 0) + 1) ([]) 0 p0.xrest.ls p0.xerrno = reader_Times_api_Entryx_L0 p1 i.2.2.2.2.2.2.2.2 i.2.2.1 i.2.2.2.1 i.2.2.2.2.2.2.1 i.2.2.2.2.2.2.2.1)) (fun i => i.2.2.2.2.2.2.2.2) (none, 0, [], 0, A0x0, c0x0, p0.xrest.ls, p0.xerrno, (Int.toNat p1 - 0) + 1) ⟨rfl, rfl, rfl, rfl, rfl, rfl, trivial⟩ ⟨H39, (show SubS 1 A0x0 c0x0 p0.xrest.ls A0x0 c0x0 p0.xrest.ls ∧ 0 ≤ 0 ∧ (0 = 0 ∨ ((0 : Nat) : Int) ≤ p1) ∧ Int.toNat p1 - 0 < ((Int.toNat p1 - 0) + 1) ∧ reader_Times_api_Entryx_L0 p1 ((Int.toNat p1 - 0) + 1) ([]) 0 p0.xrest.ls p0.xerrno = reader_Times_api_Entryx_L0 p1 ((Int.toNat p1 - 0) + 1) ([]) 0 p0.xrest.ls p0.xerrno from ⟨by exact (SubS.refl (by omega)), by omega, by omega, by omega, rfl⟩)⟩ ?_
  rintro ⟨A29, c30, l31, k32, A33, c34, l35, z36, f38⟩ w40 ⟨H41, hf42⟩
  show Wp _ _ _ [(7, .slice A29 l31.length c30), (8, .int .i64 ((k32 : Nat) : Int)), (6, .slice none 0 0), (0, .pointer (some ⟨g0, 0, none⟩)), (1, .int .i64 p1), (2, .func (.func 88) #[] #[])] _ _
  replace hf42 : SubS 1 A0x0 c0x0 p0.xrest.ls A33 c34 l35 ∧ l31.length ≤ k32 ∧ (k32 = 0 ∨ ((k32 : Nat) : Int) ≤ p1) ∧ Int.toNat p1 - k32 < f38 ∧ reader_Times_api_Entryx_L0 p1 ((Int.toNat p1 - 0) + 1) ([]) 0 p0.xrest.ls p0.xerrno = reader_Times_api_Entryx_L0 p1 f38 l31 k32 l35 z36 := hf42
  obtain ⟨hi44, hi45, hi46, hi47, hq43⟩ := hf42
  have hz48 := (hi44).le
  obtain ⟨f49, hf50⟩ : ∃ q, f38 = q + 1 := ⟨f38 - 1, by omega⟩
  subst hf50
  refine Wp.seq (Wp.seq (Wp.region (Mv rfl rfl (Mv rfl rfl (Kn (v := .bool (decide (((k32 : Nat) : Int) < p1))) rfl rfl rfl (fun _ => by kernel_rfl) (Mv rfl rfl ?_))))))
  by_cases h51 : ((k32 : Nat) : Int) < p1
  refine WL.valG (v := .pointer (some ⟨g0, 0, none⟩)) rfl rfl (decide_eq_true h51) rfl (Yl.move rfl) (WL.valG (v := .pointer (some ⟨g0, 0, none⟩)) rfl rfl (decide_eq_true h51) rfl (Yl.kern rfl rfl (fun _ => by kernel_rfl)) (WL.valG (v := .pointer (some ⟨g0, 1, none⟩)) rfl rfl (decide_eq_true h51) rfl (Yl.kern rfl rfl (fun _ => by kernel_rfl)) (WL.valG (v := .int .i64 z36) rfl rfl (decide_eq_true h51) rfl (Yl.load rfl (Lds.one Tryz.isAgg30 (Cls.of (H41.cls (i := 0) rfl) rfl))) (WL.valG (v := .bool (decide (z36 = 0))) rfl rfl (decide_eq_true h51) rfl (Yl.kern rfl rfl (fun _ => by kernel_rfl)) (WL.val (v := .bool (decide (z36 = 0))) rfl (Yl.pickT rfl (decide_eq_true h51) rfl) (WL.nil (Fin.then ?_)))))))
  by_cases h52 : z36 = 0
  refine Wp.cond1 rfl (decide_eq_true h52) (Wp.skip (Fin.then (Wp.seq (Wp.block (Wp.region (Mv rfl rfl (Mv rfl rfl (Mv rfl rfl ?_))))))))
  obtain ⟨⟨r58, r59⟩, hr60⟩ : ∃ q : EntryD × ReaderT, node_readEntry (ReaderT.mk (Ll.mk l35) z36) = q := ⟨_, rfl⟩
  obtain ⟨D53, HP54, ro55, bk56, rr57⟩ := Own.enter1 H41
  refine WL.do rfl (Do.callV Tryz.call88 rfl rfl (node_readEntry_ok _ _ g0 (ReaderT.mk (Ll.mk l35) z36) A33 c34 r58 r59 HP54 (fun w9 h9 => SubS.rds eB_len (by decide) hi44 ((ro55 _ hx0x0) w9 h9)) (show l35.length ≤ c34 ∧ l35.length ≤ 9223372036854775807 from by omega) hr60) ?_)
  rintro _ w61 ⟨A64, c65, rfl, HQ62, hs66⟩
  have H63 := bk56 _ _ HQ62
  replace hs66 : SubS 1 A33 c34 l35 A64 c65 r59.xrest.ls := hs66
  have hz67 := (hs66).le
  refine WL.do rfl (Do.newRow (cs := (EntryD.cells r58)) (t := 61) (sz := 7) (m := 1) H63 rfl rfl (fun _ => by kernel_rfl) rfl (by decide) ?_)
  intro A68 w69 H70
  replace H70 : Own w D w69 [row A68 1 1 (List.flatMap EntryD.cells ([r58])) 61 7, blk g0 [.slice A64 r59.xrest.ls.length c65, .int .i64 r59.xerrno] 102, row A29 l31.length c30 (List.flatMap EntryD.cells l31) 61 7] := H70
  have H71 := H70.pick [2, 0, 1] (by decide) rfl
  refine WL.do rfl (Do.appendW (k := l31.length) (m := 1) (El46) H71 rfl rfl (src_of Tryz.underlying46 (H71.rds (i := 1) rfl) (flat_one EntryD.one ([r58]))) rfl (by omega) (s := List.length (l31 ++ [r58])) (by first | omega | (simp only [List.length_append, List.length_cons, List.length_nil] <;> omega)) (List.flatMap_append).symm ?_)
  intro A72 c73 w74 H75
  have hl76 : List.length (l31 ++ [r58]) = l31.length + 1 := by simp only [List.length_append, List.length_cons, List.length_nil]
  refine As rfl rfl (WL.nil (Fin.blockN (Fin.then (Wp.region (Mv rfl rfl (WL.val (v := .int .i64 ((k32 + 1 : Nat) : Int)) rfl (Yl.int (e := IntKind.i64.wrap (((k32 : Nat) : Int) + 1)) (Yl.kern rfl rfl (fun _ => by kernel_rfl)) (by rw [IntWalk.i64_in _ (by omega)]; omega)) (As rfl rfl (WL.nil ?_))))))))
  have H77 := H75.pick [2, 0] (by decide) rfl
  exact Fin.round (A72, c73, (l31 ++ [r58]), k32 + 1, A64, c65, r59.xrest.ls, r59.xerrno, f49) ⟨rfl, rfl, rfl, rfl, rfl, rfl, trivial⟩ ⟨H77, (show SubS 1 A0x0 c0x0 p0.xrest.ls A64 c65 r59.xrest.ls ∧ List.length (l31 ++ [r58]) ≤ (k32 + 1) ∧ ((k32 + 1) = 0 ∨ (((k32 + 1) : Nat) : Int) ≤ p1) ∧ Int.toNat p1 - (k32 + 1) < f49 ∧ reader_Times_api_Entryx_L0 p1 ((Int.toNat p1 - 0) + 1) ([]) 0 p0.xrest.ls p0.xerrno = reader_Times_api_Entryx_L0 p1 f49 (l31 ++ [r58]) (k32 + 1) r59.xrest.ls r59.xerrno from ⟨by exact (SubS.trans hi44 hs66), by omega, by omega, by omega, Eq.trans (hq43) (Eq.trans (if_pos h51) (Eq.trans (if_pos h52) (bnd_of hr60)))⟩)⟩ (by show f49 < f49 + 1; omega)
  refine Wp.cond0 rfl (decide_eq_false h52) (Wp.exit (Fin.thenX (Fin.thenX (Fin.blockX ?_))))
  have H78 := H41.pick [0, 1] (by decide) rfl
  exact Fin.join (A29, c30, l31, A33, c34, l35, z36) ⟨rfl, rfl, trivial⟩ ⟨H78, (show SubS 1 A0x0 c0x0 p0.xrest.ls A33 c34 l35 ∧ 0 ≤ l31.length ∧ l35.length ≤ p0.xrest.ls.length ∧ l35.length ≤ p0.xrest.ls.length + 1 ∧ l31.length ≤ 1000 ∧ (bnd (reader_Times_api_Entryx_L0 p1 ((Int.toNat p1 - 0) + 1) ([]) 0 p0.xrest.ls p0.xerrno) fun sLrJjL => (sLrJjL.1, sLrJjL.2.1, sLrJjL.2.2)) = (l31, l35, z36) from ⟨by exact hi44, by omega, by omega, by omega, by omega, bnd_of (Eq.trans (hq43) (Eq.trans (if_pos h51) (if_neg h52)))⟩)⟩
  refine Sk rfl rfl (decide_eq_false h51) rfl (Sk rfl rfl (decide_eq_false h51) rfl (Sk rfl rfl (decide_eq_false h51) rfl (Sk rfl rfl (decide_eq_false h51) rfl (Sk rfl rfl (decide_eq_false h51) rfl (WL.val (v := .bool false) rfl (Yl.pickF rfl (decide_eq_false h51) rfl) (WL.nil (Fin.then (Wp.cond0 rfl rfl (Wp.exit (Fin.thenX (Fin.thenX (Fin.blockX ?_))))))))))))
  have H79 := H41.pick [0, 1] (by decide) rfl
  exact Fin.join (A29, c30, l31, A33, c34, l35, z36) ⟨rfl, rfl, trivial⟩ ⟨H79, (show SubS 1 A0x0 c0x0 p0.xrest.ls A33 c34 l35 ∧ 0 ≤ l31.length ∧ l35.length ≤ p0.xrest.ls.length ∧ l35.length ≤ p0.xrest.ls.length + 1 ∧ l31.length ≤ 1000 ∧ (bnd (reader_Times_api_Entryx_L0 p1 ((Int.toNat p1 - 0) + 1) ([]) 0 p0.xrest.ls p0.xerrno) fun sLrJjL => (sLrJjL.1, sLrJjL.2.1, sLrJjL.2.2)) = (l31, l35, z36) from ⟨by exact hi44, by omega, by omega, by omega, by omega, bnd_of (Eq.trans (hq43) (if_neg h51))⟩)⟩
  rintro ⟨A21, c22, l23, A24, c25, l26, z27⟩ w80 ⟨H81, hf82⟩
  show Wp _ _ _ [(7, .slice A21 l23.length c22), (6, .slice none 0 0)] _ _
  replace hf82 : SubS 1 A0x0 c0x0 p0.xrest.ls A24 c25 l26 ∧ 0 ≤ l23.length ∧ l26.length ≤ p0.xrest.ls.length ∧ l26.length ≤ p0.xrest.ls.length + 1 ∧ l23.length ≤ 1000 ∧ (bnd (reader_Times_api_Entryx_L0 p1 ((Int.toNat p1 - 0) + 1) ([]) 0 p0.xrest.ls p0.xerrno) fun sLrJjL => (sLrJjL.1, sLrJjL.2.1, sLrJjL.2.2)) = (l23, l26, z27) := hf82
  obtain ⟨hi84, hi85, hi86, hi87, hi88, hj83⟩ := hf82
  have hz89 := (hi84).le
  refine Wp.seq (Wp.region (Mv rfl rfl (As rfl rfl (WL.nil (Fin.then (Wp.ret (Fin.res (res1 rfl rfl) ?_)))))))
  have H90 := H81.pick [1, 0] (by decide) rfl
  have e : reader_Times_api_Entryx p0 p1 = (l23, ReaderT.mk (Ll.mk l26) z27) := bnd_of hj83
  obtain ⟨rfl, rfl⟩ := pj2 (e.symm.trans hr)
  exact ⟨A21, c22, A24, c25, rfl, H90, hi84, (by omega)⟩

def reader_List_api_Entry (p0 : ReaderT) (p1 : Nat) : (List EntryD) × ReaderT :=
  bnd (reader_Reader_Num p0 p1) fun yr26 => bnd (reader_Times_api_Entryx yr26.2 ((yr26.1 : Nat) : Int)) fun yr42 => (yr42.1, yr42.2)

set_option maxRecDepth 100000 in
theorem reader_List_api_Entry_ok (w : World) (D : Nat → Prop) (g0 : Nat) (p0 : ReaderT) (A0x0 : Option Addr) (c0x0 : Nat) (p1 : Nat) (r0 : List EntryD) (r1 : ReaderT) (H : Own w D w [blk g0 [.slice A0x0 p0.xrest.ls.length c0x0, .int .i64 p0.xerrno] 102]) (hx0x0 : Ro w D fun w' => Rds w' 1 A0x0 p0.xrest.ls.length (List.flatMap eB p0.xrest.ls)) (hb0x0 : p0.xrest.ls.length ≤ c0x0 ∧ p0.xrest.ls.length ≤ 9223372036854775807) (hh0 : p1 ≤ 1000) (hr : reader_List_api_Entry p0 p1 = (r0, r1)) :
    Calls Tryz.prog 87 #[.pointer (some ⟨g0, 0, none⟩), .int .u64 ((p1 : Nat) : Int), .func (.func 88) #[] #[]] w (Ret fun v w' => ∃ (B0 : Option Addr) (b0 : Nat) (B1ox0 : Option Addr) (b1ox0 : Nat), v = .slice B0 r0.length b0 ∧ Own w D w' [row B0 r0.length b0 (List.flatMap EntryD.cells r0) 61 7, blk g0 [.slice B1ox0 r1.xrest.ls.length b1ox0, .int .i64 r1.xerrno] 102] ∧ (SubS 1 A0x0 c0x0 p0.xrest.ls B1ox0 b1ox0 r1.xrest.ls) ∧ (r0.length ≤ 1000)) := by
  refine Calls.body (args := [.pointer (some ⟨g0, 0, none⟩), .int .u64 ((p1 : Nat) : Int), .func (.func 88) #[] #[]]) Tryz.func87 rfl rfl rfl ?_
  show Wp _ _ _ [(0, .pointer (some ⟨g0, 0, none⟩)), (1, .int .u64 ((p1 : Nat) : Int)), (2, .func (.func 88) #[] #[])] _ _
  refine Wp.seq (Wp.region (As rfl rfl (WL.nil (Fin.then (Wp.seq (Wp.region (Mv rfl rfl (Mv rfl rfl (Mv rfl rfl ?_)))))))))
  obtain ⟨⟨r26, r27⟩, hr28⟩ : ∃ q : Nat × ReaderT, reader_Reader_Num p0 p1 = q := ⟨_, rfl⟩
  obtain ⟨D21, HP22, ro23, bk24, rr25⟩ := Own.enter1 H
  refine WL.do rfl (Do.call Tryz.call70 rfl (reader_Reader_Num_ok _ _ g0 p0 A0x0 c0x0 p1 r26 r27 HP22 (ro23 _ hx0x0) (show p0.xrest.ls.length ≤ c0x0 ∧ p0.xrest.ls.length ≤ 9223372036854775807 from by omega) hr28) ?_)
  rintro _ w29 ⟨A32, c33, rfl, HQ30, hs34, hk35⟩
  have H31 := bk24 _ _ HQ30
  replace hs34 : SubS 1 A0x0 c0x0 p0.xrest.ls A32 c33 r27.xrest.ls := hs34
  have hz36 := (hs34).le
  replace hk35 : r26 ≤ p1 := hk35
  refine WL.val (v := .int .i64 ((r26 : Nat) : Int)) rfl (Yl.int (e := IntKind.i64.wrap ((r26 : Nat) : Int)) (Yl.kern rfl rfl (fun _ => by kernel_rfl)) (IntWalk.i64_in _ (by omega))) (Mv rfl rfl ?_)
  obtain ⟨⟨r42, r43⟩, hr44⟩ : ∃ q : (List EntryD) × ReaderT, reader_Times_api_Entryx r27 ((r26 : Nat) : Int) = q := ⟨_, rfl⟩
  obtain ⟨D37, HP38, ro39, bk40, rr41⟩ := Own.enter1 H31
  refine WL.do rfl (Do.call Tryz.call95 rfl (reader_Times_api_Entryx_ok _ _ g0 r27 A32 c33 ((r26 : Nat) : Int) r42 r43 HP38 (fun w9 h9 => SubS.rds eB_len (by decide) hs34 ((ro39 _ hx0x0) w9 h9)) (show r27.xrest.ls.length ≤ c33 ∧ r27.xrest.ls.length ≤ 9223372036854775807 from by omega) (by omega) hr44) ?_)
  rintro _ w45 ⟨A48, c49, A50, c51, rfl, HQ46, hs52, hk53⟩
  have H47 := bk40 _ _ HQ46
  replace hs52 : SubS 1 A32 c33 r27.xrest.ls A50 c51 r43.xrest.ls := hs52
  have hz54 := (hs52).le
  have hb55 := H47.rowC (i := 0) rfl
  replace hk53 : r42.length ≤ 1000 := hk53
  refine As rfl rfl (WL.nil (Fin.then (Wp.ret (Fin.res (res1 rfl rfl) ?_))))
  have H56 := H47.pick [0, 1] (by decide) rfl
  have e : reader_List_api_Entry p0 p1 = (r42, r43) := Eq.trans (bnd_of hr28) (bnd_of hr44)
  obtain ⟨rfl, rfl⟩ := pj2 (e.symm.trans hr)
  exact ⟨A48, c49, A50, c51, rfl, H56, (SubS.trans hs34 hs52), (by omega)⟩

def node_readEntries (p0 : ReaderT) : (List EntryD) × ReaderT :=
  bnd (reader_List_api_Entry p0 480) fun yr26 => (yr26.1, yr26.2)

set_option maxRecDepth 100000 in
theorem node_readEntries_ok (w : World) (D : Nat → Prop) (g0 : Nat) (p0 : ReaderT) (A0x0 : Option Addr) (c0x0 : Nat) (r0 : List EntryD) (r1 : ReaderT) (H : Own w D w [blk g0 [.slice A0x0 p0.xrest.ls.length c0x0, .int .i64 p0.xerrno] 102]) (hx0x0 : Ro w D fun w' => Rds w' 1 A0x0 p0.xrest.ls.length (List.flatMap eB p0.xrest.ls)) (hb0x0 : p0.xrest.ls.length ≤ c0x0 ∧ p0.xrest.ls.length ≤ 9223372036854775807) (hr : node_readEntries p0 = (r0, r1)) :
    Calls Tryz.prog 76 #[.pointer (some ⟨g0, 0, none⟩)] w (Ret fun v w' => ∃ (B0 : Option Addr) (b0 : Nat) (B1ox0 : Option Addr) (b1ox0 : Nat), v = .slice B0 r0.length b0 ∧ Own w D w' [row B0 r0.length b0 (List.flatMap EntryD.cells r0) 61 7, blk g0 [.slice B1ox0 r1.xrest.ls.length b1ox0, .int .i64 r1.xerrno] 102] ∧ (SubS 1 A0x0 c0x0 p0.xrest.ls B1ox0 b1ox0 r1.xrest.ls)) := by
  refine Calls.body (args := [.pointer (some ⟨g0, 0, none⟩)]) Tryz.func76 rfl rfl rfl ?_
  show Wp _ _ _ [(0, .pointer (some ⟨g0, 0, none⟩))] _ _
  refine Wp.seq (Wp.region (As rfl rfl (WL.nil (Fin.then (Wp.seq (Wp.region (Mv rfl rfl ?_)))))))
  obtain ⟨⟨r26, r27⟩, hr28⟩ : ∃ q : (List EntryD) × ReaderT, reader_List_api_Entry p0 480 = q := ⟨_, rfl⟩
  obtain ⟨D21, HP22, ro23, bk24, rr25⟩ := Own.enter1 H
  refine WL.do rfl (Do.call Tryz.call87 rfl (reader_List_api_Entry_ok _ _ g0 p0 A0x0 c0x0 480 r26 r27 HP22 (ro23 _ hx0x0) (show p0.xrest.ls.length ≤ c0x0 ∧ p0.xrest.ls.length ≤ 9223372036854775807 from by omega) (by omega) hr28) ?_)
  rintro _ w29 ⟨A32, c33, A34, c35, rfl, HQ30, hs36, hk37⟩
  have H31 := bk24 _ _ HQ30
  replace hs36 : SubS 1 A0x0 c0x0 p0.xrest.ls A34 c35 r27.xrest.ls := hs36
  have hz38 := (hs36).le
  have hb39 := H31.rowC (i := 0) rfl
  replace hk37 : r26.length ≤ 1000 := hk37
  refine As rfl rfl (WL.nil (Fin.then (Wp.ret (Fin.res (res1 rfl rfl) ?_))))
  have H40 := H31.pick [0, 1] (by decide) rfl
  have e : node_readEntries p0 = (r26, r27) := bnd_of hr28
  obtain ⟨rfl, rfl⟩ := pj2 (e.symm.trans hr)
  exact ⟨A32, c33, A34, c35, rfl, H40, hs36⟩

def reader_Times_api_Entry_L0 (p1 : Int) : Nat → List (Ll EntryD) → Nat → List UInt8 → Int → (List (Ll EntryD)) × (List UInt8) × Int
  | 0, l33, k35, l38, z39 => default
  | q40 + 1, l33, k35, l38, z39 => if ((k35 : Nat) : Int) < p1 then if z39 = 0 then bnd (node_readEntries (ReaderT.mk (Ll.mk l38) z39)) fun yr63 => reader_Times_api_Entry_L0 p1 q40 (l33 ++ [(Ll.mk yr63.1)]) (k35 + 1) yr63.2.xrest.ls yr63.2.xerrno else (l33, l38, z39) else (l33, l38, z39)

def reader_Times_api_Entry (p0 : ReaderT) (p1 : Int) : (List (Ll EntryD)) × ReaderT :=
  bnd (bnd (reader_Times_api_Entry_L0 p1 ((Int.toNat p1 - 0) + 1) ([]) 0 p0.xrest.ls p0.xerrno) fun sLrJjL => (sLrJjL.1, sLrJjL.2.1, sLrJjL.2.2)) fun sJrJ => (sJrJ.1, ReaderT.mk (Ll.mk sJrJ.2.1) sJrJ.2.2)

set_option maxRecDepth 100000 in
theorem reader_Times_api_Entry_ok (w : World) (D : Nat → Prop) (g0 : Nat) (p0 : ReaderT) (A0x0 : Option Addr) (c0x0 : Nat) (p1 : Int) (r0 : List (Ll EntryD)) (r1 : ReaderT) (H : Own w D w [blk g0 [.slice A0x0 p0.xrest.ls.length c0x0, .int .i64 p0.xerrno] 102]) (hx0x0 : Ro w D fun w' => Rds w' 1 A0x0 p0.xrest.ls.length (List.flatMap eB p0.xrest.ls)) (hb0x0 : p0.xrest.ls.length ≤ c0x0 ∧ p0.xrest.ls.length ≤ 9223372036854775807) (hh0 : p1 ≤ 1000) (hr : reader_Times_api_Entry p0 p1 = (r0, r1)) :
    Calls Tryz.prog 75 #[.pointer (some ⟨g0, 0, none⟩), .int .i64 p1, .func (.func 76) #[] #[]] w (Ret fun v w' => ∃ (B0 : Option Addr) (b0 : Nat) (e0 : List Row46D) (B1ox0 : Option Addr) (b1ox0 : Nat), v = .slice B0 r0.length b0 ∧ Own w D w' [row B0 r0.length b0 (List.flatMap (Sv.enc (β := EntryD)) e0) 46 1, sepL (List.flatMap Row46D.own e0), blk g0 [.slice B1ox0 r1.xrest.ls.length b1ox0, .int .i64 r1.xerrno] 102] ∧ (List.map Row46D.abs e0 = r0) ∧ (SubS 1 A0x0 c0x0 p0.xrest.ls B1ox0 b1ox0 r1.xrest.ls) ∧ (r0.length ≤ 1000)) := by
  refine Calls.body (args := [.pointer (some ⟨g0, 0, none⟩), .int .i64 p1, .func (.func 76) #[] #[]]) Tryz.func75 rfl rfl rfl ?_
  show Wp _ _ _ [(0, .pointer (some ⟨g0, 0, none⟩)), (1, .int .i64 p1), (2, .func (.func 76) #[] #[])] _ _
  refine Wp.seq (Wp.region (As rfl rfl (WL.nil (Fin.then (Wp.seq (Wp.region (As rfl rfl (WL.nil (Fin.then (Wp.seq (Wp.seq (Wp.region (As rfl rfl (WL.nil (Fin.then ?_)))))))))))))))
  refine Wp.joinT (ι := (Option Addr) × Nat × (List Row46D) × (List (Ll EntryD)) × (Option Addr) × Nat × (List UInt8) × Int) (fun i => [(7, .slice i.1 i.2.2.2.1.length i.2.1), (6, .slice none 0 0)]) (fun (i : (Option Addr) × Nat × (List Row46D) × (List (Ll EntryD)) × (Option Addr) × Nat × (List UInt8) × Int) w' => Own w D w' [blk g0 [.slice i.2.2.2.2.1 i.2.2.2.2.2.2.1.length i.2.2.2.2.2.1, .int .i64 i.2.2.2.2.2.2.2] 102, row i.1 i.2.2.2.1.length i.2.1 (List.flatMap (Sv.enc (β := EntryD)) i.2.2.1) 46 1, sepL (List.flatMap Row46D.own i.2.2.1)] ∧ (List.map Row46D.abs i.2.2.1 = i.2.2.2.1 ∧ SubS 1 A0x0 c0x0 p0.xrest.ls i.2.2.2.2.1 i.2.2.2.2.2.1 i.2.2.2.2.2.2.1 ∧ 0 ≤ i.2.2.2.1.length ∧ i.2.2.2.2.2.2.1.length ≤ p0.xrest.ls.length ∧ i.2.2.2.2.2.2.1.length ≤ p0.xrest.ls.length + 1 ∧ i.2.2.2.1.length ≤ 1000 ∧ (bnd (reader_Times_api_Entry_L0 p1 ((Int.toNat p1 - 0) + 1) ([]) 0 p0.xrest.ls p0.xerrno) fun sLrJjL => (sLrJjL.1, sLrJjL.2.1, sLrJjL.2.2)) = (i.2.2.2.1, i.2.2.2.2.2.2.1, i.2.2.2.2.2.2.2))) ?_ ?_
  refine Wp.block ?_
  have H29 : Own w D w [sepL (List.flatMap Row46D.own ([])), blk g0 [.slice A0x0 p0.xrest.ls.length c0x0, .int .i64 p0.xerrno] 102] := H.sepNil
  have H30 : Own w D w [row none 0 0 (List.flatMap (Sv.enc (β := EntryD)) ([])) 46 1, sepL (List.flatMap Row46D.own ([])), blk g0 [.slice A0x0 p0.xrest.ls.length c0x0, .int .i64 p0.xerrno] 102] := H29.free (row_nil 46 1)
  have H42 := H30.pick [2, 0, 1] (by decide) rfl
  refine Wp.loop (ι := (Option Addr) × Nat × (List Row46D) × (List (Ll EntryD)) × Nat × (Option Addr) × Nat × (List UInt8) × Int × Nat) (fun i => [(7, .slice i.1 i.2.2.2.1.length i.2.1), (8, .int .i64 ((i.2.2.2.2.1 : Nat) : Int)), (6, .slice none 0 0), (0, .pointer (some ⟨g0, 0, none⟩)), (1, .int .i64 p1), (2, .func (.func 76) #[] #[])]) (fun (i : (Option Addr) × Nat × (List Row46D) × (List (Ll EntryD)) × Nat × (Option Addr) × Nat × (List UInt8) × Int × Nat) w' => Own w D w' [blk g0 [.slice i.2.2.2.2.2.1 i.2.2.2.2.2.2.2.1.length i.2.2.2.2.2.2.1, .int .i64 i.2.2.2.2.2.2.2.2.1] 102, row i.1 i.2.2.2.1.length i.2.1 (List.flatMap (Sv.enc (β := EntryD)) i.2.2.1) 46 1, sepL (List.flatMap Row46D.own i.2.2.1)] ∧ (List.map Row46D.abs i.2.2.1 = i.2.2.2.1 ∧ SubS 1 A0x0 c0x0 p0.xrest.ls i.2.2.2.2.2.1 i.2.2.2.2.2.2.1 i.2.2.2.2.2.2.2.1 ∧ i.2.2.2.1.length ≤ i.2.2.2.2.1 ∧ (i.2.2.2.2.1 = 0 ∨ ((i.2.2.2.2.1 : Nat) : Int) ≤ p1) ∧ Int.toNat p1 - i.2.2.2.2.1 < i.2.2.2.2.2.2.2.2.2 ∧ reader_Times_api_Entry_L0 p1 ((Int.toNat p1 - 0) + 1) ([]) 0 p0.xrest.ls p0.xerrno = reader_Times_api_Entry_L0 p1 i.2.2.2.2.2.2.2.2.2 i.2.2.2.1 i.2.2.2.2.1 i.2.2.2.2.2.2.2.1 i.2.2.2.2.2.2.2.2.1)) (fun i => i.2.2.2.2.2.2.2.2.2) (none, 0, [], [], 0, A0x0, c0x0, p0.xrest.ls, p0.xerrno, (Int.toNat p1 - 0) + 1) ⟨rfl, rfl, rfl, rfl, rfl, rfl, trivial⟩ ⟨H42, (show List.map Row46D.abs ([]) = ([]) ∧ SubS 1 A0x0 c0x0 p0.xrest.ls A0x0 c0x0 p0.xrest.ls ∧ 0 ≤ 0 ∧ (0 = 0 ∨ ((0 : Nat) : Int) ≤ p1) ∧ Int.toNat p1 - 0 < ((Int.toNat p1 - 0) + 1) ∧ reader_Times_api_Entry_L0 p1 ((Int.toNat p1 - 0) + 1) ([]) 0 p0.xrest.ls p0.xerrno = reader_Times_api_Entry_L0 p1 ((Int.toNat p1 - 0) + 1) ([]) 0 p0.xrest.ls p0.xerrno from ⟨by exact rfl, by exact (SubS.refl (by omega)), by omega, by omega, by omega, rfl⟩)⟩ ?_
  rintro ⟨A31, c32, d34, l33, k35, A36, c37, l38, z39, f41⟩ w43 ⟨H44, hf45⟩
  show Wp _ _ _ [(7, .slice A31 l33.length c32), (8, .int .i64 ((k35 : Nat) : Int)), (6, .slice none 0 0), (0, .pointer (some ⟨g0, 0, none⟩)), (1, .int .i64 p1), (2, .func (.func 76) #[] #[])] _ _
  replace hf45 : List.map Row46D.abs d34 = l33 ∧ SubS 1 A0x0 c0x0 p0.xrest.ls A36 c37 l38 ∧ l33.length ≤ k35 ∧ (k35 = 0 ∨ ((k35 : Nat) : Int) ≤ p1) ∧ Int.toNat p1 - k35 < f41 ∧ reader_Times_api_Entry_L0 p1 ((Int.toNat p1 - 0) + 1) ([]) 0 p0.xrest.ls p0.xerrno = reader_Times_api_Entry_L0 p1 f41 l33 k35 l38 z39 := hf45
  obtain ⟨hi47, hi48, hi49, hi50, hi51, hq46⟩ := hf45
  have hl52 := abs_len hi47
  have hz53 := (hi48).le
  obtain ⟨f54, hf55⟩ : ∃ q, f41 = q + 1 := ⟨f41 - 1, by omega⟩
  subst hf55
  refine Wp.seq (Wp.seq (Wp.region (Mv rfl rfl (Mv rfl rfl (Kn (v := .bool (decide (((k35 : Nat) : Int) < p1))) rfl rfl rfl (fun _ => by kernel_rfl) (Mv rfl rfl ?_))))))
  by_cases h56 : ((k35 : Nat) : Int) < p1
  refine WL.valG (v := .pointer (some ⟨g0, 0, none⟩)) rfl rfl (decide_eq_true h56) rfl (Yl.move rfl) (WL.valG (v := .pointer (some ⟨g0, 0, none⟩)) rfl rfl (decide_eq_true h56) rfl (Yl.kern rfl rfl (fun _ => by kernel_rfl)) (WL.valG (v := .pointer (some ⟨g0, 1, none⟩)) rfl rfl (decide_eq_true h56) rfl (Yl.kern rfl rfl (fun _ => by kernel_rfl)) (WL.valG (v := .int .i64 z39) rfl rfl (decide_eq_true h56) rfl (Yl.load rfl (Lds.one Tryz.isAgg30 (Cls.of (H44.cls (i := 0) rfl) rfl))) (WL.valG (v := .bool (decide (z39 = 0))) rfl rfl (decide_eq_true h56) rfl (Yl.kern rfl rfl (fun _ => by kernel_rfl)) (WL.val (v := .bool (decide (z39 = 0))) rfl (Yl.pickT rfl (decide_eq_true h56) rfl) (WL.nil (Fin.then ?_)))))))
  by_cases h57 : z39 = 0
  refine Wp.cond1 rfl (decide_eq_true h57) (Wp.skip (Fin.then (Wp.seq (Wp.block (Wp.region (Mv rfl rfl (Mv rfl rfl (Mv rfl rfl ?_))))))))
  obtain ⟨⟨r63, r64⟩, hr65⟩ : ∃ q : (List EntryD) × ReaderT, node_readEntries (ReaderT.mk (Ll.mk l38) z39) = q := ⟨_, rfl⟩
  obtain ⟨D58, HP59, ro60, bk61, rr62⟩ := Own.enter1 H44
  refine WL.do rfl (Do.callV Tryz.call76 rfl rfl (node_readEntries_ok _ _ g0 (ReaderT.mk (Ll.mk l38) z39) A36 c37 r63 r64 HP59 (fun w9 h9 => SubS.rds eB_len (by decide) hi48 ((ro60 _ hx0x0) w9 h9)) (show l38.length ≤ c37 ∧ l38.length ≤ 9223372036854775807 from by omega) hr65) ?_)
  rintro _ w66 ⟨A69, c70, A71, c72, rfl, HQ67, hs73⟩
  have H68 := bk61 _ _ HQ67
  replace hs73 : SubS 1 A36 c37 l38 A71 c72 r64.xrest.ls := hs73
  have hz74 := (hs73).le
  have hb75 := H68.rowC (i := 0) rfl
  refine WL.do rfl (Do.newRow (cs := [.slice A69 r63.length c70]) (t := 46) (sz := 1) (m := 1) H68 rfl rfl (fun _ => by kernel_rfl) rfl (by decide) ?_)
  intro A76 w77 H78
  replace H78 : Own w D w77 [row A76 1 1 (List.flatMap (Sv.enc (β := EntryD)) ([(Sv.mk A69 c70 r63)])) 46 1, row A69 r63.length c70 (List.flatMap EntryD.cells r63) 61 7, blk g0 [.slice A71 r64.xrest.ls.length c72, .int .i64 r64.xerrno] 102, row A31 l33.length c32 (List.flatMap (Sv.enc (β := EntryD)) d34) 46 1, sepL (List.flatMap Row46D.own d34)] := H78
  have H79 := H78.pick [3, 4, 1, 0, 2] (by decide) rfl
  refine WL.do rfl (Do.appendW (k := l33.length) (m := 1) (El25) H79 rfl rfl (src_of Tryz.underlying25 (H79.rds (i := 3) rfl) (flat_one (fun _ => one_of rfl) ([(Sv.mk A69 c70 r63)]))) rfl (by omega) (s := List.length (l33 ++ [(Ll.mk r63)])) (by first | omega | (simp only [List.length_append, List.length_cons, List.length_nil] <;> omega)) (List.flatMap_append).symm ?_)
  intro A80 c81 w82 H83
  have H84 := H83.pick [1, 2, 0, 3, 4] (by decide) rfl
  have H85 : Own w D w82 [sepL (List.flatMap Row46D.own (d34 ++ [(Sv.mk A69 c70 r63)])), row A80 (List.length (l33 ++ [(Ll.mk r63)])) c81 (List.flatMap (Sv.enc (β := EntryD)) (d34 ++ [(Sv.mk A69 c70 r63)])) 46 1, row A76 1 1 (List.flatMap (Sv.enc (β := EntryD)) ([(Sv.mk A69 c70 r63)])) 46 1, blk g0 [.slice A71 r64.xrest.ls.length c72, .int .i64 r64.xerrno] 102] := H84.sepAdd (L2 := [row A69 r63.length c70 (List.flatMap EntryD.cells r63) 61 7]) (List.flatMap_append (f := Row46D.own) (xs := d34) (ys := [(Sv.mk A69 c70 r63)])).symm
  have hl86 : List.length (l33 ++ [(Ll.mk r63)]) = l33.length + 1 := by simp only [List.length_append, List.length_cons, List.length_nil]
  have hl87 := abs_len (abs_app (es := [(Sv.mk A69 c70 r63)]) (ms := [(Ll.mk r63)]) hi47 rfl)
  refine As rfl rfl (WL.nil (Fin.blockN (Fin.then (Wp.region (Mv rfl rfl (WL.val (v := .int .i64 ((k35 + 1 : Nat) : Int)) rfl (Yl.int (e := IntKind.i64.wrap (((k35 : Nat) : Int) + 1)) (Yl.kern rfl rfl (fun _ => by kernel_rfl)) (by rw [IntWalk.i64_in _ (by omega)]; omega)) (As rfl rfl (WL.nil ?_))))))))
  have H88 := H85.pick [3, 1, 0] (by decide) rfl
  exact Fin.round (A80, c81, (d34 ++ [(Sv.mk A69 c70 r63)]), (l33 ++ [(Ll.mk r63)]), k35 + 1, A71, c72, r64.xrest.ls, r64.xerrno, f54) ⟨rfl, rfl, rfl, rfl, rfl, rfl, trivial⟩ ⟨H88, (show List.map Row46D.abs (d34 ++ [(Sv.mk A69 c70 r63)]) = (l33 ++ [(Ll.mk r63)]) ∧ SubS 1 A0x0 c0x0 p0.xrest.ls A71 c72 r64.xrest.ls ∧ List.length (l33 ++ [(Ll.mk r63)]) ≤ (k35 + 1) ∧ ((k35 + 1) = 0 ∨ (((k35 + 1) : Nat) : Int) ≤ p1) ∧ Int.toNat p1 - (k35 + 1) < f54 ∧ reader_Times_api_Entry_L0 p1 ((Int.toNat p1 - 0) + 1) ([]) 0 p0.xrest.ls p0.xerrno = reader_Times_api_Entry_L0 p1 f54 (l33 ++ [(Ll.mk r63)]) (k35 + 1) r64.xrest.ls r64.xerrno from ⟨by exact (abs_app (es := [(Sv.mk A69 c70 r63)]) (ms := [(Ll.mk r63)]) hi47 rfl), by exact (SubS.trans hi48 hs73), by omega, by omega, by omega, Eq.trans (hq46) (Eq.trans (if_pos h56) (Eq.trans (if_pos h57) (bnd_of hr65)))⟩)⟩ (by show f54 < f54 + 1; omega)
  refine Wp.cond0 rfl (decide_eq_false h57) (Wp.exit (Fin.thenX (Fin.thenX (Fin.blockX ?_))))
  have H89 := H44.pick [0, 1, 2] (by decide) rfl
  exact Fin.join (A31, c32, d34, l33, A36, c37, l38, z39) ⟨rfl, rfl, trivial⟩ ⟨H89, (show List.map Row46D.abs d34 = l33 ∧ SubS 1 A0x0 c0x0 p0.xrest.ls A36 c37 l38 ∧ 0 ≤ l33.length ∧ l38.length ≤ p0.xrest.ls.length ∧ l38.length ≤ p0.xrest.ls.length + 1 ∧ l33.length ≤ 1000 ∧ (bnd (reader_Times_api_Entry_L0 p1 ((Int.toNat p1 - 0) + 1) ([]) 0 p0.xrest.ls p0.xerrno) fun sLrJjL => (sLrJjL.1, sLrJjL.2.1, sLrJjL.2.2)) = (l33, l38, z39) from ⟨by exact hi47, by exact hi48, by omega, by omega, by omega, by omega, bnd_of (Eq.trans (hq46) (Eq.trans (if_pos h56) (if_neg h57)))⟩)⟩
  refine Sk rfl rfl (decide_eq_false h56) rfl (Sk rfl rfl (decide_eq_false h56) rfl (Sk rfl rfl (decide_eq_false h56) rfl (Sk rfl rfl (decide_eq_false h56) rfl (Sk rfl rfl (decide_eq_false h56) rfl (WL.val (v := .bool false) rfl (Yl.pickF rfl (decide_eq_false h56) rfl) (WL.nil (Fin.then (Wp.cond0 rfl rfl (Wp.exit (Fin.thenX (Fin.thenX (Fin.blockX ?_))))))))))))
  have H90 := H44.pick [0, 1, 2] (by decide) rfl
  exact Fin.join (A31, c32, d34, l33, A36, c37, l38, z39) ⟨rfl, rfl, trivial⟩ ⟨H90, (show List.map Row46D.abs d34 = l33 ∧ SubS 1 A0x0 c0x0 p0.xrest.ls A36 c37 l38 ∧ 0 ≤ l33.length ∧ l38.length ≤ p0.xrest.ls.length ∧ l38.length ≤ p0.xrest.ls.length + 1 ∧ l33.length ≤ 1000 ∧ (bnd (reader_Times_api_Entry_L0 p1 ((Int.toNat p1 - 0) + 1) ([]) 0 p0.xrest.ls p0.xerrno) fun sLrJjL => (sLrJjL.1, sLrJjL.2.1, sLrJjL.2.2)) = (l33, l38, z39) from ⟨by exact hi47, by exact hi48, by omega, by omega, by omega, by omega, bnd_of (Eq.trans (hq46) (if_neg h56))⟩)⟩
  rintro ⟨A21, c22, d24, l23, A25, c26, l27, z28⟩ w91 ⟨H92, hf93⟩
  show Wp _ _ _ [(7, .slice A21 l23.length c22), (6, .slice none 0 0)] _ _
  replace hf93 : List.map Row46D.abs d24 = l23 ∧ SubS 1 A0x0 c0x0 p0.xrest.ls A25 c26 l27 ∧ 0 ≤ l23.length ∧ l27.length ≤ p0.xrest.ls.length ∧ l27.length ≤ p0.xrest.ls.length + 1 ∧ l23.length ≤ 1000 ∧ (bnd (reader_Times_api_Entry_L0 p1 ((Int.toNat p1 - 0) + 1) ([]) 0 p0.xrest.ls p0.xerrno) fun sLrJjL => (sLrJjL.1, sLrJjL.2.1, sLrJjL.2.2)) = (l23, l27, z28) := hf93
  obtain ⟨hi95, hi96, hi97, hi98, hi99, hi100, hj94⟩ := hf93
  have hl101 := abs_len hi95
  have hz102 := (hi96).le
  refine Wp.seq (Wp.region (Mv rfl rfl (As rfl rfl (WL.nil (Fin.then (Wp.ret (Fin.res (res1 rfl rfl) ?_)))))))
  have H103 := H92.pick [1, 2, 0] (by decide) rfl
  have e : reader_Times_api_Entry p0 p1 = (l23, ReaderT.mk (Ll.mk l27) z28) := bnd_of hj94
  obtain ⟨rfl, rfl⟩ := pj2 (e.symm.trans hr)
  exact ⟨A21, c22, d24, A25, c26, rfl, H103, hi95, hi96, (by omega)⟩

def node_readStem (p0 : ReaderT) : stemT × ReaderT :=
  bnd (reader_List_int p0 480) fun yr33 => bnd (reader_Times_string yr33.2 (((yr33.1.length : Nat) : Int) - 1)) fun yr56 => bnd (reader_Times_api_Entry yr56.2 ((yr33.1.length : Nat) : Int)) fun yr79 => (stemT.mk (Ll.mk yr33.1) (Ll.mk yr56.1) (Ll.mk yr79.1), yr79.2)

set_option maxRecDepth 100000 in
theorem node_readStem_ok (w : World) (D : Nat → Prop) (g0 : Nat) (p0 : ReaderT) (A0x0 : Option Addr) (c0x0 : Nat) (r0 : stemT) (r1 : ReaderT) (H : Own w D w [blk g0 [.slice A0x0 p0.xrest.ls.length c0x0, .int .i64 p0.xerrno] 102]) (hx0x0 : Ro w D fun w' => Rds w' 1 A0x0 p0.xrest.ls.length (List.flatMap eB p0.xrest.ls)) (hb0x0 : p0.xrest.ls.length ≤ c0x0 ∧ p0.xrest.ls.length ≤ 9223372036854775807) (hr : node_readStem p0 = (r0, r1)) :
    Calls Tryz.prog 51 #[.pointer (some ⟨g0, 0, none⟩)] w (Ret fun v w' => ∃ (B0x0 : Option Addr) (b0x0 : Nat) (B0x1 : Option Addr) (b0x1 : Nat) (B0x2 : Option Addr) (b0x2 : Nat) (e0x2 : List Row46D) (B1ox0 : Option Addr) (b1ox0 : Nat), v = .agg #[.slice B0x0 r0.xkids.ls.length b0x0, .slice B0x1 r0.xpivots.ls.length b0x1, .slice B0x2 r0.xbuffers.ls.length b0x2] ∧ Own w D w' [row B0x0 r0.xkids.ls.length b0x0 (List.flatMap (eI .i64) r0.xkids.ls) 3 1, row B0x1 r0.xpivots.ls.length b0x1 (List.flatMap eS r0.xpivots.ls) 9 1, row B0x2 r0.xbuffers.ls.length b0x2 (List.flatMap (Sv.enc (β := EntryD)) e0x2) 46 1, sepL (List.flatMap Row46D.own e0x2), blk g0 [.slice B1ox0 r1.xrest.ls.length b1ox0, .int .i64 r1.xerrno] 102] ∧ (List.map Row46D.abs e0x2 = r0.xbuffers.ls) ∧ (SubS 1 A0x0 c0x0 p0.xrest.ls B1ox0 b1ox0 r1.xrest.ls)) := by
  refine Calls.body (args := [.pointer (some ⟨g0, 0, none⟩)]) Tryz.func51 rfl rfl rfl ?_
  show Wp _ _ _ [(0, .pointer (some ⟨g0, 0, none⟩))] _ _
  refine Wp.seq (Wp.region ?_)
  refine WL.do rfl (Do.newP (cs := [.slice none 0 0, .slice none 0 0, .slice none 0 0]) (t := 76) H rfl rfl (fun _ => by kernel_rfl) ?_)
  intro g21 w22 H23
  refine WL.nil (Fin.then (Wp.seq (Wp.region ?_)))
  refine WL.do rfl (Do.newP (cs := [.slice none 0 0, .slice none 0 0, .slice none 0 0]) (t := 76) H23 rfl rfl (fun _ => by kernel_rfl) ?_)
  intro g24 w25 H26
  refine WL.nil (Fin.then (Wp.seq (Wp.region (Mv rfl rfl ?_))))
  have H27 := H26.pick [2, 0, 1] (by decide) rfl
  obtain ⟨⟨r33, r34⟩, hr35⟩ : ∃ q : (List Int) × ReaderT, reader_List_int p0 480 = q := ⟨_, rfl⟩
  obtain ⟨D28, HP29, ro30, bk31, rr32⟩ := Own.enter1 H27
  refine WL.do rfl (Do.call Tryz.call72 rfl (reader_List_int_ok _ _ g0 p0 A0x0 c0x0 480 r33 r34 HP29 (ro30 _ hx0x0) (show p0.xrest.ls.length ≤ c0x0 ∧ p0.xrest.ls.length ≤ 9223372036854775807 from by omega) (by omega) hr35) ?_)
  rintro _ w36 ⟨A39, c40, A41, c42, rfl, HQ37, hs43, hk44⟩
  have H38 := bk31 _ _ HQ37
  replace hs43 : SubS 1 A0x0 c0x0 p0.xrest.ls A41 c42 r34.xrest.ls := hs43
  have hz45 := (hs43).le
  have hb46 := H38.rowC (i := 0) rfl
  replace hk44 : r33.length ≤ 1000 := hk44
  refine Kn (v := .pointer (some ⟨g24, 0, none⟩)) rfl rfl rfl (fun _ => by kernel_rfl) ?_
  have H47 := H38.pick [2, 0, 1, 3] (by decide) rfl
  refine WL.do0 (Do.store (vs := [.slice A39 r33.length c40]) (o := 0) H47 rfl rfl Tryz.sizeOf23 rfl rfl rfl rfl ?_)
  intro w48 H49
  refine WL.nil (Fin.then (Wp.seq (Wp.region (Kn (v := .pointer (some ⟨g24, 0, none⟩)) rfl rfl rfl (fun _ => by kernel_rfl) (WL.val (v := .slice A39 r33.length c40) rfl (Yl.load rfl (Lds.one Tryz.isAgg23 (Cls.of (H49.cls (i := 0) rfl) rfl))) (Kn (v := .int .i64 ((r33.length : Nat) : Int)) rfl rfl rfl (fun _ => by kernel_rfl) (As rfl rfl (WL.nil (Fin.then (Wp.seq (Wp.region (Mv rfl rfl (Mv rfl rfl (WL.val (v := .int .i64 (((r33.length : Nat) : Int) - 1)) rfl (Yl.int (e := IntKind.i64.wrap (((r33.length : Nat) : Int) - 1)) (Yl.kern rfl rfl (fun _ => by kernel_rfl)) (by rw [IntWalk.i64_in _ (by omega)])) ?_))))))))))))))
  have H50 := H49.pick [2, 0, 1, 3] (by decide) rfl
  obtain ⟨⟨r56, r57⟩, hr58⟩ : ∃ q : (List (List UInt8)) × ReaderT, reader_Times_string r34 (((r33.length : Nat) : Int) - 1) = q := ⟨_, rfl⟩
  obtain ⟨D51, HP52, ro53, bk54, rr55⟩ := Own.enter1 H50
  refine WL.do rfl (Do.call Tryz.call74 rfl (reader_Times_string_ok _ _ g0 r34 A41 c42 (((r33.length : Nat) : Int) - 1) r56 r57 HP52 (fun w9 h9 => SubS.rds eB_len (by decide) hs43 ((ro53 _ hx0x0) w9 h9)) (show r34.xrest.ls.length ≤ c42 ∧ r34.xrest.ls.length ≤ 9223372036854775807 from by omega) (by omega) hr58) ?_)
  rintro _ w59 ⟨A62, c63, A64, c65, rfl, HQ60, hs66, hk67⟩
  have H61 := bk54 _ _ HQ60
  replace hs66 : SubS 1 A41 c42 r34.xrest.ls A64 c65 r57.xrest.ls := hs66
  have hz68 := (hs66).le
  have hb69 := H61.rowC (i := 0) rfl
  replace hk67 : r56.length ≤ 1000 := hk67
  refine Kn (v := .pointer (some ⟨g24, 1, none⟩)) rfl rfl rfl (fun _ => by kernel_rfl) ?_
  have H70 := H61.pick [2, 0, 1, 3, 4] (by decide) rfl
  refine WL.do0 (Do.store (vs := [.slice A62 r56.length c63]) (o := 1) H70 rfl rfl Tryz.sizeOf24 rfl rfl rfl rfl ?_)
  intro w71 H72
  refine WL.nil (Fin.then (Wp.seq (Wp.region (Mv rfl rfl (Mv rfl rfl ?_)))))
  have H73 := H72.pick [2, 0, 1, 3, 4] (by decide) rfl
  obtain ⟨⟨r79, r80⟩, hr81⟩ : ∃ q : (List (Ll EntryD)) × ReaderT, reader_Times_api_Entry r57 ((r33.length : Nat) : Int) = q := ⟨_, rfl⟩
  obtain ⟨D74, HP75, ro76, bk77, rr78⟩ := Own.enter1 H73
  refine WL.do rfl (Do.call Tryz.call75 rfl (reader_Times_api_Entry_ok _ _ g0 r57 A64 c65 ((r33.length : Nat) : Int) r79 r80 HP75 (fun w9 h9 => SubS.rds eB_len (by decide) hs66 ((fun w9 h9 => SubS.rds eB_len (by decide) hs43 ((ro76 _ hx0x0) w9 h9)) w9 h9)) (show r57.xrest.ls.length ≤ c65 ∧ r57.xrest.ls.length ≤ 9223372036854775807 from by omega) (by omega) hr81) ?_)
  rintro _ w82 ⟨A85, c86, d87, A89, c90, rfl, HQ83, hd88, hs91, hk92⟩
  have H84 := bk77 _ _ HQ83
  replace hs91 : SubS 1 A64 c65 r57.xrest.ls A89 c90 r80.xrest.ls := hs91
  have hz93 := (hs91).le
  have hl94 := abs_len hd88
  have hb95 := H84.rowC (i := 0) rfl
  replace hk92 : r79.length ≤ 1000 := hk92
  refine Kn (v := .pointer (some ⟨g24, 2, none⟩)) rfl rfl rfl (fun _ => by kernel_rfl) ?_
  have H96 := H84.pick [3, 0, 1, 2, 4, 5, 6] (by decide) rfl
  refine WL.do0 (Do.store (vs := [.slice A85 r79.length c86]) (o := 2) H96 rfl rfl Tryz.sizeOf25 rfl rfl rfl rfl ?_)
  intro w97 H98
  refine WL.nil (Fin.then (Wp.seq (Wp.region (WL.val (v := .agg #[.slice A39 r33.length c40, .slice A62 r56.length c63, .slice A85 r79.length c86]) rfl (Yl.load rfl (Lds.agg (cs := [.slice A39 r33.length c40, .slice A62 r56.length c63, .slice A85 r79.length c86]) Tryz.isAgg76 Tryz.sizeOf76 ((H98.cls (i := 0) rfl).lit (k := 0) (m := 3) rfl))) ?_))))
  have H99 := H98.pick [6, 0, 1, 2, 3, 4, 5] (by decide) rfl
  refine WL.do0 (Do.store (vs := [.slice A39 r33.length c40, .slice A62 r56.length c63, .slice A85 r79.length c86]) (o := 0) H99 rfl rfl Tryz.sizeOf76 rfl rfl rfl rfl ?_)
  intro w100 H101
  refine WL.nil (Fin.then (Wp.ret (Fin.res (resC rfl rfl (Lds.agg (cs := [.slice A39 r33.length c40, .slice A62 r56.length c63, .slice A85 r79.length c86]) Tryz.isAgg76 Tryz.sizeOf76 ((H101.cls (i := 0) rfl).lit (k := 0) (m := 3) rfl))) ?_)))
  have H102 := H101.pick [6, 5, 2, 3, 4] (by decide) rfl
  have e : node_readStem p0 = (stemT.mk (Ll.mk r33) (Ll.mk r56) (Ll.mk r79), r80) := Eq.trans (bnd_of hr35) (Eq.trans (bnd_of hr58) (bnd_of hr81))
  obtain ⟨rfl, rfl⟩ := pj2 (e.symm.trans hr)
  exact ⟨A39, c40, A62, c63, A85, c86, d87, A89, c90, rfl, H102, hd88, (SubS.trans (SubS.trans hs43 hs66) hs91)⟩

def node_Decode (l0 : List UInt8) : NodeT × Int :=
  if ((l0.length : Nat) : Int) > 480 then (NodeT.mk false (Ll.mk ([])) (Ll.mk ([])) (Ll.mk ([])) (Ll.mk ([])), 2) else bnd (reader_New l0) fun yr38 => bnd (reader_Reader_Octet yr38) fun yr53 => if ((yr53.1.toNat : Nat) : Int) = 1 then bnd (reader_List_api_Pair yr53.2 480) fun yr69 => bnd (reader_Reader_End yr69.2) fun yr89 => bnd (reader_Reader_Err yr89) fun yr103 => if yr103 = 0 then bnd (op_CheckMap yr69.1) fun yr120 => if yr120 = 0 then (NodeT.mk true (Ll.mk yr69.1) (Ll.mk ([])) (Ll.mk ([])) (Ll.mk ([])), 0) else (NodeT.mk false (Ll.mk ([])) (Ll.mk ([])) (Ll.mk ([])) (Ll.mk ([])), yr120) else (NodeT.mk false (Ll.mk ([])) (Ll.mk ([])) (Ll.mk ([])) (Ll.mk ([])), yr103) else if ((yr53.1.toNat : Nat) : Int) = 2 then bnd (node_readStem yr53.2) fun yr170 => bnd (reader_Reader_End yr170.2) fun yr198 => bnd (reader_Reader_Err yr198) fun yr212 => if yr212 = 0 then bnd (node_stem_check yr170.1) fun yr229 => if yr229 = 0 then (NodeT.mk false (Ll.mk ([])) (Ll.mk yr170.1.xkids.ls) (Ll.mk yr170.1.xpivots.ls) (Ll.mk yr170.1.xbuffers.ls), 0) else (NodeT.mk false (Ll.mk ([])) (Ll.mk ([])) (Ll.mk ([])) (Ll.mk ([])), yr229) else (NodeT.mk false (Ll.mk ([])) (Ll.mk ([])) (Ll.mk ([])) (Ll.mk ([])), yr212) else bnd (reader_Reader_Fail yr53.2 11) fun yr276 => bnd (reader_Reader_End yr276) fun yr290 => bnd (reader_Reader_Err yr290) fun yr304 => if yr304 = 0 then (NodeT.mk false (Ll.mk ([])) (Ll.mk ([])) (Ll.mk ([])) (Ll.mk ([])), 130) else (NodeT.mk false (Ll.mk ([])) (Ll.mk ([])) (Ll.mk ([])) (Ll.mk ([])), yr304)

set_option maxRecDepth 100000 in
theorem node_Decode_ok (w : World) (D : Nat → Prop) (A0 : Option Addr) (n0 c0 : Nat) (l0 : List UInt8) (r0 : NodeT) (r1 : Int) (H : Own w D w []) (hx0 : Ro w D fun w' => Rds w' 1 A0 n0 (List.flatMap eB l0)) (hn0 : n0 = l0.length) (hl0 : l0.length * 1 ≤ 211106232532992) (hq0 : l0.length ≤ c0) (hr : node_Decode l0 = (r0, r1)) :
    Calls Tryz.prog 14 #[.slice A0 n0 c0] w (Ret fun v w' => ∃ (B0x0 : Option Addr) (b0x0 : Nat) (B0x1 : Option Addr) (b0x1 : Nat) (B0x2 : Option Addr) (b0x2 : Nat) (B0x3 : Option Addr) (b0x3 : Nat) (e0x3 : List Row46D), v = .tuple #[.agg #[.bool r0.xLeaf, .slice B0x0 r0.xPairs.ls.length b0x0, .slice B0x1 r0.xKids.ls.length b0x1, .slice B0x2 r0.xPivots.ls.length b0x2, .slice B0x3 r0.xBuffers.ls.length b0x3], .int .i64 r1] ∧ Own w D w' [row B0x0 r0.xPairs.ls.length b0x0 (List.flatMap PairD.cells r0.xPairs.ls) 44 2, row B0x1 r0.xKids.ls.length b0x1 (List.flatMap (eI .i64) r0.xKids.ls) 3 1, row B0x2 r0.xPivots.ls.length b0x2 (List.flatMap eS r0.xPivots.ls) 9 1, row B0x3 r0.xBuffers.ls.length b0x3 (List.flatMap (Sv.enc (β := EntryD)) e0x3) 46 1, sepL (List.flatMap Row46D.own e0x3)] ∧ (List.map Row46D.abs e0x3 = r0.xBuffers.ls)) := by
  subst hn0
  refine Calls.body (args := [.slice A0 l0.length c0]) Tryz.func14 rfl rfl rfl ?_
  show Wp _ _ _ [(0, .slice A0 l0.length c0)] _ _
  refine Wp.seq (Wp.region ?_)
  refine WL.do rfl (Do.newP (cs := [.bool false, .slice none 0 0, .slice none 0 0, .slice none 0 0, .slice none 0 0]) (t := 27) H rfl rfl (fun _ => by kernel_rfl) ?_)
  intro g21 w22 H23
  refine As rfl rfl (WL.nil (Fin.then (Wp.seq (Wp.seq (Wp.region (Mv rfl rfl (Kn (v := .int .i64 ((l0.length : Nat) : Int)) rfl rfl rfl (fun _ => by kernel_rfl) (Kn (v := .bool (decide (((l0.length : Nat) : Int) > 480))) rfl rfl rfl (fun _ => by kernel_rfl) (WL.nil (Fin.then ?_))))))))))
  by_cases h24 : ((l0.length : Nat) : Int) > 480
  refine Wp.cond1 rfl (decide_eq_true h24) (Wp.seq (Wp.region (Kn (v := .agg #[.bool false, .slice none 0 0, .slice none 0 0, .slice none 0 0, .slice none 0 0]) rfl rfl rfl (fun _ => by kernel_rfl) ?_)))
  refine WL.do0 (Do.store (vs := [.bool false, .slice none 0 0, .slice none 0 0, .slice none 0 0, .slice none 0 0]) (o := 0) H23 rfl rfl Tryz.sizeOf27 rfl rfl rfl rfl ?_)
  intro w25 H26
  refine As rfl rfl (WL.nil (Fin.then (Wp.ret (Fin.thenR (Fin.res (resN (vs := [.agg #[.bool false, .slice none 0 0, .slice none 0 0, .slice none 0 0, .slice none 0 0], .int .i64 2]) rfl (ResV.cell rfl (Lds.agg (cs := [.bool false, .slice none 0 0, .slice none 0 0, .slice none 0 0, .slice none 0 0]) Tryz.isAgg27 Tryz.sizeOf27 ((H26.cls (i := 0) rfl).lit (k := 0) (m := 5) rfl)) (ResV.tmp rfl ResV.nil)) (Nat.le_of_ble_eq_true rfl)) ?_)))))
  have H27 : Own w D w25 [row none 0 0 (List.flatMap PairD.cells ([])) 44 2, blk g21 [.bool false, .slice none 0 0, .slice none 0 0, .slice none 0 0, .slice none 0 0] 27] := H26.free (row_nil 44 2)
  have H28 : Own w D w25 [row none 0 0 (List.flatMap (eI .i64) ([])) 3 1, row none 0 0 (List.flatMap PairD.cells ([])) 44 2, blk g21 [.bool false, .slice none 0 0, .slice none 0 0, .slice none 0 0, .slice none 0 0] 27] := H27.free (row_nil 3 1)
  have H29 : Own w D w25 [row none 0 0 (List.flatMap eS ([])) 9 1, row none 0 0 (List.flatMap (eI .i64) ([])) 3 1, row none 0 0 (List.flatMap PairD.cells ([])) 44 2, blk g21 [.bool false, .slice none 0 0, .slice none 0 0, .slice none 0 0, .slice none 0 0] 27] := H28.free (row_nil 9 1)
  have H30 : Own w D w25 [sepL (List.flatMap Row46D.own ([])), row none 0 0 (List.flatMap eS ([])) 9 1, row none 0 0 (List.flatMap (eI .i64) ([])) 3 1, row none 0 0 (List.flatMap PairD.cells ([])) 44 2, blk g21 [.bool false, .slice none 0 0, .slice none 0 0, .slice none 0 0, .slice none 0 0] 27] := H29.sepNil
  have H31 : Own w D w25 [row none 0 0 (List.flatMap (Sv.enc (β := EntryD)) ([])) 46 1, sepL (List.flatMap Row46D.own ([])), row none 0 0 (List.flatMap eS ([])) 9 1, row none 0 0 (List.flatMap (eI .i64) ([])) 3 1, row none 0 0 (List.flatMap PairD.cells ([])) 44 2, blk g21 [.bool false, .slice none 0 0, .slice none 0 0, .slice none 0 0, .slice none 0 0] 27] := H30.free (row_nil 46 1)
  have H32 := H31.pick [4, 3, 2, 0, 1] (by decide) rfl
  have e : node_Decode l0 = (NodeT.mk false (Ll.mk ([])) (Ll.mk ([])) (Ll.mk ([])) (Ll.mk ([])), 2) := if_pos h24
  obtain ⟨rfl, rfl⟩ := pj2 (e.symm.trans hr)
  exact ⟨none, 0, none, 0, none, 0, none, 0, [], rfl, H32, rfl⟩
  refine Wp.cond0 rfl (decide_eq_false h24) (Wp.skip (Fin.then (Wp.seq (Wp.region (Mv rfl rfl ?_)))))
  refine WL.do rfl (Do.call Tryz.call29 rfl ?_ (fun _ _ k => k))
  refine Calls.body (args := [.slice A0 l0.length c0]) Tryz.func29 rfl rfl rfl ?_
  show Wp _ _ _ [(0, .slice A0 l0.length c0)] _ _
  refine Wp.seq (Wp.region (As rfl rfl (As rfl rfl (WL.nil (Fin.then (Wp.seq (Wp.region (Mv rfl rfl ?_))))))))
  obtain ⟨r38, hr39⟩ : ∃ q, reader_New l0 = q := ⟨_, rfl⟩
  obtain ⟨D33, HP34, ro35, bk36, rr37⟩ := Own.enter0 H23
  refine WL.do rfl (Do.call Tryz.call47 rfl (reader_New_ok _ _ A0 l0.length c0 l0 r38 HP34 (ro35 _ hx0) rfl (by omega) (by first | omega | (simp only [List.length_take, List.length_drop]; omega)) hr39) ?_)
  rintro _ w40 ⟨g43, A44, c45, rfl, HQ41, hs46⟩
  have H42 := bk36 _ _ HQ41
  replace hs46 : SubS 1 A0 c0 l0 A44 c45 r38.xrest.ls := hs46
  have hz47 := (hs46).le
  refine As rfl rfl (WL.nil (Fin.then (Wp.seq (Wp.region (As rfl rfl (WL.nil (Fin.then (Wp.seq (Wp.seq (Wp.region (Mv rfl rfl ?_)))))))))))
  obtain ⟨⟨r53, r54⟩, hr55⟩ : ∃ q : UInt8 × ReaderT, reader_Reader_Octet r38 = q := ⟨_, rfl⟩
  obtain ⟨D48, HP49, ro50, bk51, rr52⟩ := Own.enter1 H42
  refine WL.do rfl (Do.call Tryz.call48 rfl (reader_Reader_Octet_ok _ _ g43 r38 A44 c45 r53 r54 HP49 (fun w9 h9 => SubS.rds eB_len (by decide) hs46 ((ro50 _ hx0) w9 h9)) (show r38.xrest.ls.length ≤ c45 ∧ r38.xrest.ls.length ≤ 9223372036854775807 from by omega) hr55) ?_)
  rintro _ w56 ⟨A59, c60, rfl, HQ57, hs61⟩
  have H58 := bk51 _ _ HQ57
  replace hs61 : SubS 1 A44 c45 r38.xrest.ls A59 c60 r54.xrest.ls := hs61
  have hz62 := (hs61).le
  refine WL.nil (Fin.then (Wp.block (Wp.seq (Wp.region (Kn (v := .bool (decide (((r53.toNat : Nat) : Int) = 1))) rfl rfl rfl (fun _ => by kernel_rfl) (As rfl rfl (WL.nil (Fin.then ?_))))))))
  by_cases h63 : ((r53.toNat : Nat) : Int) = 1
  refine Wp.cond1 rfl (decide_eq_true h63) (Wp.region (Mv rfl rfl ?_))
  obtain ⟨⟨r69, r70⟩, hr71⟩ : ∃ q : (List PairD) × ReaderT, reader_List_api_Pair r54 480 = q := ⟨_, rfl⟩
  obtain ⟨D64, HP65, ro66, bk67, rr68⟩ := Own.enter1 H58
  refine WL.do rfl (Do.call Tryz.call49 rfl (reader_List_api_Pair_ok _ _ g43 r54 A59 c60 480 r69 r70 HP65 (fun w9 h9 => SubS.rds eB_len (by decide) hs61 ((fun w9 h9 => SubS.rds eB_len (by decide) hs46 ((ro66 _ hx0) w9 h9)) w9 h9)) (show r54.xrest.ls.length ≤ c60 ∧ r54.xrest.ls.length ≤ 9223372036854775807 from by omega) (by omega) hr71) ?_)
  rintro _ w72 ⟨A75, c76, A77, c78, rfl, HQ73, hs79, hk80⟩
  have H74 := bk67 _ _ HQ73
  replace hs79 : SubS 1 A59 c60 r54.xrest.ls A77 c78 r70.xrest.ls := hs79
  have hz81 := (hs79).le
  have hb82 := H74.rowC (i := 0) rfl
  replace hk80 : r69.length ≤ 1000 := hk80
  refine Kn (v := .agg #[.slice A75 r69.length c76]) rfl rfl rfl (fun _ => by kernel_rfl) (Kn (v := .iface 74 (.agg #[.slice A75 r69.length c76])) rfl rfl rfl (fun _ => by kernel_rfl) (As rfl rfl (WL.nil (Fin.blockN (Fin.then (Wp.seq (Wp.region (Mv rfl rfl ?_))))))))
  have H83 := H74.pick [1, 0, 2] (by decide) rfl
  obtain ⟨r89, hr90⟩ : ∃ q, reader_Reader_End r70 = q := ⟨_, rfl⟩
  obtain ⟨D84, HP85, ro86, bk87, rr88⟩ := Own.enter1 H83
  refine WL.do rfl (Do.call Tryz.call53 rfl (reader_Reader_End_ok _ _ g43 r70 A77 c78 r89 HP85 (fun w9 h9 => SubS.rds eB_len (by decide) hs79 ((fun w9 h9 => SubS.rds eB_len (by decide) hs61 ((fun w9 h9 => SubS.rds eB_len (by decide) hs46 ((ro86 _ hx0) w9 h9)) w9 h9)) w9 h9)) (show r70.xrest.ls.length ≤ c78 ∧ r70.xrest.ls.length ≤ 9223372036854775807 from by omega) hr90) ?_)
  rintro _ w91 ⟨A94, c95, rfl, HQ92, hs96⟩
  have H93 := bk87 _ _ HQ92
  replace hs96 : SubS 1 A77 c78 r70.xrest.ls A94 c95 r89.xrest.ls := hs96
  have hz97 := (hs96).le
  refine WL.nil (Fin.then (Wp.seq (Wp.region (Mv rfl rfl (Mv rfl rfl ?_)))))
  obtain ⟨r103, hr104⟩ : ∃ q, reader_Reader_Err r89 = q := ⟨_, rfl⟩
  obtain ⟨D98, HP99, ro100, bk101, rr102⟩ := Own.enter1 H93
  refine WL.do rfl (Do.call Tryz.call54 rfl (reader_Reader_Err_ok _ _ g43 r89 A94 c95 r103 HP99 (fun w9 h9 => SubS.rds eB_len (by decide) hs96 ((fun w9 h9 => SubS.rds eB_len (by decide) hs79 ((fun w9 h9 => SubS.rds eB_len (by decide) hs61 ((fun w9 h9 => SubS.rds eB_len (by decide) hs46 ((ro100 _ hx0) w9 h9)) w9 h9)) w9 h9)) w9 h9)) (show r89.xrest.ls.length ≤ c95 ∧ r89.xrest.ls.length ≤ 9223372036854775807 from by omega) hr104) ?_)
  rintro _ w105 ⟨rfl, HQ106⟩
  have H107 := bk101 _ _ HQ106
  refine As rfl rfl (As rfl rfl (WL.nil (Fin.then (Wp.ret (Fin.res (res2 rfl rfl rfl) (Mv rfl rfl (Kn (v := .iface 74 (.agg #[.slice A75 r69.length c76])) rfl rfl rfl (fun _ => by kernel_rfl) (Kn (v := .int .i64 r103) rfl rfl rfl (fun _ => by kernel_rfl) (As rfl rfl (As rfl rfl (WL.nil (Fin.then (Wp.seq (Wp.seq ?_))))))))))))))
  have H108 := H107.pick [1, 2] (by decide) rfl
  refine Wp.region (Mv rfl rfl (WL.val (v := .bool (decide (¬ (r103 = 0)))) rfl (Yl.bool (e := !(decide (r103 = 0))) (Yl.kern rfl rfl (fun _ => by kernel_rfl)) decide_not.symm) (WL.nil (Fin.then ?_))))
  by_cases h109 : r103 = 0
  refine Wp.cond0 rfl (decide_eq_false (not_not_intro h109)) (Wp.skip (Fin.then (Wp.seq (Wp.seq (Wp.region (Mv rfl rfl ?_))))))
  refine WL.do rfl (Do.call Tryz.call20 rfl ?_ (fun _ _ k => k))
  refine Calls.body (args := [.iface 74 (.agg #[.slice A75 r69.length c76])]) Tryz.func20 rfl rfl rfl ?_
  show Wp _ _ _ [(0, .iface 74 (.agg #[.slice A75 r69.length c76]))] _ _
  refine Wp.seq (Wp.region (As rfl rfl (WL.nil (Fin.then (Wp.seq (Wp.seq (Wp.region (Mv rfl rfl (WL.nil (Fin.then (Wp.block (Wp.seq (Wp.region (Kn (v := .tuple #[.agg #[.slice A75 r69.length c76], .bool true]) rfl rfl rfl (fun _ => by kernel_rfl) (Kn (v := .bool true) rfl rfl rfl (fun _ => by kernel_rfl) (Kn (v := .agg #[.slice A75 r69.length c76]) rfl rfl rfl (fun _ => by kernel_rfl) (WL.nil (Fin.then (Wp.cond1 rfl rfl (Wp.seq (Wp.region ?_)))))))))))))))))))))
  refine WL.do rfl (Do.newP (cs := [.slice none 0 0]) (t := 74) H108 rfl rfl (fun _ => by kernel_rfl) ?_)
  intro g110 w111 H112
  refine WL.do0 (Do.store (vs := [.slice A75 r69.length c76]) (o := 0) H112 rfl rfl Tryz.sizeOf74 rfl rfl rfl rfl ?_)
  intro w113 H114
  refine WL.nil (Fin.then (Wp.seq (Wp.region (Kn (v := .pointer (some ⟨g110, 0, none⟩)) rfl rfl rfl (fun _ => by kernel_rfl) (WL.val (v := .slice A75 r69.length c76) rfl (Yl.load rfl (Lds.one Tryz.isAgg22 (Cls.of (H114.cls (i := 0) rfl) rfl))) ?_)))))
  obtain ⟨r120, hr121⟩ : ∃ q, op_CheckMap r69 = q := ⟨_, rfl⟩
  obtain ⟨D115, HP116, ro117, bk118, rr119⟩ := Own.enter0 H114
  refine WL.do rfl (Do.call Tryz.call35 rfl (op_CheckMap_ok _ _ A75 r69.length c76 r69 r120 HP116 (rr119 _ 1 _ rfl row_rds) rfl (by omega) hr121) ?_)
  rintro _ w122 ⟨rfl, HQ123⟩
  have H124 := bk118 _ _ HQ123
  refine As rfl rfl (WL.nil (Fin.then (Wp.ret (Fin.blockR (Fin.thenR (Fin.res (res1 rfl rfl) (As rfl rfl (WL.nil (Fin.then (Wp.seq ?_))))))))))
  have H125 := H124.pick [1, 2] (by decide) rfl
  refine Wp.region (Mv rfl rfl (WL.val (v := .bool (decide (¬ (r120 = 0)))) rfl (Yl.bool (e := !(decide (r120 = 0))) (Yl.kern rfl rfl (fun _ => by kernel_rfl)) decide_not.symm) (WL.nil (Fin.then ?_))))
  by_cases h126 : r120 = 0
  refine Wp.cond0 rfl (decide_eq_false (not_not_intro h126)) (Wp.skip (Fin.then (Wp.seq (Wp.region (Mv rfl rfl ?_)))))
  refine WL.do rfl (Do.call Tryz.call30 rfl ?_ (fun _ _ k => k))
  refine Calls.body (args := [.iface 74 (.agg #[.slice A75 r69.length c76])]) Tryz.func30 rfl rfl rfl ?_
  show Wp _ _ _ [(0, .iface 74 (.agg #[.slice A75 r69.length c76]))] _ _
  refine Wp.seq (Wp.region ?_)
  refine WL.do rfl (Do.newP (cs := [.bool false, .slice none 0 0, .slice none 0 0, .slice none 0 0, .slice none 0 0]) (t := 27) H125 rfl rfl (fun _ => by kernel_rfl) ?_)
  intro g127 w128 H129
  refine WL.nil (Fin.then (Wp.seq (Wp.seq (Wp.region (Mv rfl rfl (WL.nil (Fin.then (Wp.block (Wp.seq (Wp.region (Kn (v := .tuple #[.agg #[.slice A75 r69.length c76], .bool true]) rfl rfl rfl (fun _ => by kernel_rfl) (Kn (v := .bool true) rfl rfl rfl (fun _ => by kernel_rfl) (Kn (v := .agg #[.slice A75 r69.length c76]) rfl rfl rfl (fun _ => by kernel_rfl) (WL.nil (Fin.then (Wp.cond1 rfl rfl (Wp.seq (Wp.region ?_))))))))))))))))))
  refine WL.do rfl (Do.newP (cs := [.slice none 0 0]) (t := 74) H129 rfl rfl (fun _ => by kernel_rfl) ?_)
  intro g130 w131 H132
  refine WL.do0 (Do.store (vs := [.slice A75 r69.length c76]) (o := 0) H132 rfl rfl Tryz.sizeOf74 rfl rfl rfl rfl ?_)
  intro w133 H134
  refine WL.nil (Fin.then (Wp.seq (Wp.region (Kn (v := .pointer (some ⟨g130, 0, none⟩)) rfl rfl rfl (fun _ => by kernel_rfl) (WL.val (v := .slice A75 r69.length c76) rfl (Yl.load rfl (Lds.one Tryz.isAgg22 (Cls.of (H134.cls (i := 0) rfl) rfl))) (Kn (v := .agg #[.bool true, .slice A75 r69.length c76, .slice none 0 0, .slice none 0 0, .slice none 0 0]) rfl rfl rfl (fun _ => by kernel_rfl) ?_))))))
  have H135 := H134.pick [1, 0, 2, 3] (by decide) rfl
  refine WL.do0 (Do.store (vs := [.bool true, .slice A75 r69.length c76, .slice none 0 0, .slice none 0 0, .slice none 0 0]) (o := 0) H135 rfl rfl Tryz.sizeOf27 rfl rfl rfl rfl ?_)
  intro w136 H137
  refine WL.nil (Fin.then (Wp.ret (Fin.blockR (Fin.thenR (Fin.res (resC rfl rfl (Lds.agg (cs := [.bool true, .slice A75 r69.length c76, .slice none 0 0, .slice none 0 0, .slice none 0 0]) Tryz.isAgg27 Tryz.sizeOf27 ((H137.cls (i := 0) rfl).lit (k := 0) (m := 5) rfl))) ?_)))))
  have H138 := H137.pick [3, 0, 1, 2] (by decide) rfl
  refine WL.do0 (Do.store (vs := [.bool true, .slice A75 r69.length c76, .slice none 0 0, .slice none 0 0, .slice none 0 0]) (o := 0) H138 rfl rfl Tryz.sizeOf27 rfl rfl rfl rfl ?_)
  intro w139 H140
  refine As rfl rfl (WL.nil (Fin.then (Wp.ret (Fin.res (resN (vs := [.agg #[.bool true, .slice A75 r69.length c76, .slice none 0 0, .slice none 0 0, .slice none 0 0], .int .i64 0]) rfl (ResV.cell rfl (Lds.agg (cs := [.bool true, .slice A75 r69.length c76, .slice none 0 0, .slice none 0 0, .slice none 0 0]) Tryz.isAgg27 Tryz.sizeOf27 ((H140.cls (i := 0) rfl).lit (k := 0) (m := 5) rfl)) (ResV.tmp rfl ResV.nil)) (Nat.le_of_ble_eq_true rfl)) ?_))))
  have H141 : Own w D w139 [row none 0 0 (List.flatMap (eI .i64) ([])) 3 1, blk g21 [.bool true, .slice A75 r69.length c76, .slice none 0 0, .slice none 0 0, .slice none 0 0] 27, blk g127 [.bool true, .slice A75 r69.length c76, .slice none 0 0, .slice none 0 0, .slice none 0 0] 27, blk g130 [.slice A75 r69.length c76] 74, row A75 r69.length c76 (List.flatMap PairD.cells r69) 44 2] := H140.free (row_nil 3 1)
  have H142 : Own w D w139 [row none 0 0 (List.flatMap eS ([])) 9 1, row none 0 0 (List.flatMap (eI .i64) ([])) 3 1, blk g21 [.bool true, .slice A75 r69.length c76, .slice none 0 0, .slice none 0 0, .slice none 0 0] 27, blk g127 [.bool true, .slice A75 r69.length c76, .slice none 0 0, .slice none 0 0, .slice none 0 0] 27, blk g130 [.slice A75 r69.length c76] 74, row A75 r69.length c76 (List.flatMap PairD.cells r69) 44 2] := H141.free (row_nil 9 1)
  have H143 : Own w D w139 [sepL (List.flatMap Row46D.own ([])), row none 0 0 (List.flatMap eS ([])) 9 1, row none 0 0 (List.flatMap (eI .i64) ([])) 3 1, blk g21 [.bool true, .slice A75 r69.length c76, .slice none 0 0, .slice none 0 0, .slice none 0 0] 27, blk g127 [.bool true, .slice A75 r69.length c76, .slice none 0 0, .slice none 0 0, .slice none 0 0] 27, blk g130 [.slice A75 r69.length c76] 74, row A75 r69.length c76 (List.flatMap PairD.cells r69) 44 2] := H142.sepNil
  have H144 : Own w D w139 [row none 0 0 (List.flatMap (Sv.enc (β := EntryD)) ([])) 46 1, sepL (List.flatMap Row46D.own ([])), row none 0 0 (List.flatMap eS ([])) 9 1, row none 0 0 (List.flatMap (eI .i64) ([])) 3 1, blk g21 [.bool true, .slice A75 r69.length c76, .slice none 0 0, .slice none 0 0, .slice none 0 0] 27, blk g127 [.bool true, .slice A75 r69.length c76, .slice none 0 0, .slice none 0 0, .slice none 0 0] 27, blk g130 [.slice A75 r69.length c76] 74, row A75 r69.length c76 (List.flatMap PairD.cells r69) 44 2] := H143.free (row_nil 46 1)
  have H145 := H144.pick [7, 3, 2, 0, 1] (by decide) rfl
  have e : node_Decode l0 = (NodeT.mk true (Ll.mk r69) (Ll.mk ([])) (Ll.mk ([])) (Ll.mk ([])), 0) := Eq.trans (if_neg h24) (Eq.trans (bnd_of hr39) (Eq.trans (bnd_of hr55) (Eq.trans (if_pos h63) (Eq.trans (bnd_of hr71) (Eq.trans (bnd_of hr90) (Eq.trans (bnd_of hr104) (Eq.trans (if_pos h109) (Eq.trans (bnd_of hr121) (if_pos h126)))))))))
  obtain ⟨rfl, rfl⟩ := pj2 (e.symm.trans hr)
  exact ⟨A75, c76, none, 0, none, 0, none, 0, [], rfl, H145, rfl⟩
  refine Wp.cond1 rfl (decide_eq_true h126) (Wp.seq (Wp.region (Kn (v := .agg #[.bool false, .slice none 0 0, .slice none 0 0, .slice none 0 0, .slice none 0 0]) rfl rfl rfl (fun _ => by kernel_rfl) (Mv rfl rfl ?_))))
  have H146 := H125.pick [1, 0] (by decide) rfl
  refine WL.do0 (Do.store (vs := [.bool false, .slice none 0 0, .slice none 0 0, .slice none 0 0, .slice none 0 0]) (o := 0) H146 rfl rfl Tryz.sizeOf27 rfl rfl rfl rfl ?_)
  intro w147 H148
  refine As rfl rfl (WL.nil (Fin.then (Wp.ret (Fin.thenR (Fin.res (resN (vs := [.agg #[.bool false, .slice none 0 0, .slice none 0 0, .slice none 0 0, .slice none 0 0], .int .i64 r120]) rfl (ResV.cell rfl (Lds.agg (cs := [.bool false, .slice none 0 0, .slice none 0 0, .slice none 0 0, .slice none 0 0]) Tryz.isAgg27 Tryz.sizeOf27 ((H148.cls (i := 0) rfl).lit (k := 0) (m := 5) rfl)) (ResV.tmp rfl ResV.nil)) (Nat.le_of_ble_eq_true rfl)) ?_)))))
  have H149 : Own w D w147 [row none 0 0 (List.flatMap PairD.cells ([])) 44 2, blk g21 [.bool false, .slice none 0 0, .slice none 0 0, .slice none 0 0, .slice none 0 0] 27, row A75 r69.length c76 (List.flatMap PairD.cells r69) 44 2] := H148.free (row_nil 44 2)
  have H150 : Own w D w147 [row none 0 0 (List.flatMap (eI .i64) ([])) 3 1, row none 0 0 (List.flatMap PairD.cells ([])) 44 2, blk g21 [.bool false, .slice none 0 0, .slice none 0 0, .slice none 0 0, .slice none 0 0] 27, row A75 r69.length c76 (List.flatMap PairD.cells r69) 44 2] := H149.free (row_nil 3 1)
  have H151 : Own w D w147 [row none 0 0 (List.flatMap eS ([])) 9 1, row none 0 0 (List.flatMap (eI .i64) ([])) 3 1, row none 0 0 (List.flatMap PairD.cells ([])) 44 2, blk g21 [.bool false, .slice none 0 0, .slice none 0 0, .slice none 0 0, .slice none 0 0] 27, row A75 r69.length c76 (List.flatMap PairD.cells r69) 44 2] := H150.free (row_nil 9 1)
  have H152 : Own w D w147 [sepL (List.flatMap Row46D.own ([])), row none 0 0 (List.flatMap eS ([])) 9 1, row none 0 0 (List.flatMap (eI .i64) ([])) 3 1, row none 0 0 (List.flatMap PairD.cells ([])) 44 2, blk g21 [.bool false, .slice none 0 0, .slice none 0 0, .slice none 0 0, .slice none 0 0] 27, row A75 r69.length c76 (List.flatMap PairD.cells r69) 44 2] := H151.sepNil
  have H153 : Own w D w147 [row none 0 0 (List.flatMap (Sv.enc (β := EntryD)) ([])) 46 1, sepL (List.flatMap Row46D.own ([])), row none 0 0 (List.flatMap eS ([])) 9 1, row none 0 0 (List.flatMap (eI .i64) ([])) 3 1, row none 0 0 (List.flatMap PairD.cells ([])) 44 2, blk g21 [.bool false, .slice none 0 0, .slice none 0 0, .slice none 0 0, .slice none 0 0] 27, row A75 r69.length c76 (List.flatMap PairD.cells r69) 44 2] := H152.free (row_nil 46 1)
  have H154 := H153.pick [4, 3, 2, 0, 1] (by decide) rfl
  have e : node_Decode l0 = (NodeT.mk false (Ll.mk ([])) (Ll.mk ([])) (Ll.mk ([])) (Ll.mk ([])), r120) := Eq.trans (if_neg h24) (Eq.trans (bnd_of hr39) (Eq.trans (bnd_of hr55) (Eq.trans (if_pos h63) (Eq.trans (bnd_of hr71) (Eq.trans (bnd_of hr90) (Eq.trans (bnd_of hr104) (Eq.trans (if_pos h109) (Eq.trans (bnd_of hr121) (if_neg h126)))))))))
  obtain ⟨rfl, rfl⟩ := pj2 (e.symm.trans hr)
  exact ⟨none, 0, none, 0, none, 0, none, 0, [], rfl, H154, rfl⟩
  refine Wp.cond1 rfl (decide_eq_true h109) (Wp.seq (Wp.region (Kn (v := .agg #[.bool false, .slice none 0 0, .slice none 0 0, .slice none 0 0, .slice none 0 0]) rfl rfl rfl (fun _ => by kernel_rfl) (Mv rfl rfl ?_))))
  have H155 := H108.pick [1, 0] (by decide) rfl
  refine WL.do0 (Do.store (vs := [.bool false, .slice none 0 0, .slice none 0 0, .slice none 0 0, .slice none 0 0]) (o := 0) H155 rfl rfl Tryz.sizeOf27 rfl rfl rfl rfl ?_)
  intro w156 H157
  refine As rfl rfl (WL.nil (Fin.then (Wp.ret (Fin.thenR (Fin.res (resN (vs := [.agg #[.bool false, .slice none 0 0, .slice none 0 0, .slice none 0 0, .slice none 0 0], .int .i64 r103]) rfl (ResV.cell rfl (Lds.agg (cs := [.bool false, .slice none 0 0, .slice none 0 0, .slice none 0 0, .slice none 0 0]) Tryz.isAgg27 Tryz.sizeOf27 ((H157.cls (i := 0) rfl).lit (k := 0) (m := 5) rfl)) (ResV.tmp rfl ResV.nil)) (Nat.le_of_ble_eq_true rfl)) ?_)))))
  have H158 : Own w D w156 [row none 0 0 (List.flatMap PairD.cells ([])) 44 2, blk g21 [.bool false, .slice none 0 0, .slice none 0 0, .slice none 0 0, .slice none 0 0] 27, row A75 r69.length c76 (List.flatMap PairD.cells r69) 44 2] := H157.free (row_nil 44 2)
  have H159 : Own w D w156 [row none 0 0 (List.flatMap (eI .i64) ([])) 3 1, row none 0 0 (List.flatMap PairD.cells ([])) 44 2, blk g21 [.bool false, .slice none 0 0, .slice none 0 0, .slice none 0 0, .slice none 0 0] 27, row A75 r69.length c76 (List.flatMap PairD.cells r69) 44 2] := H158.free (row_nil 3 1)
  have H160 : Own w D w156 [row none 0 0 (List.flatMap eS ([])) 9 1, row none 0 0 (List.flatMap (eI .i64) ([])) 3 1, row none 0 0 (List.flatMap PairD.cells ([])) 44 2, blk g21 [.bool false, .slice none 0 0, .slice none 0 0, .slice none 0 0, .slice none 0 0] 27, row A75 r69.length c76 (List.flatMap PairD.cells r69) 44 2] := H159.free (row_nil 9 1)
  have H161 : Own w D w156 [sepL (List.flatMap Row46D.own ([])), row none 0 0 (List.flatMap eS ([])) 9 1, row none 0 0 (List.flatMap (eI .i64) ([])) 3 1, row none 0 0 (List.flatMap PairD.cells ([])) 44 2, blk g21 [.bool false, .slice none 0 0, .slice none 0 0, .slice none 0 0, .slice none 0 0] 27, row A75 r69.length c76 (List.flatMap PairD.cells r69) 44 2] := H160.sepNil
  have H162 : Own w D w156 [row none 0 0 (List.flatMap (Sv.enc (β := EntryD)) ([])) 46 1, sepL (List.flatMap Row46D.own ([])), row none 0 0 (List.flatMap eS ([])) 9 1, row none 0 0 (List.flatMap (eI .i64) ([])) 3 1, row none 0 0 (List.flatMap PairD.cells ([])) 44 2, blk g21 [.bool false, .slice none 0 0, .slice none 0 0, .slice none 0 0, .slice none 0 0] 27, row A75 r69.length c76 (List.flatMap PairD.cells r69) 44 2] := H161.free (row_nil 46 1)
  have H163 := H162.pick [4, 3, 2, 0, 1] (by decide) rfl
  have e : node_Decode l0 = (NodeT.mk false (Ll.mk ([])) (Ll.mk ([])) (Ll.mk ([])) (Ll.mk ([])), r103) := Eq.trans (if_neg h24) (Eq.trans (bnd_of hr39) (Eq.trans (bnd_of hr55) (Eq.trans (if_pos h63) (Eq.trans (bnd_of hr71) (Eq.trans (bnd_of hr90) (Eq.trans (bnd_of hr104) (if_neg h109)))))))
  obtain ⟨rfl, rfl⟩ := pj2 (e.symm.trans hr)
  exact ⟨none, 0, none, 0, none, 0, none, 0, [], rfl, H163, rfl⟩
  refine Wp.cond0 rfl (decide_eq_false h63) (Wp.seq (Wp.region (Kn (v := .bool (decide (((r53.toNat : Nat) : Int) = 2))) rfl rfl rfl (fun _ => by kernel_rfl) (As rfl rfl (WL.nil (Fin.then ?_))))))
  by_cases h164 : ((r53.toNat : Nat) : Int) = 2
  refine Wp.cond1 rfl (decide_eq_true h164) (Wp.region (Mv rfl rfl ?_))
  obtain ⟨⟨r170, r171⟩, hr172⟩ : ∃ q : stemT × ReaderT, node_readStem r54 = q := ⟨_, rfl⟩
  obtain ⟨D165, HP166, ro167, bk168, rr169⟩ := Own.enter1 H58
  refine WL.do rfl (Do.call Tryz.call51 rfl (node_readStem_ok _ _ g43 r54 A59 c60 r170 r171 HP166 (fun w9 h9 => SubS.rds eB_len (by decide) hs61 ((fun w9 h9 => SubS.rds eB_len (by decide) hs46 ((ro167 _ hx0) w9 h9)) w9 h9)) (show r54.xrest.ls.length ≤ c60 ∧ r54.xrest.ls.length ≤ 9223372036854775807 from by omega) hr172) ?_)
  rintro _ w173 ⟨A176, c177, A178, c179, A180, c181, d182, A184, c185, rfl, HQ174, hd183, hs186⟩
  have H175 := bk168 _ _ HQ174
  replace hs186 : SubS 1 A59 c60 r54.xrest.ls A184 c185 r171.xrest.ls := hs186
  have hz187 := (hs186).le
  have hl188 := abs_len hd183
  have hb189 := H175.rowC (i := 0) rfl
  have hb190 := H175.rowC (i := 1) rfl
  have hb191 := H175.rowC (i := 2) rfl
  refine Kn (v := .iface 76 (.agg #[.slice A176 r170.xkids.ls.length c177, .slice A178 r170.xpivots.ls.length c179, .slice A180 r170.xbuffers.ls.length c181])) rfl rfl rfl (fun _ => by kernel_rfl) (As rfl rfl (WL.nil (Fin.blockN (Fin.then (Wp.seq (Wp.region (Mv rfl rfl ?_)))))))
  have H192 := H175.pick [4, 0, 1, 2, 3, 5] (by decide) rfl
  obtain ⟨r198, hr199⟩ : ∃ q, reader_Reader_End r171 = q := ⟨_, rfl⟩
  obtain ⟨D193, HP194, ro195, bk196, rr197⟩ := Own.enter1 H192
  refine WL.do rfl (Do.call Tryz.call53 rfl (reader_Reader_End_ok _ _ g43 r171 A184 c185 r198 HP194 (fun w9 h9 => SubS.rds eB_len (by decide) hs186 ((fun w9 h9 => SubS.rds eB_len (by decide) hs61 ((fun w9 h9 => SubS.rds eB_len (by decide) hs46 ((ro195 _ hx0) w9 h9)) w9 h9)) w9 h9)) (show r171.xrest.ls.length ≤ c185 ∧ r171.xrest.ls.length ≤ 9223372036854775807 from by omega) hr199) ?_)
  rintro _ w200 ⟨A203, c204, rfl, HQ201, hs205⟩
  have H202 := bk196 _ _ HQ201
  replace hs205 : SubS 1 A184 c185 r171.xrest.ls A203 c204 r198.xrest.ls := hs205
  have hz206 := (hs205).le
  refine WL.nil (Fin.then (Wp.seq (Wp.region (Mv rfl rfl (Mv rfl rfl ?_)))))
  obtain ⟨r212, hr213⟩ : ∃ q, reader_Reader_Err r198 = q := ⟨_, rfl⟩
  obtain ⟨D207, HP208, ro209, bk210, rr211⟩ := Own.enter1 H202
  refine WL.do rfl (Do.call Tryz.call54 rfl (reader_Reader_Err_ok _ _ g43 r198 A203 c204 r212 HP208 (fun w9 h9 => SubS.rds eB_len (by decide) hs205 ((fun w9 h9 => SubS.rds eB_len (by decide) hs186 ((fun w9 h9 => SubS.rds eB_len (by decide) hs61 ((fun w9 h9 => SubS.rds eB_len (by decide) hs46 ((ro209 _ hx0) w9 h9)) w9 h9)) w9 h9)) w9 h9)) (show r198.xrest.ls.length ≤ c204 ∧ r198.xrest.ls.length ≤ 9223372036854775807 from by omega) hr213) ?_)
  rintro _ w214 ⟨rfl, HQ215⟩
  have H216 := bk210 _ _ HQ215
  refine As rfl rfl (As rfl rfl (WL.nil (Fin.then (Wp.ret (Fin.res (res2 rfl rfl rfl) (Mv rfl rfl (Kn (v := .iface 76 (.agg #[.slice A176 r170.xkids.ls.length c177, .slice A178 r170.xpivots.ls.length c179, .slice A180 r170.xbuffers.ls.length c181])) rfl rfl rfl (fun _ => by kernel_rfl) (Kn (v := .int .i64 r212) rfl rfl rfl (fun _ => by kernel_rfl) (As rfl rfl (As rfl rfl (WL.nil (Fin.then (Wp.seq (Wp.seq ?_))))))))))))))
  have H217 := H216.pick [1, 2, 3, 4, 5] (by decide) rfl
  refine Wp.region (Mv rfl rfl (WL.val (v := .bool (decide (¬ (r212 = 0)))) rfl (Yl.bool (e := !(decide (r212 = 0))) (Yl.kern rfl rfl (fun _ => by kernel_rfl)) decide_not.symm) (WL.nil (Fin.then ?_))))
  by_cases h218 : r212 = 0
  refine Wp.cond0 rfl (decide_eq_false (not_not_intro h218)) (Wp.skip (Fin.then (Wp.seq (Wp.seq (Wp.region (Mv rfl rfl ?_))))))
  refine WL.do rfl (Do.call Tryz.call20 rfl ?_ (fun _ _ k => k))
  refine Calls.body (args := [.iface 76 (.agg #[.slice A176 r170.xkids.ls.length c177, .slice A178 r170.xpivots.ls.length c179, .slice A180 r170.xbuffers.ls.length c181])]) Tryz.func20 rfl rfl rfl ?_
  show Wp _ _ _ [(0, .iface 76 (.agg #[.slice A176 r170.xkids.ls.length c177, .slice A178 r170.xpivots.ls.length c179, .slice A180 r170.xbuffers.ls.length c181]))] _ _
  refine Wp.seq (Wp.region (As rfl rfl (WL.nil (Fin.then (Wp.seq (Wp.seq (Wp.region (Mv rfl rfl (WL.nil (Fin.then (Wp.block (Wp.seq (Wp.region (Kn (v := .tuple #[.agg #[.slice none 0 0], .bool false]) rfl rfl rfl (fun _ => by kernel_rfl) (Kn (v := .bool false) rfl rfl rfl (fun _ => by kernel_rfl) (Kn (v := .agg #[.slice none 0 0]) rfl rfl rfl (fun _ => by kernel_rfl) (WL.nil (Fin.then (Wp.cond0 rfl rfl (Wp.seq (Wp.region (Kn (v := .tuple #[.agg #[.slice A176 r170.xkids.ls.length c177, .slice A178 r170.xpivots.ls.length c179, .slice A180 r170.xbuffers.ls.length c181], .bool true]) rfl rfl rfl (fun _ => by kernel_rfl) (Kn (v := .bool true) rfl rfl rfl (fun _ => by kernel_rfl) (Kn (v := .agg #[.slice A176 r170.xkids.ls.length c177, .slice A178 r170.xpivots.ls.length c179, .slice A180 r170.xbuffers.ls.length c181]) rfl rfl rfl (fun _ => by kernel_rfl) (WL.nil (Fin.then (Wp.cond1 rfl rfl (Wp.seq (Wp.region ?_)))))))))))))))))))))))))))))
  refine WL.do rfl (Do.newP (cs := [.slice none 0 0, .slice none 0 0, .slice none 0 0]) (t := 76) H217 rfl rfl (fun _ => by kernel_rfl) ?_)
  intro g219 w220 H221
  refine WL.do0 (Do.store (vs := [.slice A176 r170.xkids.ls.length c177, .slice A178 r170.xpivots.ls.length c179, .slice A180 r170.xbuffers.ls.length c181]) (o := 0) H221 rfl rfl Tryz.sizeOf76 rfl rfl rfl rfl ?_)
  intro w222 H223
  refine WL.nil (Fin.then (Wp.seq (Wp.region (WL.val (v := .agg #[.slice A176 r170.xkids.ls.length c177, .slice A178 r170.xpivots.ls.length c179, .slice A180 r170.xbuffers.ls.length c181]) rfl (Yl.load rfl (Lds.agg (cs := [.slice A176 r170.xkids.ls.length c177, .slice A178 r170.xpivots.ls.length c179, .slice A180 r170.xbuffers.ls.length c181]) Tryz.isAgg76 Tryz.sizeOf76 ((H223.cls (i := 0) rfl).lit (k := 0) (m := 3) rfl))) ?_))))
  obtain ⟨r229, hr230⟩ : ∃ q, node_stem_check r170 = q := ⟨_, rfl⟩
  obtain ⟨D224, HP225, ro226, bk227, rr228⟩ := Own.enter0 H223
  refine WL.do rfl (Do.call Tryz.call36 rfl (node_stem_check_ok _ _ r170 A176 r170.xkids.ls.length c177 A178 r170.xpivots.ls.length c179 A180 r170.xbuffers.ls.length c181 d182 r229 HP225 rfl (rr228 _ 1 _ rfl row_rds) (by first | exact ⟨Nat.le_of_ble_eq_true rfl, Nat.le_of_ble_eq_true rfl⟩ | omega | exact ⟨Nat.le_refl _, by omega⟩) rfl (rr228 _ 2 _ rfl row_rds) (by first | exact ⟨Nat.le_of_ble_eq_true rfl, Nat.le_of_ble_eq_true rfl⟩ | omega | exact ⟨Nat.le_refl _, by omega⟩) hd183 rfl (rr228 _ 3 _ rfl row_rds) (by first | exact ⟨Nat.le_of_ble_eq_true rfl, Nat.le_of_ble_eq_true rfl⟩ | omega | exact ⟨Nat.le_refl _, by omega⟩) (fun x9 h9 => ⟨rr228 _ 4 _ rfl (sepL_mem (List.mem_flatMap.2 ⟨x9, h9, .head _⟩) row_rds), own_rd (φ := fun _ => _) H223 (i := 4) rfl (sepL_mem (List.mem_flatMap.2 ⟨x9, h9, .head _⟩) row_le)⟩) hr230) ?_)
  rintro _ w231 ⟨rfl, HQ232, hk234⟩
  have H233 := bk227 _ _ HQ232
  replace hk234 : ¬ (r229 = 0) ∨ (r170.xkids.ls.length ≤ 8 ∧ r170.xpivots.ls.length ≤ 8 ∧ r170.xbuffers.ls.length ≤ 8) := hk234
  refine As rfl rfl (WL.nil (Fin.then (Wp.ret (Fin.blockR (Fin.thenR (Fin.res (res1 rfl rfl) (As rfl rfl (WL.nil (Fin.then (Wp.seq ?_))))))))))
  have H235 := H233.pick [1, 2, 3, 4, 5] (by decide) rfl
  refine Wp.region (Mv rfl rfl (WL.val (v := .bool (decide (¬ (r229 = 0)))) rfl (Yl.bool (e := !(decide (r229 = 0))) (Yl.kern rfl rfl (fun _ => by kernel_rfl)) decide_not.symm) (WL.nil (Fin.then ?_))))
  by_cases h236 : r229 = 0
  refine Wp.cond0 rfl (decide_eq_false (not_not_intro h236)) (Wp.skip (Fin.then (Wp.seq (Wp.region (Mv rfl rfl ?_)))))
  refine WL.do rfl (Do.call Tryz.call30 rfl ?_ (fun _ _ k => k))
  refine Calls.body (args := [.iface 76 (.agg #[.slice A176 r170.xkids.ls.length c177, .slice A178 r170.xpivots.ls.length c179, .slice A180 r170.xbuffers.ls.length c181])]) Tryz.func30 rfl rfl rfl ?_
  show Wp _ _ _ [(0, .iface 76 (.agg #[.slice A176 r170.xkids.ls.length c177, .slice A178 r170.xpivots.ls.length c179, .slice A180 r170.xbuffers.ls.length c181]))] _ _
  refine Wp.seq (Wp.region ?_)
  refine WL.do rfl (Do.newP (cs := [.bool false, .slice none 0 0, .slice none 0 0, .slice none 0 0, .slice none 0 0]) (t := 27) H235 rfl rfl (fun _ => by kernel_rfl) ?_)
  intro g237 w238 H239
  refine WL.nil (Fin.then (Wp.seq (Wp.seq (Wp.region (Mv rfl rfl (WL.nil (Fin.then (Wp.block (Wp.seq (Wp.region (Kn (v := .tuple #[.agg #[.slice none 0 0], .bool false]) rfl rfl rfl (fun _ => by kernel_rfl) (Kn (v := .bool false) rfl rfl rfl (fun _ => by kernel_rfl) (Kn (v := .agg #[.slice none 0 0]) rfl rfl rfl (fun _ => by kernel_rfl) (WL.nil (Fin.then (Wp.cond0 rfl rfl (Wp.seq (Wp.region (Kn (v := .tuple #[.agg #[.slice A176 r170.xkids.ls.length c177, .slice A178 r170.xpivots.ls.length c179, .slice A180 r170.xbuffers.ls.length c181], .bool true]) rfl rfl rfl (fun _ => by kernel_rfl) (Kn (v := .bool true) rfl rfl rfl (fun _ => by kernel_rfl) (Kn (v := .agg #[.slice A176 r170.xkids.ls.length c177, .slice A178 r170.xpivots.ls.length c179, .slice A180 r170.xbuffers.ls.length c181]) rfl rfl rfl (fun _ => by kernel_rfl) (WL.nil (Fin.then (Wp.cond1 rfl rfl (Wp.seq (Wp.region ?_))))))))))))))))))))))))))
  refine WL.do rfl (Do.newP (cs := [.slice none 0 0, .slice none 0 0, .slice none 0 0]) (t := 76) H239 rfl rfl (fun _ => by kernel_rfl) ?_)
  intro g240 w241 H242
  refine WL.do0 (Do.store (vs := [.slice A176 r170.xkids.ls.length c177, .slice A178 r170.xpivots.ls.length c179, .slice A180 r170.xbuffers.ls.length c181]) (o := 0) H242 rfl rfl Tryz.sizeOf76 rfl rfl rfl rfl ?_)
  intro w243 H244
  refine WL.nil (Fin.then (Wp.seq (Wp.region (Kn (v := .pointer (some ⟨g240, 0, none⟩)) rfl rfl rfl (fun _ => by kernel_rfl) (WL.val (v := .slice A176 r170.xkids.ls.length c177) rfl (Yl.load rfl (Lds.one Tryz.isAgg23 (Cls.of (H244.cls (i := 0) rfl) rfl))) (Kn (v := .pointer (some ⟨g240, 1, none⟩)) rfl rfl rfl (fun _ => by kernel_rfl) (WL.val (v := .slice A178 r170.xpivots.ls.length c179) rfl (Yl.load rfl (Lds.one Tryz.isAgg24 (Cls.of (H244.cls (i := 0) rfl) rfl))) (Kn (v := .pointer (some ⟨g240, 2, none⟩)) rfl rfl rfl (fun _ => by kernel_rfl) (WL.val (v := .slice A180 r170.xbuffers.ls.length c181) rfl (Yl.load rfl (Lds.one Tryz.isAgg25 (Cls.of (H244.cls (i := 0) rfl) rfl))) (Kn (v := .agg #[.bool false, .slice none 0 0, .slice A176 r170.xkids.ls.length c177, .slice A178 r170.xpivots.ls.length c179, .slice A180 r170.xbuffers.ls.length c181]) rfl rfl rfl (fun _ => by kernel_rfl) ?_))))))))))
  have H245 := H244.pick [1, 0, 2, 3, 4, 5, 6] (by decide) rfl
  refine WL.do0 (Do.store (vs := [.bool false, .slice none 0 0, .slice A176 r170.xkids.ls.length c177, .slice A178 r170.xpivots.ls.length c179, .slice A180 r170.xbuffers.ls.length c181]) (o := 0) H245 rfl rfl Tryz.sizeOf27 rfl rfl rfl rfl ?_)
  intro w246 H247
  refine WL.nil (Fin.then (Wp.ret (Fin.blockR (Fin.thenR (Fin.res (resC rfl rfl (Lds.agg (cs := [.bool false, .slice none 0 0, .slice A176 r170.xkids.ls.length c177, .slice A178 r170.xpivots.ls.length c179, .slice A180 r170.xbuffers.ls.length c181]) Tryz.isAgg27 Tryz.sizeOf27 ((H247.cls (i := 0) rfl).lit (k := 0) (m := 5) rfl))) ?_)))))
  have H248 := H247.pick [6, 0, 1, 2, 3, 4, 5] (by decide) rfl
  refine WL.do0 (Do.store (vs := [.bool false, .slice none 0 0, .slice A176 r170.xkids.ls.length c177, .slice A178 r170.xpivots.ls.length c179, .slice A180 r170.xbuffers.ls.length c181]) (o := 0) H248 rfl rfl Tryz.sizeOf27 rfl rfl rfl rfl ?_)
  intro w249 H250
  refine As rfl rfl (WL.nil (Fin.then (Wp.ret (Fin.res (resN (vs := [.agg #[.bool false, .slice none 0 0, .slice A176 r170.xkids.ls.length c177, .slice A178 r170.xpivots.ls.length c179, .slice A180 r170.xbuffers.ls.length c181], .int .i64 0]) rfl (ResV.cell rfl (Lds.agg (cs := [.bool false, .slice none 0 0, .slice A176 r170.xkids.ls.length c177, .slice A178 r170.xpivots.ls.length c179, .slice A180 r170.xbuffers.ls.length c181]) Tryz.isAgg27 Tryz.sizeOf27 ((H250.cls (i := 0) rfl).lit (k := 0) (m := 5) rfl)) (ResV.tmp rfl ResV.nil)) (Nat.le_of_ble_eq_true rfl)) ?_))))
  have H251 : Own w D w249 [row none 0 0 (List.flatMap PairD.cells ([])) 44 2, blk g21 [.bool false, .slice none 0 0, .slice A176 r170.xkids.ls.length c177, .slice A178 r170.xpivots.ls.length c179, .slice A180 r170.xbuffers.ls.length c181] 27, blk g237 [.bool false, .slice none 0 0, .slice A176 r170.xkids.ls.length c177, .slice A178 r170.xpivots.ls.length c179, .slice A180 r170.xbuffers.ls.length c181] 27, blk g240 [.slice A176 r170.xkids.ls.length c177, .slice A178 r170.xpivots.ls.length c179, .slice A180 r170.xbuffers.ls.length c181] 76, row A176 r170.xkids.ls.length c177 (List.flatMap (eI .i64) r170.xkids.ls) 3 1, row A178 r170.xpivots.ls.length c179 (List.flatMap eS r170.xpivots.ls) 9 1, row A180 r170.xbuffers.ls.length c181 (List.flatMap (Sv.enc (β := EntryD)) d182) 46 1, sepL (List.flatMap Row46D.own d182)] := H250.free (row_nil 44 2)
  have H252 := H251.pick [0, 4, 5, 6, 7] (by decide) rfl
  have e : node_Decode l0 = (NodeT.mk false (Ll.mk ([])) (Ll.mk r170.xkids.ls) (Ll.mk r170.xpivots.ls) (Ll.mk r170.xbuffers.ls), 0) := Eq.trans (if_neg h24) (Eq.trans (bnd_of hr39) (Eq.trans (bnd_of hr55) (Eq.trans (if_neg h63) (Eq.trans (if_pos h164) (Eq.trans (bnd_of hr172) (Eq.trans (bnd_of hr199) (Eq.trans (bnd_of hr213) (Eq.trans (if_pos h218) (Eq.trans (bnd_of hr230) (if_pos h236))))))))))
  obtain ⟨rfl, rfl⟩ := pj2 (e.symm.trans hr)
  exact ⟨none, 0, A176, c177, A178, c179, A180, c181, d182, rfl, H252, hd183⟩
  refine Wp.cond1 rfl (decide_eq_true h236) (Wp.seq (Wp.region (Kn (v := .agg #[.bool false, .slice none 0 0, .slice none 0 0, .slice none 0 0, .slice none 0 0]) rfl rfl rfl (fun _ => by kernel_rfl) (Mv rfl rfl ?_))))
  have H253 := H235.pick [4, 0, 1, 2, 3] (by decide) rfl
  refine WL.do0 (Do.store (vs := [.bool false, .slice none 0 0, .slice none 0 0, .slice none 0 0, .slice none 0 0]) (o := 0) H253 rfl rfl Tryz.sizeOf27 rfl rfl rfl rfl ?_)
  intro w254 H255
  refine As rfl rfl (WL.nil (Fin.then (Wp.ret (Fin.thenR (Fin.res (resN (vs := [.agg #[.bool false, .slice none 0 0, .slice none 0 0, .slice none 0 0, .slice none 0 0], .int .i64 r229]) rfl (ResV.cell rfl (Lds.agg (cs := [.bool false, .slice none 0 0, .slice none 0 0, .slice none 0 0, .slice none 0 0]) Tryz.isAgg27 Tryz.sizeOf27 ((H255.cls (i := 0) rfl).lit (k := 0) (m := 5) rfl)) (ResV.tmp rfl ResV.nil)) (Nat.le_of_ble_eq_true rfl)) ?_)))))
  have H256 : Own w D w254 [row none 0 0 (List.flatMap PairD.cells ([])) 44 2, blk g21 [.bool false, .slice none 0 0, .slice none 0 0, .slice none 0 0, .slice none 0 0] 27, row A176 r170.xkids.ls.length c177 (List.flatMap (eI .i64) r170.xkids.ls) 3 1, row A178 r170.xpivots.ls.length c179 (List.flatMap eS r170.xpivots.ls) 9 1, row A180 r170.xbuffers.ls.length c181 (List.flatMap (Sv.enc (β := EntryD)) d182) 46 1, sepL (List.flatMap Row46D.own d182)] := H255.free (row_nil 44 2)
  have H257 : Own w D w254 [row none 0 0 (List.flatMap (eI .i64) ([])) 3 1, row none 0 0 (List.flatMap PairD.cells ([])) 44 2, blk g21 [.bool false, .slice none 0 0, .slice none 0 0, .slice none 0 0, .slice none 0 0] 27, row A176 r170.xkids.ls.length c177 (List.flatMap (eI .i64) r170.xkids.ls) 3 1, row A178 r170.xpivots.ls.length c179 (List.flatMap eS r170.xpivots.ls) 9 1, row A180 r170.xbuffers.ls.length c181 (List.flatMap (Sv.enc (β := EntryD)) d182) 46 1, sepL (List.flatMap Row46D.own d182)] := H256.free (row_nil 3 1)
  have H258 : Own w D w254 [row none 0 0 (List.flatMap eS ([])) 9 1, row none 0 0 (List.flatMap (eI .i64) ([])) 3 1, row none 0 0 (List.flatMap PairD.cells ([])) 44 2, blk g21 [.bool false, .slice none 0 0, .slice none 0 0, .slice none 0 0, .slice none 0 0] 27, row A176 r170.xkids.ls.length c177 (List.flatMap (eI .i64) r170.xkids.ls) 3 1, row A178 r170.xpivots.ls.length c179 (List.flatMap eS r170.xpivots.ls) 9 1, row A180 r170.xbuffers.ls.length c181 (List.flatMap (Sv.enc (β := EntryD)) d182) 46 1, sepL (List.flatMap Row46D.own d182)] := H257.free (row_nil 9 1)
  have H259 : Own w D w254 [sepL (List.flatMap Row46D.own ([])), row none 0 0 (List.flatMap eS ([])) 9 1, row none 0 0 (List.flatMap (eI .i64) ([])) 3 1, row none 0 0 (List.flatMap PairD.cells ([])) 44 2, blk g21 [.bool false, .slice none 0 0, .slice none 0 0, .slice none 0 0, .slice none 0 0] 27, row A176 r170.xkids.ls.length c177 (List.flatMap (eI .i64) r170.xkids.ls) 3 1, row A178 r170.xpivots.ls.length c179 (List.flatMap eS r170.xpivots.ls) 9 1, row A180 r170.xbuffers.ls.length c181 (List.flatMap (Sv.enc (β := EntryD)) d182) 46 1, sepL (List.flatMap Row46D.own d182)] := H258.sepNil
  have H260 : Own w D w254 [row none 0 0 (List.flatMap (Sv.enc (β := EntryD)) ([])) 46 1, sepL (List.flatMap Row46D.own ([])), row none 0 0 (List.flatMap eS ([])) 9 1, row none 0 0 (List.flatMap (eI .i64) ([])) 3 1, row none 0 0 (List.flatMap PairD.cells ([])) 44 2, blk g21 [.bool false, .slice none 0 0, .slice none 0 0, .slice none 0 0, .slice none 0 0] 27, row A176 r170.xkids.ls.length c177 (List.flatMap (eI .i64) r170.xkids.ls) 3 1, row A178 r170.xpivots.ls.length c179 (List.flatMap eS r170.xpivots.ls) 9 1, row A180 r170.xbuffers.ls.length c181 (List.flatMap (Sv.enc (β := EntryD)) d182) 46 1, sepL (List.flatMap Row46D.own d182)] := H259.free (row_nil 46 1)
  have H261 := H260.pick [4, 3, 2, 0, 1] (by decide) rfl
  have e : node_Decode l0 = (NodeT.mk false (Ll.mk ([])) (Ll.mk ([])) (Ll.mk ([])) (Ll.mk ([])), r229) := Eq.trans (if_neg h24) (Eq.trans (bnd_of hr39) (Eq.trans (bnd_of hr55) (Eq.trans (if_neg h63) (Eq.trans (if_pos h164) (Eq.trans (bnd_of hr172) (Eq.trans (bnd_of hr199) (Eq.trans (bnd_of hr213) (Eq.trans (if_pos h218) (Eq.trans (bnd_of hr230) (if_neg h236))))))))))
  obtain ⟨rfl, rfl⟩ := pj2 (e.symm.trans hr)
  exact ⟨none, 0, none, 0, none, 0, none, 0, [], rfl, H261, rfl⟩
  refine Wp.cond1 rfl (decide_eq_true h218) (Wp.seq (Wp.region (Kn (v := .agg #[.bool false, .slice none 0 0, .slice none 0 0, .slice none 0 0, .slice none 0 0]) rfl rfl rfl (fun _ => by kernel_rfl) (Mv rfl rfl ?_))))
  have H262 := H217.pick [4, 0, 1, 2, 3] (by decide) rfl
  refine WL.do0 (Do.store (vs := [.bool false, .slice none 0 0, .slice none 0 0, .slice none 0 0, .slice none 0 0]) (o := 0) H262 rfl rfl Tryz.sizeOf27 rfl rfl rfl rfl ?_)
  intro w263 H264
  refine As rfl rfl (WL.nil (Fin.then (Wp.ret (Fin.thenR (Fin.res (resN (vs := [.agg #[.bool false, .slice none 0 0, .slice none 0 0, .slice none 0 0, .slice none 0 0], .int .i64 r212]) rfl (ResV.cell rfl (Lds.agg (cs := [.bool false, .slice none 0 0, .slice none 0 0, .slice none 0 0, .slice none 0 0]) Tryz.isAgg27 Tryz.sizeOf27 ((H264.cls (i := 0) rfl).lit (k := 0) (m := 5) rfl)) (ResV.tmp rfl ResV.nil)) (Nat.le_of_ble_eq_true rfl)) ?_)))))
  have H265 : Own w D w263 [row none 0 0 (List.flatMap PairD.cells ([])) 44 2, blk g21 [.bool false, .slice none 0 0, .slice none 0 0, .slice none 0 0, .slice none 0 0] 27, row A176 r170.xkids.ls.length c177 (List.flatMap (eI .i64) r170.xkids.ls) 3 1, row A178 r170.xpivots.ls.length c179 (List.flatMap eS r170.xpivots.ls) 9 1, row A180 r170.xbuffers.ls.length c181 (List.flatMap (Sv.enc (β := EntryD)) d182) 46 1, sepL (List.flatMap Row46D.own d182)] := H264.free (row_nil 44 2)
  have H266 : Own w D w263 [row none 0 0 (List.flatMap (eI .i64) ([])) 3 1, row none 0 0 (List.flatMap PairD.cells ([])) 44 2, blk g21 [.bool false, .slice none 0 0, .slice none 0 0, .slice none 0 0, .slice none 0 0] 27, row A176 r170.xkids.ls.length c177 (List.flatMap (eI .i64) r170.xkids.ls) 3 1, row A178 r170.xpivots.ls.length c179 (List.flatMap eS r170.xpivots.ls) 9 1, row A180 r170.xbuffers.ls.length c181 (List.flatMap (Sv.enc (β := EntryD)) d182) 46 1, sepL (List.flatMap Row46D.own d182)] := H265.free (row_nil 3 1)
  have H267 : Own w D w263 [row none 0 0 (List.flatMap eS ([])) 9 1, row none 0 0 (List.flatMap (eI .i64) ([])) 3 1, row none 0 0 (List.flatMap PairD.cells ([])) 44 2, blk g21 [.bool false, .slice none 0 0, .slice none 0 0, .slice none 0 0, .slice none 0 0] 27, row A176 r170.xkids.ls.length c177 (List.flatMap (eI .i64) r170.xkids.ls) 3 1, row A178 r170.xpivots.ls.length c179 (List.flatMap eS r170.xpivots.ls) 9 1, row A180 r170.xbuffers.ls.length c181 (List.flatMap (Sv.enc (β := EntryD)) d182) 46 1, sepL (List.flatMap Row46D.own d182)] := H266.free (row_nil 9 1)
  have H268 : Own w D w263 [sepL (List.flatMap Row46D.own ([])), row none 0 0 (List.flatMap eS ([])) 9 1, row none 0 0 (List.flatMap (eI .i64) ([])) 3 1, row none 0 0 (List.flatMap PairD.cells ([])) 44 2, blk g21 [.bool false, .slice none 0 0, .slice none 0 0, .slice none 0 0, .slice none 0 0] 27, row A176 r170.xkids.ls.length c177 (List.flatMap (eI .i64) r170.xkids.ls) 3 1, row A178 r170.xpivots.ls.length c179 (List.flatMap eS r170.xpivots.ls) 9 1, row A180 r170.xbuffers.ls.length c181 (List.flatMap (Sv.enc (β := EntryD)) d182) 46 1, sepL (List.flatMap Row46D.own d182)] := H267.sepNil
  have H269 : Own w D w263 [row none 0 0 (List.flatMap (Sv.enc (β := EntryD)) ([])) 46 1, sepL (List.flatMap Row46D.own ([])), row none 0 0 (List.flatMap eS ([])) 9 1, row none 0 0 (List.flatMap (eI .i64) ([])) 3 1, row none 0 0 (List.flatMap PairD.cells ([])) 44 2, blk g21 [.bool false, .slice none 0 0, .slice none 0 0, .slice none 0 0, .slice none 0 0] 27, row A176 r170.xkids.ls.length c177 (List.flatMap (eI .i64) r170.xkids.ls) 3 1, row A178 r170.xpivots.ls.length c179 (List.flatMap eS r170.xpivots.ls) 9 1, row A180 r170.xbuffers.ls.length c181 (List.flatMap (Sv.enc (β := EntryD)) d182) 46 1, sepL (List.flatMap Row46D.own d182)] := H268.free (row_nil 46 1)
  have H270 := H269.pick [4, 3, 2, 0, 1] (by decide) rfl
  have e : node_Decode l0 = (NodeT.mk false (Ll.mk ([])) (Ll.mk ([])) (Ll.mk ([])) (Ll.mk ([])), r212) := Eq.trans (if_neg h24) (Eq.trans (bnd_of hr39) (Eq.trans (bnd_of hr55) (Eq.trans (if_neg h63) (Eq.trans (if_pos h164) (Eq.trans (bnd_of hr172) (Eq.trans (bnd_of hr199) (Eq.trans (bnd_of hr213) (if_neg h218))))))))
  obtain ⟨rfl, rfl⟩ := pj2 (e.symm.trans hr)
  exact ⟨none, 0, none, 0, none, 0, none, 0, [], rfl, H270, rfl⟩
  refine Wp.cond0 rfl (decide_eq_false h164) (Wp.region (Mv rfl rfl ?_))
  obtain ⟨r276, hr277⟩ : ∃ q, reader_Reader_Fail r54 11 = q := ⟨_, rfl⟩
  obtain ⟨D271, HP272, ro273, bk274, rr275⟩ := Own.enter1 H58
  refine WL.do rfl (Do.call Tryz.call52 rfl (reader_Reader_Fail_ok _ _ g43 r54 A59 c60 11 r276 HP272 (fun w9 h9 => SubS.rds eB_len (by decide) hs61 ((fun w9 h9 => SubS.rds eB_len (by decide) hs46 ((ro273 _ hx0) w9 h9)) w9 h9)) (show r54.xrest.ls.length ≤ c60 ∧ r54.xrest.ls.length ≤ 9223372036854775807 from by omega) hr277) ?_)
  rintro _ w278 ⟨A281, c282, rfl, HQ279, hs283⟩
  have H280 := bk274 _ _ HQ279
  replace hs283 : SubS 1 A59 c60 r54.xrest.ls A281 c282 r276.xrest.ls := hs283
  have hz284 := (hs283).le
  refine WL.nil (Fin.blockN (Fin.then (Wp.seq (Wp.region (Mv rfl rfl ?_)))))
  obtain ⟨r290, hr291⟩ : ∃ q, reader_Reader_End r276 = q := ⟨_, rfl⟩
  obtain ⟨D285, HP286, ro287, bk288, rr289⟩ := Own.enter1 H280
  refine WL.do rfl (Do.call Tryz.call53 rfl (reader_Reader_End_ok _ _ g43 r276 A281 c282 r290 HP286 (fun w9 h9 => SubS.rds eB_len (by decide) hs283 ((fun w9 h9 => SubS.rds eB_len (by decide) hs61 ((fun w9 h9 => SubS.rds eB_len (by decide) hs46 ((ro287 _ hx0) w9 h9)) w9 h9)) w9 h9)) (show r276.xrest.ls.length ≤ c282 ∧ r276.xrest.ls.length ≤ 9223372036854775807 from by omega) hr291) ?_)
  rintro _ w292 ⟨A295, c296, rfl, HQ293, hs297⟩
  have H294 := bk288 _ _ HQ293
  replace hs297 : SubS 1 A281 c282 r276.xrest.ls A295 c296 r290.xrest.ls := hs297
  have hz298 := (hs297).le
  refine WL.nil (Fin.then (Wp.seq (Wp.region (Mv rfl rfl (Mv rfl rfl ?_)))))
  obtain ⟨r304, hr305⟩ : ∃ q, reader_Reader_Err r290 = q := ⟨_, rfl⟩
  obtain ⟨D299, HP300, ro301, bk302, rr303⟩ := Own.enter1 H294
  refine WL.do rfl (Do.call Tryz.call54 rfl (reader_Reader_Err_ok _ _ g43 r290 A295 c296 r304 HP300 (fun w9 h9 => SubS.rds eB_len (by decide) hs297 ((fun w9 h9 => SubS.rds eB_len (by decide) hs283 ((fun w9 h9 => SubS.rds eB_len (by decide) hs61 ((fun w9 h9 => SubS.rds eB_len (by decide) hs46 ((ro301 _ hx0) w9 h9)) w9 h9)) w9 h9)) w9 h9)) (show r290.xrest.ls.length ≤ c296 ∧ r290.xrest.ls.length ≤ 9223372036854775807 from by omega) hr305) ?_)
  rintro _ w306 ⟨rfl, HQ307⟩
  have H308 := bk302 _ _ HQ307
  refine As rfl rfl (As rfl rfl (WL.nil (Fin.then (Wp.ret (Fin.res (res2 rfl rfl rfl) (Mv rfl rfl (Kn (v := .nilIface) rfl rfl rfl (fun _ => by kernel_rfl) (Kn (v := .int .i64 r304) rfl rfl rfl (fun _ => by kernel_rfl) (As rfl rfl (As rfl rfl (WL.nil (Fin.then (Wp.seq (Wp.seq ?_))))))))))))))
  have H309 := H308.pick [1] (by decide) rfl
  refine Wp.region (Mv rfl rfl (WL.val (v := .bool (decide (¬ (r304 = 0)))) rfl (Yl.bool (e := !(decide (r304 = 0))) (Yl.kern rfl rfl (fun _ => by kernel_rfl)) decide_not.symm) (WL.nil (Fin.then ?_))))
  by_cases h310 : r304 = 0
  refine Wp.cond0 rfl (decide_eq_false (not_not_intro h310)) (Wp.skip (Fin.then (Wp.seq (Wp.seq (Wp.region (Mv rfl rfl ?_))))))
  refine WL.do rfl (Do.call Tryz.call20 rfl ?_ (fun _ _ k => k))
  refine Calls.body (args := [.nilIface]) Tryz.func20 rfl rfl rfl ?_
  show Wp _ _ _ [(0, .nilIface)] _ _
  refine Wp.seq (Wp.region (As rfl rfl (WL.nil (Fin.then (Wp.seq (Wp.seq (Wp.region (Mv rfl rfl (WL.nil (Fin.then (Wp.block (Wp.seq (Wp.region (Kn (v := .tuple #[.agg #[.slice none 0 0], .bool false]) rfl rfl rfl (fun _ => by kernel_rfl) (Kn (v := .bool false) rfl rfl rfl (fun _ => by kernel_rfl) (Kn (v := .agg #[.slice none 0 0]) rfl rfl rfl (fun _ => by kernel_rfl) (WL.nil (Fin.then (Wp.cond0 rfl rfl (Wp.seq (Wp.region (Kn (v := .tuple #[.agg #[.slice none 0 0, .slice none 0 0, .slice none 0 0], .bool false]) rfl rfl rfl (fun _ => by kernel_rfl) (Kn (v := .bool false) rfl rfl rfl (fun _ => by kernel_rfl) (Kn (v := .agg #[.slice none 0 0, .slice none 0 0, .slice none 0 0]) rfl rfl rfl (fun _ => by kernel_rfl) (WL.nil (Fin.then (Wp.cond0 rfl rfl (Wp.skip (Fin.blockN (Fin.then (Wp.seq (Wp.region (As rfl rfl (WL.nil (Fin.then (Wp.ret (Fin.res (res1 rfl rfl) (As rfl rfl (WL.nil ?_)))))))))))))))))))))))))))))))))))))))
  refine Fin.then (Wp.seq (Wp.region (Mv rfl rfl (Kn (v := .bool true) rfl rfl rfl (fun _ => by kernel_rfl) (WL.nil (Fin.then (Wp.cond1 rfl rfl (Wp.seq (Wp.region (Kn (v := .agg #[.bool false, .slice none 0 0, .slice none 0 0, .slice none 0 0, .slice none 0 0]) rfl rfl rfl (fun _ => by kernel_rfl) (Mv rfl rfl ?_)))))))))))
  refine WL.do0 (Do.store (vs := [.bool false, .slice none 0 0, .slice none 0 0, .slice none 0 0, .slice none 0 0]) (o := 0) H309 rfl rfl Tryz.sizeOf27 rfl rfl rfl rfl ?_)
  intro w311 H312
  refine As rfl rfl (WL.nil (Fin.then (Wp.ret (Fin.thenR (Fin.res (resN (vs := [.agg #[.bool false, .slice none 0 0, .slice none 0 0, .slice none 0 0, .slice none 0 0], .int .i64 130]) rfl (ResV.cell rfl (Lds.agg (cs := [.bool false, .slice none 0 0, .slice none 0 0, .slice none 0 0, .slice none 0 0]) Tryz.isAgg27 Tryz.sizeOf27 ((H312.cls (i := 0) rfl).lit (k := 0) (m := 5) rfl)) (ResV.tmp rfl ResV.nil)) (Nat.le_of_ble_eq_true rfl)) ?_)))))
  have H313 : Own w D w311 [row none 0 0 (List.flatMap PairD.cells ([])) 44 2, blk g21 [.bool false, .slice none 0 0, .slice none 0 0, .slice none 0 0, .slice none 0 0] 27] := H312.free (row_nil 44 2)
  have H314 : Own w D w311 [row none 0 0 (List.flatMap (eI .i64) ([])) 3 1, row none 0 0 (List.flatMap PairD.cells ([])) 44 2, blk g21 [.bool false, .slice none 0 0, .slice none 0 0, .slice none 0 0, .slice none 0 0] 27] := H313.free (row_nil 3 1)
  have H315 : Own w D w311 [row none 0 0 (List.flatMap eS ([])) 9 1, row none 0 0 (List.flatMap (eI .i64) ([])) 3 1, row none 0 0 (List.flatMap PairD.cells ([])) 44 2, blk g21 [.bool false, .slice none 0 0, .slice none 0 0, .slice none 0 0, .slice none 0 0] 27] := H314.free (row_nil 9 1)
  have H316 : Own w D w311 [sepL (List.flatMap Row46D.own ([])), row none 0 0 (List.flatMap eS ([])) 9 1, row none 0 0 (List.flatMap (eI .i64) ([])) 3 1, row none 0 0 (List.flatMap PairD.cells ([])) 44 2, blk g21 [.bool false, .slice none 0 0, .slice none 0 0, .slice none 0 0, .slice none 0 0] 27] := H315.sepNil
  have H317 : Own w D w311 [row none 0 0 (List.flatMap (Sv.enc (β := EntryD)) ([])) 46 1, sepL (List.flatMap Row46D.own ([])), row none 0 0 (List.flatMap eS ([])) 9 1, row none 0 0 (List.flatMap (eI .i64) ([])) 3 1, row none 0 0 (List.flatMap PairD.cells ([])) 44 2, blk g21 [.bool false, .slice none 0 0, .slice none 0 0, .slice none 0 0, .slice none 0 0] 27] := H316.free (row_nil 46 1)
  have H318 := H317.pick [4, 3, 2, 0, 1] (by decide) rfl
  have e : node_Decode l0 = (NodeT.mk false (Ll.mk ([])) (Ll.mk ([])) (Ll.mk ([])) (Ll.mk ([])), 130) := Eq.trans (if_neg h24) (Eq.trans (bnd_of hr39) (Eq.trans (bnd_of hr55) (Eq.trans (if_neg h63) (Eq.trans (if_neg h164) (Eq.trans (bnd_of hr277) (Eq.trans (bnd_of hr291) (Eq.trans (bnd_of hr305) (if_pos h310))))))))
  obtain ⟨rfl, rfl⟩ := pj2 (e.symm.trans hr)
  exact ⟨none, 0, none, 0, none, 0, none, 0, [], rfl, H318, rfl⟩
  refine Wp.cond1 rfl (decide_eq_true h310) (Wp.seq (Wp.region (Kn (v := .agg #[.bool false, .slice none 0 0, .slice none 0 0, .slice none 0 0, .slice none 0 0]) rfl rfl rfl (fun _ => by kernel_rfl) (Mv rfl rfl ?_))))
  refine WL.do0 (Do.store (vs := [.bool false, .slice none 0 0, .slice none 0 0, .slice none 0 0, .slice none 0 0]) (o := 0) H309 rfl rfl Tryz.sizeOf27 rfl rfl rfl rfl ?_)
  intro w319 H320
  refine As rfl rfl (WL.nil (Fin.then (Wp.ret (Fin.thenR (Fin.res (resN (vs := [.agg #[.bool false, .slice none 0 0, .slice none 0 0, .slice none 0 0, .slice none 0 0], .int .i64 r304]) rfl (ResV.cell rfl (Lds.agg (cs := [.bool false, .slice none 0 0, .slice none 0 0, .slice none 0 0, .slice none 0 0]) Tryz.isAgg27 Tryz.sizeOf27 ((H320.cls (i := 0) rfl).lit (k := 0) (m := 5) rfl)) (ResV.tmp rfl ResV.nil)) (Nat.le_of_ble_eq_true rfl)) ?_)))))
  have H321 : Own w D w319 [row none 0 0 (List.flatMap PairD.cells ([])) 44 2, blk g21 [.bool false, .slice none 0 0, .slice none 0 0, .slice none 0 0, .slice none 0 0] 27] := H320.free (row_nil 44 2)
  have H322 : Own w D w319 [row none 0 0 (List.flatMap (eI .i64) ([])) 3 1, row none 0 0 (List.flatMap PairD.cells ([])) 44 2, blk g21 [.bool false, .slice none 0 0, .slice none 0 0, .slice none 0 0, .slice none 0 0] 27] := H321.free (row_nil 3 1)
  have H323 : Own w D w319 [row none 0 0 (List.flatMap eS ([])) 9 1, row none 0 0 (List.flatMap (eI .i64) ([])) 3 1, row none 0 0 (List.flatMap PairD.cells ([])) 44 2, blk g21 [.bool false, .slice none 0 0, .slice none 0 0, .slice none 0 0, .slice none 0 0] 27] := H322.free (row_nil 9 1)
  have H324 : Own w D w319 [sepL (List.flatMap Row46D.own ([])), row none 0 0 (List.flatMap eS ([])) 9 1, row none 0 0 (List.flatMap (eI .i64) ([])) 3 1, row none 0 0 (List.flatMap PairD.cells ([])) 44 2, blk g21 [.bool false, .slice none 0 0, .slice none 0 0, .slice none 0 0, .slice none 0 0] 27] := H323.sepNil
  have H325 : Own w D w319 [row none 0 0 (List.flatMap (Sv.enc (β := EntryD)) ([])) 46 1, sepL (List.flatMap Row46D.own ([])), row none 0 0 (List.flatMap eS ([])) 9 1, row none 0 0 (List.flatMap (eI .i64) ([])) 3 1, row none 0 0 (List.flatMap PairD.cells ([])) 44 2, blk g21 [.bool false, .slice none 0 0, .slice none 0 0, .slice none 0 0, .slice none 0 0] 27] := H324.free (row_nil 46 1)
  have H326 := H325.pick [4, 3, 2, 0, 1] (by decide) rfl
  have e : node_Decode l0 = (NodeT.mk false (Ll.mk ([])) (Ll.mk ([])) (Ll.mk ([])) (Ll.mk ([])), r304) := Eq.trans (if_neg h24) (Eq.trans (bnd_of hr39) (Eq.trans (bnd_of hr55) (Eq.trans (if_neg h63) (Eq.trans (if_neg h164) (Eq.trans (bnd_of hr277) (Eq.trans (bnd_of hr291) (Eq.trans (bnd_of hr305) (if_neg h310))))))))
  obtain ⟨rfl, rfl⟩ := pj2 (e.symm.trans hr)
  exact ⟨none, 0, none, 0, none, 0, none, 0, [], rfl, H326, rfl⟩
end Go.Proofs.YtfkkipmdnjfocaaGreat
