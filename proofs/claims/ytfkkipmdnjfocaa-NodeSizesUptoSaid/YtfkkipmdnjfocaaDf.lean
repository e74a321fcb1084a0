/-
  node: a node of its bytes.
-/
import Derived.Test.YtfkkipmdnjfocaaDc
namespace Go.Proofs.Ytfkkipmdnjfocaa
open Go.RowKit
set_option linter.unusedVariables false
set_option linter.unusedSectionVars false
set_option linter.unusedSimpArgs false

def node_readText (p0 : ReaderT) : (List UInt8) × ReaderT :=
  bnd (reader_Reader_Text p0 480) fun yr26 => (yr26.1, yr26.2)

set_option maxRecDepth 100000 in
theorem node_readText_ok (w : World) (D : Nat → Prop) (g0 : Nat) (p0 : ReaderT) (A0x0 : Option Addr) (c0x0 : Nat) (r0 : List UInt8) (r1 : ReaderT) (H : Own w D w [blk g0 [.slice A0x0 (List.length p0.xrest.ls) c0x0, .int .i64 p0.xerrno] 84]) (hx0x0 : Ro w D fun w' => Rds w' 1 A0x0 (List.length p0.xrest.ls) (List.flatMap eB p0.xrest.ls)) (hb0x0 : List.length p0.xrest.ls ≤ c0x0 ∧ List.length p0.xrest.ls ≤ 9223372036854775807) (hr : node_readText p0 = (r0, r1)) :
    Calls Try.prog 43 #[.pointer (some ⟨g0, 0, none⟩)] w (Ret fun v w' => ∃ (B1ox0 : Option Addr) (b1ox0 : Nat), v = .string ⟨List.toArray r0⟩ ∧ Own w D w' [blk g0 [.slice B1ox0 (List.length r1.xrest.ls) b1ox0, .int .i64 r1.xerrno] 84] ∧ (SubS 1 A0x0 c0x0 p0.xrest.ls B1ox0 b1ox0 r1.xrest.ls)) := by
  refine Calls.body (args := [.pointer (some ⟨g0, 0, none⟩)]) Try.func43 rfl rfl rfl ?_
  show Wp _ _ _ [(0, .pointer (some ⟨g0, 0, none⟩))] _ _
  refine Wp.seq (Wp.region (As rfl rfl (WL.nil (Fin.then (Wp.seq (Wp.region (Mv rfl rfl ?_)))))))
  obtain ⟨⟨r26, r27⟩, hr28⟩ : ∃ q : (List UInt8) × ReaderT, reader_Reader_Text p0 480 = q := ⟨_, rfl⟩
  obtain ⟨D21, HP22, ro23, bk24, rr25⟩ := Own.enter1 H
  refine WL.do rfl (Do.call Try.call55 rfl (reader_Reader_Text_ok _ _ g0 p0 A0x0 c0x0 480 r26 r27 HP22 (ro23 _ hx0x0) (show List.length p0.xrest.ls ≤ c0x0 ∧ List.length p0.xrest.ls ≤ 9223372036854775807 from by omega) hr28) ?_)
  rintro _ w29 ⟨A32, c33, rfl, HQ30, hs34⟩
  have H31 : Own w D w29 [blk g0 [.slice A32 (List.length r27.xrest.ls) c33, .int .i64 r27.xerrno] 84] := bk24 _ _ HQ30
  replace hs34 : SubS 1 A0x0 c0x0 p0.xrest.ls A32 c33 r27.xrest.ls := hs34
  have hz35 := (hs34).le
  refine As rfl rfl (WL.nil (Fin.then (Wp.ret (Fin.res (res1 rfl rfl) ?_))))
  have H36 : Own w D w29 [blk g0 [.slice A32 (List.length r27.xrest.ls) c33, .int .i64 r27.xerrno] 84] := H31.pick [0] (by decide) rfl
  have e : node_readText p0 = (r26, r27) := bnd_of hr28
  obtain ⟨rfl, rfl⟩ := pj2 (e.symm.trans hr)
  exact ⟨A32, c33, rfl, H36, hs34⟩

def node_readPair (p0 : ReaderT) : PairD × ReaderT :=
  bnd (node_readText p0) fun yr30 => bnd (node_readText yr30.2) fun yr45 => (PairD.mk yr30.1 yr45.1, yr45.2)

set_option maxRecDepth 100000 in
theorem node_readPair_ok (w : World) (D : Nat → Prop) (g0 : Nat) (p0 : ReaderT) (A0x0 : Option Addr) (c0x0 : Nat) (r0 : PairD) (r1 : ReaderT) (H : Own w D w [blk g0 [.slice A0x0 (List.length p0.xrest.ls) c0x0, .int .i64 p0.xerrno] 84]) (hx0x0 : Ro w D fun w' => Rds w' 1 A0x0 (List.length p0.xrest.ls) (List.flatMap eB p0.xrest.ls)) (hb0x0 : List.length p0.xrest.ls ≤ c0x0 ∧ List.length p0.xrest.ls ≤ 9223372036854775807) (hr : node_readPair p0 = (r0, r1)) :
    Calls Try.prog 27 #[.pointer (some ⟨g0, 0, none⟩)] w (Ret fun v w' => ∃ (B1ox0 : Option Addr) (b1ox0 : Nat), v = .agg (PairD.cells r0).toArray ∧ Own w D w' [blk g0 [.slice B1ox0 (List.length r1.xrest.ls) b1ox0, .int .i64 r1.xerrno] 84] ∧ (SubS 1 A0x0 c0x0 p0.xrest.ls B1ox0 b1ox0 r1.xrest.ls)) := by
  refine Calls.body (args := [.pointer (some ⟨g0, 0, none⟩)]) Try.func27 rfl rfl rfl ?_
  show Wp _ _ _ [(0, .pointer (some ⟨g0, 0, none⟩))] _ _
  refine Wp.seq (Wp.region ?_)
  refine WL.do rfl (Do.newP (cs := [.string ⟨List.toArray ([])⟩, .string ⟨List.toArray ([])⟩]) (t := 40) H rfl rfl (fun _ => by kernel_rfl) ?_)
  intro g21 w22 H23
  replace H23 : Own w D w22 [blk g21 [.string ⟨List.toArray ([])⟩, .string ⟨List.toArray ([])⟩] 40, blk g0 [.slice A0x0 (List.length p0.xrest.ls) c0x0, .int .i64 p0.xerrno] 84] := H23
  refine WL.nil (Fin.then (Wp.seq (Wp.region (Mv rfl rfl ?_))))
  have H24 : Own w D w22 [blk g0 [.slice A0x0 (List.length p0.xrest.ls) c0x0, .int .i64 p0.xerrno] 84, blk g21 [.string ⟨List.toArray ([])⟩, .string ⟨List.toArray ([])⟩] 40] := H23.pick [1, 0] (by decide) rfl
  obtain ⟨⟨r30, r31⟩, hr32⟩ : ∃ q : (List UInt8) × ReaderT, node_readText p0 = q := ⟨_, rfl⟩
  obtain ⟨D25, HP26, ro27, bk28, rr29⟩ := Own.enter1 H24
  refine WL.do rfl (Do.call Try.call43 rfl (node_readText_ok _ _ g0 p0 A0x0 c0x0 r30 r31 HP26 (ro27 _ hx0x0) (show List.length p0.xrest.ls ≤ c0x0 ∧ List.length p0.xrest.ls ≤ 9223372036854775807 from by omega) hr32) ?_)
  rintro _ w33 ⟨A36, c37, rfl, HQ34, hs38⟩
  have H35 : Own w D w33 [blk g0 [.slice A36 (List.length r31.xrest.ls) c37, .int .i64 r31.xerrno] 84, blk g21 [.string ⟨List.toArray ([])⟩, .string ⟨List.toArray ([])⟩] 40] := bk28 _ _ HQ34
  replace hs38 : SubS 1 A0x0 c0x0 p0.xrest.ls A36 c37 r31.xrest.ls := hs38
  have hz39 := (hs38).le
  refine As rfl rfl (WL.nil (Fin.then (Wp.seq (Wp.region (Mv rfl rfl (Mv rfl rfl ?_))))))
  obtain ⟨⟨r45, r46⟩, hr47⟩ : ∃ q : (List UInt8) × ReaderT, node_readText r31 = q := ⟨_, rfl⟩
  obtain ⟨D40, HP41, ro42, bk43, rr44⟩ := Own.enter1 H35
  refine WL.do rfl (Do.call Try.call43 rfl (node_readText_ok _ _ g0 r31 A36 c37 r45 r46 HP41 (fun w9 h9 => SubS.rds eB_len (by decide) hs38 ((ro42 _ hx0x0) w9 h9)) (show List.length r31.xrest.ls ≤ c37 ∧ List.length r31.xrest.ls ≤ 9223372036854775807 from by omega) hr47) ?_)
  rintro _ w48 ⟨A51, c52, rfl, HQ49, hs53⟩
  have H50 : Own w D w48 [blk g0 [.slice A51 (List.length r46.xrest.ls) c52, .int .i64 r46.xerrno] 84, blk g21 [.string ⟨List.toArray ([])⟩, .string ⟨List.toArray ([])⟩] 40] := bk43 _ _ HQ49
  replace hs53 : SubS 1 A36 c37 r31.xrest.ls A51 c52 r46.xrest.ls := hs53
  have hz54 := (hs53).le
  refine Kn (v := .agg #[.string ⟨List.toArray r30⟩, .string ⟨List.toArray r45⟩]) rfl rfl rfl (fun _ => by kernel_rfl) ?_
  have H55 : Own w D w48 [blk g21 [.string ⟨List.toArray ([])⟩, .string ⟨List.toArray ([])⟩] 40, blk g0 [.slice A51 (List.length r46.xrest.ls) c52, .int .i64 r46.xerrno] 84] := H50.pick [1, 0] (by decide) rfl
  refine WL.do0 (Do.store (vs := [.string ⟨List.toArray r30⟩, .string ⟨List.toArray r45⟩]) (o := 0) H55 rfl rfl Try.sizeOf40 rfl rfl rfl rfl ?_)
  intro w56 H57
  replace H57 : Own w D w56 [blk g21 [.string ⟨List.toArray r30⟩, .string ⟨List.toArray r45⟩] 40, blk g0 [.slice A51 (List.length r46.xrest.ls) c52, .int .i64 r46.xerrno] 84] := H57
  refine WL.nil (Fin.then (Wp.ret (Fin.res (resC rfl rfl (Lds.agg (cs := [.string ⟨List.toArray r30⟩, .string ⟨List.toArray r45⟩]) Try.isAgg40 Try.sizeOf40 ((H57.cls (i := 0) rfl).lit (k := 0) (m := 2) rfl))) ?_)))
  have H58 : Own w D w56 [blk g0 [.slice A51 (List.length r46.xrest.ls) c52, .int .i64 r46.xerrno] 84] := H57.pick [1] (by decide) rfl
  have e : node_readPair p0 = (PairD.mk r30 r45, r46) := Eq.trans (bnd_of hr32) (bnd_of hr47)
  obtain ⟨rfl, rfl⟩ := pj2 (e.symm.trans hr)
  exact ⟨A51, c52, rfl, H58, (SubS.trans hs38 hs53)⟩

def reader_Times_api_Pair_L0 (p1 : Int) : Nat → List PairD → Nat → List UInt8 → Int → (List PairD) × (List UInt8) × Int
  | 0, l31, k32, l35, z36 => default
  | q37 + 1, l31, k32, l35, z36 => if ((k32 : Nat) : Int) < p1 then if z36 = 0 then bnd (node_readPair (ReaderT.mk (Ll.mk l35) z36)) fun yr58 => reader_Times_api_Pair_L0 p1 q37 (l31 ++ [yr58.1]) (k32 + 1) yr58.2.xrest.ls yr58.2.xerrno else (l31, l35, z36) else (l31, l35, z36)

def reader_Times_api_Pair (p0 : ReaderT) (p1 : Int) : (List PairD) × ReaderT :=
  bnd (bnd (reader_Times_api_Pair_L0 p1 ((Int.toNat p1 - 0) + 1) ([]) 0 p0.xrest.ls p0.xerrno) fun sLrJjL => (sLrJjL.1, sLrJjL.2.1, sLrJjL.2.2)) fun sJrJ => (sJrJ.1, ReaderT.mk (Ll.mk sJrJ.2.1) sJrJ.2.2)

set_option maxRecDepth 100000 in
theorem reader_Times_api_Pair_ok (w : World) (D : Nat → Prop) (g0 : Nat) (p0 : ReaderT) (A0x0 : Option Addr) (c0x0 : Nat) (p1 : Int) (r0 : List PairD) (r1 : ReaderT) (H : Own w D w [blk g0 [.slice A0x0 (List.length p0.xrest.ls) c0x0, .int .i64 p0.xerrno] 84]) (hx0x0 : Ro w D fun w' => Rds w' 1 A0x0 (List.length p0.xrest.ls) (List.flatMap eB p0.xrest.ls)) (hb0x0 : List.length p0.xrest.ls ≤ c0x0 ∧ List.length p0.xrest.ls ≤ 9223372036854775807) (hh0 : p1 ≤ 1000) (hr : reader_Times_api_Pair p0 p1 = (r0, r1)) :
    Calls Try.prog 41 #[.pointer (some ⟨g0, 0, none⟩), .int .i64 p1, .func (.func 27) #[] #[]] w (Ret fun v w' => ∃ (B0 : Option Addr) (b0 : Nat) (B1ox0 : Option Addr) (b1ox0 : Nat), v = .slice B0 (List.length r0) b0 ∧ Own w D w' [row B0 (List.length r0) b0 (List.flatMap PairD.cells r0) 40 2, blk g0 [.slice B1ox0 (List.length r1.xrest.ls) b1ox0, .int .i64 r1.xerrno] 84] ∧ (SubS 1 A0x0 c0x0 p0.xrest.ls B1ox0 b1ox0 r1.xrest.ls) ∧ (List.length r0 ≤ 1000)) := by
  refine Calls.body (args := [.pointer (some ⟨g0, 0, none⟩), .int .i64 p1, .func (.func 27) #[] #[]]) Try.func41 rfl rfl rfl ?_
  show Wp _ _ _ [(0, .pointer (some ⟨g0, 0, none⟩)), (1, .int .i64 p1), (2, .func (.func 27) #[] #[])] _ _
  refine Wp.seq (Wp.region (As rfl rfl (WL.nil (Fin.then (Wp.seq (Wp.region (As rfl rfl (WL.nil (Fin.then (Wp.seq (Wp.seq (Wp.region (As rfl rfl (WL.nil (Fin.then ?_)))))))))))))))
  refine Wp.joinT (ι := (Option Addr) × Nat × (List PairD) × (Option Addr) × Nat × (List UInt8) × Int) (fun i => [(7, .slice i.1 (List.length i.2.2.1) i.2.1), (6, .slice none 0 0)]) (fun (i : (Option Addr) × Nat × (List PairD) × (Option Addr) × Nat × (List UInt8) × Int) w' => Own w D w' [blk g0 [.slice i.2.2.2.1 (List.length i.2.2.2.2.2.1) i.2.2.2.2.1, .int .i64 i.2.2.2.2.2.2] 84, row i.1 (List.length i.2.2.1) i.2.1 (List.flatMap PairD.cells i.2.2.1) 40 2] ∧ (SubS 1 A0x0 c0x0 p0.xrest.ls i.2.2.2.1 i.2.2.2.2.1 i.2.2.2.2.2.1 ∧ 0 ≤ List.length i.2.2.1 ∧ List.length i.2.2.2.2.2.1 ≤ List.length p0.xrest.ls ∧ List.length i.2.2.2.2.2.1 ≤ List.length p0.xrest.ls + 1 ∧ List.length i.2.2.1 ≤ 1000 ∧ (bnd (reader_Times_api_Pair_L0 p1 ((Int.toNat p1 - 0) + 1) ([]) 0 p0.xrest.ls p0.xerrno) fun sLrJjL => (sLrJjL.1, sLrJjL.2.1, sLrJjL.2.2)) = (i.2.2.1, i.2.2.2.2.2.1, i.2.2.2.2.2.2))) ?_ ?_
  refine Wp.block ?_
  have H28 : Own w D w [row none 0 0 (List.flatMap PairD.cells ([])) 40 2, blk g0 [.slice A0x0 (List.length p0.xrest.ls) c0x0, .int .i64 p0.xerrno] 84] := H.free (row_nil 40 2)
  have H39 : Own w D w [blk g0 [.slice A0x0 (List.length p0.xrest.ls) c0x0, .int .i64 p0.xerrno] 84, row none 0 0 (List.flatMap PairD.cells ([])) 40 2] := H28.pick [1, 0] (by decide) rfl
  refine Wp.loop (ι := (Option Addr) × Nat × (List PairD) × Nat × (Option Addr) × Nat × (List UInt8) × Int × Nat) (fun i => [(7, .slice i.1 (List.length i.2.2.1) i.2.1), (8, .int .i64 ((i.2.2.2.1 : Nat) : Int)), (6, .slice none 0 0), (0, .pointer (some ⟨g0, 0, none⟩)), (1, .int .i64 p1), (2, .func (.func 27) #[] #[])]) (fun (i : (Option Addr) × Nat × (List PairD) × Nat × (Option Addr) × Nat × (List UInt8) × Int × Nat) w' => Own w D w' [blk g0 [.slice i.2.2.2.2.1 (List.length i.2.2.2.2.2.2.1) i.2.2.2.2.2.1, .int .i64 i.2.2.2.2.2.2.2.1] 84, row i.1 (List.length i.2.2.1) i.2.1 (List.flatMap PairD.cells i.2.2.1) 40 2] ∧ (SubS 1 A0x0 c0x0 p0.xrest.ls i.2.2.2.2.1 i.2.2.2.2.2.1 i.2.2.2.2.2.2.1 ∧ List.length i.2.2.1 ≤ i.2.2.2.1 ∧ (i.2.2.2.1 = 0 ∨ ((i.2.2.2.1 : Nat) : Int) ≤ p1) ∧ Int.toNat p1 - i.2.2.2.1 < i.2.2.2.2.2.2.2.2 ∧ reader_Times_api_Pair_L0 p1 ((Int.toNat p1 - 0) + 1) ([]) 0 p0.xrest.ls p0.xerrno = reader_Times_api_Pair_L0 p1 i.2.2.2.2.2.2.2.2 i.2.2.1 i.2.2.2.1 i.2.2.2.2.2.2.1 i.2.2.2.2.2.2.2.1)) (fun i => i.2.2.2.2.2.2.2.2) (none, 0, [], 0, A0x0, c0x0, p0.xrest.ls, p0.xerrno, (Int.toNat p1 - 0) + 1) ⟨rfl, rfl, rfl, rfl, rfl, rfl, trivial⟩ ⟨H39, (show SubS 1 A0x0 c0x0 p0.xrest.ls A0x0 c0x0 p0.xrest.ls ∧ 0 ≤ 0 ∧ (0 = 0 ∨ ((0 : Nat) : Int) ≤ p1) ∧ Int.toNat p1 - 0 < ((Int.toNat p1 - 0) + 1) ∧ reader_Times_api_Pair_L0 p1 ((Int.toNat p1 - 0) + 1) ([]) 0 p0.xrest.ls p0.xerrno = reader_Times_api_Pair_L0 p1 ((Int.toNat p1 - 0) + 1) ([]) 0 p0.xrest.ls p0.xerrno from ⟨by exact (SubS.refl (by omega)), by omega, by omega, by omega, rfl⟩)⟩ ?_
  rintro ⟨A29, c30, l31, k32, A33, c34, l35, z36, f38⟩ w40 ⟨H41, hf42⟩
  show Wp _ _ _ [(7, .slice A29 (List.length l31) c30), (8, .int .i64 ((k32 : Nat) : Int)), (6, .slice none 0 0), (0, .pointer (some ⟨g0, 0, none⟩)), (1, .int .i64 p1), (2, .func (.func 27) #[] #[])] _ _
  replace H41 : Own w D w40 [blk g0 [.slice A33 (List.length l35) c34, .int .i64 z36] 84, row A29 (List.length l31) c30 (List.flatMap PairD.cells l31) 40 2] := H41
  replace hf42 : SubS 1 A0x0 c0x0 p0.xrest.ls A33 c34 l35 ∧ List.length l31 ≤ k32 ∧ (k32 = 0 ∨ ((k32 : Nat) : Int) ≤ p1) ∧ Int.toNat p1 - k32 < f38 ∧ reader_Times_api_Pair_L0 p1 ((Int.toNat p1 - 0) + 1) ([]) 0 p0.xrest.ls p0.xerrno = reader_Times_api_Pair_L0 p1 f38 l31 k32 l35 z36 := hf42
  obtain ⟨hi44, hi45, hi46, hi47, hq43⟩ := hf42
  have hz48 := (hi44).le
  obtain ⟨f49, hf50⟩ : ∃ q, f38 = q + 1 := ⟨f38 - 1, by omega⟩
  subst hf50
  refine Wp.seq (Wp.seq (Wp.region (Mv rfl rfl (Mv rfl rfl (Kn (v := .bool (decide (((k32 : Nat) : Int) < p1))) rfl rfl rfl (fun _ => by kernel_rfl) (Mv rfl rfl ?_))))))
  by_cases h51 : ((k32 : Nat) : Int) < p1
  refine WL.valG (v := .pointer (some ⟨g0, 0, none⟩)) rfl rfl (decide_eq_true h51) rfl (Yl.move rfl) (WL.valG (v := .pointer (some ⟨g0, 0, none⟩)) rfl rfl (decide_eq_true h51) rfl (Yl.kern rfl rfl (fun _ => by kernel_rfl)) (WL.valG (v := .pointer (some ⟨g0, 1, none⟩)) rfl rfl (decide_eq_true h51) rfl (Yl.kern rfl rfl (fun _ => by kernel_rfl)) (WL.valG (v := .int .i64 z36) rfl rfl (decide_eq_true h51) rfl (Yl.load rfl (Lds.one Try.isAgg29 (Cls.of (H41.cls (i := 0) rfl) rfl))) (WL.valG (v := .bool (decide (z36 = 0))) rfl rfl (decide_eq_true h51) rfl (Yl.kern rfl rfl (fun _ => by kernel_rfl)) (WL.val (v := .bool (decide (z36 = 0))) rfl (Yl.pickT rfl (decide_eq_true h51) rfl) (WL.nil (Fin.then ?_)))))))
  by_cases h52 : z36 = 0
  refine Wp.cond1 rfl (decide_eq_true h52) (Wp.skip (Fin.then (Wp.seq (Wp.block (Wp.region (Mv rfl rfl (Mv rfl rfl (Mv rfl rfl ?_))))))))
  obtain ⟨⟨r58, r59⟩, hr60⟩ : ∃ q : PairD × ReaderT, node_readPair (ReaderT.mk (Ll.mk l35) z36) = q := ⟨_, rfl⟩
  obtain ⟨D53, HP54, ro55, bk56, rr57⟩ := Own.enter1 H41
  refine WL.do rfl (Do.callV Try.call27 rfl rfl (node_readPair_ok _ _ g0 (ReaderT.mk (Ll.mk l35) z36) A33 c34 r58 r59 HP54 (fun w9 h9 => SubS.rds eB_len (by decide) hi44 ((ro55 _ hx0x0) w9 h9)) (show List.length l35 ≤ c34 ∧ List.length l35 ≤ 9223372036854775807 from by omega) hr60) ?_)
  rintro _ w61 ⟨A64, c65, rfl, HQ62, hs66⟩
  have H63 : Own w D w61 [blk g0 [.slice A64 (List.length r59.xrest.ls) c65, .int .i64 r59.xerrno] 84, row A29 (List.length l31) c30 (List.flatMap PairD.cells l31) 40 2] := bk56 _ _ HQ62
  replace hs66 : SubS 1 A33 c34 l35 A64 c65 r59.xrest.ls := hs66
  have hz67 := (hs66).le
  refine WL.do rfl (Do.newRow (cs := (PairD.cells r58)) (t := 40) (sz := 2) (m := 1) H63 rfl rfl (fun _ => by kernel_rfl) rfl (by decide) ?_)
  intro A68 w69 H70
  replace H70 : Own w D w69 [row A68 1 1 (List.flatMap PairD.cells ([r58])) 40 2, blk g0 [.slice A64 (List.length r59.xrest.ls) c65, .int .i64 r59.xerrno] 84, row A29 (List.length l31) c30 (List.flatMap PairD.cells l31) 40 2] := H70
  have H71 : Own w D w69 [row A29 (List.length l31) c30 (List.flatMap PairD.cells l31) 40 2, row A68 1 1 (List.flatMap PairD.cells ([r58])) 40 2, blk g0 [.slice A64 (List.length r59.xrest.ls) c65, .int .i64 r59.xerrno] 84] := H70.pick [2, 0, 1] (by decide) rfl
  refine WL.do rfl (Do.appendW (k := List.length l31) (m := 1) (El22) H71 rfl rfl (src_of Try.underlying22 (H71.rds (i := 1) rfl) (flat_one PairD.one ([r58]))) rfl (by omega) (s := List.length (l31 ++ [r58])) (by first | omega | (simp only [List.length_append, List.length_cons, List.length_nil] <;> omega)) (List.flatMap_append).symm ?_)
  intro A72 c73 w74 H75
  replace H75 : Own w D w74 [row A72 (List.length (l31 ++ [r58])) c73 (List.flatMap PairD.cells (l31 ++ [r58])) 40 2, row A68 1 1 (List.flatMap PairD.cells ([r58])) 40 2, blk g0 [.slice A64 (List.length r59.xrest.ls) c65, .int .i64 r59.xerrno] 84] := H75
  have hl76 : List.length (l31 ++ [r58]) = List.length l31 + 1 := by simp only [List.length_append, List.length_cons, List.length_nil]
  refine As rfl rfl (WL.nil (Fin.blockN (Fin.then (Wp.region (Mv rfl rfl (WL.val (v := .int .i64 ((k32 + 1 : Nat) : Int)) rfl (Yl.int (e := IntKind.i64.wrap (((k32 : Nat) : Int) + 1)) (Yl.kern rfl rfl (fun _ => by kernel_rfl)) (by rw [IntWalk.i64_in _ (by omega)]; omega)) (As rfl rfl (WL.nil ?_))))))))
  have H77 : Own w D w74 [blk g0 [.slice A64 (List.length r59.xrest.ls) c65, .int .i64 r59.xerrno] 84, row A72 (List.length (l31 ++ [r58])) c73 (List.flatMap PairD.cells (l31 ++ [r58])) 40 2] := H75.pick [2, 0] (by decide) rfl
  exact Fin.round (A72, c73, (l31 ++ [r58]), k32 + 1, A64, c65, r59.xrest.ls, r59.xerrno, f49) ⟨rfl, rfl, rfl, rfl, rfl, rfl, trivial⟩ ⟨H77, (show SubS 1 A0x0 c0x0 p0.xrest.ls A64 c65 r59.xrest.ls ∧ List.length (l31 ++ [r58]) ≤ (k32 + 1) ∧ ((k32 + 1) = 0 ∨ (((k32 + 1) : Nat) : Int) ≤ p1) ∧ Int.toNat p1 - (k32 + 1) < f49 ∧ reader_Times_api_Pair_L0 p1 ((Int.toNat p1 - 0) + 1) ([]) 0 p0.xrest.ls p0.xerrno = reader_Times_api_Pair_L0 p1 f49 (l31 ++ [r58]) (k32 + 1) r59.xrest.ls r59.xerrno from ⟨by exact (SubS.trans hi44 hs66), by omega, by omega, by omega, Eq.trans (hq43) (Eq.trans (if_pos h51) (Eq.trans (if_pos h52) (bnd_of hr60)))⟩)⟩ (by show f49 < f49 + 1; omega)
  refine Wp.cond0 rfl (decide_eq_false h52) (Wp.exit (Fin.thenX (Fin.thenX (Fin.blockX ?_))))
  have H78 : Own w D w40 [blk g0 [.slice A33 (List.length l35) c34, .int .i64 z36] 84, row A29 (List.length l31) c30 (List.flatMap PairD.cells l31) 40 2] := H41.pick [0, 1] (by decide) rfl
  exact Fin.join (A29, c30, l31, A33, c34, l35, z36) ⟨rfl, rfl, trivial⟩ ⟨H78, (show SubS 1 A0x0 c0x0 p0.xrest.ls A33 c34 l35 ∧ 0 ≤ List.length l31 ∧ List.length l35 ≤ List.length p0.xrest.ls ∧ List.length l35 ≤ List.length p0.xrest.ls + 1 ∧ List.length l31 ≤ 1000 ∧ (bnd (reader_Times_api_Pair_L0 p1 ((Int.toNat p1 - 0) + 1) ([]) 0 p0.xrest.ls p0.xerrno) fun sLrJjL => (sLrJjL.1, sLrJjL.2.1, sLrJjL.2.2)) = (l31, l35, z36) from ⟨by exact hi44, by omega, by omega, by omega, by omega, bnd_of (Eq.trans (hq43) (Eq.trans (if_pos h51) (if_neg h52)))⟩)⟩
  refine Sk rfl rfl (decide_eq_false h51) rfl (Sk rfl rfl (decide_eq_false h51) rfl (Sk rfl rfl (decide_eq_false h51) rfl (Sk rfl rfl (decide_eq_false h51) rfl (Sk rfl rfl (decide_eq_false h51) rfl (WL.val (v := .bool false) rfl (Yl.pickF rfl (decide_eq_false h51) rfl) (WL.nil (Fin.then (Wp.cond0 rfl rfl (Wp.exit (Fin.thenX (Fin.thenX (Fin.blockX ?_))))))))))))
  have H79 : Own w D w40 [blk g0 [.slice A33 (List.length l35) c34, .int .i64 z36] 84, row A29 (List.length l31) c30 (List.flatMap PairD.cells l31) 40 2] := H41.pick [0, 1] (by decide) rfl
  exact Fin.join (A29, c30, l31, A33, c34, l35, z36) ⟨rfl, rfl, trivial⟩ ⟨H79, (show SubS 1 A0x0 c0x0 p0.xrest.ls A33 c34 l35 ∧ 0 ≤ List.length l31 ∧ List.length l35 ≤ List.length p0.xrest.ls ∧ List.length l35 ≤ List.length p0.xrest.ls + 1 ∧ List.length l31 ≤ 1000 ∧ (bnd (reader_Times_api_Pair_L0 p1 ((Int.toNat p1 - 0) + 1) ([]) 0 p0.xrest.ls p0.xerrno) fun sLrJjL => (sLrJjL.1, sLrJjL.2.1, sLrJjL.2.2)) = (l31, l35, z36) from ⟨by exact hi44, by omega, by omega, by omega, by omega, bnd_of (Eq.trans (hq43) (if_neg h51))⟩)⟩
  rintro ⟨A21, c22, l23, A24, c25, l26, z27⟩ w80 ⟨H81, hf82⟩
  show Wp _ _ _ [(7, .slice A21 (List.length l23) c22), (6, .slice none 0 0)] _ _
  replace H81 : Own w D w80 [blk g0 [.slice A24 (List.length l26) c25, .int .i64 z27] 84, row A21 (List.length l23) c22 (List.flatMap PairD.cells l23) 40 2] := H81
  replace hf82 : SubS 1 A0x0 c0x0 p0.xrest.ls A24 c25 l26 ∧ 0 ≤ List.length l23 ∧ List.length l26 ≤ List.length p0.xrest.ls ∧ List.length l26 ≤ List.length p0.xrest.ls + 1 ∧ List.length l23 ≤ 1000 ∧ (bnd (reader_Times_api_Pair_L0 p1 ((Int.toNat p1 - 0) + 1) ([]) 0 p0.xrest.ls p0.xerrno) fun sLrJjL => (sLrJjL.1, sLrJjL.2.1, sLrJjL.2.2)) = (l23, l26, z27) := hf82
  obtain ⟨hi84, hi85, hi86, hi87, hi88, hj83⟩ := hf82
  have hz89 := (hi84).le
  refine Wp.seq (Wp.region (Mv rfl rfl (As rfl rfl (WL.nil (Fin.then (Wp.ret (Fin.res (res1 rfl rfl) ?_)))))))
  have H90 : Own w D w80 [row A21 (List.length l23) c22 (List.flatMap PairD.cells l23) 40 2, blk g0 [.slice A24 (List.length l26) c25, .int .i64 z27] 84] := H81.pick [1, 0] (by decide) rfl
  have e : reader_Times_api_Pair p0 p1 = (l23, ReaderT.mk (Ll.mk l26) z27) := bnd_of hj83
  obtain ⟨rfl, rfl⟩ := pj2 (e.symm.trans hr)
  exact ⟨A21, c22, A24, c25, rfl, H90, hi84, (by omega)⟩

def reader_List_api_Pair (p0 : ReaderT) (p1 : Nat) : (List PairD) × ReaderT :=
  bnd (reader_Reader_Num p0 p1) fun yr26 => bnd (reader_Times_api_Pair yr26.2 ((yr26.1 : Nat) : Int)) fun yr42 => (yr42.1, yr42.2)

set_option maxRecDepth 100000 in
theorem reader_List_api_Pair_ok (w : World) (D : Nat → Prop) (g0 : Nat) (p0 : ReaderT) (A0x0 : Option Addr) (c0x0 : Nat) (p1 : Nat) (r0 : List PairD) (r1 : ReaderT) (H : Own w D w [blk g0 [.slice A0x0 (List.length p0.xrest.ls) c0x0, .int .i64 p0.xerrno] 84]) (hx0x0 : Ro w D fun w' => Rds w' 1 A0x0 (List.length p0.xrest.ls) (List.flatMap eB p0.xrest.ls)) (hb0x0 : List.length p0.xrest.ls ≤ c0x0 ∧ List.length p0.xrest.ls ≤ 9223372036854775807) (hh0 : p1 ≤ 1000) (hr : reader_List_api_Pair p0 p1 = (r0, r1)) :
    Calls Try.prog 26 #[.pointer (some ⟨g0, 0, none⟩), .int .u64 ((p1 : Nat) : Int), .func (.func 27) #[] #[]] w (Ret fun v w' => ∃ (B0 : Option Addr) (b0 : Nat) (B1ox0 : Option Addr) (b1ox0 : Nat), v = .slice B0 (List.length r0) b0 ∧ Own w D w' [row B0 (List.length r0) b0 (List.flatMap PairD.cells r0) 40 2, blk g0 [.slice B1ox0 (List.length r1.xrest.ls) b1ox0, .int .i64 r1.xerrno] 84] ∧ (SubS 1 A0x0 c0x0 p0.xrest.ls B1ox0 b1ox0 r1.xrest.ls) ∧ (List.length r0 ≤ 1000)) := by
  refine Calls.body (args := [.pointer (some ⟨g0, 0, none⟩), .int .u64 ((p1 : Nat) : Int), .func (.func 27) #[] #[]]) Try.func26 rfl rfl rfl ?_
  show Wp _ _ _ [(0, .pointer (some ⟨g0, 0, none⟩)), (1, .int .u64 ((p1 : Nat) : Int)), (2, .func (.func 27) #[] #[])] _ _
  refine Wp.seq (Wp.region (As rfl rfl (WL.nil (Fin.then (Wp.seq (Wp.region (Mv rfl rfl (Mv rfl rfl (Mv rfl rfl ?_)))))))))
  obtain ⟨⟨r26, r27⟩, hr28⟩ : ∃ q : Nat × ReaderT, reader_Reader_Num p0 p1 = q := ⟨_, rfl⟩
  obtain ⟨D21, HP22, ro23, bk24, rr25⟩ := Own.enter1 H
  refine WL.do rfl (Do.call Try.call42 rfl (reader_Reader_Num_ok _ _ g0 p0 A0x0 c0x0 p1 r26 r27 HP22 (ro23 _ hx0x0) (show List.length p0.xrest.ls ≤ c0x0 ∧ List.length p0.xrest.ls ≤ 9223372036854775807 from by omega) hr28) ?_)
  rintro _ w29 ⟨A32, c33, rfl, HQ30, hs34, hk35⟩
  have H31 : Own w D w29 [blk g0 [.slice A32 (List.length r27.xrest.ls) c33, .int .i64 r27.xerrno] 84] := bk24 _ _ HQ30
  replace hs34 : SubS 1 A0x0 c0x0 p0.xrest.ls A32 c33 r27.xrest.ls := hs34
  have hz36 := (hs34).le
  replace hk35 : r26 ≤ p1 := hk35
  refine WL.val (v := .int .i64 ((r26 : Nat) : Int)) rfl (Yl.int (e := IntKind.i64.wrap ((r26 : Nat) : Int)) (Yl.kern rfl rfl (fun _ => by kernel_rfl)) (IntWalk.i64_in _ (by omega))) (Mv rfl rfl ?_)
  obtain ⟨⟨r42, r43⟩, hr44⟩ : ∃ q : (List PairD) × ReaderT, reader_Times_api_Pair r27 ((r26 : Nat) : Int) = q := ⟨_, rfl⟩
  obtain ⟨D37, HP38, ro39, bk40, rr41⟩ := Own.enter1 H31
  refine WL.do rfl (Do.call Try.call41 rfl (reader_Times_api_Pair_ok _ _ g0 r27 A32 c33 ((r26 : Nat) : Int) r42 r43 HP38 (fun w9 h9 => SubS.rds eB_len (by decide) hs34 ((ro39 _ hx0x0) w9 h9)) (show List.length r27.xrest.ls ≤ c33 ∧ List.length r27.xrest.ls ≤ 9223372036854775807 from by omega) (by omega) hr44) ?_)
  rintro _ w45 ⟨A48, c49, A50, c51, rfl, HQ46, hs52, hk53⟩
  have H47 : Own w D w45 [row A48 (List.length r42) c49 (List.flatMap PairD.cells r42) 40 2, blk g0 [.slice A50 (List.length r43.xrest.ls) c51, .int .i64 r43.xerrno] 84] := bk40 _ _ HQ46
  replace hs52 : SubS 1 A32 c33 r27.xrest.ls A50 c51 r43.xrest.ls := hs52
  have hz54 := (hs52).le
  have hb55 := H47.rowC (i := 0) rfl
  replace hk53 : List.length r42 ≤ 1000 := hk53
  refine As rfl rfl (WL.nil (Fin.then (Wp.ret (Fin.res (res1 rfl rfl) ?_))))
  have H56 : Own w D w45 [row A48 (List.length r42) c49 (List.flatMap PairD.cells r42) 40 2, blk g0 [.slice A50 (List.length r43.xrest.ls) c51, .int .i64 r43.xerrno] 84] := H47.pick [0, 1] (by decide) rfl
  have e : reader_List_api_Pair p0 p1 = (r42, r43) := Eq.trans (bnd_of hr28) (bnd_of hr44)
  obtain ⟨rfl, rfl⟩ := pj2 (e.symm.trans hr)
  exact ⟨A48, c49, A50, c51, rfl, H56, (SubS.trans hs34 hs52), (by omega)⟩

def node_readKid (p0 : ReaderT) : Int × ReaderT :=
  bnd (reader_Reader_Num p0 2147483647) fun yr26 => (((yr26.1 : Nat) : Int), yr26.2)

set_option maxRecDepth 100000 in
theorem node_readKid_ok (w : World) (D : Nat → Prop) (g0 : Nat) (p0 : ReaderT) (A0x0 : Option Addr) (c0x0 : Nat) (r0 : Int) (r1 : ReaderT) (H : Own w D w [blk g0 [.slice A0x0 (List.length p0.xrest.ls) c0x0, .int .i64 p0.xerrno] 84]) (hx0x0 : Ro w D fun w' => Rds w' 1 A0x0 (List.length p0.xrest.ls) (List.flatMap eB p0.xrest.ls)) (hb0x0 : List.length p0.xrest.ls ≤ c0x0 ∧ List.length p0.xrest.ls ≤ 9223372036854775807) (hr : node_readKid p0 = (r0, r1)) :
    Calls Try.prog 45 #[.pointer (some ⟨g0, 0, none⟩)] w (Ret fun v w' => ∃ (B1ox0 : Option Addr) (b1ox0 : Nat), v = .int .i64 r0 ∧ Own w D w' [blk g0 [.slice B1ox0 (List.length r1.xrest.ls) b1ox0, .int .i64 r1.xerrno] 84] ∧ (SubS 1 A0x0 c0x0 p0.xrest.ls B1ox0 b1ox0 r1.xrest.ls)) := by
  refine Calls.body (args := [.pointer (some ⟨g0, 0, none⟩)]) Try.func45 rfl rfl rfl ?_
  show Wp _ _ _ [(0, .pointer (some ⟨g0, 0, none⟩))] _ _
  refine Wp.seq (Wp.region (As rfl rfl (WL.nil (Fin.then (Wp.seq (Wp.region (Mv rfl rfl ?_)))))))
  obtain ⟨⟨r26, r27⟩, hr28⟩ : ∃ q : Nat × ReaderT, reader_Reader_Num p0 2147483647 = q := ⟨_, rfl⟩
  obtain ⟨D21, HP22, ro23, bk24, rr25⟩ := Own.enter1 H
  refine WL.do rfl (Do.call Try.call42 rfl (reader_Reader_Num_ok _ _ g0 p0 A0x0 c0x0 2147483647 r26 r27 HP22 (ro23 _ hx0x0) (show List.length p0.xrest.ls ≤ c0x0 ∧ List.length p0.xrest.ls ≤ 9223372036854775807 from by omega) hr28) ?_)
  rintro _ w29 ⟨A32, c33, rfl, HQ30, hs34, hk35⟩
  have H31 : Own w D w29 [blk g0 [.slice A32 (List.length r27.xrest.ls) c33, .int .i64 r27.xerrno] 84] := bk24 _ _ HQ30
  replace hs34 : SubS 1 A0x0 c0x0 p0.xrest.ls A32 c33 r27.xrest.ls := hs34
  have hz36 := (hs34).le
  replace hk35 : r26 ≤ 2147483647 := hk35
  refine WL.val (v := .int .i64 ((r26 : Nat) : Int)) rfl (Yl.int (e := IntKind.i64.wrap ((r26 : Nat) : Int)) (Yl.kern rfl rfl (fun _ => by kernel_rfl)) (IntWalk.i64_in _ (by omega))) (As rfl rfl (WL.nil (Fin.then (Wp.ret (Fin.res (res1 rfl rfl) ?_)))))
  have H37 : Own w D w29 [blk g0 [.slice A32 (List.length r27.xrest.ls) c33, .int .i64 r27.xerrno] 84] := H31.pick [0] (by decide) rfl
  have e : node_readKid p0 = (((r26 : Nat) : Int), r27) := bnd_of hr28
  obtain ⟨rfl, rfl⟩ := pj2 (e.symm.trans hr)
  exact ⟨A32, c33, rfl, H37, hs34⟩

def reader_Times_int_L0 (p1 : Int) : Nat → List Int → Nat → List UInt8 → Int → (List Int) × (List UInt8) × Int
  | 0, l31, k32, l35, z36 => default
  | q37 + 1, l31, k32, l35, z36 => if ((k32 : Nat) : Int) < p1 then if z36 = 0 then bnd (node_readKid (ReaderT.mk (Ll.mk l35) z36)) fun yr58 => reader_Times_int_L0 p1 q37 (l31 ++ [yr58.1]) (k32 + 1) yr58.2.xrest.ls yr58.2.xerrno else (l31, l35, z36) else (l31, l35, z36)

def reader_Times_int (p0 : ReaderT) (p1 : Int) : (List Int) × ReaderT :=
  bnd (bnd (reader_Times_int_L0 p1 ((Int.toNat p1 - 0) + 1) ([]) 0 p0.xrest.ls p0.xerrno) fun sLrJjL => (sLrJjL.1, sLrJjL.2.1, sLrJjL.2.2)) fun sJrJ => (sJrJ.1, ReaderT.mk (Ll.mk sJrJ.2.1) sJrJ.2.2)

set_option maxRecDepth 100000 in
theorem reader_Times_int_ok (w : World) (D : Nat → Prop) (g0 : Nat) (p0 : ReaderT) (A0x0 : Option Addr) (c0x0 : Nat) (p1 : Int) (r0 : List Int) (r1 : ReaderT) (H : Own w D w [blk g0 [.slice A0x0 (List.length p0.xrest.ls) c0x0, .int .i64 p0.xerrno] 84]) (hx0x0 : Ro w D fun w' => Rds w' 1 A0x0 (List.length p0.xrest.ls) (List.flatMap eB p0.xrest.ls)) (hb0x0 : List.length p0.xrest.ls ≤ c0x0 ∧ List.length p0.xrest.ls ≤ 9223372036854775807) (hh0 : p1 ≤ 1000) (hr : reader_Times_int p0 p1 = (r0, r1)) :
    Calls Try.prog 56 #[.pointer (some ⟨g0, 0, none⟩), .int .i64 p1, .func (.func 45) #[] #[]] w (Ret fun v w' => ∃ (B0 : Option Addr) (b0 : Nat) (B1ox0 : Option Addr) (b1ox0 : Nat), v = .slice B0 (List.length r0) b0 ∧ Own w D w' [row B0 (List.length r0) b0 (List.flatMap (eI .i64) r0) 3 1, blk g0 [.slice B1ox0 (List.length r1.xrest.ls) b1ox0, .int .i64 r1.xerrno] 84] ∧ (SubS 1 A0x0 c0x0 p0.xrest.ls B1ox0 b1ox0 r1.xrest.ls) ∧ (List.length r0 ≤ 1000)) := by
  refine Calls.body (args := [.pointer (some ⟨g0, 0, none⟩), .int .i64 p1, .func (.func 45) #[] #[]]) Try.func56 rfl rfl rfl ?_
  show Wp _ _ _ [(0, .pointer (some ⟨g0, 0, none⟩)), (1, .int .i64 p1), (2, .func (.func 45) #[] #[])] _ _
  refine Wp.seq (Wp.region (As rfl rfl (WL.nil (Fin.then (Wp.seq (Wp.region (As rfl rfl (WL.nil (Fin.then (Wp.seq (Wp.seq (Wp.region (As rfl rfl (WL.nil (Fin.then ?_)))))))))))))))
  refine Wp.joinT (ι := (Option Addr) × Nat × (List Int) × (Option Addr) × Nat × (List UInt8) × Int) (fun i => [(7, .slice i.1 (List.length i.2.2.1) i.2.1), (6, .slice none 0 0)]) (fun (i : (Option Addr) × Nat × (List Int) × (Option Addr) × Nat × (List UInt8) × Int) w' => Own w D w' [blk g0 [.slice i.2.2.2.1 (List.length i.2.2.2.2.2.1) i.2.2.2.2.1, .int .i64 i.2.2.2.2.2.2] 84, row i.1 (List.length i.2.2.1) i.2.1 (List.flatMap (eI .i64) i.2.2.1) 3 1] ∧ (SubS 1 A0x0 c0x0 p0.xrest.ls i.2.2.2.1 i.2.2.2.2.1 i.2.2.2.2.2.1 ∧ 0 ≤ List.length i.2.2.1 ∧ List.length i.2.2.2.2.2.1 ≤ List.length p0.xrest.ls ∧ List.length i.2.2.2.2.2.1 ≤ List.length p0.xrest.ls + 1 ∧ List.length i.2.2.1 ≤ 1000 ∧ (bnd (reader_Times_int_L0 p1 ((Int.toNat p1 - 0) + 1) ([]) 0 p0.xrest.ls p0.xerrno) fun sLrJjL => (sLrJjL.1, sLrJjL.2.1, sLrJjL.2.2)) = (i.2.2.1, i.2.2.2.2.2.1, i.2.2.2.2.2.2))) ?_ ?_
  refine Wp.block ?_
  have H28 : Own w D w [row none 0 0 (List.flatMap (eI .i64) ([])) 3 1, blk g0 [.slice A0x0 (List.length p0.xrest.ls) c0x0, .int .i64 p0.xerrno] 84] := H.free (row_nil 3 1)
  have H39 : Own w D w [blk g0 [.slice A0x0 (List.length p0.xrest.ls) c0x0, .int .i64 p0.xerrno] 84, row none 0 0 (List.flatMap (eI .i64) ([])) 3 1] := H28.pick [1, 0] (by decide) rfl
  refine Wp.loop (ι := (Option Addr) × Nat × (List Int) × Nat × (Option Addr) × Nat × (List UInt8) × Int × Nat) (fun i => [(7, .slice i.1 (List.length i.2.2.1) i.2.1), (8, .int .i64 ((i.2.2.2.1 : Nat) : Int)), (6, .slice none 0 0), (0, .pointer (some ⟨g0, 0, none⟩)), (1, .int .i64 p1), (2, .func (.func 45) #[] #[])]) (fun (i : (Option Addr) × Nat × (List Int) × Nat × (Option Addr) × Nat × (List UInt8) × Int × Nat) w' => Own w D w' [blk g0 [.slice i.2.2.2.2.1 (List.length i.2.2.2.2.2.2.1) i.2.2.2.2.2.1, .int .i64 i.2.2.2.2.2.2.2.1] 84, row i.1 (List.length i.2.2.1) i.2.1 (List.flatMap (eI .i64) i.2.2.1) 3 1] ∧ (SubS 1 A0x0 c0x0 p0.xrest.ls i.2.2.2.2.1 i.2.2.2.2.2.1 i.2.2.2.2.2.2.1 ∧ List.length i.2.2.1 ≤ i.2.2.2.1 ∧ (i.2.2.2.1 = 0 ∨ ((i.2.2.2.1 : Nat) : Int) ≤ p1) ∧ Int.toNat p1 - i.2.2.2.1 < i.2.2.2.2.2.2.2.2 ∧ reader_Times_int_L0 p1 ((Int.toNat p1 - 0) + 1) ([]) 0 p0.xrest.ls p0.xerrno = reader_Times_int_L0 p1 i.2.2.2.2.2.2.2.2 i.2.2.1 i.2.2.2.1 i.2.2.2.2.2.2.1 i.2.2.2.2.2.2.2.1)) (fun i => i.2.2.2.2.2.2.2.2) (none, 0, [], 0, A0x0, c0x0, p0.xrest.ls, p0.xerrno, (Int.toNat p1 - 0) + 1) ⟨rfl, rfl, rfl, rfl, rfl, rfl, trivial⟩ ⟨H39, (show SubS 1 A0x0 c0x0 p0.xrest.ls A0x0 c0x0 p0.xrest.ls ∧ 0 ≤ 0 ∧ (0 = 0 ∨ ((0 : Nat) : Int) ≤ p1) ∧ Int.toNat p1 - 0 < ((Int.toNat p1 - 0) + 1) ∧ reader_Times_int_L0 p1 ((Int.toNat p1 - 0) + 1) ([]) 0 p0.xrest.ls p0.xerrno = reader_Times_int_L0 p1 ((Int.toNat p1 - 0) + 1) ([]) 0 p0.xrest.ls p0.xerrno from ⟨by exact (SubS.refl (by omega)), by omega, by omega, by omega, rfl⟩)⟩ ?_
  rintro ⟨A29, c30, l31, k32, A33, c34, l35, z36, f38⟩ w40 ⟨H41, hf42⟩
  show Wp _ _ _ [(7, .slice A29 (List.length l31) c30), (8, .int .i64 ((k32 : Nat) : Int)), (6, .slice none 0 0), (0, .pointer (some ⟨g0, 0, none⟩)), (1, .int .i64 p1), (2, .func (.func 45) #[] #[])] _ _
  replace H41 : Own w D w40 [blk g0 [.slice A33 (List.length l35) c34, .int .i64 z36] 84, row A29 (List.length l31) c30 (List.flatMap (eI .i64) l31) 3 1] := H41
  replace hf42 : SubS 1 A0x0 c0x0 p0.xrest.ls A33 c34 l35 ∧ List.length l31 ≤ k32 ∧ (k32 = 0 ∨ ((k32 : Nat) : Int) ≤ p1) ∧ Int.toNat p1 - k32 < f38 ∧ reader_Times_int_L0 p1 ((Int.toNat p1 - 0) + 1) ([]) 0 p0.xrest.ls p0.xerrno = reader_Times_int_L0 p1 f38 l31 k32 l35 z36 := hf42
  obtain ⟨hi44, hi45, hi46, hi47, hq43⟩ := hf42
  have hz48 := (hi44).le
  obtain ⟨f49, hf50⟩ : ∃ q, f38 = q + 1 := ⟨f38 - 1, by omega⟩
  subst hf50
  refine Wp.seq (Wp.seq (Wp.region (Mv rfl rfl (Mv rfl rfl (Kn (v := .bool (decide (((k32 : Nat) : Int) < p1))) rfl rfl rfl (fun _ => by kernel_rfl) (Mv rfl rfl ?_))))))
  by_cases h51 : ((k32 : Nat) : Int) < p1
  refine WL.valG (v := .pointer (some ⟨g0, 0, none⟩)) rfl rfl (decide_eq_true h51) rfl (Yl.move rfl) (WL.valG (v := .pointer (some ⟨g0, 0, none⟩)) rfl rfl (decide_eq_true h51) rfl (Yl.kern rfl rfl (fun _ => by kernel_rfl)) (WL.valG (v := .pointer (some ⟨g0, 1, none⟩)) rfl rfl (decide_eq_true h51) rfl (Yl.kern rfl rfl (fun _ => by kernel_rfl)) (WL.valG (v := .int .i64 z36) rfl rfl (decide_eq_true h51) rfl (Yl.load rfl (Lds.one Try.isAgg29 (Cls.of (H41.cls (i := 0) rfl) rfl))) (WL.valG (v := .bool (decide (z36 = 0))) rfl rfl (decide_eq_true h51) rfl (Yl.kern rfl rfl (fun _ => by kernel_rfl)) (WL.val (v := .bool (decide (z36 = 0))) rfl (Yl.pickT rfl (decide_eq_true h51) rfl) (WL.nil (Fin.then ?_)))))))
  by_cases h52 : z36 = 0
  refine Wp.cond1 rfl (decide_eq_true h52) (Wp.skip (Fin.then (Wp.seq (Wp.block (Wp.region (Mv rfl rfl (Mv rfl rfl (Mv rfl rfl ?_))))))))
  obtain ⟨⟨r58, r59⟩, hr60⟩ : ∃ q : Int × ReaderT, node_readKid (ReaderT.mk (Ll.mk l35) z36) = q := ⟨_, rfl⟩
  obtain ⟨D53, HP54, ro55, bk56, rr57⟩ := Own.enter1 H41
  refine WL.do rfl (Do.callV Try.call45 rfl rfl (node_readKid_ok _ _ g0 (ReaderT.mk (Ll.mk l35) z36) A33 c34 r58 r59 HP54 (fun w9 h9 => SubS.rds eB_len (by decide) hi44 ((ro55 _ hx0x0) w9 h9)) (show List.length l35 ≤ c34 ∧ List.length l35 ≤ 9223372036854775807 from by omega) hr60) ?_)
  rintro _ w61 ⟨A64, c65, rfl, HQ62, hs66⟩
  have H63 : Own w D w61 [blk g0 [.slice A64 (List.length r59.xrest.ls) c65, .int .i64 r59.xerrno] 84, row A29 (List.length l31) c30 (List.flatMap (eI .i64) l31) 3 1] := bk56 _ _ HQ62
  replace hs66 : SubS 1 A33 c34 l35 A64 c65 r59.xrest.ls := hs66
  have hz67 := (hs66).le
  refine WL.do rfl (Do.newRow (cs := [.int .i64 r58]) (t := 3) (sz := 1) (m := 1) H63 rfl rfl (fun _ => by kernel_rfl) rfl (by decide) ?_)
  intro A68 w69 H70
  replace H70 : Own w D w69 [row A68 1 1 (List.flatMap (eI .i64) ([r58])) 3 1, blk g0 [.slice A64 (List.length r59.xrest.ls) c65, .int .i64 r59.xerrno] 84, row A29 (List.length l31) c30 (List.flatMap (eI .i64) l31) 3 1] := H70
  have H71 : Own w D w69 [row A29 (List.length l31) c30 (List.flatMap (eI .i64) l31) 3 1, row A68 1 1 (List.flatMap (eI .i64) ([r58])) 3 1, blk g0 [.slice A64 (List.length r59.xrest.ls) c65, .int .i64 r59.xerrno] 84] := H70.pick [2, 0, 1] (by decide) rfl
  refine WL.do rfl (Do.appendW (k := List.length l31) (m := 1) (El23) H71 rfl rfl (src_of Try.underlying23 (H71.rds (i := 1) rfl) (flat_one eI_one ([r58]))) rfl (by omega) (s := List.length (l31 ++ [r58])) (by first | omega | (simp only [List.length_append, List.length_cons, List.length_nil] <;> omega)) (List.flatMap_append).symm ?_)
  intro A72 c73 w74 H75
  replace H75 : Own w D w74 [row A72 (List.length (l31 ++ [r58])) c73 (List.flatMap (eI .i64) (l31 ++ [r58])) 3 1, row A68 1 1 (List.flatMap (eI .i64) ([r58])) 3 1, blk g0 [.slice A64 (List.length r59.xrest.ls) c65, .int .i64 r59.xerrno] 84] := H75
  have hl76 : List.length (l31 ++ [r58]) = List.length l31 + 1 := by simp only [List.length_append, List.length_cons, List.length_nil]
  refine As rfl rfl (WL.nil (Fin.blockN (Fin.then (Wp.region (Mv rfl rfl (WL.val (v := .int .i64 ((k32 + 1 : Nat) : Int)) rfl (Yl.int (e := IntKind.i64.wrap (((k32 : Nat) : Int) + 1)) (Yl.kern rfl rfl (fun _ => by kernel_rfl)) (by rw [IntWalk.i64_in _ (by omega)]; omega)) (As rfl rfl (WL.nil ?_))))))))
  have H77 : Own w D w74 [blk g0 [.slice A64 (List.length r59.xrest.ls) c65, .int .i64 r59.xerrno] 84, row A72 (List.length (l31 ++ [r58])) c73 (List.flatMap (eI .i64) (l31 ++ [r58])) 3 1] := H75.pick [2, 0] (by decide) rfl
  exact Fin.round (A72, c73, (l31 ++ [r58]), k32 + 1, A64, c65, r59.xrest.ls, r59.xerrno, f49) ⟨rfl, rfl, rfl, rfl, rfl, rfl, trivial⟩ ⟨H77, (show SubS 1 A0x0 c0x0 p0.xrest.ls A64 c65 r59.xrest.ls ∧ List.length (l31 ++ [r58]) ≤ (k32 + 1) ∧ ((k32 + 1) = 0 ∨ (((k32 + 1) : Nat) : Int) ≤ p1) ∧ Int.toNat p1 - (k32 + 1) < f49 ∧ reader_Times_int_L0 p1 ((Int.toNat p1 - 0) + 1) ([]) 0 p0.xrest.ls p0.xerrno = reader_Times_int_L0 p1 f49 (l31 ++ [r58]) (k32 + 1) r59.xrest.ls r59.xerrno from ⟨by exact (SubS.trans hi44 hs66), by omega, by omega, by omega, Eq.trans (hq43) (Eq.trans (if_pos h51) (Eq.trans (if_pos h52) (bnd_of hr60)))⟩)⟩ (by show f49 < f49 + 1; omega)
  refine Wp.cond0 rfl (decide_eq_false h52) (Wp.exit (Fin.thenX (Fin.thenX (Fin.blockX ?_))))
  have H78 : Own w D w40 [blk g0 [.slice A33 (List.length l35) c34, .int .i64 z36] 84, row A29 (List.length l31) c30 (List.flatMap (eI .i64) l31) 3 1] := H41.pick [0, 1] (by decide) rfl
  exact Fin.join (A29, c30, l31, A33, c34, l35, z36) ⟨rfl, rfl, trivial⟩ ⟨H78, (show SubS 1 A0x0 c0x0 p0.xrest.ls A33 c34 l35 ∧ 0 ≤ List.length l31 ∧ List.length l35 ≤ List.length p0.xrest.ls ∧ List.length l35 ≤ List.length p0.xrest.ls + 1 ∧ List.length l31 ≤ 1000 ∧ (bnd (reader_Times_int_L0 p1 ((Int.toNat p1 - 0) + 1) ([]) 0 p0.xrest.ls p0.xerrno) fun sLrJjL => (sLrJjL.1, sLrJjL.2.1, sLrJjL.2.2)) = (l31, l35, z36) from ⟨by exact hi44, by omega, by omega, by omega, by omega, bnd_of (Eq.trans (hq43) (Eq.trans (if_pos h51) (if_neg h52)))⟩)⟩
  refine Sk rfl rfl (decide_eq_false h51) rfl (Sk rfl rfl (decide_eq_false h51) rfl (Sk rfl rfl (decide_eq_false h51) rfl (Sk rfl rfl (decide_eq_false h51) rfl (Sk rfl rfl (decide_eq_false h51) rfl (WL.val (v := .bool false) rfl (Yl.pickF rfl (decide_eq_false h51) rfl) (WL.nil (Fin.then (Wp.cond0 rfl rfl (Wp.exit (Fin.thenX (Fin.thenX (Fin.blockX ?_))))))))))))
  have H79 : Own w D w40 [blk g0 [.slice A33 (List.length l35) c34, .int .i64 z36] 84, row A29 (List.length l31) c30 (List.flatMap (eI .i64) l31) 3 1] := H41.pick [0, 1] (by decide) rfl
  exact Fin.join (A29, c30, l31, A33, c34, l35, z36) ⟨rfl, rfl, trivial⟩ ⟨H79, (show SubS 1 A0x0 c0x0 p0.xrest.ls A33 c34 l35 ∧ 0 ≤ List.length l31 ∧ List.length l35 ≤ List.length p0.xrest.ls ∧ List.length l35 ≤ List.length p0.xrest.ls + 1 ∧ List.length l31 ≤ 1000 ∧ (bnd (reader_Times_int_L0 p1 ((Int.toNat p1 - 0) + 1) ([]) 0 p0.xrest.ls p0.xerrno) fun sLrJjL => (sLrJjL.1, sLrJjL.2.1, sLrJjL.2.2)) = (l31, l35, z36) from ⟨by exact hi44, by omega, by omega, by omega, by omega, bnd_of (Eq.trans (hq43) (if_neg h51))⟩)⟩
  rintro ⟨A21, c22, l23, A24, c25, l26, z27⟩ w80 ⟨H81, hf82⟩
  show Wp _ _ _ [(7, .slice A21 (List.length l23) c22), (6, .slice none 0 0)] _ _
  replace H81 : Own w D w80 [blk g0 [.slice A24 (List.length l26) c25, .int .i64 z27] 84, row A21 (List.length l23) c22 (List.flatMap (eI .i64) l23) 3 1] := H81
  replace hf82 : SubS 1 A0x0 c0x0 p0.xrest.ls A24 c25 l26 ∧ 0 ≤ List.length l23 ∧ List.length l26 ≤ List.length p0.xrest.ls ∧ List.length l26 ≤ List.length p0.xrest.ls + 1 ∧ List.length l23 ≤ 1000 ∧ (bnd (reader_Times_int_L0 p1 ((Int.toNat p1 - 0) + 1) ([]) 0 p0.xrest.ls p0.xerrno) fun sLrJjL => (sLrJjL.1, sLrJjL.2.1, sLrJjL.2.2)) = (l23, l26, z27) := hf82
  obtain ⟨hi84, hi85, hi86, hi87, hi88, hj83⟩ := hf82
  have hz89 := (hi84).le
  refine Wp.seq (Wp.region (Mv rfl rfl (As rfl rfl (WL.nil (Fin.then (Wp.ret (Fin.res (res1 rfl rfl) ?_)))))))
  have H90 : Own w D w80 [row A21 (List.length l23) c22 (List.flatMap (eI .i64) l23) 3 1, blk g0 [.slice A24 (List.length l26) c25, .int .i64 z27] 84] := H81.pick [1, 0] (by decide) rfl
  have e : reader_Times_int p0 p1 = (l23, ReaderT.mk (Ll.mk l26) z27) := bnd_of hj83
  obtain ⟨rfl, rfl⟩ := pj2 (e.symm.trans hr)
  exact ⟨A21, c22, A24, c25, rfl, H90, hi84, (by omega)⟩

def reader_List_int (p0 : ReaderT) (p1 : Nat) : (List Int) × ReaderT :=
  bnd (reader_Reader_Num p0 p1) fun yr26 => bnd (reader_Times_int yr26.2 ((yr26.1 : Nat) : Int)) fun yr42 => (yr42.1, yr42.2)

set_option maxRecDepth 100000 in
theorem reader_List_int_ok (w : World) (D : Nat → Prop) (g0 : Nat) (p0 : ReaderT) (A0x0 : Option Addr) (c0x0 : Nat) (p1 : Nat) (r0 : List Int) (r1 : ReaderT) (H : Own w D w [blk g0 [.slice A0x0 (List.length p0.xrest.ls) c0x0, .int .i64 p0.xerrno] 84]) (hx0x0 : Ro w D fun w' => Rds w' 1 A0x0 (List.length p0.xrest.ls) (List.flatMap eB p0.xrest.ls)) (hb0x0 : List.length p0.xrest.ls ≤ c0x0 ∧ List.length p0.xrest.ls ≤ 9223372036854775807) (hh0 : p1 ≤ 1000) (hr : reader_List_int p0 p1 = (r0, r1)) :
    Calls Try.prog 44 #[.pointer (some ⟨g0, 0, none⟩), .int .u64 ((p1 : Nat) : Int), .func (.func 45) #[] #[]] w (Ret fun v w' => ∃ (B0 : Option Addr) (b0 : Nat) (B1ox0 : Option Addr) (b1ox0 : Nat), v = .slice B0 (List.length r0) b0 ∧ Own w D w' [row B0 (List.length r0) b0 (List.flatMap (eI .i64) r0) 3 1, blk g0 [.slice B1ox0 (List.length r1.xrest.ls) b1ox0, .int .i64 r1.xerrno] 84] ∧ (SubS 1 A0x0 c0x0 p0.xrest.ls B1ox0 b1ox0 r1.xrest.ls) ∧ (List.length r0 ≤ 1000)) := by
  refine Calls.body (args := [.pointer (some ⟨g0, 0, none⟩), .int .u64 ((p1 : Nat) : Int), .func (.func 45) #[] #[]]) Try.func44 rfl rfl rfl ?_
  show Wp _ _ _ [(0, .pointer (some ⟨g0, 0, none⟩)), (1, .int .u64 ((p1 : Nat) : Int)), (2, .func (.func 45) #[] #[])] _ _
  refine Wp.seq (Wp.region (As rfl rfl (WL.nil (Fin.then (Wp.seq (Wp.region (Mv rfl rfl (Mv rfl rfl (Mv rfl rfl ?_)))))))))
  obtain ⟨⟨r26, r27⟩, hr28⟩ : ∃ q : Nat × ReaderT, reader_Reader_Num p0 p1 = q := ⟨_, rfl⟩
  obtain ⟨D21, HP22, ro23, bk24, rr25⟩ := Own.enter1 H
  refine WL.do rfl (Do.call Try.call42 rfl (reader_Reader_Num_ok _ _ g0 p0 A0x0 c0x0 p1 r26 r27 HP22 (ro23 _ hx0x0) (show List.length p0.xrest.ls ≤ c0x0 ∧ List.length p0.xrest.ls ≤ 9223372036854775807 from by omega) hr28) ?_)
  rintro _ w29 ⟨A32, c33, rfl, HQ30, hs34, hk35⟩
  have H31 : Own w D w29 [blk g0 [.slice A32 (List.length r27.xrest.ls) c33, .int .i64 r27.xerrno] 84] := bk24 _ _ HQ30
  replace hs34 : SubS 1 A0x0 c0x0 p0.xrest.ls A32 c33 r27.xrest.ls := hs34
  have hz36 := (hs34).le
  replace hk35 : r26 ≤ p1 := hk35
  refine WL.val (v := .int .i64 ((r26 : Nat) : Int)) rfl (Yl.int (e := IntKind.i64.wrap ((r26 : Nat) : Int)) (Yl.kern rfl rfl (fun _ => by kernel_rfl)) (IntWalk.i64_in _ (by omega))) (Mv rfl rfl ?_)
  obtain ⟨⟨r42, r43⟩, hr44⟩ : ∃ q : (List Int) × ReaderT, reader_Times_int r27 ((r26 : Nat) : Int) = q := ⟨_, rfl⟩
  obtain ⟨D37, HP38, ro39, bk40, rr41⟩ := Own.enter1 H31
  refine WL.do rfl (Do.call Try.call56 rfl (reader_Times_int_ok _ _ g0 r27 A32 c33 ((r26 : Nat) : Int) r42 r43 HP38 (fun w9 h9 => SubS.rds eB_len (by decide) hs34 ((ro39 _ hx0x0) w9 h9)) (show List.length r27.xrest.ls ≤ c33 ∧ List.length r27.xrest.ls ≤ 9223372036854775807 from by omega) (by omega) hr44) ?_)
  rintro _ w45 ⟨A48, c49, A50, c51, rfl, HQ46, hs52, hk53⟩
  have H47 : Own w D w45 [row A48 (List.length r42) c49 (List.flatMap (eI .i64) r42) 3 1, blk g0 [.slice A50 (List.length r43.xrest.ls) c51, .int .i64 r43.xerrno] 84] := bk40 _ _ HQ46
  replace hs52 : SubS 1 A32 c33 r27.xrest.ls A50 c51 r43.xrest.ls := hs52
  have hz54 := (hs52).le
  have hb55 := H47.rowC (i := 0) rfl
  replace hk53 : List.length r42 ≤ 1000 := hk53
  refine As rfl rfl (WL.nil (Fin.then (Wp.ret (Fin.res (res1 rfl rfl) ?_))))
  have H56 : Own w D w45 [row A48 (List.length r42) c49 (List.flatMap (eI .i64) r42) 3 1, blk g0 [.slice A50 (List.length r43.xrest.ls) c51, .int .i64 r43.xerrno] 84] := H47.pick [0, 1] (by decide) rfl
  have e : reader_List_int p0 p1 = (r42, r43) := Eq.trans (bnd_of hr28) (bnd_of hr44)
  obtain ⟨rfl, rfl⟩ := pj2 (e.symm.trans hr)
  exact ⟨A48, c49, A50, c51, rfl, H56, (SubS.trans hs34 hs52), (by omega)⟩

def reader_Times_string_L0 (p1 : Int) : Nat → List (List UInt8) → Nat → List UInt8 → Int → (List (List UInt8)) × (List UInt8) × Int
  | 0, l31, k32, l35, z36 => default
  | q37 + 1, l31, k32, l35, z36 => if ((k32 : Nat) : Int) < p1 then if z36 = 0 then bnd (node_readText (ReaderT.mk (Ll.mk l35) z36)) fun yr58 => reader_Times_string_L0 p1 q37 (l31 ++ [yr58.1]) (k32 + 1) yr58.2.xrest.ls yr58.2.xerrno else (l31, l35, z36) else (l31, l35, z36)

def reader_Times_string (p0 : ReaderT) (p1 : Int) : (List (List UInt8)) × ReaderT :=
  bnd (bnd (reader_Times_string_L0 p1 ((Int.toNat p1 - 0) + 1) ([]) 0 p0.xrest.ls p0.xerrno) fun sLrJjL => (sLrJjL.1, sLrJjL.2.1, sLrJjL.2.2)) fun sJrJ => (sJrJ.1, ReaderT.mk (Ll.mk sJrJ.2.1) sJrJ.2.2)

set_option maxRecDepth 100000 in
theorem reader_Times_string_ok (w : World) (D : Nat → Prop) (g0 : Nat) (p0 : ReaderT) (A0x0 : Option Addr) (c0x0 : Nat) (p1 : Int) (r0 : List (List UInt8)) (r1 : ReaderT) (H : Own w D w [blk g0 [.slice A0x0 (List.length p0.xrest.ls) c0x0, .int .i64 p0.xerrno] 84]) (hx0x0 : Ro w D fun w' => Rds w' 1 A0x0 (List.length p0.xrest.ls) (List.flatMap eB p0.xrest.ls)) (hb0x0 : List.length p0.xrest.ls ≤ c0x0 ∧ List.length p0.xrest.ls ≤ 9223372036854775807) (hh0 : p1 ≤ 1000) (hr : reader_Times_string p0 p1 = (r0, r1)) :
    Calls Try.prog 46 #[.pointer (some ⟨g0, 0, none⟩), .int .i64 p1, .func (.func 43) #[] #[]] w (Ret fun v w' => ∃ (B0 : Option Addr) (b0 : Nat) (B1ox0 : Option Addr) (b1ox0 : Nat), v = .slice B0 (List.length r0) b0 ∧ Own w D w' [row B0 (List.length r0) b0 (List.flatMap eS r0) 9 1, blk g0 [.slice B1ox0 (List.length r1.xrest.ls) b1ox0, .int .i64 r1.xerrno] 84] ∧ (SubS 1 A0x0 c0x0 p0.xrest.ls B1ox0 b1ox0 r1.xrest.ls) ∧ (List.length r0 ≤ 1000)) := by
  refine Calls.body (args := [.pointer (some ⟨g0, 0, none⟩), .int .i64 p1, .func (.func 43) #[] #[]]) Try.func46 rfl rfl rfl ?_
  show Wp _ _ _ [(0, .pointer (some ⟨g0, 0, none⟩)), (1, .int .i64 p1), (2, .func (.func 43) #[] #[])] _ _
  refine Wp.seq (Wp.region (As rfl rfl (WL.nil (Fin.then (Wp.seq (Wp.region (As rfl rfl (WL.nil (Fin.then (Wp.seq (Wp.seq (Wp.region (As rfl rfl (WL.nil (Fin.then ?_)))))))))))))))
  refine Wp.joinT (ι := (Option Addr) × Nat × (List (List UInt8)) × (Option Addr) × Nat × (List UInt8) × Int) (fun i => [(7, .slice i.1 (List.length i.2.2.1) i.2.1), (6, .slice none 0 0)]) (fun (i : (Option Addr) × Nat × (List (List UInt8)) × (Option Addr) × Nat × (List UInt8) × Int) w' => Own w D w' [blk g0 [.slice i.2.2.2.1 (List.length i.2.2.2.2.2.1) i.2.2.2.2.1, .int .i64 i.2.2.2.2.2.2] 84, row i.1 (List.length i.2.2.1) i.2.1 (List.flatMap eS i.2.2.1) 9 1] ∧ (SubS 1 A0x0 c0x0 p0.xrest.ls i.2.2.2.1 i.2.2.2.2.1 i.2.2.2.2.2.1 ∧ 0 ≤ List.length i.2.2.1 ∧ List.length i.2.2.2.2.2.1 ≤ List.length p0.xrest.ls ∧ List.length i.2.2.2.2.2.1 ≤ List.length p0.xrest.ls + 1 ∧ List.length i.2.2.1 ≤ 1000 ∧ (bnd (reader_Times_string_L0 p1 ((Int.toNat p1 - 0) + 1) ([]) 0 p0.xrest.ls p0.xerrno) fun sLrJjL => (sLrJjL.1, sLrJjL.2.1, sLrJjL.2.2)) = (i.2.2.1, i.2.2.2.2.2.1, i.2.2.2.2.2.2))) ?_ ?_
  refine Wp.block ?_
  have H28 : Own w D w [row none 0 0 (List.flatMap eS ([])) 9 1, blk g0 [.slice A0x0 (List.length p0.xrest.ls) c0x0, .int .i64 p0.xerrno] 84] := H.free (row_nil 9 1)
  have H39 : Own w D w [blk g0 [.slice A0x0 (List.length p0.xrest.ls) c0x0, .int .i64 p0.xerrno] 84, row none 0 0 (List.flatMap eS ([])) 9 1] := H28.pick [1, 0] (by decide) rfl
  refine Wp.loop (ι := (Option Addr) × Nat × (List (List UInt8)) × Nat × (Option Addr) × Nat × (List UInt8) × Int × Nat) (fun i => [(7, .slice i.1 (List.length i.2.2.1) i.2.1), (8, .int .i64 ((i.2.2.2.1 : Nat) : Int)), (6, .slice none 0 0), (0, .pointer (some ⟨g0, 0, none⟩)), (1, .int .i64 p1), (2, .func (.func 43) #[] #[])]) (fun (i : (Option Addr) × Nat × (List (List UInt8)) × Nat × (Option Addr) × Nat × (List UInt8) × Int × Nat) w' => Own w D w' [blk g0 [.slice i.2.2.2.2.1 (List.length i.2.2.2.2.2.2.1) i.2.2.2.2.2.1, .int .i64 i.2.2.2.2.2.2.2.1] 84, row i.1 (List.length i.2.2.1) i.2.1 (List.flatMap eS i.2.2.1) 9 1] ∧ (SubS 1 A0x0 c0x0 p0.xrest.ls i.2.2.2.2.1 i.2.2.2.2.2.1 i.2.2.2.2.2.2.1 ∧ List.length i.2.2.1 ≤ i.2.2.2.1 ∧ (i.2.2.2.1 = 0 ∨ ((i.2.2.2.1 : Nat) : Int) ≤ p1) ∧ Int.toNat p1 - i.2.2.2.1 < i.2.2.2.2.2.2.2.2 ∧ reader_Times_string_L0 p1 ((Int.toNat p1 - 0) + 1) ([]) 0 p0.xrest.ls p0.xerrno = reader_Times_string_L0 p1 i.2.2.2.2.2.2.2.2 i.2.2.1 i.2.2.2.1 i.2.2.2.2.2.2.1 i.2.2.2.2.2.2.2.1)) (fun i => i.2.2.2.2.2.2.2.2) (none, 0, [], 0, A0x0, c0x0, p0.xrest.ls, p0.xerrno, (Int.toNat p1 - 0) + 1) ⟨rfl, rfl, rfl, rfl, rfl, rfl, trivial⟩ ⟨H39, (show SubS 1 A0x0 c0x0 p0.xrest.ls A0x0 c0x0 p0.xrest.ls ∧ 0 ≤ 0 ∧ (0 = 0 ∨ ((0 : Nat) : Int) ≤ p1) ∧ Int.toNat p1 - 0 < ((Int.toNat p1 - 0) + 1) ∧ reader_Times_string_L0 p1 ((Int.toNat p1 - 0) + 1) ([]) 0 p0.xrest.ls p0.xerrno = reader_Times_string_L0 p1 ((Int.toNat p1 - 0) + 1) ([]) 0 p0.xrest.ls p0.xerrno from ⟨by exact (SubS.refl (by omega)), by omega, by omega, by omega, rfl⟩)⟩ ?_
  rintro ⟨A29, c30, l31, k32, A33, c34, l35, z36, f38⟩ w40 ⟨H41, hf42⟩
  show Wp _ _ _ [(7, .slice A29 (List.length l31) c30), (8, .int .i64 ((k32 : Nat) : Int)), (6, .slice none 0 0), (0, .pointer (some ⟨g0, 0, none⟩)), (1, .int .i64 p1), (2, .func (.func 43) #[] #[])] _ _
  replace H41 : Own w D w40 [blk g0 [.slice A33 (List.length l35) c34, .int .i64 z36] 84, row A29 (List.length l31) c30 (List.flatMap eS l31) 9 1] := H41
  replace hf42 : SubS 1 A0x0 c0x0 p0.xrest.ls A33 c34 l35 ∧ List.length l31 ≤ k32 ∧ (k32 = 0 ∨ ((k32 : Nat) : Int) ≤ p1) ∧ Int.toNat p1 - k32 < f38 ∧ reader_Times_string_L0 p1 ((Int.toNat p1 - 0) + 1) ([]) 0 p0.xrest.ls p0.xerrno = reader_Times_string_L0 p1 f38 l31 k32 l35 z36 := hf42
  obtain ⟨hi44, hi45, hi46, hi47, hq43⟩ := hf42
  have hz48 := (hi44).le
  obtain ⟨f49, hf50⟩ : ∃ q, f38 = q + 1 := ⟨f38 - 1, by omega⟩
  subst hf50
  refine Wp.seq (Wp.seq (Wp.region (Mv rfl rfl (Mv rfl rfl (Kn (v := .bool (decide (((k32 : Nat) : Int) < p1))) rfl rfl rfl (fun _ => by kernel_rfl) (Mv rfl rfl ?_))))))
  by_cases h51 : ((k32 : Nat) : Int) < p1
  refine WL.valG (v := .pointer (some ⟨g0, 0, none⟩)) rfl rfl (decide_eq_true h51) rfl (Yl.move rfl) (WL.valG (v := .pointer (some ⟨g0, 0, none⟩)) rfl rfl (decide_eq_true h51) rfl (Yl.kern rfl rfl (fun _ => by kernel_rfl)) (WL.valG (v := .pointer (some ⟨g0, 1, none⟩)) rfl rfl (decide_eq_true h51) rfl (Yl.kern rfl rfl (fun _ => by kernel_rfl)) (WL.valG (v := .int .i64 z36) rfl rfl (decide_eq_true h51) rfl (Yl.load rfl (Lds.one Try.isAgg29 (Cls.of (H41.cls (i := 0) rfl) rfl))) (WL.valG (v := .bool (decide (z36 = 0))) rfl rfl (decide_eq_true h51) rfl (Yl.kern rfl rfl (fun _ => by kernel_rfl)) (WL.val (v := .bool (decide (z36 = 0))) rfl (Yl.pickT rfl (decide_eq_true h51) rfl) (WL.nil (Fin.then ?_)))))))
  by_cases h52 : z36 = 0
  refine Wp.cond1 rfl (decide_eq_true h52) (Wp.skip (Fin.then (Wp.seq (Wp.block (Wp.region (Mv rfl rfl (Mv rfl rfl (Mv rfl rfl ?_))))))))
  obtain ⟨⟨r58, r59⟩, hr60⟩ : ∃ q : (List UInt8) × ReaderT, node_readText (ReaderT.mk (Ll.mk l35) z36) = q := ⟨_, rfl⟩
  obtain ⟨D53, HP54, ro55, bk56, rr57⟩ := Own.enter1 H41
  refine WL.do rfl (Do.callV Try.call43 rfl rfl (node_readText_ok _ _ g0 (ReaderT.mk (Ll.mk l35) z36) A33 c34 r58 r59 HP54 (fun w9 h9 => SubS.rds eB_len (by decide) hi44 ((ro55 _ hx0x0) w9 h9)) (show List.length l35 ≤ c34 ∧ List.length l35 ≤ 9223372036854775807 from by omega) hr60) ?_)
  rintro _ w61 ⟨A64, c65, rfl, HQ62, hs66⟩
  have H63 : Own w D w61 [blk g0 [.slice A64 (List.length r59.xrest.ls) c65, .int .i64 r59.xerrno] 84, row A29 (List.length l31) c30 (List.flatMap eS l31) 9 1] := bk56 _ _ HQ62
  replace hs66 : SubS 1 A33 c34 l35 A64 c65 r59.xrest.ls := hs66
  have hz67 := (hs66).le
  refine WL.do rfl (Do.newRow (cs := [.string ⟨List.toArray r58⟩]) (t := 9) (sz := 1) (m := 1) H63 rfl rfl (fun _ => by kernel_rfl) rfl (by decide) ?_)
  intro A68 w69 H70
  replace H70 : Own w D w69 [row A68 1 1 (List.flatMap eS ([r58])) 9 1, blk g0 [.slice A64 (List.length r59.xrest.ls) c65, .int .i64 r59.xerrno] 84, row A29 (List.length l31) c30 (List.flatMap eS l31) 9 1] := H70
  have H71 : Own w D w69 [row A29 (List.length l31) c30 (List.flatMap eS l31) 9 1, row A68 1 1 (List.flatMap eS ([r58])) 9 1, blk g0 [.slice A64 (List.length r59.xrest.ls) c65, .int .i64 r59.xerrno] 84] := H70.pick [2, 0, 1] (by decide) rfl
  refine WL.do rfl (Do.appendW (k := List.length l31) (m := 1) (El24) H71 rfl rfl (src_of Try.underlying24 (H71.rds (i := 1) rfl) (flat_one eS_one ([r58]))) rfl (by omega) (s := List.length (l31 ++ [r58])) (by first | omega | (simp only [List.length_append, List.length_cons, List.length_nil] <;> omega)) (List.flatMap_append).symm ?_)
  intro A72 c73 w74 H75
  replace H75 : Own w D w74 [row A72 (List.length (l31 ++ [r58])) c73 (List.flatMap eS (l31 ++ [r58])) 9 1, row A68 1 1 (List.flatMap eS ([r58])) 9 1, blk g0 [.slice A64 (List.length r59.xrest.ls) c65, .int .i64 r59.xerrno] 84] := H75
  have hl76 : List.length (l31 ++ [r58]) = List.length l31 + 1 := by simp only [List.length_append, List.length_cons, List.length_nil]
  refine As rfl rfl (WL.nil (Fin.blockN (Fin.then (Wp.region (Mv rfl rfl (WL.val (v := .int .i64 ((k32 + 1 : Nat) : Int)) rfl (Yl.int (e := IntKind.i64.wrap (((k32 : Nat) : Int) + 1)) (Yl.kern rfl rfl (fun _ => by kernel_rfl)) (by rw [IntWalk.i64_in _ (by omega)]; omega)) (As rfl rfl (WL.nil ?_))))))))
  have H77 : Own w D w74 [blk g0 [.slice A64 (List.length r59.xrest.ls) c65, .int .i64 r59.xerrno] 84, row A72 (List.length (l31 ++ [r58])) c73 (List.flatMap eS (l31 ++ [r58])) 9 1] := H75.pick [2, 0] (by decide) rfl
  exact Fin.round (A72, c73, (l31 ++ [r58]), k32 + 1, A64, c65, r59.xrest.ls, r59.xerrno, f49) ⟨rfl, rfl, rfl, rfl, rfl, rfl, trivial⟩ ⟨H77, (show SubS 1 A0x0 c0x0 p0.xrest.ls A64 c65 r59.xrest.ls ∧ List.length (l31 ++ [r58]) ≤ (k32 + 1) ∧ ((k32 + 1) = 0 ∨ (((k32 + 1) : Nat) : Int) ≤ p1) ∧ Int.toNat p1 - (k32 + 1) < f49 ∧ reader_Times_string_L0 p1 ((Int.toNat p1 - 0) + 1) ([]) 0 p0.xrest.ls p0.xerrno = reader_Times_string_L0 p1 f49 (l31 ++ [r58]) (k32 + 1) r59.xrest.ls r59.xerrno from ⟨by exact (SubS.trans hi44 hs66), by omega, by omega, by omega, Eq.trans (hq43) (Eq.trans (if_pos h51) (Eq.trans (if_pos h52) (bnd_of hr60)))⟩)⟩ (by show f49 < f49 + 1; omega)
  refine Wp.cond0 rfl (decide_eq_false h52) (Wp.exit (Fin.thenX (Fin.thenX (Fin.blockX ?_))))
  have H78 : Own w D w40 [blk g0 [.slice A33 (List.length l35) c34, .int .i64 z36] 84, row A29 (List.length l31) c30 (List.flatMap eS l31) 9 1] := H41.pick [0, 1] (by decide) rfl
  exact Fin.join (A29, c30, l31, A33, c34, l35, z36) ⟨rfl, rfl, trivial⟩ ⟨H78, (show SubS 1 A0x0 c0x0 p0.xrest.ls A33 c34 l35 ∧ 0 ≤ List.length l31 ∧ List.length l35 ≤ List.length p0.xrest.ls ∧ List.length l35 ≤ List.length p0.xrest.ls + 1 ∧ List.length l31 ≤ 1000 ∧ (bnd (reader_Times_string_L0 p1 ((Int.toNat p1 - 0) + 1) ([]) 0 p0.xrest.ls p0.xerrno) fun sLrJjL => (sLrJjL.1, sLrJjL.2.1, sLrJjL.2.2)) = (l31, l35, z36) from ⟨by exact hi44, by omega, by omega, by omega, by omega, bnd_of (Eq.trans (hq43) (Eq.trans (if_pos h51) (if_neg h52)))⟩)⟩
  refine Sk rfl rfl (decide_eq_false h51) rfl (Sk rfl rfl (decide_eq_false h51) rfl (Sk rfl rfl (decide_eq_false h51) rfl (Sk rfl rfl (decide_eq_false h51) rfl (Sk rfl rfl (decide_eq_false h51) rfl (WL.val (v := .bool false) rfl (Yl.pickF rfl (decide_eq_false h51) rfl) (WL.nil (Fin.then (Wp.cond0 rfl rfl (Wp.exit (Fin.thenX (Fin.thenX (Fin.blockX ?_))))))))))))
  have H79 : Own w D w40 [blk g0 [.slice A33 (List.length l35) c34, .int .i64 z36] 84, row A29 (List.length l31) c30 (List.flatMap eS l31) 9 1] := H41.pick [0, 1] (by decide) rfl
  exact Fin.join (A29, c30, l31, A33, c34, l35, z36) ⟨rfl, rfl, trivial⟩ ⟨H79, (show SubS 1 A0x0 c0x0 p0.xrest.ls A33 c34 l35 ∧ 0 ≤ List.length l31 ∧ List.length l35 ≤ List.length p0.xrest.ls ∧ List.length l35 ≤ List.length p0.xrest.ls + 1 ∧ List.length l31 ≤ 1000 ∧ (bnd (reader_Times_string_L0 p1 ((Int.toNat p1 - 0) + 1) ([]) 0 p0.xrest.ls p0.xerrno) fun sLrJjL => (sLrJjL.1, sLrJjL.2.1, sLrJjL.2.2)) = (l31, l35, z36) from ⟨by exact hi44, by omega, by omega, by omega, by omega, bnd_of (Eq.trans (hq43) (if_neg h51))⟩)⟩
  rintro ⟨A21, c22, l23, A24, c25, l26, z27⟩ w80 ⟨H81, hf82⟩
  show Wp _ _ _ [(7, .slice A21 (List.length l23) c22), (6, .slice none 0 0)] _ _
  replace H81 : Own w D w80 [blk g0 [.slice A24 (List.length l26) c25, .int .i64 z27] 84, row A21 (List.length l23) c22 (List.flatMap eS l23) 9 1] := H81
  replace hf82 : SubS 1 A0x0 c0x0 p0.xrest.ls A24 c25 l26 ∧ 0 ≤ List.length l23 ∧ List.length l26 ≤ List.length p0.xrest.ls ∧ List.length l26 ≤ List.length p0.xrest.ls + 1 ∧ List.length l23 ≤ 1000 ∧ (bnd (reader_Times_string_L0 p1 ((Int.toNat p1 - 0) + 1) ([]) 0 p0.xrest.ls p0.xerrno) fun sLrJjL => (sLrJjL.1, sLrJjL.2.1, sLrJjL.2.2)) = (l23, l26, z27) := hf82
  obtain ⟨hi84, hi85, hi86, hi87, hi88, hj83⟩ := hf82
  have hz89 := (hi84).le
  refine Wp.seq (Wp.region (Mv rfl rfl (As rfl rfl (WL.nil (Fin.then (Wp.ret (Fin.res (res1 rfl rfl) ?_)))))))
  have H90 : Own w D w80 [row A21 (List.length l23) c22 (List.flatMap eS l23) 9 1, blk g0 [.slice A24 (List.length l26) c25, .int .i64 z27] 84] := H81.pick [1, 0] (by decide) rfl
  have e : reader_Times_string p0 p1 = (l23, ReaderT.mk (Ll.mk l26) z27) := bnd_of hj83
  obtain ⟨rfl, rfl⟩ := pj2 (e.symm.trans hr)
  exact ⟨A21, c22, A24, c25, rfl, H90, hi84, (by omega)⟩

def node_readOp (p0 : ReaderT) : OpD × ReaderT :=
  bnd (reader_Reader_Octet p0) fun yr30 => if ((yr30.1.toNat : Nat) : Int) = 2 then bnd (node_readText yr30.2) fun yr53 => bnd (node_readText yr53.2) fun yr72 => (OpD.mk ((yr30.1.toNat : Nat) : Int) yr53.1 yr72.1 ([]) ([]) 0, yr72.2) else if ((yr30.1.toNat : Nat) : Int) = 3 then bnd (node_readText yr30.2) fun yr96 => (OpD.mk ((yr30.1.toNat : Nat) : Int) yr96.1 ([]) ([]) ([]) 0, yr96.2) else if ((yr30.1.toNat : Nat) : Int) = 5 then bnd (node_readText yr30.2) fun yr120 => bnd (node_readText yr120.2) fun yr139 => (OpD.mk ((yr30.1.toNat : Nat) : Int) ([]) ([]) yr120.1 yr139.1 0, yr139.2) else bnd (reader_Reader_Fail yr30.2 11) fun yr162 => (OpD.mk ((yr30.1.toNat : Nat) : Int) ([]) ([]) ([]) ([]) 0, yr162)

set_option maxRecDepth 100000 in
theorem node_readOp_ok (w : World) (D : Nat → Prop) (g0 : Nat) (p0 : ReaderT) (A0x0 : Option Addr) (c0x0 : Nat) (r0 : OpD) (r1 : ReaderT) (H : Own w D w [blk g0 [.slice A0x0 (List.length p0.xrest.ls) c0x0, .int .i64 p0.xerrno] 84]) (hx0x0 : Ro w D fun w' => Rds w' 1 A0x0 (List.length p0.xrest.ls) (List.flatMap eB p0.xrest.ls)) (hb0x0 : List.length p0.xrest.ls ≤ c0x0 ∧ List.length p0.xrest.ls ≤ 9223372036854775807) (hr : node_readOp p0 = (r0, r1)) :
    Calls Try.prog 66 #[.pointer (some ⟨g0, 0, none⟩)] w (Ret fun v w' => ∃ (B1ox0 : Option Addr) (b1ox0 : Nat), v = .agg (OpD.cells r0).toArray ∧ Own w D w' [blk g0 [.slice B1ox0 (List.length r1.xrest.ls) b1ox0, .int .i64 r1.xerrno] 84] ∧ (SubS 1 A0x0 c0x0 p0.xrest.ls B1ox0 b1ox0 r1.xrest.ls)) := by
  refine Calls.body (args := [.pointer (some ⟨g0, 0, none⟩)]) Try.func66 rfl rfl rfl ?_
  show Wp _ _ _ [(0, .pointer (some ⟨g0, 0, none⟩))] _ _
  refine Wp.seq (Wp.region ?_)
  refine WL.do rfl (Do.newP (cs := [.int .i64 0, .string ⟨List.toArray ([])⟩, .string ⟨List.toArray ([])⟩, .string ⟨List.toArray ([])⟩, .string ⟨List.toArray ([])⟩, .int .i64 0]) (t := 51) H rfl rfl (fun _ => by kernel_rfl) ?_)
  intro g21 w22 H23
  replace H23 : Own w D w22 [blk g21 [.int .i64 0, .string ⟨List.toArray ([])⟩, .string ⟨List.toArray ([])⟩, .string ⟨List.toArray ([])⟩, .string ⟨List.toArray ([])⟩, .int .i64 0] 51, blk g0 [.slice A0x0 (List.length p0.xrest.ls) c0x0, .int .i64 p0.xerrno] 84] := H23
  refine WL.nil (Fin.then (Wp.seq (Wp.region (Mv rfl rfl ?_))))
  have H24 : Own w D w22 [blk g0 [.slice A0x0 (List.length p0.xrest.ls) c0x0, .int .i64 p0.xerrno] 84, blk g21 [.int .i64 0, .string ⟨List.toArray ([])⟩, .string ⟨List.toArray ([])⟩, .string ⟨List.toArray ([])⟩, .string ⟨List.toArray ([])⟩, .int .i64 0] 51] := H23.pick [1, 0] (by decide) rfl
  obtain ⟨⟨r30, r31⟩, hr32⟩ : ∃ q : UInt8 × ReaderT, reader_Reader_Octet p0 = q := ⟨_, rfl⟩
  obtain ⟨D25, HP26, ro27, bk28, rr29⟩ := Own.enter1 H24
  refine WL.do rfl (Do.call Try.call25 rfl (reader_Reader_Octet_ok _ _ g0 p0 A0x0 c0x0 r30 r31 HP26 (ro27 _ hx0x0) (show List.length p0.xrest.ls ≤ c0x0 ∧ List.length p0.xrest.ls ≤ 9223372036854775807 from by omega) hr32) ?_)
  rintro _ w33 ⟨A36, c37, rfl, HQ34, hs38⟩
  have H35 : Own w D w33 [blk g0 [.slice A36 (List.length r31.xrest.ls) c37, .int .i64 r31.xerrno] 84, blk g21 [.int .i64 0, .string ⟨List.toArray ([])⟩, .string ⟨List.toArray ([])⟩, .string ⟨List.toArray ([])⟩, .string ⟨List.toArray ([])⟩, .int .i64 0] 51] := bk28 _ _ HQ34
  replace hs38 : SubS 1 A0x0 c0x0 p0.xrest.ls A36 c37 r31.xrest.ls := hs38
  have hz39 := (hs38).le
  have hz40 : r30.toNat ≤ 255 := Nat.le_of_lt_succ (UInt8.toNat_lt _)
  refine WL.val (v := .int .i64 ((r30.toNat : Nat) : Int)) rfl (Yl.int (e := IntKind.i64.wrap ((r30.toNat : Nat) : Int)) (Yl.kern rfl rfl (fun _ => by kernel_rfl)) (IntWalk.i64_in _ (by omega))) (Kn (v := .agg #[.int .i64 ((r30.toNat : Nat) : Int), .string ⟨List.toArray ([])⟩, .string ⟨List.toArray ([])⟩, .string ⟨List.toArray ([])⟩, .string ⟨List.toArray ([])⟩, .int .i64 0]) rfl rfl rfl (fun _ => by kernel_rfl) ?_)
  refine WL.do rfl (Do.newP (cs := [.int .i64 0, .string ⟨List.toArray ([])⟩, .string ⟨List.toArray ([])⟩, .string ⟨List.toArray ([])⟩, .string ⟨List.toArray ([])⟩, .int .i64 0]) (t := 51) H35 rfl rfl (fun _ => by kernel_rfl) ?_)
  intro g41 w42 H43
  replace H43 : Own w D w42 [blk g41 [.int .i64 0, .string ⟨List.toArray ([])⟩, .string ⟨List.toArray ([])⟩, .string ⟨List.toArray ([])⟩, .string ⟨List.toArray ([])⟩, .int .i64 0] 51, blk g0 [.slice A36 (List.length r31.xrest.ls) c37, .int .i64 r31.xerrno] 84, blk g21 [.int .i64 0, .string ⟨List.toArray ([])⟩, .string ⟨List.toArray ([])⟩, .string ⟨List.toArray ([])⟩, .string ⟨List.toArray ([])⟩, .int .i64 0] 51] := H43
  refine WL.do0 (Do.store (vs := [.int .i64 ((r30.toNat : Nat) : Int), .string ⟨List.toArray ([])⟩, .string ⟨List.toArray ([])⟩, .string ⟨List.toArray ([])⟩, .string ⟨List.toArray ([])⟩, .int .i64 0]) (o := 0) H43 rfl rfl Try.sizeOf51 rfl rfl rfl rfl ?_)
  intro w44 H45
  replace H45 : Own w D w44 [blk g41 [.int .i64 ((r30.toNat : Nat) : Int), .string ⟨List.toArray ([])⟩, .string ⟨List.toArray ([])⟩, .string ⟨List.toArray ([])⟩, .string ⟨List.toArray ([])⟩, .int .i64 0] 51, blk g0 [.slice A36 (List.length r31.xrest.ls) c37, .int .i64 r31.xerrno] 84, blk g21 [.int .i64 0, .string ⟨List.toArray ([])⟩, .string ⟨List.toArray ([])⟩, .string ⟨List.toArray ([])⟩, .string ⟨List.toArray ([])⟩, .int .i64 0] 51] := H45
  refine WL.nil (Fin.then (Wp.seq (Wp.seq (Wp.region (Kn (v := .pointer (some ⟨g41, 0, none⟩)) rfl rfl rfl (fun _ => by kernel_rfl) (WL.val (v := .int .i64 ((r30.toNat : Nat) : Int)) rfl (Yl.load rfl (Lds.one Try.isAgg3 (Cls.of (H45.cls (i := 0) rfl) rfl))) (WL.nil (Fin.then (Wp.block (Wp.seq (Wp.region (Kn (v := .bool (decide (((r30.toNat : Nat) : Int) = 2))) rfl rfl rfl (fun _ => by kernel_rfl) (As rfl rfl (WL.nil (Fin.then ?_)))))))))))))))
  by_cases h46 : ((r30.toNat : Nat) : Int) = 2
  refine Wp.cond1 rfl (decide_eq_true h46) (Wp.seq (Wp.region (Mv rfl rfl ?_)))
  have H47 : Own w D w44 [blk g0 [.slice A36 (List.length r31.xrest.ls) c37, .int .i64 r31.xerrno] 84, blk g41 [.int .i64 ((r30.toNat : Nat) : Int), .string ⟨List.toArray ([])⟩, .string ⟨List.toArray ([])⟩, .string ⟨List.toArray ([])⟩, .string ⟨List.toArray ([])⟩, .int .i64 0] 51, blk g21 [.int .i64 0, .string ⟨List.toArray ([])⟩, .string ⟨List.toArray ([])⟩, .string ⟨List.toArray ([])⟩, .string ⟨List.toArray ([])⟩, .int .i64 0] 51] := H45.pick [1, 0, 2] (by decide) rfl
  obtain ⟨⟨r53, r54⟩, hr55⟩ : ∃ q : (List UInt8) × ReaderT, node_readText r31 = q := ⟨_, rfl⟩
  obtain ⟨D48, HP49, ro50, bk51, rr52⟩ := Own.enter1 H47
  refine WL.do rfl (Do.call Try.call43 rfl (node_readText_ok _ _ g0 r31 A36 c37 r53 r54 HP49 (fun w9 h9 => SubS.rds eB_len (by decide) hs38 ((ro50 _ hx0x0) w9 h9)) (show List.length r31.xrest.ls ≤ c37 ∧ List.length r31.xrest.ls ≤ 9223372036854775807 from by omega) hr55) ?_)
  rintro _ w56 ⟨A59, c60, rfl, HQ57, hs61⟩
  have H58 : Own w D w56 [blk g0 [.slice A59 (List.length r54.xrest.ls) c60, .int .i64 r54.xerrno] 84, blk g41 [.int .i64 ((r30.toNat : Nat) : Int), .string ⟨List.toArray ([])⟩, .string ⟨List.toArray ([])⟩, .string ⟨List.toArray ([])⟩, .string ⟨List.toArray ([])⟩, .int .i64 0] 51, blk g21 [.int .i64 0, .string ⟨List.toArray ([])⟩, .string ⟨List.toArray ([])⟩, .string ⟨List.toArray ([])⟩, .string ⟨List.toArray ([])⟩, .int .i64 0] 51] := bk51 _ _ HQ57
  replace hs61 : SubS 1 A36 c37 r31.xrest.ls A59 c60 r54.xrest.ls := hs61
  have hz62 := (hs61).le
  refine Kn (v := .pointer (some ⟨g41, 1, none⟩)) rfl rfl rfl (fun _ => by kernel_rfl) ?_
  have H63 : Own w D w56 [blk g41 [.int .i64 ((r30.toNat : Nat) : Int), .string ⟨List.toArray ([])⟩, .string ⟨List.toArray ([])⟩, .string ⟨List.toArray ([])⟩, .string ⟨List.toArray ([])⟩, .int .i64 0] 51, blk g0 [.slice A59 (List.length r54.xrest.ls) c60, .int .i64 r54.xerrno] 84, blk g21 [.int .i64 0, .string ⟨List.toArray ([])⟩, .string ⟨List.toArray ([])⟩, .string ⟨List.toArray ([])⟩, .string ⟨List.toArray ([])⟩, .int .i64 0] 51] := H58.pick [1, 0, 2] (by decide) rfl
  refine WL.do0 (Do.store (vs := [.string ⟨List.toArray r53⟩]) (o := 1) H63 rfl rfl Try.sizeOf9 rfl rfl rfl rfl ?_)
  intro w64 H65
  replace H65 : Own w D w64 [blk g41 [.int .i64 ((r30.toNat : Nat) : Int), .string ⟨List.toArray r53⟩, .string ⟨List.toArray ([])⟩, .string ⟨List.toArray ([])⟩, .string ⟨List.toArray ([])⟩, .int .i64 0] 51, blk g0 [.slice A59 (List.length r54.xrest.ls) c60, .int .i64 r54.xerrno] 84, blk g21 [.int .i64 0, .string ⟨List.toArray ([])⟩, .string ⟨List.toArray ([])⟩, .string ⟨List.toArray ([])⟩, .string ⟨List.toArray ([])⟩, .int .i64 0] 51] := H65
  refine WL.nil (Fin.then (Wp.region (Mv rfl rfl ?_)))
  have H66 : Own w D w64 [blk g0 [.slice A59 (List.length r54.xrest.ls) c60, .int .i64 r54.xerrno] 84, blk g41 [.int .i64 ((r30.toNat : Nat) : Int), .string ⟨List.toArray r53⟩, .string ⟨List.toArray ([])⟩, .string ⟨List.toArray ([])⟩, .string ⟨List.toArray ([])⟩, .int .i64 0] 51, blk g21 [.int .i64 0, .string ⟨List.toArray ([])⟩, .string ⟨List.toArray ([])⟩, .string ⟨List.toArray ([])⟩, .string ⟨List.toArray ([])⟩, .int .i64 0] 51] := H65.pick [1, 0, 2] (by decide) rfl
  obtain ⟨⟨r72, r73⟩, hr74⟩ : ∃ q : (List UInt8) × ReaderT, node_readText r54 = q := ⟨_, rfl⟩
  obtain ⟨D67, HP68, ro69, bk70, rr71⟩ := Own.enter1 H66
  refine WL.do rfl (Do.call Try.call43 rfl (node_readText_ok _ _ g0 r54 A59 c60 r72 r73 HP68 (fun w9 h9 => SubS.rds eB_len (by decide) hs61 ((fun w9 h9 => SubS.rds eB_len (by decide) hs38 ((ro69 _ hx0x0) w9 h9)) w9 h9)) (show List.length r54.xrest.ls ≤ c60 ∧ List.length r54.xrest.ls ≤ 9223372036854775807 from by omega) hr74) ?_)
  rintro _ w75 ⟨A78, c79, rfl, HQ76, hs80⟩
  have H77 : Own w D w75 [blk g0 [.slice A78 (List.length r73.xrest.ls) c79, .int .i64 r73.xerrno] 84, blk g41 [.int .i64 ((r30.toNat : Nat) : Int), .string ⟨List.toArray r53⟩, .string ⟨List.toArray ([])⟩, .string ⟨List.toArray ([])⟩, .string ⟨List.toArray ([])⟩, .int .i64 0] 51, blk g21 [.int .i64 0, .string ⟨List.toArray ([])⟩, .string ⟨List.toArray ([])⟩, .string ⟨List.toArray ([])⟩, .string ⟨List.toArray ([])⟩, .int .i64 0] 51] := bk70 _ _ HQ76
  replace hs80 : SubS 1 A59 c60 r54.xrest.ls A78 c79 r73.xrest.ls := hs80
  have hz81 := (hs80).le
  refine Kn (v := .pointer (some ⟨g41, 2, none⟩)) rfl rfl rfl (fun _ => by kernel_rfl) ?_
  have H82 : Own w D w75 [blk g41 [.int .i64 ((r30.toNat : Nat) : Int), .string ⟨List.toArray r53⟩, .string ⟨List.toArray ([])⟩, .string ⟨List.toArray ([])⟩, .string ⟨List.toArray ([])⟩, .int .i64 0] 51, blk g0 [.slice A78 (List.length r73.xrest.ls) c79, .int .i64 r73.xerrno] 84, blk g21 [.int .i64 0, .string ⟨List.toArray ([])⟩, .string ⟨List.toArray ([])⟩, .string ⟨List.toArray ([])⟩, .string ⟨List.toArray ([])⟩, .int .i64 0] 51] := H77.pick [1, 0, 2] (by decide) rfl
  refine WL.do0 (Do.store (vs := [.string ⟨List.toArray r72⟩]) (o := 2) H82 rfl rfl Try.sizeOf9 rfl rfl rfl rfl ?_)
  intro w83 H84
  replace H84 : Own w D w83 [blk g41 [.int .i64 ((r30.toNat : Nat) : Int), .string ⟨List.toArray r53⟩, .string ⟨List.toArray r72⟩, .string ⟨List.toArray ([])⟩, .string ⟨List.toArray ([])⟩, .int .i64 0] 51, blk g0 [.slice A78 (List.length r73.xrest.ls) c79, .int .i64 r73.xerrno] 84, blk g21 [.int .i64 0, .string ⟨List.toArray ([])⟩, .string ⟨List.toArray ([])⟩, .string ⟨List.toArray ([])⟩, .string ⟨List.toArray ([])⟩, .int .i64 0] 51] := H84
  refine WL.nil (Fin.blockN (Fin.then (Wp.seq (Wp.region (WL.val (v := .agg #[.int .i64 ((r30.toNat : Nat) : Int), .string ⟨List.toArray r53⟩, .string ⟨List.toArray r72⟩, .string ⟨List.toArray ([])⟩, .string ⟨List.toArray ([])⟩, .int .i64 0]) rfl (Yl.load rfl (Lds.agg (cs := [.int .i64 ((r30.toNat : Nat) : Int), .string ⟨List.toArray r53⟩, .string ⟨List.toArray r72⟩, .string ⟨List.toArray ([])⟩, .string ⟨List.toArray ([])⟩, .int .i64 0]) Try.isAgg51 Try.sizeOf51 ((H84.cls (i := 0) rfl).lit (k := 0) (m := 6) rfl))) ?_)))))
  have H85 : Own w D w83 [blk g21 [.int .i64 0, .string ⟨List.toArray ([])⟩, .string ⟨List.toArray ([])⟩, .string ⟨List.toArray ([])⟩, .string ⟨List.toArray ([])⟩, .int .i64 0] 51, blk g41 [.int .i64 ((r30.toNat : Nat) : Int), .string ⟨List.toArray r53⟩, .string ⟨List.toArray r72⟩, .string ⟨List.toArray ([])⟩, .string ⟨List.toArray ([])⟩, .int .i64 0] 51, blk g0 [.slice A78 (List.length r73.xrest.ls) c79, .int .i64 r73.xerrno] 84] := H84.pick [2, 0, 1] (by decide) rfl
  refine WL.do0 (Do.store (vs := [.int .i64 ((r30.toNat : Nat) : Int), .string ⟨List.toArray r53⟩, .string ⟨List.toArray r72⟩, .string ⟨List.toArray ([])⟩, .string ⟨List.toArray ([])⟩, .int .i64 0]) (o := 0) H85 rfl rfl Try.sizeOf51 rfl rfl rfl rfl ?_)
  intro w86 H87
  replace H87 : Own w D w86 [blk g21 [.int .i64 ((r30.toNat : Nat) : Int), .string ⟨List.toArray r53⟩, .string ⟨List.toArray r72⟩, .string ⟨List.toArray ([])⟩, .string ⟨List.toArray ([])⟩, .int .i64 0] 51, blk g41 [.int .i64 ((r30.toNat : Nat) : Int), .string ⟨List.toArray r53⟩, .string ⟨List.toArray r72⟩, .string ⟨List.toArray ([])⟩, .string ⟨List.toArray ([])⟩, .int .i64 0] 51, blk g0 [.slice A78 (List.length r73.xrest.ls) c79, .int .i64 r73.xerrno] 84] := H87
  refine WL.nil (Fin.then (Wp.ret (Fin.res (resC rfl rfl (Lds.agg (cs := [.int .i64 ((r30.toNat : Nat) : Int), .string ⟨List.toArray r53⟩, .string ⟨List.toArray r72⟩, .string ⟨List.toArray ([])⟩, .string ⟨List.toArray ([])⟩, .int .i64 0]) Try.isAgg51 Try.sizeOf51 ((H87.cls (i := 0) rfl).lit (k := 0) (m := 6) rfl))) ?_)))
  have H88 : Own w D w86 [blk g0 [.slice A78 (List.length r73.xrest.ls) c79, .int .i64 r73.xerrno] 84] := H87.pick [2] (by decide) rfl
  have e : node_readOp p0 = (OpD.mk ((r30.toNat : Nat) : Int) r53 r72 ([]) ([]) 0, r73) := Eq.trans (bnd_of hr32) (Eq.trans (if_pos h46) (Eq.trans (bnd_of hr55) (bnd_of hr74)))
  obtain ⟨rfl, rfl⟩ := pj2 (e.symm.trans hr)
  exact ⟨A78, c79, rfl, H88, (SubS.trans (SubS.trans hs38 hs61) hs80)⟩
  refine Wp.cond0 rfl (decide_eq_false h46) (Wp.seq (Wp.region (Kn (v := .bool (decide (((r30.toNat : Nat) : Int) = 3))) rfl rfl rfl (fun _ => by kernel_rfl) (As rfl rfl (WL.nil (Fin.then ?_))))))
  by_cases h89 : ((r30.toNat : Nat) : Int) = 3
  refine Wp.cond1 rfl (decide_eq_true h89) (Wp.region (Mv rfl rfl ?_))
  have H90 : Own w D w44 [blk g0 [.slice A36 (List.length r31.xrest.ls) c37, .int .i64 r31.xerrno] 84, blk g41 [.int .i64 ((r30.toNat : Nat) : Int), .string ⟨List.toArray ([])⟩, .string ⟨List.toArray ([])⟩, .string ⟨List.toArray ([])⟩, .string ⟨List.toArray ([])⟩, .int .i64 0] 51, blk g21 [.int .i64 0, .string ⟨List.toArray ([])⟩, .string ⟨List.toArray ([])⟩, .string ⟨List.toArray ([])⟩, .string ⟨List.toArray ([])⟩, .int .i64 0] 51] := H45.pick [1, 0, 2] (by decide) rfl
  obtain ⟨⟨r96, r97⟩, hr98⟩ : ∃ q : (List UInt8) × ReaderT, node_readText r31 = q := ⟨_, rfl⟩
  obtain ⟨D91, HP92, ro93, bk94, rr95⟩ := Own.enter1 H90
  refine WL.do rfl (Do.call Try.call43 rfl (node_readText_ok _ _ g0 r31 A36 c37 r96 r97 HP92 (fun w9 h9 => SubS.rds eB_len (by decide) hs38 ((ro93 _ hx0x0) w9 h9)) (show List.length r31.xrest.ls ≤ c37 ∧ List.length r31.xrest.ls ≤ 9223372036854775807 from by omega) hr98) ?_)
  rintro _ w99 ⟨A102, c103, rfl, HQ100, hs104⟩
  have H101 : Own w D w99 [blk g0 [.slice A102 (List.length r97.xrest.ls) c103, .int .i64 r97.xerrno] 84, blk g41 [.int .i64 ((r30.toNat : Nat) : Int), .string ⟨List.toArray ([])⟩, .string ⟨List.toArray ([])⟩, .string ⟨List.toArray ([])⟩, .string ⟨List.toArray ([])⟩, .int .i64 0] 51, blk g21 [.int .i64 0, .string ⟨List.toArray ([])⟩, .string ⟨List.toArray ([])⟩, .string ⟨List.toArray ([])⟩, .string ⟨List.toArray ([])⟩, .int .i64 0] 51] := bk94 _ _ HQ100
  replace hs104 : SubS 1 A36 c37 r31.xrest.ls A102 c103 r97.xrest.ls := hs104
  have hz105 := (hs104).le
  refine Kn (v := .pointer (some ⟨g41, 1, none⟩)) rfl rfl rfl (fun _ => by kernel_rfl) ?_
  have H106 : Own w D w99 [blk g41 [.int .i64 ((r30.toNat : Nat) : Int), .string ⟨List.toArray ([])⟩, .string ⟨List.toArray ([])⟩, .string ⟨List.toArray ([])⟩, .string ⟨List.toArray ([])⟩, .int .i64 0] 51, blk g0 [.slice A102 (List.length r97.xrest.ls) c103, .int .i64 r97.xerrno] 84, blk g21 [.int .i64 0, .string ⟨List.toArray ([])⟩, .string ⟨List.toArray ([])⟩, .string ⟨List.toArray ([])⟩, .string ⟨List.toArray ([])⟩, .int .i64 0] 51] := H101.pick [1, 0, 2] (by decide) rfl
  refine WL.do0 (Do.store (vs := [.string ⟨List.toArray r96⟩]) (o := 1) H106 rfl rfl Try.sizeOf9 rfl rfl rfl rfl ?_)
  intro w107 H108
  replace H108 : Own w D w107 [blk g41 [.int .i64 ((r30.toNat : Nat) : Int), .string ⟨List.toArray r96⟩, .string ⟨List.toArray ([])⟩, .string ⟨List.toArray ([])⟩, .string ⟨List.toArray ([])⟩, .int .i64 0] 51, blk g0 [.slice A102 (List.length r97.xrest.ls) c103, .int .i64 r97.xerrno] 84, blk g21 [.int .i64 0, .string ⟨List.toArray ([])⟩, .string ⟨List.toArray ([])⟩, .string ⟨List.toArray ([])⟩, .string ⟨List.toArray ([])⟩, .int .i64 0] 51] := H108
  refine WL.nil (Fin.blockN (Fin.then (Wp.seq (Wp.region (WL.val (v := .agg #[.int .i64 ((r30.toNat : Nat) : Int), .string ⟨List.toArray r96⟩, .string ⟨List.toArray ([])⟩, .string ⟨List.toArray ([])⟩, .string ⟨List.toArray ([])⟩, .int .i64 0]) rfl (Yl.load rfl (Lds.agg (cs := [.int .i64 ((r30.toNat : Nat) : Int), .string ⟨List.toArray r96⟩, .string ⟨List.toArray ([])⟩, .string ⟨List.toArray ([])⟩, .string ⟨List.toArray ([])⟩, .int .i64 0]) Try.isAgg51 Try.sizeOf51 ((H108.cls (i := 0) rfl).lit (k := 0) (m := 6) rfl))) ?_)))))
  have H109 : Own w D w107 [blk g21 [.int .i64 0, .string ⟨List.toArray ([])⟩, .string ⟨List.toArray ([])⟩, .string ⟨List.toArray ([])⟩, .string ⟨List.toArray ([])⟩, .int .i64 0] 51, blk g41 [.int .i64 ((r30.toNat : Nat) : Int), .string ⟨List.toArray r96⟩, .string ⟨List.toArray ([])⟩, .string ⟨List.toArray ([])⟩, .string ⟨List.toArray ([])⟩, .int .i64 0] 51, blk g0 [.slice A102 (List.length r97.xrest.ls) c103, .int .i64 r97.xerrno] 84] := H108.pick [2, 0, 1] (by decide) rfl
  refine WL.do0 (Do.store (vs := [.int .i64 ((r30.toNat : Nat) : Int), .string ⟨List.toArray r96⟩, .string ⟨List.toArray ([])⟩, .string ⟨List.toArray ([])⟩, .string ⟨List.toArray ([])⟩, .int .i64 0]) (o := 0) H109 rfl rfl Try.sizeOf51 rfl rfl rfl rfl ?_)
  intro w110 H111
  replace H111 : Own w D w110 [blk g21 [.int .i64 ((r30.toNat : Nat) : Int), .string ⟨List.toArray r96⟩, .string ⟨List.toArray ([])⟩, .string ⟨List.toArray ([])⟩, .string ⟨List.toArray ([])⟩, .int .i64 0] 51, blk g41 [.int .i64 ((r30.toNat : Nat) : Int), .string ⟨List.toArray r96⟩, .string ⟨List.toArray ([])⟩, .string ⟨List.toArray ([])⟩, .string ⟨List.toArray ([])⟩, .int .i64 0] 51, blk g0 [.slice A102 (List.length r97.xrest.ls) c103, .int .i64 r97.xerrno] 84] := H111
  refine WL.nil (Fin.then (Wp.ret (Fin.res (resC rfl rfl (Lds.agg (cs := [.int .i64 ((r30.toNat : Nat) : Int), .string ⟨List.toArray r96⟩, .string ⟨List.toArray ([])⟩, .string ⟨List.toArray ([])⟩, .string ⟨List.toArray ([])⟩, .int .i64 0]) Try.isAgg51 Try.sizeOf51 ((H111.cls (i := 0) rfl).lit (k := 0) (m := 6) rfl))) ?_)))
  have H112 : Own w D w110 [blk g0 [.slice A102 (List.length r97.xrest.ls) c103, .int .i64 r97.xerrno] 84] := H111.pick [2] (by decide) rfl
  have e : node_readOp p0 = (OpD.mk ((r30.toNat : Nat) : Int) r96 ([]) ([]) ([]) 0, r97) := Eq.trans (bnd_of hr32) (Eq.trans (if_neg h46) (Eq.trans (if_pos h89) (bnd_of hr98)))
  obtain ⟨rfl, rfl⟩ := pj2 (e.symm.trans hr)
  exact ⟨A102, c103, rfl, H112, (SubS.trans hs38 hs104)⟩
  refine Wp.cond0 rfl (decide_eq_false h89) (Wp.seq (Wp.region (Kn (v := .bool (decide (((r30.toNat : Nat) : Int) = 5))) rfl rfl rfl (fun _ => by kernel_rfl) (As rfl rfl (WL.nil (Fin.then ?_))))))
  by_cases h113 : ((r30.toNat : Nat) : Int) = 5
  refine Wp.cond1 rfl (decide_eq_true h113) (Wp.seq (Wp.region (Mv rfl rfl ?_)))
  have H114 : Own w D w44 [blk g0 [.slice A36 (List.length r31.xrest.ls) c37, .int .i64 r31.xerrno] 84, blk g41 [.int .i64 ((r30.toNat : Nat) : Int), .string ⟨List.toArray ([])⟩, .string ⟨List.toArray ([])⟩, .string ⟨List.toArray ([])⟩, .string ⟨List.toArray ([])⟩, .int .i64 0] 51, blk g21 [.int .i64 0, .string ⟨List.toArray ([])⟩, .string ⟨List.toArray ([])⟩, .string ⟨List.toArray ([])⟩, .string ⟨List.toArray ([])⟩, .int .i64 0] 51] := H45.pick [1, 0, 2] (by decide) rfl
  obtain ⟨⟨r120, r121⟩, hr122⟩ : ∃ q : (List UInt8) × ReaderT, node_readText r31 = q := ⟨_, rfl⟩
  obtain ⟨D115, HP116, ro117, bk118, rr119⟩ := Own.enter1 H114
  refine WL.do rfl (Do.call Try.call43 rfl (node_readText_ok _ _ g0 r31 A36 c37 r120 r121 HP116 (fun w9 h9 => SubS.rds eB_len (by decide) hs38 ((ro117 _ hx0x0) w9 h9)) (show List.length r31.xrest.ls ≤ c37 ∧ List.length r31.xrest.ls ≤ 9223372036854775807 from by omega) hr122) ?_)
  rintro _ w123 ⟨A126, c127, rfl, HQ124, hs128⟩
  have H125 : Own w D w123 [blk g0 [.slice A126 (List.length r121.xrest.ls) c127, .int .i64 r121.xerrno] 84, blk g41 [.int .i64 ((r30.toNat : Nat) : Int), .string ⟨List.toArray ([])⟩, .string ⟨List.toArray ([])⟩, .string ⟨List.toArray ([])⟩, .string ⟨List.toArray ([])⟩, .int .i64 0] 51, blk g21 [.int .i64 0, .string ⟨List.toArray ([])⟩, .string ⟨List.toArray ([])⟩, .string ⟨List.toArray ([])⟩, .string ⟨List.toArray ([])⟩, .int .i64 0] 51] := bk118 _ _ HQ124
  replace hs128 : SubS 1 A36 c37 r31.xrest.ls A126 c127 r121.xrest.ls := hs128
  have hz129 := (hs128).le
  refine Kn (v := .pointer (some ⟨g41, 3, none⟩)) rfl rfl rfl (fun _ => by kernel_rfl) ?_
  have H130 : Own w D w123 [blk g41 [.int .i64 ((r30.toNat : Nat) : Int), .string ⟨List.toArray ([])⟩, .string ⟨List.toArray ([])⟩, .string ⟨List.toArray ([])⟩, .string ⟨List.toArray ([])⟩, .int .i64 0] 51, blk g0 [.slice A126 (List.length r121.xrest.ls) c127, .int .i64 r121.xerrno] 84, blk g21 [.int .i64 0, .string ⟨List.toArray ([])⟩, .string ⟨List.toArray ([])⟩, .string ⟨List.toArray ([])⟩, .string ⟨List.toArray ([])⟩, .int .i64 0] 51] := H125.pick [1, 0, 2] (by decide) rfl
  refine WL.do0 (Do.store (vs := [.string ⟨List.toArray r120⟩]) (o := 3) H130 rfl rfl Try.sizeOf9 rfl rfl rfl rfl ?_)
  intro w131 H132
  replace H132 : Own w D w131 [blk g41 [.int .i64 ((r30.toNat : Nat) : Int), .string ⟨List.toArray ([])⟩, .string ⟨List.toArray ([])⟩, .string ⟨List.toArray r120⟩, .string ⟨List.toArray ([])⟩, .int .i64 0] 51, blk g0 [.slice A126 (List.length r121.xrest.ls) c127, .int .i64 r121.xerrno] 84, blk g21 [.int .i64 0, .string ⟨List.toArray ([])⟩, .string ⟨List.toArray ([])⟩, .string ⟨List.toArray ([])⟩, .string ⟨List.toArray ([])⟩, .int .i64 0] 51] := H132
  refine WL.nil (Fin.then (Wp.region (Mv rfl rfl ?_)))
  have H133 : Own w D w131 [blk g0 [.slice A126 (List.length r121.xrest.ls) c127, .int .i64 r121.xerrno] 84, blk g41 [.int .i64 ((r30.toNat : Nat) : Int), .string ⟨List.toArray ([])⟩, .string ⟨List.toArray ([])⟩, .string ⟨List.toArray r120⟩, .string ⟨List.toArray ([])⟩, .int .i64 0] 51, blk g21 [.int .i64 0, .string ⟨List.toArray ([])⟩, .string ⟨List.toArray ([])⟩, .string ⟨List.toArray ([])⟩, .string ⟨List.toArray ([])⟩, .int .i64 0] 51] := H132.pick [1, 0, 2] (by decide) rfl
  obtain ⟨⟨r139, r140⟩, hr141⟩ : ∃ q : (List UInt8) × ReaderT, node_readText r121 = q := ⟨_, rfl⟩
  obtain ⟨D134, HP135, ro136, bk137, rr138⟩ := Own.enter1 H133
  refine WL.do rfl (Do.call Try.call43 rfl (node_readText_ok _ _ g0 r121 A126 c127 r139 r140 HP135 (fun w9 h9 => SubS.rds eB_len (by decide) hs128 ((fun w9 h9 => SubS.rds eB_len (by decide) hs38 ((ro136 _ hx0x0) w9 h9)) w9 h9)) (show List.length r121.xrest.ls ≤ c127 ∧ List.length r121.xrest.ls ≤ 9223372036854775807 from by omega) hr141) ?_)
  rintro _ w142 ⟨A145, c146, rfl, HQ143, hs147⟩
  have H144 : Own w D w142 [blk g0 [.slice A145 (List.length r140.xrest.ls) c146, .int .i64 r140.xerrno] 84, blk g41 [.int .i64 ((r30.toNat : Nat) : Int), .string ⟨List.toArray ([])⟩, .string ⟨List.toArray ([])⟩, .string ⟨List.toArray r120⟩, .string ⟨List.toArray ([])⟩, .int .i64 0] 51, blk g21 [.int .i64 0, .string ⟨List.toArray ([])⟩, .string ⟨List.toArray ([])⟩, .string ⟨List.toArray ([])⟩, .string ⟨List.toArray ([])⟩, .int .i64 0] 51] := bk137 _ _ HQ143
  replace hs147 : SubS 1 A126 c127 r121.xrest.ls A145 c146 r140.xrest.ls := hs147
  have hz148 := (hs147).le
  refine Kn (v := .pointer (some ⟨g41, 4, none⟩)) rfl rfl rfl (fun _ => by kernel_rfl) ?_
  have H149 : Own w D w142 [blk g41 [.int .i64 ((r30.toNat : Nat) : Int), .string ⟨List.toArray ([])⟩, .string ⟨List.toArray ([])⟩, .string ⟨List.toArray r120⟩, .string ⟨List.toArray ([])⟩, .int .i64 0] 51, blk g0 [.slice A145 (List.length r140.xrest.ls) c146, .int .i64 r140.xerrno] 84, blk g21 [.int .i64 0, .string ⟨List.toArray ([])⟩, .string ⟨List.toArray ([])⟩, .string ⟨List.toArray ([])⟩, .string ⟨List.toArray ([])⟩, .int .i64 0] 51] := H144.pick [1, 0, 2] (by decide) rfl
  refine WL.do0 (Do.store (vs := [.string ⟨List.toArray r139⟩]) (o := 4) H149 rfl rfl Try.sizeOf9 rfl rfl rfl rfl ?_)
  intro w150 H151
  replace H151 : Own w D w150 [blk g41 [.int .i64 ((r30.toNat : Nat) : Int), .string ⟨List.toArray ([])⟩, .string ⟨List.toArray ([])⟩, .string ⟨List.toArray r120⟩, .string ⟨List.toArray r139⟩, .int .i64 0] 51, blk g0 [.slice A145 (List.length r140.xrest.ls) c146, .int .i64 r140.xerrno] 84, blk g21 [.int .i64 0, .string ⟨List.toArray ([])⟩, .string ⟨List.toArray ([])⟩, .string ⟨List.toArray ([])⟩, .string ⟨List.toArray ([])⟩, .int .i64 0] 51] := H151
  refine WL.nil (Fin.blockN (Fin.then (Wp.seq (Wp.region (WL.val (v := .agg #[.int .i64 ((r30.toNat : Nat) : Int), .string ⟨List.toArray ([])⟩, .string ⟨List.toArray ([])⟩, .string ⟨List.toArray r120⟩, .string ⟨List.toArray r139⟩, .int .i64 0]) rfl (Yl.load rfl (Lds.agg (cs := [.int .i64 ((r30.toNat : Nat) : Int), .string ⟨List.toArray ([])⟩, .string ⟨List.toArray ([])⟩, .string ⟨List.toArray r120⟩, .string ⟨List.toArray r139⟩, .int .i64 0]) Try.isAgg51 Try.sizeOf51 ((H151.cls (i := 0) rfl).lit (k := 0) (m := 6) rfl))) ?_)))))
  have H152 : Own w D w150 [blk g21 [.int .i64 0, .string ⟨List.toArray ([])⟩, .string ⟨List.toArray ([])⟩, .string ⟨List.toArray ([])⟩, .string ⟨List.toArray ([])⟩, .int .i64 0] 51, blk g41 [.int .i64 ((r30.toNat : Nat) : Int), .string ⟨List.toArray ([])⟩, .string ⟨List.toArray ([])⟩, .string ⟨List.toArray r120⟩, .string ⟨List.toArray r139⟩, .int .i64 0] 51, blk g0 [.slice A145 (List.length r140.xrest.ls) c146, .int .i64 r140.xerrno] 84] := H151.pick [2, 0, 1] (by decide) rfl
  refine WL.do0 (Do.store (vs := [.int .i64 ((r30.toNat : Nat) : Int), .string ⟨List.toArray ([])⟩, .string ⟨List.toArray ([])⟩, .string ⟨List.toArray r120⟩, .string ⟨List.toArray r139⟩, .int .i64 0]) (o := 0) H152 rfl rfl Try.sizeOf51 rfl rfl rfl rfl ?_)
  intro w153 H154
  replace H154 : Own w D w153 [blk g21 [.int .i64 ((r30.toNat : Nat) : Int), .string ⟨List.toArray ([])⟩, .string ⟨List.toArray ([])⟩, .string ⟨List.toArray r120⟩, .string ⟨List.toArray r139⟩, .int .i64 0] 51, blk g41 [.int .i64 ((r30.toNat : Nat) : Int), .string ⟨List.toArray ([])⟩, .string ⟨List.toArray ([])⟩, .string ⟨List.toArray r120⟩, .string ⟨List.toArray r139⟩, .int .i64 0] 51, blk g0 [.slice A145 (List.length r140.xrest.ls) c146, .int .i64 r140.xerrno] 84] := H154
  refine WL.nil (Fin.then (Wp.ret (Fin.res (resC rfl rfl (Lds.agg (cs := [.int .i64 ((r30.toNat : Nat) : Int), .string ⟨List.toArray ([])⟩, .string ⟨List.toArray ([])⟩, .string ⟨List.toArray r120⟩, .string ⟨List.toArray r139⟩, .int .i64 0]) Try.isAgg51 Try.sizeOf51 ((H154.cls (i := 0) rfl).lit (k := 0) (m := 6) rfl))) ?_)))
  have H155 : Own w D w153 [blk g0 [.slice A145 (List.length r140.xrest.ls) c146, .int .i64 r140.xerrno] 84] := H154.pick [2] (by decide) rfl
  have e : node_readOp p0 = (OpD.mk ((r30.toNat : Nat) : Int) ([]) ([]) r120 r139 0, r140) := Eq.trans (bnd_of hr32) (Eq.trans (if_neg h46) (Eq.trans (if_neg h89) (Eq.trans (if_pos h113) (Eq.trans (bnd_of hr122) (bnd_of hr141)))))
  obtain ⟨rfl, rfl⟩ := pj2 (e.symm.trans hr)
  exact ⟨A145, c146, rfl, H155, (SubS.trans (SubS.trans hs38 hs128) hs147)⟩
  refine Wp.cond0 rfl (decide_eq_false h113) (Wp.region (Mv rfl rfl ?_))
  have H156 : Own w D w44 [blk g0 [.slice A36 (List.length r31.xrest.ls) c37, .int .i64 r31.xerrno] 84, blk g41 [.int .i64 ((r30.toNat : Nat) : Int), .string ⟨List.toArray ([])⟩, .string ⟨List.toArray ([])⟩, .string ⟨List.toArray ([])⟩, .string ⟨List.toArray ([])⟩, .int .i64 0] 51, blk g21 [.int .i64 0, .string ⟨List.toArray ([])⟩, .string ⟨List.toArray ([])⟩, .string ⟨List.toArray ([])⟩, .string ⟨List.toArray ([])⟩, .int .i64 0] 51] := H45.pick [1, 0, 2] (by decide) rfl
  obtain ⟨r162, hr163⟩ : ∃ q, reader_Reader_Fail r31 11 = q := ⟨_, rfl⟩
  obtain ⟨D157, HP158, ro159, bk160, rr161⟩ := Own.enter1 H156
  refine WL.do rfl (Do.call Try.call29 rfl (reader_Reader_Fail_ok _ _ g0 r31 A36 c37 11 r162 HP158 (fun w9 h9 => SubS.rds eB_len (by decide) hs38 ((ro159 _ hx0x0) w9 h9)) (show List.length r31.xrest.ls ≤ c37 ∧ List.length r31.xrest.ls ≤ 9223372036854775807 from by omega) hr163) ?_)
  rintro _ w164 ⟨A167, c168, rfl, HQ165, hs169⟩
  have H166 : Own w D w164 [blk g0 [.slice A167 (List.length r162.xrest.ls) c168, .int .i64 r162.xerrno] 84, blk g41 [.int .i64 ((r30.toNat : Nat) : Int), .string ⟨List.toArray ([])⟩, .string ⟨List.toArray ([])⟩, .string ⟨List.toArray ([])⟩, .string ⟨List.toArray ([])⟩, .int .i64 0] 51, blk g21 [.int .i64 0, .string ⟨List.toArray ([])⟩, .string ⟨List.toArray ([])⟩, .string ⟨List.toArray ([])⟩, .string ⟨List.toArray ([])⟩, .int .i64 0] 51] := bk160 _ _ HQ165
  replace hs169 : SubS 1 A36 c37 r31.xrest.ls A167 c168 r162.xrest.ls := hs169
  have hz170 := (hs169).le
  refine WL.nil (Fin.blockN (Fin.then (Wp.seq (Wp.region (WL.val (v := .agg #[.int .i64 ((r30.toNat : Nat) : Int), .string ⟨List.toArray ([])⟩, .string ⟨List.toArray ([])⟩, .string ⟨List.toArray ([])⟩, .string ⟨List.toArray ([])⟩, .int .i64 0]) rfl (Yl.load rfl (Lds.agg (cs := [.int .i64 ((r30.toNat : Nat) : Int), .string ⟨List.toArray ([])⟩, .string ⟨List.toArray ([])⟩, .string ⟨List.toArray ([])⟩, .string ⟨List.toArray ([])⟩, .int .i64 0]) Try.isAgg51 Try.sizeOf51 ((H166.cls (i := 1) rfl).lit (k := 0) (m := 6) rfl))) ?_)))))
  have H171 : Own w D w164 [blk g21 [.int .i64 0, .string ⟨List.toArray ([])⟩, .string ⟨List.toArray ([])⟩, .string ⟨List.toArray ([])⟩, .string ⟨List.toArray ([])⟩, .int .i64 0] 51, blk g0 [.slice A167 (List.length r162.xrest.ls) c168, .int .i64 r162.xerrno] 84, blk g41 [.int .i64 ((r30.toNat : Nat) : Int), .string ⟨List.toArray ([])⟩, .string ⟨List.toArray ([])⟩, .string ⟨List.toArray ([])⟩, .string ⟨List.toArray ([])⟩, .int .i64 0] 51] := H166.pick [2, 0, 1] (by decide) rfl
  refine WL.do0 (Do.store (vs := [.int .i64 ((r30.toNat : Nat) : Int), .string ⟨List.toArray ([])⟩, .string ⟨List.toArray ([])⟩, .string ⟨List.toArray ([])⟩, .string ⟨List.toArray ([])⟩, .int .i64 0]) (o := 0) H171 rfl rfl Try.sizeOf51 rfl rfl rfl rfl ?_)
  intro w172 H173
  replace H173 : Own w D w172 [blk g21 [.int .i64 ((r30.toNat : Nat) : Int), .string ⟨List.toArray ([])⟩, .string ⟨List.toArray ([])⟩, .string ⟨List.toArray ([])⟩, .string ⟨List.toArray ([])⟩, .int .i64 0] 51, blk g0 [.slice A167 (List.length r162.xrest.ls) c168, .int .i64 r162.xerrno] 84, blk g41 [.int .i64 ((r30.toNat : Nat) : Int), .string ⟨List.toArray ([])⟩, .string ⟨List.toArray ([])⟩, .string ⟨List.toArray ([])⟩, .string ⟨List.toArray ([])⟩, .int .i64 0] 51] := H173
  refine WL.nil (Fin.then (Wp.ret (Fin.res (resC rfl rfl (Lds.agg (cs := [.int .i64 ((r30.toNat : Nat) : Int), .string ⟨List.toArray ([])⟩, .string ⟨List.toArray ([])⟩, .string ⟨List.toArray ([])⟩, .string ⟨List.toArray ([])⟩, .int .i64 0]) Try.isAgg51 Try.sizeOf51 ((H173.cls (i := 0) rfl).lit (k := 0) (m := 6) rfl))) ?_)))
  have H174 : Own w D w172 [blk g0 [.slice A167 (List.length r162.xrest.ls) c168, .int .i64 r162.xerrno] 84] := H173.pick [1] (by decide) rfl
  have e : node_readOp p0 = (OpD.mk ((r30.toNat : Nat) : Int) ([]) ([]) ([]) ([]) 0, r162) := Eq.trans (bnd_of hr32) (Eq.trans (if_neg h46) (Eq.trans (if_neg h89) (Eq.trans (if_neg h113) (bnd_of hr163))))
  obtain ⟨rfl, rfl⟩ := pj2 (e.symm.trans hr)
  exact ⟨A167, c168, rfl, H174, (SubS.trans hs38 hs169)⟩

def node_readEntry (p0 : ReaderT) : EntryD × ReaderT :=
  bnd (reader_Reader_Num p0 18446744073709551615) fun yr30 => bnd (node_readOp yr30.2) fun yr46 => (EntryD.mk yr30.1 yr46.1, yr46.2)

set_option maxRecDepth 100000 in
theorem node_readEntry_ok (w : World) (D : Nat → Prop) (g0 : Nat) (p0 : ReaderT) (A0x0 : Option Addr) (c0x0 : Nat) (r0 : EntryD) (r1 : ReaderT) (H : Own w D w [blk g0 [.slice A0x0 (List.length p0.xrest.ls) c0x0, .int .i64 p0.xerrno] 84]) (hx0x0 : Ro w D fun w' => Rds w' 1 A0x0 (List.length p0.xrest.ls) (List.flatMap eB p0.xrest.ls)) (hb0x0 : List.length p0.xrest.ls ≤ c0x0 ∧ List.length p0.xrest.ls ≤ 9223372036854775807) (hr : node_readEntry p0 = (r0, r1)) :
    Calls Try.prog 58 #[.pointer (some ⟨g0, 0, none⟩)] w (Ret fun v w' => ∃ (B1ox0 : Option Addr) (b1ox0 : Nat), v = .agg (EntryD.cells r0).toArray ∧ Own w D w' [blk g0 [.slice B1ox0 (List.length r1.xrest.ls) b1ox0, .int .i64 r1.xerrno] 84] ∧ (SubS 1 A0x0 c0x0 p0.xrest.ls B1ox0 b1ox0 r1.xrest.ls)) := by
  refine Calls.body (args := [.pointer (some ⟨g0, 0, none⟩)]) Try.func58 rfl rfl rfl ?_
  show Wp _ _ _ [(0, .pointer (some ⟨g0, 0, none⟩))] _ _
  refine Wp.seq (Wp.region ?_)
  refine WL.do rfl (Do.newP (cs := [.int .u64 0, .int .i64 0, .string ⟨List.toArray ([])⟩, .string ⟨List.toArray ([])⟩, .string ⟨List.toArray ([])⟩, .string ⟨List.toArray ([])⟩, .int .i64 0]) (t := 53) H rfl rfl (fun _ => by kernel_rfl) ?_)
  intro g21 w22 H23
  replace H23 : Own w D w22 [blk g21 [.int .u64 0, .int .i64 0, .string ⟨List.toArray ([])⟩, .string ⟨List.toArray ([])⟩, .string ⟨List.toArray ([])⟩, .string ⟨List.toArray ([])⟩, .int .i64 0] 53, blk g0 [.slice A0x0 (List.length p0.xrest.ls) c0x0, .int .i64 p0.xerrno] 84] := H23
  refine WL.nil (Fin.then (Wp.seq (Wp.region (Mv rfl rfl ?_))))
  have H24 : Own w D w22 [blk g0 [.slice A0x0 (List.length p0.xrest.ls) c0x0, .int .i64 p0.xerrno] 84, blk g21 [.int .u64 0, .int .i64 0, .string ⟨List.toArray ([])⟩, .string ⟨List.toArray ([])⟩, .string ⟨List.toArray ([])⟩, .string ⟨List.toArray ([])⟩, .int .i64 0] 53] := H23.pick [1, 0] (by decide) rfl
  obtain ⟨⟨r30, r31⟩, hr32⟩ : ∃ q : Nat × ReaderT, reader_Reader_Num p0 18446744073709551615 = q := ⟨_, rfl⟩
  obtain ⟨D25, HP26, ro27, bk28, rr29⟩ := Own.enter1 H24
  refine WL.do rfl (Do.call Try.call42 rfl (reader_Reader_Num_ok _ _ g0 p0 A0x0 c0x0 18446744073709551615 r30 r31 HP26 (ro27 _ hx0x0) (show List.length p0.xrest.ls ≤ c0x0 ∧ List.length p0.xrest.ls ≤ 9223372036854775807 from by omega) hr32) ?_)
  rintro _ w33 ⟨A36, c37, rfl, HQ34, hs38, hk39⟩
  have H35 : Own w D w33 [blk g0 [.slice A36 (List.length r31.xrest.ls) c37, .int .i64 r31.xerrno] 84, blk g21 [.int .u64 0, .int .i64 0, .string ⟨List.toArray ([])⟩, .string ⟨List.toArray ([])⟩, .string ⟨List.toArray ([])⟩, .string ⟨List.toArray ([])⟩, .int .i64 0] 53] := bk28 _ _ HQ34
  replace hs38 : SubS 1 A0x0 c0x0 p0.xrest.ls A36 c37 r31.xrest.ls := hs38
  have hz40 := (hs38).le
  replace hk39 : r30 ≤ 18446744073709551615 := hk39
  refine As rfl rfl (WL.nil (Fin.then (Wp.seq (Wp.region (Mv rfl rfl (Mv rfl rfl ?_))))))
  obtain ⟨⟨r46, r47⟩, hr48⟩ : ∃ q : OpD × ReaderT, node_readOp r31 = q := ⟨_, rfl⟩
  obtain ⟨D41, HP42, ro43, bk44, rr45⟩ := Own.enter1 H35
  refine WL.do rfl (Do.call Try.call66 rfl (node_readOp_ok _ _ g0 r31 A36 c37 r46 r47 HP42 (fun w9 h9 => SubS.rds eB_len (by decide) hs38 ((ro43 _ hx0x0) w9 h9)) (show List.length r31.xrest.ls ≤ c37 ∧ List.length r31.xrest.ls ≤ 9223372036854775807 from by omega) hr48) ?_)
  rintro _ w49 ⟨A52, c53, rfl, HQ50, hs54⟩
  have H51 : Own w D w49 [blk g0 [.slice A52 (List.length r47.xrest.ls) c53, .int .i64 r47.xerrno] 84, blk g21 [.int .u64 0, .int .i64 0, .string ⟨List.toArray ([])⟩, .string ⟨List.toArray ([])⟩, .string ⟨List.toArray ([])⟩, .string ⟨List.toArray ([])⟩, .int .i64 0] 53] := bk44 _ _ HQ50
  replace hs54 : SubS 1 A36 c37 r31.xrest.ls A52 c53 r47.xrest.ls := hs54
  have hz55 := (hs54).le
  refine Kn (v := .agg #[.int .u64 ((r30 : Nat) : Int), .int .i64 r46.xKind, .string ⟨List.toArray r46.xKey⟩, .string ⟨List.toArray r46.xValue⟩, .string ⟨List.toArray r46.xLo⟩, .string ⟨List.toArray r46.xHi⟩, .int .i64 r46.xMost]) rfl rfl rfl (fun _ => by kernel_rfl) ?_
  have H56 : Own w D w49 [blk g21 [.int .u64 0, .int .i64 0, .string ⟨List.toArray ([])⟩, .string ⟨List.toArray ([])⟩, .string ⟨List.toArray ([])⟩, .string ⟨List.toArray ([])⟩, .int .i64 0] 53, blk g0 [.slice A52 (List.length r47.xrest.ls) c53, .int .i64 r47.xerrno] 84] := H51.pick [1, 0] (by decide) rfl
  refine WL.do0 (Do.store (vs := [.int .u64 ((r30 : Nat) : Int), .int .i64 r46.xKind, .string ⟨List.toArray r46.xKey⟩, .string ⟨List.toArray r46.xValue⟩, .string ⟨List.toArray r46.xLo⟩, .string ⟨List.toArray r46.xHi⟩, .int .i64 r46.xMost]) (o := 0) H56 rfl rfl Try.sizeOf53 rfl rfl rfl rfl ?_)
  intro w57 H58
  replace H58 : Own w D w57 [blk g21 [.int .u64 ((r30 : Nat) : Int), .int .i64 r46.xKind, .string ⟨List.toArray r46.xKey⟩, .string ⟨List.toArray r46.xValue⟩, .string ⟨List.toArray r46.xLo⟩, .string ⟨List.toArray r46.xHi⟩, .int .i64 r46.xMost] 53, blk g0 [.slice A52 (List.length r47.xrest.ls) c53, .int .i64 r47.xerrno] 84] := H58
  refine WL.nil (Fin.then (Wp.ret (Fin.res (resC rfl rfl (Lds.agg (cs := [.int .u64 ((r30 : Nat) : Int), .int .i64 r46.xKind, .string ⟨List.toArray r46.xKey⟩, .string ⟨List.toArray r46.xValue⟩, .string ⟨List.toArray r46.xLo⟩, .string ⟨List.toArray r46.xHi⟩, .int .i64 r46.xMost]) Try.isAgg53 Try.sizeOf53 ((H58.cls (i := 0) rfl).lit (k := 0) (m := 7) rfl))) ?_)))
  have H59 : Own w D w57 [blk g0 [.slice A52 (List.length r47.xrest.ls) c53, .int .i64 r47.xerrno] 84] := H58.pick [1] (by decide) rfl
  have e : node_readEntry p0 = (EntryD.mk r30 r46, r47) := Eq.trans (bnd_of hr32) (bnd_of hr48)
  obtain ⟨rfl, rfl⟩ := pj2 (e.symm.trans hr)
  exact ⟨A52, c53, rfl, H59, (SubS.trans hs38 hs54)⟩

def reader_Times_api_Entryx_L0 (p1 : Int) : Nat → List EntryD → Nat → List UInt8 → Int → (List EntryD) × (List UInt8) × Int
  | 0, l31, k32, l35, z36 => default
  | q37 + 1, l31, k32, l35, z36 => if ((k32 : Nat) : Int) < p1 then if z36 = 0 then bnd (node_readEntry (ReaderT.mk (Ll.mk l35) z36)) fun yr58 => reader_Times_api_Entryx_L0 p1 q37 (l31 ++ [yr58.1]) (k32 + 1) yr58.2.xrest.ls yr58.2.xerrno else (l31, l35, z36) else (l31, l35, z36)

def reader_Times_api_Entryx (p0 : ReaderT) (p1 : Int) : (List EntryD) × ReaderT :=
  bnd (bnd (reader_Times_api_Entryx_L0 p1 ((Int.toNat p1 - 0) + 1) ([]) 0 p0.xrest.ls p0.xerrno) fun sLrJjL => (sLrJjL.1, sLrJjL.2.1, sLrJjL.2.2)) fun sJrJ => (sJrJ.1, ReaderT.mk (Ll.mk sJrJ.2.1) sJrJ.2.2)

set_option maxRecDepth 100000 in
theorem reader_Times_api_Entryx_ok (w : World) (D : Nat → Prop) (g0 : Nat) (p0 : ReaderT) (A0x0 : Option Addr) (c0x0 : Nat) (p1 : Int) (r0 : List EntryD) (r1 : ReaderT) (H : Own w D w [blk g0 [.slice A0x0 (List.length p0.xrest.ls) c0x0, .int .i64 p0.xerrno] 84]) (hx0x0 : Ro w D fun w' => Rds w' 1 A0x0 (List.length p0.xrest.ls) (List.flatMap eB p0.xrest.ls)) (hb0x0 : List.length p0.xrest.ls ≤ c0x0 ∧ List.length p0.xrest.ls ≤ 9223372036854775807) (hh0 : p1 ≤ 1000) (hr : reader_Times_api_Entryx p0 p1 = (r0, r1)) :
    Calls Try.prog 65 #[.pointer (some ⟨g0, 0, none⟩), .int .i64 p1, .func (.func 58) #[] #[]] w (Ret fun v w' => ∃ (B0 : Option Addr) (b0 : Nat) (B1ox0 : Option Addr) (b1ox0 : Nat), v = .slice B0 (List.length r0) b0 ∧ Own w D w' [row B0 (List.length r0) b0 (List.flatMap EntryD.cells r0) 53 7, blk g0 [.slice B1ox0 (List.length r1.xrest.ls) b1ox0, .int .i64 r1.xerrno] 84] ∧ (SubS 1 A0x0 c0x0 p0.xrest.ls B1ox0 b1ox0 r1.xrest.ls) ∧ (List.length r0 ≤ 1000)) := by
  refine Calls.body (args := [.pointer (some ⟨g0, 0, none⟩), .int .i64 p1, .func (.func 58) #[] #[]]) Try.func65 rfl rfl rfl ?_
  show Wp _ _ _ [(0, .pointer (some ⟨g0, 0, none⟩)), (1, .int .i64 p1), (2, .func (.func 58) #[] #[])] _ _
  refine Wp.seq (Wp.region (As rfl rfl (WL.nil (Fin.then (Wp.seq (Wp.region (As rfl rfl (WL.nil (Fin.then (Wp.seq (Wp.seq (Wp.region (As rfl rfl (WL.nil (Fin.then ?_)))))))))))))))
  refine Wp.joinT (ι := (Option Addr) × Nat × (List EntryD) × (Option Addr) × Nat × (List UInt8) × Int) (fun i => [(7, .slice i.1 (List.length i.2.2.1) i.2.1), (6, .slice none 0 0)]) (fun (i : (Option Addr) × Nat × (List EntryD) × (Option Addr) × Nat × (List UInt8) × Int) w' => Own w D w' [blk g0 [.slice i.2.2.2.1 (List.length i.2.2.2.2.2.1) i.2.2.2.2.1, .int .i64 i.2.2.2.2.2.2] 84, row i.1 (List.length i.2.2.1) i.2.1 (List.flatMap EntryD.cells i.2.2.1) 53 7] ∧ (SubS 1 A0x0 c0x0 p0.xrest.ls i.2.2.2.1 i.2.2.2.2.1 i.2.2.2.2.2.1 ∧ 0 ≤ List.length i.2.2.1 ∧ List.length i.2.2.2.2.2.1 ≤ List.length p0.xrest.ls ∧ List.length i.2.2.2.2.2.1 ≤ List.length p0.xrest.ls + 1 ∧ List.length i.2.2.1 ≤ 1000 ∧ (bnd (reader_Times_api_Entryx_L0 p1 ((Int.toNat p1 - 0) + 1) ([]) 0 p0.xrest.ls p0.xerrno) fun sLrJjL => (sLrJjL.1, sLrJjL.2.1, sLrJjL.2.2)) = (i.2.2.1, i.2.2.2.2.2.1, i.2.2.2.2.2.2))) ?_ ?_
  refine Wp.block ?_
  have H28 : Own w D w [row none 0 0 (List.flatMap EntryD.cells ([])) 53 7, blk g0 [.slice A0x0 (List.length p0.xrest.ls) c0x0, .int .i64 p0.xerrno] 84] := H.free (row_nil 53 7)
  have H39 : Own w D w [blk g0 [.slice A0x0 (List.length p0.xrest.ls) c0x0, .int .i64 p0.xerrno] 84, row none 0 0 (List.flatMap EntryD.cells ([])) 53 7] := H28.pick [1, 0] (by decide) rfl
  refine Wp.loop (ι := (Option Addr) × Nat × (List EntryD) × Nat × (Option Addr) × Nat × (List UInt8) × Int × Nat) (fun i => [(7, .slice i.1 (List.length i.2.2.1) i.2.1), (8, .int .i64 ((i.2.2.2.1 : Nat) : Int)), (6, .slice none 0 0), (0, .pointer (some ⟨g0, 0, none⟩)), (1, .int .i64 p1), (2, .func (.func 58) #[] #[])]) (fun (i : (Option Addr) × Nat × (List EntryD) × Nat × (Option Addr) × Nat × (List UInt8) × Int × Nat) w' => Own w D w' [blk g0 [.slice i.2.2.2.2.1 (List.length i.2.2.2.2.2.2.1) i.2.2.2.2.2.1, .int .i64 i.2.2.2.2.2.2.2.1] 84, row i.1 (List.length i.2.2.1) i.2.1 (List.flatMap EntryD.cells i.2.2.1) 53 7] ∧ (SubS 1 A0x0 c0x0 p0.xrest.ls i.2.2.2.2.1 i.2.2.2.2.2.1 i.2.2.2.2.2.2.1 ∧ List.length i.2.2.1 ≤ i.2.2.2.1 ∧ (i.2.2.2.1 = 0 ∨ ((i.2.2.2.1 : Nat) : Int) ≤ p1) ∧ Int.toNat p1 - i.2.2.2.1 < i.2.2.2.2.2.2.2.2 ∧ reader_Times_api_Entryx_L0 p1 ((Int.toNat p1 - 0) + 1) ([]) 0 p0.xrest.ls p0.xerrno = reader_Times_api_Entryx_L0 p1 i.2.2.2.2.2.2.2.2 i.2.2.1 i.2.2.2.1 i.2.2.2.2.2.2.1 i.2.2.2.2.2.2.2.1)) (fun i => i.2.2.2.2.2.2.2.2) (none, 0, [], 0, A0x0, c0x0, p0.xrest.ls, p0.xerrno, (Int.toNat p1 - 0) + 1) ⟨rfl, rfl, rfl, rfl, rfl, rfl, trivial⟩ ⟨H39, (show SubS 1 A0x0 c0x0 p0.xrest.ls A0x0 c0x0 p0.xrest.ls ∧ 0 ≤ 0 ∧ (0 = 0 ∨ ((0 : Nat) : Int) ≤ p1) ∧ Int.toNat p1 - 0 < ((Int.toNat p1 - 0) + 1) ∧ reader_Times_api_Entryx_L0 p1 ((Int.toNat p1 - 0) + 1) ([]) 0 p0.xrest.ls p0.xerrno = reader_Times_api_Entryx_L0 p1 ((Int.toNat p1 - 0) + 1) ([]) 0 p0.xrest.ls p0.xerrno from ⟨by exact (SubS.refl (by omega)), by omega, by omega, by omega, rfl⟩)⟩ ?_
  rintro ⟨A29, c30, l31, k32, A33, c34, l35, z36, f38⟩ w40 ⟨H41, hf42⟩
  show Wp _ _ _ [(7, .slice A29 (List.length l31) c30), (8, .int .i64 ((k32 : Nat) : Int)), (6, .slice none 0 0), (0, .pointer (some ⟨g0, 0, none⟩)), (1, .int .i64 p1), (2, .func (.func 58) #[] #[])] _ _
  replace H41 : Own w D w40 [blk g0 [.slice A33 (List.length l35) c34, .int .i64 z36] 84, row A29 (List.length l31) c30 (List.flatMap EntryD.cells l31) 53 7] := H41
  replace hf42 : SubS 1 A0x0 c0x0 p0.xrest.ls A33 c34 l35 ∧ List.length l31 ≤ k32 ∧ (k32 = 0 ∨ ((k32 : Nat) : Int) ≤ p1) ∧ Int.toNat p1 - k32 < f38 ∧ reader_Times_api_Entryx_L0 p1 ((Int.toNat p1 - 0) + 1) ([]) 0 p0.xrest.ls p0.xerrno = reader_Times_api_Entryx_L0 p1 f38 l31 k32 l35 z36 := hf42
  obtain ⟨hi44, hi45, hi46, hi47, hq43⟩ := hf42
  have hz48 := (hi44).le
  obtain ⟨f49, hf50⟩ : ∃ q, f38 = q + 1 := ⟨f38 - 1, by omega⟩
  subst hf50
  refine Wp.seq (Wp.seq (Wp.region (Mv rfl rfl (Mv rfl rfl (Kn (v := .bool (decide (((k32 : Nat) : Int) < p1))) rfl rfl rfl (fun _ => by kernel_rfl) (Mv rfl rfl ?_))))))
  by_cases h51 : ((k32 : Nat) : Int) < p1
  refine WL.valG (v := .pointer (some ⟨g0, 0, none⟩)) rfl rfl (decide_eq_true h51) rfl (Yl.move rfl) (WL.valG (v := .pointer (some ⟨g0, 0, none⟩)) rfl rfl (decide_eq_true h51) rfl (Yl.kern rfl rfl (fun _ => by kernel_rfl)) (WL.valG (v := .pointer (some ⟨g0, 1, none⟩)) rfl rfl (decide_eq_true h51) rfl (Yl.kern rfl rfl (fun _ => by kernel_rfl)) (WL.valG (v := .int .i64 z36) rfl rfl (decide_eq_true h51) rfl (Yl.load rfl (Lds.one Try.isAgg29 (Cls.of (H41.cls (i := 0) rfl) rfl))) (WL.valG (v := .bool (decide (z36 = 0))) rfl rfl (decide_eq_true h51) rfl (Yl.kern rfl rfl (fun _ => by kernel_rfl)) (WL.val (v := .bool (decide (z36 = 0))) rfl (Yl.pickT rfl (decide_eq_true h51) rfl) (WL.nil (Fin.then ?_)))))))
  by_cases h52 : z36 = 0
  refine Wp.cond1 rfl (decide_eq_true h52) (Wp.skip (Fin.then (Wp.seq (Wp.block (Wp.region (Mv rfl rfl (Mv rfl rfl (Mv rfl rfl ?_))))))))
  obtain ⟨⟨r58, r59⟩, hr60⟩ : ∃ q : EntryD × ReaderT, node_readEntry (ReaderT.mk (Ll.mk l35) z36) = q := ⟨_, rfl⟩
  obtain ⟨D53, HP54, ro55, bk56, rr57⟩ := Own.enter1 H41
  refine WL.do rfl (Do.callV Try.call58 rfl rfl (node_readEntry_ok _ _ g0 (ReaderT.mk (Ll.mk l35) z36) A33 c34 r58 r59 HP54 (fun w9 h9 => SubS.rds eB_len (by decide) hi44 ((ro55 _ hx0x0) w9 h9)) (show List.length l35 ≤ c34 ∧ List.length l35 ≤ 9223372036854775807 from by omega) hr60) ?_)
  rintro _ w61 ⟨A64, c65, rfl, HQ62, hs66⟩
  have H63 : Own w D w61 [blk g0 [.slice A64 (List.length r59.xrest.ls) c65, .int .i64 r59.xerrno] 84, row A29 (List.length l31) c30 (List.flatMap EntryD.cells l31) 53 7] := bk56 _ _ HQ62
  replace hs66 : SubS 1 A33 c34 l35 A64 c65 r59.xrest.ls := hs66
  have hz67 := (hs66).le
  refine WL.do rfl (Do.newRow (cs := (EntryD.cells r58)) (t := 53) (sz := 7) (m := 1) H63 rfl rfl (fun _ => by kernel_rfl) rfl (by decide) ?_)
  intro A68 w69 H70
  replace H70 : Own w D w69 [row A68 1 1 (List.flatMap EntryD.cells ([r58])) 53 7, blk g0 [.slice A64 (List.length r59.xrest.ls) c65, .int .i64 r59.xerrno] 84, row A29 (List.length l31) c30 (List.flatMap EntryD.cells l31) 53 7] := H70
  have H71 : Own w D w69 [row A29 (List.length l31) c30 (List.flatMap EntryD.cells l31) 53 7, row A68 1 1 (List.flatMap EntryD.cells ([r58])) 53 7, blk g0 [.slice A64 (List.length r59.xrest.ls) c65, .int .i64 r59.xerrno] 84] := H70.pick [2, 0, 1] (by decide) rfl
  refine WL.do rfl (Do.appendW (k := List.length l31) (m := 1) (El44) H71 rfl rfl (src_of Try.underlying44 (H71.rds (i := 1) rfl) (flat_one EntryD.one ([r58]))) rfl (by omega) (s := List.length (l31 ++ [r58])) (by first | omega | (simp only [List.length_append, List.length_cons, List.length_nil] <;> omega)) (List.flatMap_append).symm ?_)
  intro A72 c73 w74 H75
  replace H75 : Own w D w74 [row A72 (List.length (l31 ++ [r58])) c73 (List.flatMap EntryD.cells (l31 ++ [r58])) 53 7, row A68 1 1 (List.flatMap EntryD.cells ([r58])) 53 7, blk g0 [.slice A64 (List.length r59.xrest.ls) c65, .int .i64 r59.xerrno] 84] := H75
  have hl76 : List.length (l31 ++ [r58]) = List.length l31 + 1 := by simp only [List.length_append, List.length_cons, List.length_nil]
  refine As rfl rfl (WL.nil (Fin.blockN (Fin.then (Wp.region (Mv rfl rfl (WL.val (v := .int .i64 ((k32 + 1 : Nat) : Int)) rfl (Yl.int (e := IntKind.i64.wrap (((k32 : Nat) : Int) + 1)) (Yl.kern rfl rfl (fun _ => by kernel_rfl)) (by rw [IntWalk.i64_in _ (by omega)]; omega)) (As rfl rfl (WL.nil ?_))))))))
  have H77 : Own w D w74 [blk g0 [.slice A64 (List.length r59.xrest.ls) c65, .int .i64 r59.xerrno] 84, row A72 (List.length (l31 ++ [r58])) c73 (List.flatMap EntryD.cells (l31 ++ [r58])) 53 7] := H75.pick [2, 0] (by decide) rfl
  exact Fin.round (A72, c73, (l31 ++ [r58]), k32 + 1, A64, c65, r59.xrest.ls, r59.xerrno, f49) ⟨rfl, rfl, rfl, rfl, rfl, rfl, trivial⟩ ⟨H77, (show SubS 1 A0x0 c0x0 p0.xrest.ls A64 c65 r59.xrest.ls ∧ List.length (l31 ++ [r58]) ≤ (k32 + 1) ∧ ((k32 + 1) = 0 ∨ (((k32 + 1) : Nat) : Int) ≤ p1) ∧ Int.toNat p1 - (k32 + 1) < f49 ∧ reader_Times_api_Entryx_L0 p1 ((Int.toNat p1 - 0) + 1) ([]) 0 p0.xrest.ls p0.xerrno = reader_Times_api_Entryx_L0 p1 f49 (l31 ++ [r58]) (k32 + 1) r59.xrest.ls r59.xerrno from ⟨by exact (SubS.trans hi44 hs66), by omega, by omega, by omega, Eq.trans (hq43) (Eq.trans (if_pos h51) (Eq.trans (if_pos h52) (bnd_of hr60)))⟩)⟩ (by show f49 < f49 + 1; omega)
  refine Wp.cond0 rfl (decide_eq_false h52) (Wp.exit (Fin.thenX (Fin.thenX (Fin.blockX ?_))))
  have H78 : Own w D w40 [blk g0 [.slice A33 (List.length l35) c34, .int .i64 z36] 84, row A29 (List.length l31) c30 (List.flatMap EntryD.cells l31) 53 7] := H41.pick [0, 1] (by decide) rfl
  exact Fin.join (A29, c30, l31, A33, c34, l35, z36) ⟨rfl, rfl, trivial⟩ ⟨H78, (show SubS 1 A0x0 c0x0 p0.xrest.ls A33 c34 l35 ∧ 0 ≤ List.length l31 ∧ List.length l35 ≤ List.length p0.xrest.ls ∧ List.length l35 ≤ List.length p0.xrest.ls + 1 ∧ List.length l31 ≤ 1000 ∧ (bnd (reader_Times_api_Entryx_L0 p1 ((Int.toNat p1 - 0) + 1) ([]) 0 p0.xrest.ls p0.xerrno) fun sLrJjL => (sLrJjL.1, sLrJjL.2.1, sLrJjL.2.2)) = (l31, l35, z36) from ⟨by exact hi44, by omega, by omega, by omega, by omega, bnd_of (Eq.trans (hq43) (Eq.trans (if_pos h51) (if_neg h52)))⟩)⟩
  refine Sk rfl rfl (decide_eq_false h51) rfl (Sk rfl rfl (decide_eq_false h51) rfl (Sk rfl rfl (decide_eq_false h51) rfl (Sk rfl rfl (decide_eq_false h51) rfl (Sk rfl rfl (decide_eq_false h51) rfl (WL.val (v := .bool false) rfl (Yl.pickF rfl (decide_eq_false h51) rfl) (WL.nil (Fin.then (Wp.cond0 rfl rfl (Wp.exit (Fin.thenX (Fin.thenX (Fin.blockX ?_))))))))))))
  have H79 : Own w D w40 [blk g0 [.slice A33 (List.length l35) c34, .int .i64 z36] 84, row A29 (List.length l31) c30 (List.flatMap EntryD.cells l31) 53 7] := H41.pick [0, 1] (by decide) rfl
  exact Fin.join (A29, c30, l31, A33, c34, l35, z36) ⟨rfl, rfl, trivial⟩ ⟨H79, (show SubS 1 A0x0 c0x0 p0.xrest.ls A33 c34 l35 ∧ 0 ≤ List.length l31 ∧ List.length l35 ≤ List.length p0.xrest.ls ∧ List.length l35 ≤ List.length p0.xrest.ls + 1 ∧ List.length l31 ≤ 1000 ∧ (bnd (reader_Times_api_Entryx_L0 p1 ((Int.toNat p1 - 0) + 1) ([]) 0 p0.xrest.ls p0.xerrno) fun sLrJjL => (sLrJjL.1, sLrJjL.2.1, sLrJjL.2.2)) = (l31, l35, z36) from ⟨by exact hi44, by omega, by omega, by omega, by omega, bnd_of (Eq.trans (hq43) (if_neg h51))⟩)⟩
  rintro ⟨A21, c22, l23, A24, c25, l26, z27⟩ w80 ⟨H81, hf82⟩
  show Wp _ _ _ [(7, .slice A21 (List.length l23) c22), (6, .slice none 0 0)] _ _
  replace H81 : Own w D w80 [blk g0 [.slice A24 (List.length l26) c25, .int .i64 z27] 84, row A21 (List.length l23) c22 (List.flatMap EntryD.cells l23) 53 7] := H81
  replace hf82 : SubS 1 A0x0 c0x0 p0.xrest.ls A24 c25 l26 ∧ 0 ≤ List.length l23 ∧ List.length l26 ≤ List.length p0.xrest.ls ∧ List.length l26 ≤ List.length p0.xrest.ls + 1 ∧ List.length l23 ≤ 1000 ∧ (bnd (reader_Times_api_Entryx_L0 p1 ((Int.toNat p1 - 0) + 1) ([]) 0 p0.xrest.ls p0.xerrno) fun sLrJjL => (sLrJjL.1, sLrJjL.2.1, sLrJjL.2.2)) = (l23, l26, z27) := hf82
  obtain ⟨hi84, hi85, hi86, hi87, hi88, hj83⟩ := hf82
  have hz89 := (hi84).le
  refine Wp.seq (Wp.region (Mv rfl rfl (As rfl rfl (WL.nil (Fin.then (Wp.ret (Fin.res (res1 rfl rfl) ?_)))))))
  have H90 : Own w D w80 [row A21 (List.length l23) c22 (List.flatMap EntryD.cells l23) 53 7, blk g0 [.slice A24 (List.length l26) c25, .int .i64 z27] 84] := H81.pick [1, 0] (by decide) rfl
  have e : reader_Times_api_Entryx p0 p1 = (l23, ReaderT.mk (Ll.mk l26) z27) := bnd_of hj83
  obtain ⟨rfl, rfl⟩ := pj2 (e.symm.trans hr)
  exact ⟨A21, c22, A24, c25, rfl, H90, hi84, (by omega)⟩

def reader_List_api_Entry (p0 : ReaderT) (p1 : Nat) : (List EntryD) × ReaderT :=
  bnd (reader_Reader_Num p0 p1) fun yr26 => bnd (reader_Times_api_Entryx yr26.2 ((yr26.1 : Nat) : Int)) fun yr42 => (yr42.1, yr42.2)

set_option maxRecDepth 100000 in
theorem reader_List_api_Entry_ok (w : World) (D : Nat → Prop) (g0 : Nat) (p0 : ReaderT) (A0x0 : Option Addr) (c0x0 : Nat) (p1 : Nat) (r0 : List EntryD) (r1 : ReaderT) (H : Own w D w [blk g0 [.slice A0x0 (List.length p0.xrest.ls) c0x0, .int .i64 p0.xerrno] 84]) (hx0x0 : Ro w D fun w' => Rds w' 1 A0x0 (List.length p0.xrest.ls) (List.flatMap eB p0.xrest.ls)) (hb0x0 : List.length p0.xrest.ls ≤ c0x0 ∧ List.length p0.xrest.ls ≤ 9223372036854775807) (hh0 : p1 ≤ 1000) (hr : reader_List_api_Entry p0 p1 = (r0, r1)) :
    Calls Try.prog 57 #[.pointer (some ⟨g0, 0, none⟩), .int .u64 ((p1 : Nat) : Int), .func (.func 58) #[] #[]] w (Ret fun v w' => ∃ (B0 : Option Addr) (b0 : Nat) (B1ox0 : Option Addr) (b1ox0 : Nat), v = .slice B0 (List.length r0) b0 ∧ Own w D w' [row B0 (List.length r0) b0 (List.flatMap EntryD.cells r0) 53 7, blk g0 [.slice B1ox0 (List.length r1.xrest.ls) b1ox0, .int .i64 r1.xerrno] 84] ∧ (SubS 1 A0x0 c0x0 p0.xrest.ls B1ox0 b1ox0 r1.xrest.ls) ∧ (List.length r0 ≤ 1000)) := by
  refine Calls.body (args := [.pointer (some ⟨g0, 0, none⟩), .int .u64 ((p1 : Nat) : Int), .func (.func 58) #[] #[]]) Try.func57 rfl rfl rfl ?_
  show Wp _ _ _ [(0, .pointer (some ⟨g0, 0, none⟩)), (1, .int .u64 ((p1 : Nat) : Int)), (2, .func (.func 58) #[] #[])] _ _
  refine Wp.seq (Wp.region (As rfl rfl (WL.nil (Fin.then (Wp.seq (Wp.region (Mv rfl rfl (Mv rfl rfl (Mv rfl rfl ?_)))))))))
  obtain ⟨⟨r26, r27⟩, hr28⟩ : ∃ q : Nat × ReaderT, reader_Reader_Num p0 p1 = q := ⟨_, rfl⟩
  obtain ⟨D21, HP22, ro23, bk24, rr25⟩ := Own.enter1 H
  refine WL.do rfl (Do.call Try.call42 rfl (reader_Reader_Num_ok _ _ g0 p0 A0x0 c0x0 p1 r26 r27 HP22 (ro23 _ hx0x0) (show List.length p0.xrest.ls ≤ c0x0 ∧ List.length p0.xrest.ls ≤ 9223372036854775807 from by omega) hr28) ?_)
  rintro _ w29 ⟨A32, c33, rfl, HQ30, hs34, hk35⟩
  have H31 : Own w D w29 [blk g0 [.slice A32 (List.length r27.xrest.ls) c33, .int .i64 r27.xerrno] 84] := bk24 _ _ HQ30
  replace hs34 : SubS 1 A0x0 c0x0 p0.xrest.ls A32 c33 r27.xrest.ls := hs34
  have hz36 := (hs34).le
  replace hk35 : r26 ≤ p1 := hk35
  refine WL.val (v := .int .i64 ((r26 : Nat) : Int)) rfl (Yl.int (e := IntKind.i64.wrap ((r26 : Nat) : Int)) (Yl.kern rfl rfl (fun _ => by kernel_rfl)) (IntWalk.i64_in _ (by omega))) (Mv rfl rfl ?_)
  obtain ⟨⟨r42, r43⟩, hr44⟩ : ∃ q : (List EntryD) × ReaderT, reader_Times_api_Entryx r27 ((r26 : Nat) : Int) = q := ⟨_, rfl⟩
  obtain ⟨D37, HP38, ro39, bk40, rr41⟩ := Own.enter1 H31
  refine WL.do rfl (Do.call Try.call65 rfl (reader_Times_api_Entryx_ok _ _ g0 r27 A32 c33 ((r26 : Nat) : Int) r42 r43 HP38 (fun w9 h9 => SubS.rds eB_len (by decide) hs34 ((ro39 _ hx0x0) w9 h9)) (show List.length r27.xrest.ls ≤ c33 ∧ List.length r27.xrest.ls ≤ 9223372036854775807 from by omega) (by omega) hr44) ?_)
  rintro _ w45 ⟨A48, c49, A50, c51, rfl, HQ46, hs52, hk53⟩
  have H47 : Own w D w45 [row A48 (List.length r42) c49 (List.flatMap EntryD.cells r42) 53 7, blk g0 [.slice A50 (List.length r43.xrest.ls) c51, .int .i64 r43.xerrno] 84] := bk40 _ _ HQ46
  replace hs52 : SubS 1 A32 c33 r27.xrest.ls A50 c51 r43.xrest.ls := hs52
  have hz54 := (hs52).le
  have hb55 := H47.rowC (i := 0) rfl
  replace hk53 : List.length r42 ≤ 1000 := hk53
  refine As rfl rfl (WL.nil (Fin.then (Wp.ret (Fin.res (res1 rfl rfl) ?_))))
  have H56 : Own w D w45 [row A48 (List.length r42) c49 (List.flatMap EntryD.cells r42) 53 7, blk g0 [.slice A50 (List.length r43.xrest.ls) c51, .int .i64 r43.xerrno] 84] := H47.pick [0, 1] (by decide) rfl
  have e : reader_List_api_Entry p0 p1 = (r42, r43) := Eq.trans (bnd_of hr28) (bnd_of hr44)
  obtain ⟨rfl, rfl⟩ := pj2 (e.symm.trans hr)
  exact ⟨A48, c49, A50, c51, rfl, H56, (SubS.trans hs34 hs52), (by omega)⟩

def node_readEntries (p0 : ReaderT) : (List EntryD) × ReaderT :=
  bnd (reader_List_api_Entry p0 480) fun yr26 => (yr26.1, yr26.2)

set_option maxRecDepth 100000 in
theorem node_readEntries_ok (w : World) (D : Nat → Prop) (g0 : Nat) (p0 : ReaderT) (A0x0 : Option Addr) (c0x0 : Nat) (r0 : List EntryD) (r1 : ReaderT) (H : Own w D w [blk g0 [.slice A0x0 (List.length p0.xrest.ls) c0x0, .int .i64 p0.xerrno] 84]) (hx0x0 : Ro w D fun w' => Rds w' 1 A0x0 (List.length p0.xrest.ls) (List.flatMap eB p0.xrest.ls)) (hb0x0 : List.length p0.xrest.ls ≤ c0x0 ∧ List.length p0.xrest.ls ≤ 9223372036854775807) (hr : node_readEntries p0 = (r0, r1)) :
    Calls Try.prog 48 #[.pointer (some ⟨g0, 0, none⟩)] w (Ret fun v w' => ∃ (B0 : Option Addr) (b0 : Nat) (B1ox0 : Option Addr) (b1ox0 : Nat), v = .slice B0 (List.length r0) b0 ∧ Own w D w' [row B0 (List.length r0) b0 (List.flatMap EntryD.cells r0) 53 7, blk g0 [.slice B1ox0 (List.length r1.xrest.ls) b1ox0, .int .i64 r1.xerrno] 84] ∧ (SubS 1 A0x0 c0x0 p0.xrest.ls B1ox0 b1ox0 r1.xrest.ls)) := by
  refine Calls.body (args := [.pointer (some ⟨g0, 0, none⟩)]) Try.func48 rfl rfl rfl ?_
  show Wp _ _ _ [(0, .pointer (some ⟨g0, 0, none⟩))] _ _
  refine Wp.seq (Wp.region (As rfl rfl (WL.nil (Fin.then (Wp.seq (Wp.region (Mv rfl rfl ?_)))))))
  obtain ⟨⟨r26, r27⟩, hr28⟩ : ∃ q : (List EntryD) × ReaderT, reader_List_api_Entry p0 480 = q := ⟨_, rfl⟩
  obtain ⟨D21, HP22, ro23, bk24, rr25⟩ := Own.enter1 H
  refine WL.do rfl (Do.call Try.call57 rfl (reader_List_api_Entry_ok _ _ g0 p0 A0x0 c0x0 480 r26 r27 HP22 (ro23 _ hx0x0) (show List.length p0.xrest.ls ≤ c0x0 ∧ List.length p0.xrest.ls ≤ 9223372036854775807 from by omega) (by omega) hr28) ?_)
  rintro _ w29 ⟨A32, c33, A34, c35, rfl, HQ30, hs36, hk37⟩
  have H31 : Own w D w29 [row A32 (List.length r26) c33 (List.flatMap EntryD.cells r26) 53 7, blk g0 [.slice A34 (List.length r27.xrest.ls) c35, .int .i64 r27.xerrno] 84] := bk24 _ _ HQ30
  replace hs36 : SubS 1 A0x0 c0x0 p0.xrest.ls A34 c35 r27.xrest.ls := hs36
  have hz38 := (hs36).le
  have hb39 := H31.rowC (i := 0) rfl
  replace hk37 : List.length r26 ≤ 1000 := hk37
  refine As rfl rfl (WL.nil (Fin.then (Wp.ret (Fin.res (res1 rfl rfl) ?_))))
  have H40 : Own w D w29 [row A32 (List.length r26) c33 (List.flatMap EntryD.cells r26) 53 7, blk g0 [.slice A34 (List.length r27.xrest.ls) c35, .int .i64 r27.xerrno] 84] := H31.pick [0, 1] (by decide) rfl
  have e : node_readEntries p0 = (r26, r27) := bnd_of hr28
  obtain ⟨rfl, rfl⟩ := pj2 (e.symm.trans hr)
  exact ⟨A32, c33, A34, c35, rfl, H40, hs36⟩

def reader_Times_api_Entry_L0 (p1 : Int) : Nat → List (Ll EntryD) → Nat → List UInt8 → Int → (List (Ll EntryD)) × (List UInt8) × Int
  | 0, l33, k35, l38, z39 => default
  | q40 + 1, l33, k35, l38, z39 => if ((k35 : Nat) : Int) < p1 then if z39 = 0 then bnd (node_readEntries (ReaderT.mk (Ll.mk l38) z39)) fun yr63 => reader_Times_api_Entry_L0 p1 q40 (l33 ++ [(Ll.mk yr63.1)]) (k35 + 1) yr63.2.xrest.ls yr63.2.xerrno else (l33, l38, z39) else (l33, l38, z39)

def reader_Times_api_Entry (p0 : ReaderT) (p1 : Int) : (List (Ll EntryD)) × ReaderT :=
  bnd (bnd (reader_Times_api_Entry_L0 p1 ((Int.toNat p1 - 0) + 1) ([]) 0 p0.xrest.ls p0.xerrno) fun sLrJjL => (sLrJjL.1, sLrJjL.2.1, sLrJjL.2.2)) fun sJrJ => (sJrJ.1, ReaderT.mk (Ll.mk sJrJ.2.1) sJrJ.2.2)

set_option maxRecDepth 100000 in
theorem reader_Times_api_Entry_ok (w : World) (D : Nat → Prop) (g0 : Nat) (p0 : ReaderT) (A0x0 : Option Addr) (c0x0 : Nat) (p1 : Int) (r0 : List (Ll EntryD)) (r1 : ReaderT) (H : Own w D w [blk g0 [.slice A0x0 (List.length p0.xrest.ls) c0x0, .int .i64 p0.xerrno] 84]) (hx0x0 : Ro w D fun w' => Rds w' 1 A0x0 (List.length p0.xrest.ls) (List.flatMap eB p0.xrest.ls)) (hb0x0 : List.length p0.xrest.ls ≤ c0x0 ∧ List.length p0.xrest.ls ≤ 9223372036854775807) (hh0 : p1 ≤ 1000) (hr : reader_Times_api_Entry p0 p1 = (r0, r1)) :
    Calls Try.prog 47 #[.pointer (some ⟨g0, 0, none⟩), .int .i64 p1, .func (.func 48) #[] #[]] w (Ret fun v w' => ∃ (B0 : Option Addr) (b0 : Nat) (e0 : List Row44D) (B1ox0 : Option Addr) (b1ox0 : Nat), v = .slice B0 (List.length r0) b0 ∧ Own w D w' [row B0 (List.length r0) b0 (List.flatMap (Sv.enc (β := EntryD)) e0) 44 1, sepL (List.flatMap Row44D.own e0), blk g0 [.slice B1ox0 (List.length r1.xrest.ls) b1ox0, .int .i64 r1.xerrno] 84] ∧ (List.map Row44D.abs e0 = r0) ∧ (SubS 1 A0x0 c0x0 p0.xrest.ls B1ox0 b1ox0 r1.xrest.ls) ∧ (List.length r0 ≤ 1000)) := by
  refine Calls.body (args := [.pointer (some ⟨g0, 0, none⟩), .int .i64 p1, .func (.func 48) #[] #[]]) Try.func47 rfl rfl rfl ?_
  show Wp _ _ _ [(0, .pointer (some ⟨g0, 0, none⟩)), (1, .int .i64 p1), (2, .func (.func 48) #[] #[])] _ _
  refine Wp.seq (Wp.region (As rfl rfl (WL.nil (Fin.then (Wp.seq (Wp.region (As rfl rfl (WL.nil (Fin.then (Wp.seq (Wp.seq (Wp.region (As rfl rfl (WL.nil (Fin.then ?_)))))))))))))))
  refine Wp.joinT (ι := (Option Addr) × Nat × (List Row44D) × (List (Ll EntryD)) × (Option Addr) × Nat × (List UInt8) × Int) (fun i => [(7, .slice i.1 (List.length i.2.2.2.1) i.2.1), (6, .slice none 0 0)]) (fun (i : (Option Addr) × Nat × (List Row44D) × (List (Ll EntryD)) × (Option Addr) × Nat × (List UInt8) × Int) w' => Own w D w' [blk g0 [.slice i.2.2.2.2.1 (List.length i.2.2.2.2.2.2.1) i.2.2.2.2.2.1, .int .i64 i.2.2.2.2.2.2.2] 84, row i.1 (List.length i.2.2.2.1) i.2.1 (List.flatMap (Sv.enc (β := EntryD)) i.2.2.1) 44 1, sepL (List.flatMap Row44D.own i.2.2.1)] ∧ (List.map Row44D.abs i.2.2.1 = i.2.2.2.1 ∧ SubS 1 A0x0 c0x0 p0.xrest.ls i.2.2.2.2.1 i.2.2.2.2.2.1 i.2.2.2.2.2.2.1 ∧ 0 ≤ List.length i.2.2.2.1 ∧ List.length i.2.2.2.2.2.2.1 ≤ List.length p0.xrest.ls ∧ List.length i.2.2.2.2.2.2.1 ≤ List.length p0.xrest.ls + 1 ∧ List.length i.2.2.2.1 ≤ 1000 ∧ (bnd (reader_Times_api_Entry_L0 p1 ((Int.toNat p1 - 0) + 1) ([]) 0 p0.xrest.ls p0.xerrno) fun sLrJjL => (sLrJjL.1, sLrJjL.2.1, sLrJjL.2.2)) = (i.2.2.2.1, i.2.2.2.2.2.2.1, i.2.2.2.2.2.2.2))) ?_ ?_
  refine Wp.block ?_
  have H29 : Own w D w [sepL (List.flatMap Row44D.own ([])), blk g0 [.slice A0x0 (List.length p0.xrest.ls) c0x0, .int .i64 p0.xerrno] 84] := H.sepNil
  have H30 : Own w D w [row none 0 0 (List.flatMap (Sv.enc (β := EntryD)) ([])) 44 1, sepL (List.flatMap Row44D.own ([])), blk g0 [.slice A0x0 (List.length p0.xrest.ls) c0x0, .int .i64 p0.xerrno] 84] := H29.free (row_nil 44 1)
  have H42 : Own w D w [blk g0 [.slice A0x0 (List.length p0.xrest.ls) c0x0, .int .i64 p0.xerrno] 84, row none 0 0 (List.flatMap (Sv.enc (β := EntryD)) ([])) 44 1, sepL (List.flatMap Row44D.own ([]))] := H30.pick [2, 0, 1] (by decide) rfl
  refine Wp.loop (ι := (Option Addr) × Nat × (List Row44D) × (List (Ll EntryD)) × Nat × (Option Addr) × Nat × (List UInt8) × Int × Nat) (fun i => [(7, .slice i.1 (List.length i.2.2.2.1) i.2.1), (8, .int .i64 ((i.2.2.2.2.1 : Nat) : Int)), (6, .slice none 0 0), (0, .pointer (some ⟨g0, 0, none⟩)), (1, .int .i64 p1), (2, .func (.func 48) #[] #[])]) (fun (i : (Option Addr) × Nat × (List Row44D) × (List (Ll EntryD)) × Nat × (Option Addr) × Nat × (List UInt8) × Int × Nat) w' => Own w D w' [blk g0 [.slice i.2.2.2.2.2.1 (List.length i.2.2.2.2.2.2.2.1) i.2.2.2.2.2.2.1, .int .i64 i.2.2.2.2.2.2.2.2.1] 84, row i.1 (List.length i.2.2.2.1) i.2.1 (List.flatMap (Sv.enc (β := EntryD)) i.2.2.1) 44 1, sepL (List.flatMap Row44D.own i.2.2.1)] ∧ (List.map Row44D.abs i.2.2.1 = i.2.2.2.1 ∧ SubS 1 A0x0 c0x0 p0.xrest.ls i.2.2.2.2.2.1 i.2.2.2.2.2.2.1 i.2.2.2.2.2.2.2.1 ∧ List.length i.2.2.2.1 ≤ i.2.2.2.2.1 ∧ (i.2.2.2.2.1 = 0 ∨ ((i.2.2.2.2.1 : Nat) : Int) ≤ p1) ∧ Int.toNat p1 - i.2.2.2.2.1 < i.2.2.2.2.2.2.2.2.2 ∧ reader_Times_api_Entry_L0 p1 ((Int.toNat p1 - 0) + 1) ([]) 0 p0.xrest.ls p0.xerrno = reader_Times_api_Entry_L0 p1 i.2.2.2.2.2.2.2.2.2 i.2.2.2.1 i.2.2.2.2.1 i.2.2.2.2.2.2.2.1 i.2.2.2.2.2.2.2.2.1)) (fun i => i.2.2.2.2.2.2.2.2.2) (none, 0, [], [], 0, A0x0, c0x0, p0.xrest.ls, p0.xerrno, (Int.toNat p1 - 0) + 1) ⟨rfl, rfl, rfl, rfl, rfl, rfl, trivial⟩ ⟨H42, (show List.map Row44D.abs ([]) = ([]) ∧ SubS 1 A0x0 c0x0 p0.xrest.ls A0x0 c0x0 p0.xrest.ls ∧ 0 ≤ 0 ∧ (0 = 0 ∨ ((0 : Nat) : Int) ≤ p1) ∧ Int.toNat p1 - 0 < ((Int.toNat p1 - 0) + 1) ∧ reader_Times_api_Entry_L0 p1 ((Int.toNat p1 - 0) + 1) ([]) 0 p0.xrest.ls p0.xerrno = reader_Times_api_Entry_L0 p1 ((Int.toNat p1 - 0) + 1) ([]) 0 p0.xrest.ls p0.xerrno from ⟨by exact rfl, by exact (SubS.refl (by omega)), by omega, by omega, by omega, rfl⟩)⟩ ?_
  rintro ⟨A31, c32, d34, l33, k35, A36, c37, l38, z39, f41⟩ w43 ⟨H44, hf45⟩
  show Wp _ _ _ [(7, .slice A31 (List.length l33) c32), (8, .int .i64 ((k35 : Nat) : Int)), (6, .slice none 0 0), (0, .pointer (some ⟨g0, 0, none⟩)), (1, .int .i64 p1), (2, .func (.func 48) #[] #[])] _ _
  replace H44 : Own w D w43 [blk g0 [.slice A36 (List.length l38) c37, .int .i64 z39] 84, row A31 (List.length l33) c32 (List.flatMap (Sv.enc (β := EntryD)) d34) 44 1, sepL (List.flatMap Row44D.own d34)] := H44
  replace hf45 : List.map Row44D.abs d34 = l33 ∧ SubS 1 A0x0 c0x0 p0.xrest.ls A36 c37 l38 ∧ List.length l33 ≤ k35 ∧ (k35 = 0 ∨ ((k35 : Nat) : Int) ≤ p1) ∧ Int.toNat p1 - k35 < f41 ∧ reader_Times_api_Entry_L0 p1 ((Int.toNat p1 - 0) + 1) ([]) 0 p0.xrest.ls p0.xerrno = reader_Times_api_Entry_L0 p1 f41 l33 k35 l38 z39 := hf45
  obtain ⟨hi47, hi48, hi49, hi50, hi51, hq46⟩ := hf45
  have hl52 := abs_len hi47
  have hz53 := (hi48).le
  obtain ⟨f54, hf55⟩ : ∃ q, f41 = q + 1 := ⟨f41 - 1, by omega⟩
  subst hf55
  refine Wp.seq (Wp.seq (Wp.region (Mv rfl rfl (Mv rfl rfl (Kn (v := .bool (decide (((k35 : Nat) : Int) < p1))) rfl rfl rfl (fun _ => by kernel_rfl) (Mv rfl rfl ?_))))))
  by_cases h56 : ((k35 : Nat) : Int) < p1
  refine WL.valG (v := .pointer (some ⟨g0, 0, none⟩)) rfl rfl (decide_eq_true h56) rfl (Yl.move rfl) (WL.valG (v := .pointer (some ⟨g0, 0, none⟩)) rfl rfl (decide_eq_true h56) rfl (Yl.kern rfl rfl (fun _ => by kernel_rfl)) (WL.valG (v := .pointer (some ⟨g0, 1, none⟩)) rfl rfl (decide_eq_true h56) rfl (Yl.kern rfl rfl (fun _ => by kernel_rfl)) (WL.valG (v := .int .i64 z39) rfl rfl (decide_eq_true h56) rfl (Yl.load rfl (Lds.one Try.isAgg29 (Cls.of (H44.cls (i := 0) rfl) rfl))) (WL.valG (v := .bool (decide (z39 = 0))) rfl rfl (decide_eq_true h56) rfl (Yl.kern rfl rfl (fun _ => by kernel_rfl)) (WL.val (v := .bool (decide (z39 = 0))) rfl (Yl.pickT rfl (decide_eq_true h56) rfl) (WL.nil (Fin.then ?_)))))))
  by_cases h57 : z39 = 0
  refine Wp.cond1 rfl (decide_eq_true h57) (Wp.skip (Fin.then (Wp.seq (Wp.block (Wp.region (Mv rfl rfl (Mv rfl rfl (Mv rfl rfl ?_))))))))
  obtain ⟨⟨r63, r64⟩, hr65⟩ : ∃ q : (List EntryD) × ReaderT, node_readEntries (ReaderT.mk (Ll.mk l38) z39) = q := ⟨_, rfl⟩
  obtain ⟨D58, HP59, ro60, bk61, rr62⟩ := Own.enter1 H44
  refine WL.do rfl (Do.callV Try.call48 rfl rfl (node_readEntries_ok _ _ g0 (ReaderT.mk (Ll.mk l38) z39) A36 c37 r63 r64 HP59 (fun w9 h9 => SubS.rds eB_len (by decide) hi48 ((ro60 _ hx0x0) w9 h9)) (show List.length l38 ≤ c37 ∧ List.length l38 ≤ 9223372036854775807 from by omega) hr65) ?_)
  rintro _ w66 ⟨A69, c70, A71, c72, rfl, HQ67, hs73⟩
  have H68 : Own w D w66 [row A69 (List.length r63) c70 (List.flatMap EntryD.cells r63) 53 7, blk g0 [.slice A71 (List.length r64.xrest.ls) c72, .int .i64 r64.xerrno] 84, row A31 (List.length l33) c32 (List.flatMap (Sv.enc (β := EntryD)) d34) 44 1, sepL (List.flatMap Row44D.own d34)] := bk61 _ _ HQ67
  replace hs73 : SubS 1 A36 c37 l38 A71 c72 r64.xrest.ls := hs73
  have hz74 := (hs73).le
  have hb75 := H68.rowC (i := 0) rfl
  refine WL.do rfl (Do.newRow (cs := [.slice A69 (List.length r63) c70]) (t := 44) (sz := 1) (m := 1) H68 rfl rfl (fun _ => by kernel_rfl) rfl (by decide) ?_)
  intro A76 w77 H78
  replace H78 : Own w D w77 [row A76 1 1 (List.flatMap (Sv.enc (β := EntryD)) ([(Sv.mk A69 c70 r63)])) 44 1, row A69 (List.length r63) c70 (List.flatMap EntryD.cells r63) 53 7, blk g0 [.slice A71 (List.length r64.xrest.ls) c72, .int .i64 r64.xerrno] 84, row A31 (List.length l33) c32 (List.flatMap (Sv.enc (β := EntryD)) d34) 44 1, sepL (List.flatMap Row44D.own d34)] := H78
  have H79 : Own w D w77 [row A31 (List.length l33) c32 (List.flatMap (Sv.enc (β := EntryD)) d34) 44 1, sepL (List.flatMap Row44D.own d34), row A69 (List.length r63) c70 (List.flatMap EntryD.cells r63) 53 7, row A76 1 1 (List.flatMap (Sv.enc (β := EntryD)) ([(Sv.mk A69 c70 r63)])) 44 1, blk g0 [.slice A71 (List.length r64.xrest.ls) c72, .int .i64 r64.xerrno] 84] := H78.pick [3, 4, 1, 0, 2] (by decide) rfl
  refine WL.do rfl (Do.appendW (k := List.length l33) (m := 1) (El25) H79 rfl rfl (src_of Try.underlying25 (H79.rds (i := 3) rfl) (flat_one (fun _ => one_of rfl) ([(Sv.mk A69 c70 r63)]))) rfl (by omega) (s := List.length (l33 ++ [(Ll.mk r63)])) (by first | omega | (simp only [List.length_append, List.length_cons, List.length_nil] <;> omega)) (List.flatMap_append).symm ?_)
  intro A80 c81 w82 H83
  replace H83 : Own w D w82 [row A80 (List.length (l33 ++ [(Ll.mk r63)])) c81 (List.flatMap (Sv.enc (β := EntryD)) (d34 ++ [(Sv.mk A69 c70 r63)])) 44 1, sepL (List.flatMap Row44D.own d34), row A69 (List.length r63) c70 (List.flatMap EntryD.cells r63) 53 7, row A76 1 1 (List.flatMap (Sv.enc (β := EntryD)) ([(Sv.mk A69 c70 r63)])) 44 1, blk g0 [.slice A71 (List.length r64.xrest.ls) c72, .int .i64 r64.xerrno] 84] := H83
  have H84 : Own w D w82 [sepL (List.flatMap Row44D.own d34), row A69 (List.length r63) c70 (List.flatMap EntryD.cells r63) 53 7, row A80 (List.length (l33 ++ [(Ll.mk r63)])) c81 (List.flatMap (Sv.enc (β := EntryD)) (d34 ++ [(Sv.mk A69 c70 r63)])) 44 1, row A76 1 1 (List.flatMap (Sv.enc (β := EntryD)) ([(Sv.mk A69 c70 r63)])) 44 1, blk g0 [.slice A71 (List.length r64.xrest.ls) c72, .int .i64 r64.xerrno] 84] := H83.pick [1, 2, 0, 3, 4] (by decide) rfl
  have H85 : Own w D w82 [sepL (List.flatMap Row44D.own (d34 ++ [(Sv.mk A69 c70 r63)])), row A80 (List.length (l33 ++ [(Ll.mk r63)])) c81 (List.flatMap (Sv.enc (β := EntryD)) (d34 ++ [(Sv.mk A69 c70 r63)])) 44 1, row A76 1 1 (List.flatMap (Sv.enc (β := EntryD)) ([(Sv.mk A69 c70 r63)])) 44 1, blk g0 [.slice A71 (List.length r64.xrest.ls) c72, .int .i64 r64.xerrno] 84] := H84.sepAdd (L2 := [row A69 (List.length r63) c70 (List.flatMap EntryD.cells r63) 53 7]) (List.flatMap_append (f := Row44D.own) (xs := d34) (ys := [(Sv.mk A69 c70 r63)])).symm
  have hl86 : List.length (l33 ++ [(Ll.mk r63)]) = List.length l33 + 1 := by simp only [List.length_append, List.length_cons, List.length_nil]
  have hl87 := abs_len (abs_app (es := [(Sv.mk A69 c70 r63)]) (ms := [(Ll.mk r63)]) hi47 rfl)
  refine As rfl rfl (WL.nil (Fin.blockN (Fin.then (Wp.region (Mv rfl rfl (WL.val (v := .int .i64 ((k35 + 1 : Nat) : Int)) rfl (Yl.int (e := IntKind.i64.wrap (((k35 : Nat) : Int) + 1)) (Yl.kern rfl rfl (fun _ => by kernel_rfl)) (by rw [IntWalk.i64_in _ (by omega)]; omega)) (As rfl rfl (WL.nil ?_))))))))
  have H88 : Own w D w82 [blk g0 [.slice A71 (List.length r64.xrest.ls) c72, .int .i64 r64.xerrno] 84, row A80 (List.length (l33 ++ [(Ll.mk r63)])) c81 (List.flatMap (Sv.enc (β := EntryD)) (d34 ++ [(Sv.mk A69 c70 r63)])) 44 1, sepL (List.flatMap Row44D.own (d34 ++ [(Sv.mk A69 c70 r63)]))] := H85.pick [3, 1, 0] (by decide) rfl
  exact Fin.round (A80, c81, (d34 ++ [(Sv.mk A69 c70 r63)]), (l33 ++ [(Ll.mk r63)]), k35 + 1, A71, c72, r64.xrest.ls, r64.xerrno, f54) ⟨rfl, rfl, rfl, rfl, rfl, rfl, trivial⟩ ⟨H88, (show List.map Row44D.abs (d34 ++ [(Sv.mk A69 c70 r63)]) = (l33 ++ [(Ll.mk r63)]) ∧ SubS 1 A0x0 c0x0 p0.xrest.ls A71 c72 r64.xrest.ls ∧ List.length (l33 ++ [(Ll.mk r63)]) ≤ (k35 + 1) ∧ ((k35 + 1) = 0 ∨ (((k35 + 1) : Nat) : Int) ≤ p1) ∧ Int.toNat p1 - (k35 + 1) < f54 ∧ reader_Times_api_Entry_L0 p1 ((Int.toNat p1 - 0) + 1) ([]) 0 p0.xrest.ls p0.xerrno = reader_Times_api_Entry_L0 p1 f54 (l33 ++ [(Ll.mk r63)]) (k35 + 1) r64.xrest.ls r64.xerrno from ⟨by exact (abs_app (es := [(Sv.mk A69 c70 r63)]) (ms := [(Ll.mk r63)]) hi47 rfl), by exact (SubS.trans hi48 hs73), by omega, by omega, by omega, Eq.trans (hq46) (Eq.trans (if_pos h56) (Eq.trans (if_pos h57) (bnd_of hr65)))⟩)⟩ (by show f54 < f54 + 1; omega)
  refine Wp.cond0 rfl (decide_eq_false h57) (Wp.exit (Fin.thenX (Fin.thenX (Fin.blockX ?_))))
  have H89 : Own w D w43 [blk g0 [.slice A36 (List.length l38) c37, .int .i64 z39] 84, row A31 (List.length l33) c32 (List.flatMap (Sv.enc (β := EntryD)) d34) 44 1, sepL (List.flatMap Row44D.own d34)] := H44.pick [0, 1, 2] (by decide) rfl
  exact Fin.join (A31, c32, d34, l33, A36, c37, l38, z39) ⟨rfl, rfl, trivial⟩ ⟨H89, (show List.map Row44D.abs d34 = l33 ∧ SubS 1 A0x0 c0x0 p0.xrest.ls A36 c37 l38 ∧ 0 ≤ List.length l33 ∧ List.length l38 ≤ List.length p0.xrest.ls ∧ List.length l38 ≤ List.length p0.xrest.ls + 1 ∧ List.length l33 ≤ 1000 ∧ (bnd (reader_Times_api_Entry_L0 p1 ((Int.toNat p1 - 0) + 1) ([]) 0 p0.xrest.ls p0.xerrno) fun sLrJjL => (sLrJjL.1, sLrJjL.2.1, sLrJjL.2.2)) = (l33, l38, z39) from ⟨by exact hi47, by exact hi48, by omega, by omega, by omega, by omega, bnd_of (Eq.trans (hq46) (Eq.trans (if_pos h56) (if_neg h57)))⟩)⟩
  refine Sk rfl rfl (decide_eq_false h56) rfl (Sk rfl rfl (decide_eq_false h56) rfl (Sk rfl rfl (decide_eq_false h56) rfl (Sk rfl rfl (decide_eq_false h56) rfl (Sk rfl rfl (decide_eq_false h56) rfl (WL.val (v := .bool false) rfl (Yl.pickF rfl (decide_eq_false h56) rfl) (WL.nil (Fin.then (Wp.cond0 rfl rfl (Wp.exit (Fin.thenX (Fin.thenX (Fin.blockX ?_))))))))))))
  have H90 : Own w D w43 [blk g0 [.slice A36 (List.length l38) c37, .int .i64 z39] 84, row A31 (List.length l33) c32 (List.flatMap (Sv.enc (β := EntryD)) d34) 44 1, sepL (List.flatMap Row44D.own d34)] := H44.pick [0, 1, 2] (by decide) rfl
  exact Fin.join (A31, c32, d34, l33, A36, c37, l38, z39) ⟨rfl, rfl, trivial⟩ ⟨H90, (show List.map Row44D.abs d34 = l33 ∧ SubS 1 A0x0 c0x0 p0.xrest.ls A36 c37 l38 ∧ 0 ≤ List.length l33 ∧ List.length l38 ≤ List.length p0.xrest.ls ∧ List.length l38 ≤ List.length p0.xrest.ls + 1 ∧ List.length l33 ≤ 1000 ∧ (bnd (reader_Times_api_Entry_L0 p1 ((Int.toNat p1 - 0) + 1) ([]) 0 p0.xrest.ls p0.xerrno) fun sLrJjL => (sLrJjL.1, sLrJjL.2.1, sLrJjL.2.2)) = (l33, l38, z39) from ⟨by exact hi47, by exact hi48, by omega, by omega, by omega, by omega, bnd_of (Eq.trans (hq46) (if_neg h56))⟩)⟩
  rintro ⟨A21, c22, d24, l23, A25, c26, l27, z28⟩ w91 ⟨H92, hf93⟩
  show Wp _ _ _ [(7, .slice A21 (List.length l23) c22), (6, .slice none 0 0)] _ _
  replace H92 : Own w D w91 [blk g0 [.slice A25 (List.length l27) c26, .int .i64 z28] 84, row A21 (List.length l23) c22 (List.flatMap (Sv.enc (β := EntryD)) d24) 44 1, sepL (List.flatMap Row44D.own d24)] := H92
  replace hf93 : List.map Row44D.abs d24 = l23 ∧ SubS 1 A0x0 c0x0 p0.xrest.ls A25 c26 l27 ∧ 0 ≤ List.length l23 ∧ List.length l27 ≤ List.length p0.xrest.ls ∧ List.length l27 ≤ List.length p0.xrest.ls + 1 ∧ List.length l23 ≤ 1000 ∧ (bnd (reader_Times_api_Entry_L0 p1 ((Int.toNat p1 - 0) + 1) ([]) 0 p0.xrest.ls p0.xerrno) fun sLrJjL => (sLrJjL.1, sLrJjL.2.1, sLrJjL.2.2)) = (l23, l27, z28) := hf93
  obtain ⟨hi95, hi96, hi97, hi98, hi99, hi100, hj94⟩ := hf93
  have hl101 := abs_len hi95
  have hz102 := (hi96).le
  refine Wp.seq (Wp.region (Mv rfl rfl (As rfl rfl (WL.nil (Fin.then (Wp.ret (Fin.res (res1 rfl rfl) ?_)))))))
  have H103 : Own w D w91 [row A21 (List.length l23) c22 (List.flatMap (Sv.enc (β := EntryD)) d24) 44 1, sepL (List.flatMap Row44D.own d24), blk g0 [.slice A25 (List.length l27) c26, .int .i64 z28] 84] := H92.pick [1, 2, 0] (by decide) rfl
  have e : reader_Times_api_Entry p0 p1 = (l23, ReaderT.mk (Ll.mk l27) z28) := bnd_of hj94
  obtain ⟨rfl, rfl⟩ := pj2 (e.symm.trans hr)
  exact ⟨A21, c22, d24, A25, c26, rfl, H103, hi95, hi96, (by omega)⟩

def node_readStem (p0 : ReaderT) : stemT × ReaderT :=
  bnd (reader_List_int p0 480) fun yr33 => bnd (reader_Times_string yr33.2 (((List.length yr33.1 : Nat) : Int) - 1)) fun yr56 => bnd (reader_Times_api_Entry yr56.2 ((List.length yr33.1 : Nat) : Int)) fun yr79 => (stemT.mk (Ll.mk yr33.1) (Ll.mk yr56.1) (Ll.mk yr79.1), yr79.2)

set_option maxRecDepth 100000 in
theorem node_readStem_ok (w : World) (D : Nat → Prop) (g0 : Nat) (p0 : ReaderT) (A0x0 : Option Addr) (c0x0 : Nat) (r0 : stemT) (r1 : ReaderT) (H : Own w D w [blk g0 [.slice A0x0 (List.length p0.xrest.ls) c0x0, .int .i64 p0.xerrno] 84]) (hx0x0 : Ro w D fun w' => Rds w' 1 A0x0 (List.length p0.xrest.ls) (List.flatMap eB p0.xrest.ls)) (hb0x0 : List.length p0.xrest.ls ≤ c0x0 ∧ List.length p0.xrest.ls ≤ 9223372036854775807) (hr : node_readStem p0 = (r0, r1)) :
    Calls Try.prog 28 #[.pointer (some ⟨g0, 0, none⟩)] w (Ret fun v w' => ∃ (B0x0 : Option Addr) (b0x0 : Nat) (B0x1 : Option Addr) (b0x1 : Nat) (B0x2 : Option Addr) (b0x2 : Nat) (e0x2 : List Row44D) (B1ox0 : Option Addr) (b1ox0 : Nat), v = .agg #[.slice B0x0 (List.length r0.xkids.ls) b0x0, .slice B0x1 (List.length r0.xpivots.ls) b0x1, .slice B0x2 (List.length r0.xbuffers.ls) b0x2] ∧ Own w D w' [row B0x0 (List.length r0.xkids.ls) b0x0 (List.flatMap (eI .i64) r0.xkids.ls) 3 1, row B0x1 (List.length r0.xpivots.ls) b0x1 (List.flatMap eS r0.xpivots.ls) 9 1, row B0x2 (List.length r0.xbuffers.ls) b0x2 (List.flatMap (Sv.enc (β := EntryD)) e0x2) 44 1, sepL (List.flatMap Row44D.own e0x2), blk g0 [.slice B1ox0 (List.length r1.xrest.ls) b1ox0, .int .i64 r1.xerrno] 84] ∧ (List.map Row44D.abs e0x2 = r0.xbuffers.ls) ∧ (SubS 1 A0x0 c0x0 p0.xrest.ls B1ox0 b1ox0 r1.xrest.ls)) := by
  refine Calls.body (args := [.pointer (some ⟨g0, 0, none⟩)]) Try.func28 rfl rfl rfl ?_
  show Wp _ _ _ [(0, .pointer (some ⟨g0, 0, none⟩))] _ _
  refine Wp.seq (Wp.region ?_)
  refine WL.do rfl (Do.newP (cs := [.slice none 0 0, .slice none 0 0, .slice none 0 0]) (t := 63) H rfl rfl (fun _ => by kernel_rfl) ?_)
  intro g21 w22 H23
  replace H23 : Own w D w22 [blk g21 [.slice none 0 0, .slice none 0 0, .slice none 0 0] 63, blk g0 [.slice A0x0 (List.length p0.xrest.ls) c0x0, .int .i64 p0.xerrno] 84] := H23
  refine WL.nil (Fin.then (Wp.seq (Wp.region ?_)))
  refine WL.do rfl (Do.newP (cs := [.slice none 0 0, .slice none 0 0, .slice none 0 0]) (t := 63) H23 rfl rfl (fun _ => by kernel_rfl) ?_)
  intro g24 w25 H26
  replace H26 : Own w D w25 [blk g24 [.slice none 0 0, .slice none 0 0, .slice none 0 0] 63, blk g21 [.slice none 0 0, .slice none 0 0, .slice none 0 0] 63, blk g0 [.slice A0x0 (List.length p0.xrest.ls) c0x0, .int .i64 p0.xerrno] 84] := H26
  refine WL.nil (Fin.then (Wp.seq (Wp.region (Mv rfl rfl ?_))))
  have H27 : Own w D w25 [blk g0 [.slice A0x0 (List.length p0.xrest.ls) c0x0, .int .i64 p0.xerrno] 84, blk g24 [.slice none 0 0, .slice none 0 0, .slice none 0 0] 63, blk g21 [.slice none 0 0, .slice none 0 0, .slice none 0 0] 63] := H26.pick [2, 0, 1] (by decide) rfl
  obtain ⟨⟨r33, r34⟩, hr35⟩ : ∃ q : (List Int) × ReaderT, reader_List_int p0 480 = q := ⟨_, rfl⟩
  obtain ⟨D28, HP29, ro30, bk31, rr32⟩ := Own.enter1 H27
  refine WL.do rfl (Do.call Try.call44 rfl (reader_List_int_ok _ _ g0 p0 A0x0 c0x0 480 r33 r34 HP29 (ro30 _ hx0x0) (show List.length p0.xrest.ls ≤ c0x0 ∧ List.length p0.xrest.ls ≤ 9223372036854775807 from by omega) (by omega) hr35) ?_)
  rintro _ w36 ⟨A39, c40, A41, c42, rfl, HQ37, hs43, hk44⟩
  have H38 : Own w D w36 [row A39 (List.length r33) c40 (List.flatMap (eI .i64) r33) 3 1, blk g0 [.slice A41 (List.length r34.xrest.ls) c42, .int .i64 r34.xerrno] 84, blk g24 [.slice none 0 0, .slice none 0 0, .slice none 0 0] 63, blk g21 [.slice none 0 0, .slice none 0 0, .slice none 0 0] 63] := bk31 _ _ HQ37
  replace hs43 : SubS 1 A0x0 c0x0 p0.xrest.ls A41 c42 r34.xrest.ls := hs43
  have hz45 := (hs43).le
  have hb46 := H38.rowC (i := 0) rfl
  replace hk44 : List.length r33 ≤ 1000 := hk44
  refine Kn (v := .pointer (some ⟨g24, 0, none⟩)) rfl rfl rfl (fun _ => by kernel_rfl) ?_
  have H47 : Own w D w36 [blk g24 [.slice none 0 0, .slice none 0 0, .slice none 0 0] 63, row A39 (List.length r33) c40 (List.flatMap (eI .i64) r33) 3 1, blk g0 [.slice A41 (List.length r34.xrest.ls) c42, .int .i64 r34.xerrno] 84, blk g21 [.slice none 0 0, .slice none 0 0, .slice none 0 0] 63] := H38.pick [2, 0, 1, 3] (by decide) rfl
  refine WL.do0 (Do.store (vs := [.slice A39 (List.length r33) c40]) (o := 0) H47 rfl rfl Try.sizeOf23 rfl rfl rfl rfl ?_)
  intro w48 H49
  replace H49 : Own w D w48 [blk g24 [.slice A39 (List.length r33) c40, .slice none 0 0, .slice none 0 0] 63, row A39 (List.length r33) c40 (List.flatMap (eI .i64) r33) 3 1, blk g0 [.slice A41 (List.length r34.xrest.ls) c42, .int .i64 r34.xerrno] 84, blk g21 [.slice none 0 0, .slice none 0 0, .slice none 0 0] 63] := H49
  refine WL.nil (Fin.then (Wp.seq (Wp.region (Kn (v := .pointer (some ⟨g24, 0, none⟩)) rfl rfl rfl (fun _ => by kernel_rfl) (WL.val (v := .slice A39 (List.length r33) c40) rfl (Yl.load rfl (Lds.one Try.isAgg23 (Cls.of (H49.cls (i := 0) rfl) rfl))) (Kn (v := .int .i64 ((List.length r33 : Nat) : Int)) rfl rfl rfl (fun _ => by kernel_rfl) (As rfl rfl (WL.nil (Fin.then (Wp.seq (Wp.region (Mv rfl rfl (Mv rfl rfl (WL.val (v := .int .i64 (((List.length r33 : Nat) : Int) - 1)) rfl (Yl.int (e := IntKind.i64.wrap (((List.length r33 : Nat) : Int) - 1)) (Yl.kern rfl rfl (fun _ => by kernel_rfl)) (by rw [IntWalk.i64_in _ (by omega)])) ?_))))))))))))))
  have H50 : Own w D w48 [blk g0 [.slice A41 (List.length r34.xrest.ls) c42, .int .i64 r34.xerrno] 84, blk g24 [.slice A39 (List.length r33) c40, .slice none 0 0, .slice none 0 0] 63, row A39 (List.length r33) c40 (List.flatMap (eI .i64) r33) 3 1, blk g21 [.slice none 0 0, .slice none 0 0, .slice none 0 0] 63] := H49.pick [2, 0, 1, 3] (by decide) rfl
  obtain ⟨⟨r56, r57⟩, hr58⟩ : ∃ q : (List (List UInt8)) × ReaderT, reader_Times_string r34 (((List.length r33 : Nat) : Int) - 1) = q := ⟨_, rfl⟩
  obtain ⟨D51, HP52, ro53, bk54, rr55⟩ := Own.enter1 H50
  refine WL.do rfl (Do.call Try.call46 rfl (reader_Times_string_ok _ _ g0 r34 A41 c42 (((List.length r33 : Nat) : Int) - 1) r56 r57 HP52 (fun w9 h9 => SubS.rds eB_len (by decide) hs43 ((ro53 _ hx0x0) w9 h9)) (show List.length r34.xrest.ls ≤ c42 ∧ List.length r34.xrest.ls ≤ 9223372036854775807 from by omega) (by omega) hr58) ?_)
  rintro _ w59 ⟨A62, c63, A64, c65, rfl, HQ60, hs66, hk67⟩
  have H61 : Own w D w59 [row A62 (List.length r56) c63 (List.flatMap eS r56) 9 1, blk g0 [.slice A64 (List.length r57.xrest.ls) c65, .int .i64 r57.xerrno] 84, blk g24 [.slice A39 (List.length r33) c40, .slice none 0 0, .slice none 0 0] 63, row A39 (List.length r33) c40 (List.flatMap (eI .i64) r33) 3 1, blk g21 [.slice none 0 0, .slice none 0 0, .slice none 0 0] 63] := bk54 _ _ HQ60
  replace hs66 : SubS 1 A41 c42 r34.xrest.ls A64 c65 r57.xrest.ls := hs66
  have hz68 := (hs66).le
  have hb69 := H61.rowC (i := 0) rfl
  replace hk67 : List.length r56 ≤ 1000 := hk67
  refine Kn (v := .pointer (some ⟨g24, 1, none⟩)) rfl rfl rfl (fun _ => by kernel_rfl) ?_
  have H70 : Own w D w59 [blk g24 [.slice A39 (List.length r33) c40, .slice none 0 0, .slice none 0 0] 63, row A62 (List.length r56) c63 (List.flatMap eS r56) 9 1, blk g0 [.slice A64 (List.length r57.xrest.ls) c65, .int .i64 r57.xerrno] 84, row A39 (List.length r33) c40 (List.flatMap (eI .i64) r33) 3 1, blk g21 [.slice none 0 0, .slice none 0 0, .slice none 0 0] 63] := H61.pick [2, 0, 1, 3, 4] (by decide) rfl
  refine WL.do0 (Do.store (vs := [.slice A62 (List.length r56) c63]) (o := 1) H70 rfl rfl Try.sizeOf24 rfl rfl rfl rfl ?_)
  intro w71 H72
  replace H72 : Own w D w71 [blk g24 [.slice A39 (List.length r33) c40, .slice A62 (List.length r56) c63, .slice none 0 0] 63, row A62 (List.length r56) c63 (List.flatMap eS r56) 9 1, blk g0 [.slice A64 (List.length r57.xrest.ls) c65, .int .i64 r57.xerrno] 84, row A39 (List.length r33) c40 (List.flatMap (eI .i64) r33) 3 1, blk g21 [.slice none 0 0, .slice none 0 0, .slice none 0 0] 63] := H72
  refine WL.nil (Fin.then (Wp.seq (Wp.region (Mv rfl rfl (Mv rfl rfl ?_)))))
  have H73 : Own w D w71 [blk g0 [.slice A64 (List.length r57.xrest.ls) c65, .int .i64 r57.xerrno] 84, blk g24 [.slice A39 (List.length r33) c40, .slice A62 (List.length r56) c63, .slice none 0 0] 63, row A62 (List.length r56) c63 (List.flatMap eS r56) 9 1, row A39 (List.length r33) c40 (List.flatMap (eI .i64) r33) 3 1, blk g21 [.slice none 0 0, .slice none 0 0, .slice none 0 0] 63] := H72.pick [2, 0, 1, 3, 4] (by decide) rfl
  obtain ⟨⟨r79, r80⟩, hr81⟩ : ∃ q : (List (Ll EntryD)) × ReaderT, reader_Times_api_Entry r57 ((List.length r33 : Nat) : Int) = q := ⟨_, rfl⟩
  obtain ⟨D74, HP75, ro76, bk77, rr78⟩ := Own.enter1 H73
  refine WL.do rfl (Do.call Try.call47 rfl (reader_Times_api_Entry_ok _ _ g0 r57 A64 c65 ((List.length r33 : Nat) : Int) r79 r80 HP75 (fun w9 h9 => SubS.rds eB_len (by decide) hs66 ((fun w9 h9 => SubS.rds eB_len (by decide) hs43 ((ro76 _ hx0x0) w9 h9)) w9 h9)) (show List.length r57.xrest.ls ≤ c65 ∧ List.length r57.xrest.ls ≤ 9223372036854775807 from by omega) (by omega) hr81) ?_)
  rintro _ w82 ⟨A85, c86, d87, A89, c90, rfl, HQ83, hd88, hs91, hk92⟩
  have H84 : Own w D w82 [row A85 (List.length r79) c86 (List.flatMap (Sv.enc (β := EntryD)) d87) 44 1, sepL (List.flatMap Row44D.own d87), blk g0 [.slice A89 (List.length r80.xrest.ls) c90, .int .i64 r80.xerrno] 84, blk g24 [.slice A39 (List.length r33) c40, .slice A62 (List.length r56) c63, .slice none 0 0] 63, row A62 (List.length r56) c63 (List.flatMap eS r56) 9 1, row A39 (List.length r33) c40 (List.flatMap (eI .i64) r33) 3 1, blk g21 [.slice none 0 0, .slice none 0 0, .slice none 0 0] 63] := bk77 _ _ HQ83
  replace hs91 : SubS 1 A64 c65 r57.xrest.ls A89 c90 r80.xrest.ls := hs91
  have hz93 := (hs91).le
  have hl94 := abs_len hd88
  have hb95 := H84.rowC (i := 0) rfl
  replace hk92 : List.length r79 ≤ 1000 := hk92
  refine Kn (v := .pointer (some ⟨g24, 2, none⟩)) rfl rfl rfl (fun _ => by kernel_rfl) ?_
  have H96 : Own w D w82 [blk g24 [.slice A39 (List.length r33) c40, .slice A62 (List.length r56) c63, .slice none 0 0] 63, row A85 (List.length r79) c86 (List.flatMap (Sv.enc (β := EntryD)) d87) 44 1, sepL (List.flatMap Row44D.own d87), blk g0 [.slice A89 (List.length r80.xrest.ls) c90, .int .i64 r80.xerrno] 84, row A62 (List.length r56) c63 (List.flatMap eS r56) 9 1, row A39 (List.length r33) c40 (List.flatMap (eI .i64) r33) 3 1, blk g21 [.slice none 0 0, .slice none 0 0, .slice none 0 0] 63] := H84.pick [3, 0, 1, 2, 4, 5, 6] (by decide) rfl
  refine WL.do0 (Do.store (vs := [.slice A85 (List.length r79) c86]) (o := 2) H96 rfl rfl Try.sizeOf25 rfl rfl rfl rfl ?_)
  intro w97 H98
  replace H98 : Own w D w97 [blk g24 [.slice A39 (List.length r33) c40, .slice A62 (List.length r56) c63, .slice A85 (List.length r79) c86] 63, row A85 (List.length r79) c86 (List.flatMap (Sv.enc (β := EntryD)) d87) 44 1, sepL (List.flatMap Row44D.own d87), blk g0 [.slice A89 (List.length r80.xrest.ls) c90, .int .i64 r80.xerrno] 84, row A62 (List.length r56) c63 (List.flatMap eS r56) 9 1, row A39 (List.length r33) c40 (List.flatMap (eI .i64) r33) 3 1, blk g21 [.slice none 0 0, .slice none 0 0, .slice none 0 0] 63] := H98
  refine WL.nil (Fin.then (Wp.seq (Wp.region (WL.val (v := .agg #[.slice A39 (List.length r33) c40, .slice A62 (List.length r56) c63, .slice A85 (List.length r79) c86]) rfl (Yl.load rfl (Lds.agg (cs := [.slice A39 (List.length r33) c40, .slice A62 (List.length r56) c63, .slice A85 (List.length r79) c86]) Try.isAgg63 Try.sizeOf63 ((H98.cls (i := 0) rfl).lit (k := 0) (m := 3) rfl))) ?_))))
  have H99 : Own w D w97 [blk g21 [.slice none 0 0, .slice none 0 0, .slice none 0 0] 63, blk g24 [.slice A39 (List.length r33) c40, .slice A62 (List.length r56) c63, .slice A85 (List.length r79) c86] 63, row A85 (List.length r79) c86 (List.flatMap (Sv.enc (β := EntryD)) d87) 44 1, sepL (List.flatMap Row44D.own d87), blk g0 [.slice A89 (List.length r80.xrest.ls) c90, .int .i64 r80.xerrno] 84, row A62 (List.length r56) c63 (List.flatMap eS r56) 9 1, row A39 (List.length r33) c40 (List.flatMap (eI .i64) r33) 3 1] := H98.pick [6, 0, 1, 2, 3, 4, 5] (by decide) rfl
  refine WL.do0 (Do.store (vs := [.slice A39 (List.length r33) c40, .slice A62 (List.length r56) c63, .slice A85 (List.length r79) c86]) (o := 0) H99 rfl rfl Try.sizeOf63 rfl rfl rfl rfl ?_)
  intro w100 H101
  replace H101 : Own w D w100 [blk g21 [.slice A39 (List.length r33) c40, .slice A62 (List.length r56) c63, .slice A85 (List.length r79) c86] 63, blk g24 [.slice A39 (List.length r33) c40, .slice A62 (List.length r56) c63, .slice A85 (List.length r79) c86] 63, row A85 (List.length r79) c86 (List.flatMap (Sv.enc (β := EntryD)) d87) 44 1, sepL (List.flatMap Row44D.own d87), blk g0 [.slice A89 (List.length r80.xrest.ls) c90, .int .i64 r80.xerrno] 84, row A62 (List.length r56) c63 (List.flatMap eS r56) 9 1, row A39 (List.length r33) c40 (List.flatMap (eI .i64) r33) 3 1] := H101
  refine WL.nil (Fin.then (Wp.ret (Fin.res (resC rfl rfl (Lds.agg (cs := [.slice A39 (List.length r33) c40, .slice A62 (List.length r56) c63, .slice A85 (List.length r79) c86]) Try.isAgg63 Try.sizeOf63 ((H101.cls (i := 0) rfl).lit (k := 0) (m := 3) rfl))) ?_)))
  have H102 : Own w D w100 [row A39 (List.length r33) c40 (List.flatMap (eI .i64) r33) 3 1, row A62 (List.length r56) c63 (List.flatMap eS r56) 9 1, row A85 (List.length r79) c86 (List.flatMap (Sv.enc (β := EntryD)) d87) 44 1, sepL (List.flatMap Row44D.own d87), blk g0 [.slice A89 (List.length r80.xrest.ls) c90, .int .i64 r80.xerrno] 84] := H101.pick [6, 5, 2, 3, 4] (by decide) rfl
  have e : node_readStem p0 = (stemT.mk (Ll.mk r33) (Ll.mk r56) (Ll.mk r79), r80) := Eq.trans (bnd_of hr35) (Eq.trans (bnd_of hr58) (bnd_of hr81))
  obtain ⟨rfl, rfl⟩ := pj2 (e.symm.trans hr)
  exact ⟨A39, c40, A62, c63, A85, c86, d87, A89, c90, rfl, H102, hd88, (SubS.trans (SubS.trans hs43 hs66) hs91)⟩

def node_Decode (l0 : List UInt8) : NodeT × Int :=
  if ((List.length l0 : Nat) : Int) > 480 then (NodeT.mk false (Ll.mk ([])) (Ll.mk ([])) (Ll.mk ([])) (Ll.mk ([])), 2) else bnd (reader_New l0) fun yr38 => bnd (reader_Reader_Octet yr38) fun yr53 => if ((yr53.1.toNat : Nat) : Int) = 1 then bnd (reader_List_api_Pair yr53.2 480) fun yr69 => bnd (reader_Reader_End yr69.2) fun yr89 => bnd (reader_Reader_Err yr89) fun yr103 => if yr103 = 0 then bnd (op_CheckMap yr69.1) fun yr119 => if yr119 = 0 then (NodeT.mk true (Ll.mk yr69.1) (Ll.mk ([])) (Ll.mk ([])) (Ll.mk ([])), 0) else (NodeT.mk false (Ll.mk ([])) (Ll.mk ([])) (Ll.mk ([])) (Ll.mk ([])), yr119) else (NodeT.mk false (Ll.mk ([])) (Ll.mk ([])) (Ll.mk ([])) (Ll.mk ([])), yr103) else if ((yr53.1.toNat : Nat) : Int) = 2 then bnd (node_readStem yr53.2) fun yr168 => bnd (reader_Reader_End yr168.2) fun yr196 => bnd (reader_Reader_Err yr196) fun yr210 => if yr210 = 0 then bnd (node_stem_check yr168.1) fun yr226 => if yr226 = 0 then (NodeT.mk false (Ll.mk ([])) (Ll.mk yr168.1.xkids.ls) (Ll.mk yr168.1.xpivots.ls) (Ll.mk yr168.1.xbuffers.ls), 0) else (NodeT.mk false (Ll.mk ([])) (Ll.mk ([])) (Ll.mk ([])) (Ll.mk ([])), yr226) else (NodeT.mk false (Ll.mk ([])) (Ll.mk ([])) (Ll.mk ([])) (Ll.mk ([])), yr210) else bnd (reader_Reader_Fail yr53.2 11) fun yr272 => bnd (reader_Reader_End yr272) fun yr286 => bnd (reader_Reader_Err yr286) fun yr300 => if yr300 = 0 then (NodeT.mk false (Ll.mk ([])) (Ll.mk ([])) (Ll.mk ([])) (Ll.mk ([])), 130) else (NodeT.mk false (Ll.mk ([])) (Ll.mk ([])) (Ll.mk ([])) (Ll.mk ([])), yr300)

set_option maxRecDepth 100000 in
theorem node_Decode_ok (w : World) (D : Nat → Prop) (A0 : Option Addr) (n0 c0 : Nat) (l0 : List UInt8) (r0 : NodeT) (r1 : Int) (H : Own w D w []) (hx0 : Ro w D fun w' => Rds w' 1 A0 n0 (List.flatMap eB l0)) (hn0 : n0 = List.length l0) (hl0 : List.length l0 * 1 ≤ 211106232532992) (hq0 : List.length l0 ≤ c0) (hr : node_Decode l0 = (r0, r1)) :
    Calls Try.prog 11 #[.slice A0 n0 c0] w (Ret fun v w' => ∃ (B0x0 : Option Addr) (b0x0 : Nat) (B0x1 : Option Addr) (b0x1 : Nat) (B0x2 : Option Addr) (b0x2 : Nat) (B0x3 : Option Addr) (b0x3 : Nat) (e0x3 : List Row44D), v = .tuple #[.agg #[.bool r0.xLeaf, .slice B0x0 (List.length r0.xPairs.ls) b0x0, .slice B0x1 (List.length r0.xKids.ls) b0x1, .slice B0x2 (List.length r0.xPivots.ls) b0x2, .slice B0x3 (List.length r0.xBuffers.ls) b0x3], .int .i64 r1] ∧ Own w D w' [row B0x0 (List.length r0.xPairs.ls) b0x0 (List.flatMap PairD.cells r0.xPairs.ls) 40 2, row B0x1 (List.length r0.xKids.ls) b0x1 (List.flatMap (eI .i64) r0.xKids.ls) 3 1, row B0x2 (List.length r0.xPivots.ls) b0x2 (List.flatMap eS r0.xPivots.ls) 9 1, row B0x3 (List.length r0.xBuffers.ls) b0x3 (List.flatMap (Sv.enc (β := EntryD)) e0x3) 44 1, sepL (List.flatMap Row44D.own e0x3)] ∧ (List.map Row44D.abs e0x3 = r0.xBuffers.ls)) := by
  subst hn0
  refine Calls.body (args := [.slice A0 (List.length l0) c0]) Try.func11 rfl rfl rfl ?_
  show Wp _ _ _ [(0, .slice A0 (List.length l0) c0)] _ _
  refine Wp.seq (Wp.region ?_)
  refine WL.do rfl (Do.newP (cs := [.bool false, .slice none 0 0, .slice none 0 0, .slice none 0 0, .slice none 0 0]) (t := 27) H rfl rfl (fun _ => by kernel_rfl) ?_)
  intro g21 w22 H23
  replace H23 : Own w D w22 [blk g21 [.bool false, .slice none 0 0, .slice none 0 0, .slice none 0 0, .slice none 0 0] 27] := H23
  refine As rfl rfl (WL.nil (Fin.then (Wp.seq (Wp.seq (Wp.region (Mv rfl rfl (Kn (v := .int .i64 ((List.length l0 : Nat) : Int)) rfl rfl rfl (fun _ => by kernel_rfl) (Kn (v := .bool (decide (((List.length l0 : Nat) : Int) > 480))) rfl rfl rfl (fun _ => by kernel_rfl) (WL.nil (Fin.then ?_))))))))))
  by_cases h24 : ((List.length l0 : Nat) : Int) > 480
  refine Wp.cond1 rfl (decide_eq_true h24) (Wp.seq (Wp.region (Kn (v := .agg #[.bool false, .slice none 0 0, .slice none 0 0, .slice none 0 0, .slice none 0 0]) rfl rfl rfl (fun _ => by kernel_rfl) ?_)))
  refine WL.do0 (Do.store (vs := [.bool false, .slice none 0 0, .slice none 0 0, .slice none 0 0, .slice none 0 0]) (o := 0) H23 rfl rfl Try.sizeOf27 rfl rfl rfl rfl ?_)
  intro w25 H26
  replace H26 : Own w D w25 [blk g21 [.bool false, .slice none 0 0, .slice none 0 0, .slice none 0 0, .slice none 0 0] 27] := H26
  refine As rfl rfl (WL.nil (Fin.then (Wp.ret (Fin.thenR (Fin.res (resN (vs := [.agg #[.bool false, .slice none 0 0, .slice none 0 0, .slice none 0 0, .slice none 0 0], .int .i64 2]) rfl (ResV.cell rfl (Lds.agg (cs := [.bool false, .slice none 0 0, .slice none 0 0, .slice none 0 0, .slice none 0 0]) Try.isAgg27 Try.sizeOf27 ((H26.cls (i := 0) rfl).lit (k := 0) (m := 5) rfl)) (ResV.tmp rfl ResV.nil)) (Nat.le_of_ble_eq_true rfl)) ?_)))))
  have H27 : Own w D w25 [row none 0 0 (List.flatMap PairD.cells ([])) 40 2, blk g21 [.bool false, .slice none 0 0, .slice none 0 0, .slice none 0 0, .slice none 0 0] 27] := H26.free (row_nil 40 2)
  have H28 : Own w D w25 [row none 0 0 (List.flatMap (eI .i64) ([])) 3 1, row none 0 0 (List.flatMap PairD.cells ([])) 40 2, blk g21 [.bool false, .slice none 0 0, .slice none 0 0, .slice none 0 0, .slice none 0 0] 27] := H27.free (row_nil 3 1)
  have H29 : Own w D w25 [row none 0 0 (List.flatMap eS ([])) 9 1, row none 0 0 (List.flatMap (eI .i64) ([])) 3 1, row none 0 0 (List.flatMap PairD.cells ([])) 40 2, blk g21 [.bool false, .slice none 0 0, .slice none 0 0, .slice none 0 0, .slice none 0 0] 27] := H28.free (row_nil 9 1)
  have H30 : Own w D w25 [sepL (List.flatMap Row44D.own ([])), row none 0 0 (List.flatMap eS ([])) 9 1, row none 0 0 (List.flatMap (eI .i64) ([])) 3 1, row none 0 0 (List.flatMap PairD.cells ([])) 40 2, blk g21 [.bool false, .slice none 0 0, .slice none 0 0, .slice none 0 0, .slice none 0 0] 27] := H29.sepNil
  have H31 : Own w D w25 [row none 0 0 (List.flatMap (Sv.enc (β := EntryD)) ([])) 44 1, sepL (List.flatMap Row44D.own ([])), row none 0 0 (List.flatMap eS ([])) 9 1, row none 0 0 (List.flatMap (eI .i64) ([])) 3 1, row none 0 0 (List.flatMap PairD.cells ([])) 40 2, blk g21 [.bool false, .slice none 0 0, .slice none 0 0, .slice none 0 0, .slice none 0 0] 27] := H30.free (row_nil 44 1)
  have H32 : Own w D w25 [row none 0 0 (List.flatMap PairD.cells ([])) 40 2, row none 0 0 (List.flatMap (eI .i64) ([])) 3 1, row none 0 0 (List.flatMap eS ([])) 9 1, row none 0 0 (List.flatMap (Sv.enc (β := EntryD)) ([])) 44 1, sepL (List.flatMap Row44D.own ([]))] := H31.pick [4, 3, 2, 0, 1] (by decide) rfl
  have e : node_Decode l0 = (NodeT.mk false (Ll.mk ([])) (Ll.mk ([])) (Ll.mk ([])) (Ll.mk ([])), 2) := if_pos h24
  obtain ⟨rfl, rfl⟩ := pj2 (e.symm.trans hr)
  exact ⟨none, 0, none, 0, none, 0, none, 0, [], rfl, H32, rfl⟩
  refine Wp.cond0 rfl (decide_eq_false h24) (Wp.skip (Fin.then (Wp.seq (Wp.region (Mv rfl rfl ?_)))))
  refine WL.do rfl (Do.call Try.call16 rfl ?_ (fun _ _ k => k))
  refine Calls.body (args := [.slice A0 (List.length l0) c0]) Try.func16 rfl rfl rfl ?_
  show Wp _ _ _ [(0, .slice A0 (List.length l0) c0)] _ _
  refine Wp.seq (Wp.region (As rfl rfl (As rfl rfl (WL.nil (Fin.then (Wp.seq (Wp.region (Mv rfl rfl ?_))))))))
  obtain ⟨r38, hr39⟩ : ∃ q, reader_New l0 = q := ⟨_, rfl⟩
  obtain ⟨D33, HP34, ro35, bk36, rr37⟩ := Own.enter0 H23
  refine WL.do rfl (Do.call Try.call24 rfl (reader_New_ok _ _ A0 (List.length l0) c0 l0 r38 HP34 (ro35 _ hx0) rfl (by omega) (by first | omega | (simp only [List.length_take, List.length_drop]; omega)) hr39) ?_)
  rintro _ w40 ⟨g43, A44, c45, rfl, HQ41, hs46⟩
  have H42 : Own w D w40 [blk g43 [.slice A44 (List.length r38.xrest.ls) c45, .int .i64 r38.xerrno] 84, blk g21 [.bool false, .slice none 0 0, .slice none 0 0, .slice none 0 0, .slice none 0 0] 27] := bk36 _ _ HQ41
  replace hs46 : SubS 1 A0 c0 l0 A44 c45 r38.xrest.ls := hs46
  have hz47 := (hs46).le
  refine As rfl rfl (WL.nil (Fin.then (Wp.seq (Wp.region (As rfl rfl (WL.nil (Fin.then (Wp.seq (Wp.seq (Wp.region (Mv rfl rfl ?_)))))))))))
  obtain ⟨⟨r53, r54⟩, hr55⟩ : ∃ q : UInt8 × ReaderT, reader_Reader_Octet r38 = q := ⟨_, rfl⟩
  obtain ⟨D48, HP49, ro50, bk51, rr52⟩ := Own.enter1 H42
  refine WL.do rfl (Do.call Try.call25 rfl (reader_Reader_Octet_ok _ _ g43 r38 A44 c45 r53 r54 HP49 (fun w9 h9 => SubS.rds eB_len (by decide) hs46 ((ro50 _ hx0) w9 h9)) (show List.length r38.xrest.ls ≤ c45 ∧ List.length r38.xrest.ls ≤ 9223372036854775807 from by omega) hr55) ?_)
  rintro _ w56 ⟨A59, c60, rfl, HQ57, hs61⟩
  have H58 : Own w D w56 [blk g43 [.slice A59 (List.length r54.xrest.ls) c60, .int .i64 r54.xerrno] 84, blk g21 [.bool false, .slice none 0 0, .slice none 0 0, .slice none 0 0, .slice none 0 0] 27] := bk51 _ _ HQ57
  replace hs61 : SubS 1 A44 c45 r38.xrest.ls A59 c60 r54.xrest.ls := hs61
  have hz62 := (hs61).le
  refine WL.nil (Fin.then (Wp.block (Wp.seq (Wp.region (Kn (v := .bool (decide (((r53.toNat : Nat) : Int) = 1))) rfl rfl rfl (fun _ => by kernel_rfl) (As rfl rfl (WL.nil (Fin.then ?_))))))))
  by_cases h63 : ((r53.toNat : Nat) : Int) = 1
  refine Wp.cond1 rfl (decide_eq_true h63) (Wp.region (Mv rfl rfl ?_))
  obtain ⟨⟨r69, r70⟩, hr71⟩ : ∃ q : (List PairD) × ReaderT, reader_List_api_Pair r54 480 = q := ⟨_, rfl⟩
  obtain ⟨D64, HP65, ro66, bk67, rr68⟩ := Own.enter1 H58
  refine WL.do rfl (Do.call Try.call26 rfl (reader_List_api_Pair_ok _ _ g43 r54 A59 c60 480 r69 r70 HP65 (fun w9 h9 => SubS.rds eB_len (by decide) hs61 ((fun w9 h9 => SubS.rds eB_len (by decide) hs46 ((ro66 _ hx0) w9 h9)) w9 h9)) (show List.length r54.xrest.ls ≤ c60 ∧ List.length r54.xrest.ls ≤ 9223372036854775807 from by omega) (by omega) hr71) ?_)
  rintro _ w72 ⟨A75, c76, A77, c78, rfl, HQ73, hs79, hk80⟩
  have H74 : Own w D w72 [row A75 (List.length r69) c76 (List.flatMap PairD.cells r69) 40 2, blk g43 [.slice A77 (List.length r70.xrest.ls) c78, .int .i64 r70.xerrno] 84, blk g21 [.bool false, .slice none 0 0, .slice none 0 0, .slice none 0 0, .slice none 0 0] 27] := bk67 _ _ HQ73
  replace hs79 : SubS 1 A59 c60 r54.xrest.ls A77 c78 r70.xrest.ls := hs79
  have hz81 := (hs79).le
  have hb82 := H74.rowC (i := 0) rfl
  replace hk80 : List.length r69 ≤ 1000 := hk80
  refine Kn (v := .agg #[.slice A75 (List.length r69) c76]) rfl rfl rfl (fun _ => by kernel_rfl) (Kn (v := .iface 60 (.agg #[.slice A75 (List.length r69) c76])) rfl rfl rfl (fun _ => by kernel_rfl) (As rfl rfl (WL.nil (Fin.blockN (Fin.then (Wp.seq (Wp.region (Mv rfl rfl ?_))))))))
  have H83 : Own w D w72 [blk g43 [.slice A77 (List.length r70.xrest.ls) c78, .int .i64 r70.xerrno] 84, row A75 (List.length r69) c76 (List.flatMap PairD.cells r69) 40 2, blk g21 [.bool false, .slice none 0 0, .slice none 0 0, .slice none 0 0, .slice none 0 0] 27] := H74.pick [1, 0, 2] (by decide) rfl
  obtain ⟨r89, hr90⟩ : ∃ q, reader_Reader_End r70 = q := ⟨_, rfl⟩
  obtain ⟨D84, HP85, ro86, bk87, rr88⟩ := Own.enter1 H83
  refine WL.do rfl (Do.call Try.call30 rfl (reader_Reader_End_ok _ _ g43 r70 A77 c78 r89 HP85 (fun w9 h9 => SubS.rds eB_len (by decide) hs79 ((fun w9 h9 => SubS.rds eB_len (by decide) hs61 ((fun w9 h9 => SubS.rds eB_len (by decide) hs46 ((ro86 _ hx0) w9 h9)) w9 h9)) w9 h9)) (show List.length r70.xrest.ls ≤ c78 ∧ List.length r70.xrest.ls ≤ 9223372036854775807 from by omega) hr90) ?_)
  rintro _ w91 ⟨A94, c95, rfl, HQ92, hs96⟩
  have H93 : Own w D w91 [blk g43 [.slice A94 (List.length r89.xrest.ls) c95, .int .i64 r89.xerrno] 84, row A75 (List.length r69) c76 (List.flatMap PairD.cells r69) 40 2, blk g21 [.bool false, .slice none 0 0, .slice none 0 0, .slice none 0 0, .slice none 0 0] 27] := bk87 _ _ HQ92
  replace hs96 : SubS 1 A77 c78 r70.xrest.ls A94 c95 r89.xrest.ls := hs96
  have hz97 := (hs96).le
  refine WL.nil (Fin.then (Wp.seq (Wp.region (Mv rfl rfl (Mv rfl rfl ?_)))))
  obtain ⟨r103, hr104⟩ : ∃ q, reader_Reader_Err r89 = q := ⟨_, rfl⟩
  obtain ⟨D98, HP99, ro100, bk101, rr102⟩ := Own.enter1 H93
  refine WL.do rfl (Do.call Try.call31 rfl (reader_Reader_Err_ok _ _ g43 r89 A94 c95 r103 HP99 (fun w9 h9 => SubS.rds eB_len (by decide) hs96 ((fun w9 h9 => SubS.rds eB_len (by decide) hs79 ((fun w9 h9 => SubS.rds eB_len (by decide) hs61 ((fun w9 h9 => SubS.rds eB_len (by decide) hs46 ((ro100 _ hx0) w9 h9)) w9 h9)) w9 h9)) w9 h9)) (show List.length r89.xrest.ls ≤ c95 ∧ List.length r89.xrest.ls ≤ 9223372036854775807 from by omega) hr104) ?_)
  rintro _ w105 ⟨rfl, HQ106⟩
  have H107 : Own w D w105 [blk g43 [.slice A94 (List.length r89.xrest.ls) c95, .int .i64 r89.xerrno] 84, row A75 (List.length r69) c76 (List.flatMap PairD.cells r69) 40 2, blk g21 [.bool false, .slice none 0 0, .slice none 0 0, .slice none 0 0, .slice none 0 0] 27] := bk101 _ _ HQ106
  refine As rfl rfl (As rfl rfl (WL.nil (Fin.then (Wp.ret (Fin.res (res2 rfl rfl rfl) (Mv rfl rfl (Kn (v := .iface 60 (.agg #[.slice A75 (List.length r69) c76])) rfl rfl rfl (fun _ => by kernel_rfl) (Kn (v := .int .i64 r103) rfl rfl rfl (fun _ => by kernel_rfl) (As rfl rfl (As rfl rfl (WL.nil (Fin.then (Wp.seq (Wp.seq (Wp.region (Mv rfl rfl (WL.val (v := .bool (decide (¬ (r103 = 0)))) rfl (Yl.bool (e := !(decide (r103 = 0))) (Yl.kern rfl rfl (fun _ => by kernel_rfl)) decide_not.symm) (WL.nil (Fin.then ?_)))))))))))))))))))
  by_cases h108 : r103 = 0
  refine Wp.cond0 rfl (decide_eq_false (not_not_intro h108)) (Wp.skip (Fin.then (Wp.seq (Wp.seq (Wp.region (Mv rfl rfl ?_))))))
  refine WL.do rfl (Do.call Try.call13 rfl ?_ (fun _ _ k => k))
  refine Calls.body (args := [.iface 60 (.agg #[.slice A75 (List.length r69) c76])]) Try.func13 rfl rfl rfl ?_
  show Wp _ _ _ [(0, .iface 60 (.agg #[.slice A75 (List.length r69) c76]))] _ _
  refine Wp.seq (Wp.region (As rfl rfl (WL.nil (Fin.then (Wp.seq (Wp.seq (Wp.region (Mv rfl rfl (WL.nil (Fin.then (Wp.block (Wp.seq (Wp.region (Kn (v := .tuple #[.agg #[.slice A75 (List.length r69) c76], .bool true]) rfl rfl rfl (fun _ => by kernel_rfl) (Kn (v := .bool true) rfl rfl rfl (fun _ => by kernel_rfl) (Kn (v := .agg #[.slice A75 (List.length r69) c76]) rfl rfl rfl (fun _ => by kernel_rfl) (WL.nil (Fin.then (Wp.cond1 rfl rfl (Wp.seq (Wp.region ?_)))))))))))))))))))))
  refine WL.do rfl (Do.newP (cs := [.slice none 0 0]) (t := 60) H107 rfl rfl (fun _ => by kernel_rfl) ?_)
  intro g109 w110 H111
  replace H111 : Own w D w110 [blk g109 [.slice none 0 0] 60, blk g43 [.slice A94 (List.length r89.xrest.ls) c95, .int .i64 r89.xerrno] 84, row A75 (List.length r69) c76 (List.flatMap PairD.cells r69) 40 2, blk g21 [.bool false, .slice none 0 0, .slice none 0 0, .slice none 0 0, .slice none 0 0] 27] := H111
  refine WL.do0 (Do.store (vs := [.slice A75 (List.length r69) c76]) (o := 0) H111 rfl rfl Try.sizeOf60 rfl rfl rfl rfl ?_)
  intro w112 H113
  replace H113 : Own w D w112 [blk g109 [.slice A75 (List.length r69) c76] 60, blk g43 [.slice A94 (List.length r89.xrest.ls) c95, .int .i64 r89.xerrno] 84, row A75 (List.length r69) c76 (List.flatMap PairD.cells r69) 40 2, blk g21 [.bool false, .slice none 0 0, .slice none 0 0, .slice none 0 0, .slice none 0 0] 27] := H113
  refine WL.nil (Fin.then (Wp.seq (Wp.region (Kn (v := .pointer (some ⟨g109, 0, none⟩)) rfl rfl rfl (fun _ => by kernel_rfl) (WL.val (v := .slice A75 (List.length r69) c76) rfl (Yl.load rfl (Lds.one Try.isAgg22 (Cls.of (H113.cls (i := 0) rfl) rfl))) ?_)))))
  obtain ⟨r119, hr120⟩ : ∃ q, op_CheckMap r69 = q := ⟨_, rfl⟩
  obtain ⟨D114, HP115, ro116, bk117, rr118⟩ := Own.enter0 H113
  refine WL.do rfl (Do.call Try.call20 rfl (op_CheckMap_ok _ _ A75 (List.length r69) c76 r69 r119 HP115 (rr118 _ 2 _ rfl row_rds) rfl (by omega) hr120) ?_)
  rintro _ w121 ⟨rfl, HQ122⟩
  have H123 : Own w D w121 [blk g109 [.slice A75 (List.length r69) c76] 60, blk g43 [.slice A94 (List.length r89.xrest.ls) c95, .int .i64 r89.xerrno] 84, row A75 (List.length r69) c76 (List.flatMap PairD.cells r69) 40 2, blk g21 [.bool false, .slice none 0 0, .slice none 0 0, .slice none 0 0, .slice none 0 0] 27] := bk117 _ _ HQ122
  refine As rfl rfl (WL.nil (Fin.then (Wp.ret (Fin.blockR (Fin.thenR (Fin.res (res1 rfl rfl) (As rfl rfl (WL.nil (Fin.then (Wp.seq (Wp.region (Mv rfl rfl (WL.val (v := .bool (decide (¬ (r119 = 0)))) rfl (Yl.bool (e := !(decide (r119 = 0))) (Yl.kern rfl rfl (fun _ => by kernel_rfl)) decide_not.symm) (WL.nil (Fin.then ?_)))))))))))))))
  by_cases h124 : r119 = 0
  refine Wp.cond0 rfl (decide_eq_false (not_not_intro h124)) (Wp.skip (Fin.then (Wp.seq (Wp.region (Mv rfl rfl ?_)))))
  refine WL.do rfl (Do.call Try.call17 rfl ?_ (fun _ _ k => k))
  refine Calls.body (args := [.iface 60 (.agg #[.slice A75 (List.length r69) c76])]) Try.func17 rfl rfl rfl ?_
  show Wp _ _ _ [(0, .iface 60 (.agg #[.slice A75 (List.length r69) c76]))] _ _
  refine Wp.seq (Wp.region ?_)
  refine WL.do rfl (Do.newP (cs := [.bool false, .slice none 0 0, .slice none 0 0, .slice none 0 0, .slice none 0 0]) (t := 27) H123 rfl rfl (fun _ => by kernel_rfl) ?_)
  intro g125 w126 H127
  replace H127 : Own w D w126 [blk g125 [.bool false, .slice none 0 0, .slice none 0 0, .slice none 0 0, .slice none 0 0] 27, blk g109 [.slice A75 (List.length r69) c76] 60, blk g43 [.slice A94 (List.length r89.xrest.ls) c95, .int .i64 r89.xerrno] 84, row A75 (List.length r69) c76 (List.flatMap PairD.cells r69) 40 2, blk g21 [.bool false, .slice none 0 0, .slice none 0 0, .slice none 0 0, .slice none 0 0] 27] := H127
  refine WL.nil (Fin.then (Wp.seq (Wp.seq (Wp.region (Mv rfl rfl (WL.nil (Fin.then (Wp.block (Wp.seq (Wp.region (Kn (v := .tuple #[.agg #[.slice A75 (List.length r69) c76], .bool true]) rfl rfl rfl (fun _ => by kernel_rfl) (Kn (v := .bool true) rfl rfl rfl (fun _ => by kernel_rfl) (Kn (v := .agg #[.slice A75 (List.length r69) c76]) rfl rfl rfl (fun _ => by kernel_rfl) (WL.nil (Fin.then (Wp.cond1 rfl rfl (Wp.seq (Wp.region ?_))))))))))))))))))
  refine WL.do rfl (Do.newP (cs := [.slice none 0 0]) (t := 60) H127 rfl rfl (fun _ => by kernel_rfl) ?_)
  intro g128 w129 H130
  replace H130 : Own w D w129 [blk g128 [.slice none 0 0] 60, blk g125 [.bool false, .slice none 0 0, .slice none 0 0, .slice none 0 0, .slice none 0 0] 27, blk g109 [.slice A75 (List.length r69) c76] 60, blk g43 [.slice A94 (List.length r89.xrest.ls) c95, .int .i64 r89.xerrno] 84, row A75 (List.length r69) c76 (List.flatMap PairD.cells r69) 40 2, blk g21 [.bool false, .slice none 0 0, .slice none 0 0, .slice none 0 0, .slice none 0 0] 27] := H130
  refine WL.do0 (Do.store (vs := [.slice A75 (List.length r69) c76]) (o := 0) H130 rfl rfl Try.sizeOf60 rfl rfl rfl rfl ?_)
  intro w131 H132
  replace H132 : Own w D w131 [blk g128 [.slice A75 (List.length r69) c76] 60, blk g125 [.bool false, .slice none 0 0, .slice none 0 0, .slice none 0 0, .slice none 0 0] 27, blk g109 [.slice A75 (List.length r69) c76] 60, blk g43 [.slice A94 (List.length r89.xrest.ls) c95, .int .i64 r89.xerrno] 84, row A75 (List.length r69) c76 (List.flatMap PairD.cells r69) 40 2, blk g21 [.bool false, .slice none 0 0, .slice none 0 0, .slice none 0 0, .slice none 0 0] 27] := H132
  refine WL.nil (Fin.then (Wp.seq (Wp.region (Kn (v := .pointer (some ⟨g128, 0, none⟩)) rfl rfl rfl (fun _ => by kernel_rfl) (WL.val (v := .slice A75 (List.length r69) c76) rfl (Yl.load rfl (Lds.one Try.isAgg22 (Cls.of (H132.cls (i := 0) rfl) rfl))) (Kn (v := .agg #[.bool true, .slice A75 (List.length r69) c76, .slice none 0 0, .slice none 0 0, .slice none 0 0]) rfl rfl rfl (fun _ => by kernel_rfl) ?_))))))
  have H133 : Own w D w131 [blk g125 [.bool false, .slice none 0 0, .slice none 0 0, .slice none 0 0, .slice none 0 0] 27, blk g128 [.slice A75 (List.length r69) c76] 60, blk g109 [.slice A75 (List.length r69) c76] 60, blk g43 [.slice A94 (List.length r89.xrest.ls) c95, .int .i64 r89.xerrno] 84, row A75 (List.length r69) c76 (List.flatMap PairD.cells r69) 40 2, blk g21 [.bool false, .slice none 0 0, .slice none 0 0, .slice none 0 0, .slice none 0 0] 27] := H132.pick [1, 0, 2, 3, 4, 5] (by decide) rfl
  refine WL.do0 (Do.store (vs := [.bool true, .slice A75 (List.length r69) c76, .slice none 0 0, .slice none 0 0, .slice none 0 0]) (o := 0) H133 rfl rfl Try.sizeOf27 rfl rfl rfl rfl ?_)
  intro w134 H135
  replace H135 : Own w D w134 [blk g125 [.bool true, .slice A75 (List.length r69) c76, .slice none 0 0, .slice none 0 0, .slice none 0 0] 27, blk g128 [.slice A75 (List.length r69) c76] 60, blk g109 [.slice A75 (List.length r69) c76] 60, blk g43 [.slice A94 (List.length r89.xrest.ls) c95, .int .i64 r89.xerrno] 84, row A75 (List.length r69) c76 (List.flatMap PairD.cells r69) 40 2, blk g21 [.bool false, .slice none 0 0, .slice none 0 0, .slice none 0 0, .slice none 0 0] 27] := H135
  refine WL.nil (Fin.then (Wp.ret (Fin.blockR (Fin.thenR (Fin.res (resC rfl rfl (Lds.agg (cs := [.bool true, .slice A75 (List.length r69) c76, .slice none 0 0, .slice none 0 0, .slice none 0 0]) Try.isAgg27 Try.sizeOf27 ((H135.cls (i := 0) rfl).lit (k := 0) (m := 5) rfl))) ?_)))))
  have H136 : Own w D w134 [blk g21 [.bool false, .slice none 0 0, .slice none 0 0, .slice none 0 0, .slice none 0 0] 27, blk g125 [.bool true, .slice A75 (List.length r69) c76, .slice none 0 0, .slice none 0 0, .slice none 0 0] 27, blk g128 [.slice A75 (List.length r69) c76] 60, blk g109 [.slice A75 (List.length r69) c76] 60, blk g43 [.slice A94 (List.length r89.xrest.ls) c95, .int .i64 r89.xerrno] 84, row A75 (List.length r69) c76 (List.flatMap PairD.cells r69) 40 2] := H135.pick [5, 0, 1, 2, 3, 4] (by decide) rfl
  refine WL.do0 (Do.store (vs := [.bool true, .slice A75 (List.length r69) c76, .slice none 0 0, .slice none 0 0, .slice none 0 0]) (o := 0) H136 rfl rfl Try.sizeOf27 rfl rfl rfl rfl ?_)
  intro w137 H138
  replace H138 : Own w D w137 [blk g21 [.bool true, .slice A75 (List.length r69) c76, .slice none 0 0, .slice none 0 0, .slice none 0 0] 27, blk g125 [.bool true, .slice A75 (List.length r69) c76, .slice none 0 0, .slice none 0 0, .slice none 0 0] 27, blk g128 [.slice A75 (List.length r69) c76] 60, blk g109 [.slice A75 (List.length r69) c76] 60, blk g43 [.slice A94 (List.length r89.xrest.ls) c95, .int .i64 r89.xerrno] 84, row A75 (List.length r69) c76 (List.flatMap PairD.cells r69) 40 2] := H138
  refine As rfl rfl (WL.nil (Fin.then (Wp.ret (Fin.res (resN (vs := [.agg #[.bool true, .slice A75 (List.length r69) c76, .slice none 0 0, .slice none 0 0, .slice none 0 0], .int .i64 0]) rfl (ResV.cell rfl (Lds.agg (cs := [.bool true, .slice A75 (List.length r69) c76, .slice none 0 0, .slice none 0 0, .slice none 0 0]) Try.isAgg27 Try.sizeOf27 ((H138.cls (i := 0) rfl).lit (k := 0) (m := 5) rfl)) (ResV.tmp rfl ResV.nil)) (Nat.le_of_ble_eq_true rfl)) ?_))))
  have H139 : Own w D w137 [row none 0 0 (List.flatMap (eI .i64) ([])) 3 1, blk g21 [.bool true, .slice A75 (List.length r69) c76, .slice none 0 0, .slice none 0 0, .slice none 0 0] 27, blk g125 [.bool true, .slice A75 (List.length r69) c76, .slice none 0 0, .slice none 0 0, .slice none 0 0] 27, blk g128 [.slice A75 (List.length r69) c76] 60, blk g109 [.slice A75 (List.length r69) c76] 60, blk g43 [.slice A94 (List.length r89.xrest.ls) c95, .int .i64 r89.xerrno] 84, row A75 (List.length r69) c76 (List.flatMap PairD.cells r69) 40 2] := H138.free (row_nil 3 1)
  have H140 : Own w D w137 [row none 0 0 (List.flatMap eS ([])) 9 1, row none 0 0 (List.flatMap (eI .i64) ([])) 3 1, blk g21 [.bool true, .slice A75 (List.length r69) c76, .slice none 0 0, .slice none 0 0, .slice none 0 0] 27, blk g125 [.bool true, .slice A75 (List.length r69) c76, .slice none 0 0, .slice none 0 0, .slice none 0 0] 27, blk g128 [.slice A75 (List.length r69) c76] 60, blk g109 [.slice A75 (List.length r69) c76] 60, blk g43 [.slice A94 (List.length r89.xrest.ls) c95, .int .i64 r89.xerrno] 84, row A75 (List.length r69) c76 (List.flatMap PairD.cells r69) 40 2] := H139.free (row_nil 9 1)
  have H141 : Own w D w137 [sepL (List.flatMap Row44D.own ([])), row none 0 0 (List.flatMap eS ([])) 9 1, row none 0 0 (List.flatMap (eI .i64) ([])) 3 1, blk g21 [.bool true, .slice A75 (List.length r69) c76, .slice none 0 0, .slice none 0 0, .slice none 0 0] 27, blk g125 [.bool true, .slice A75 (List.length r69) c76, .slice none 0 0, .slice none 0 0, .slice none 0 0] 27, blk g128 [.slice A75 (List.length r69) c76] 60, blk g109 [.slice A75 (List.length r69) c76] 60, blk g43 [.slice A94 (List.length r89.xrest.ls) c95, .int .i64 r89.xerrno] 84, row A75 (List.length r69) c76 (List.flatMap PairD.cells r69) 40 2] := H140.sepNil
  have H142 : Own w D w137 [row none 0 0 (List.flatMap (Sv.enc (β := EntryD)) ([])) 44 1, sepL (List.flatMap Row44D.own ([])), row none 0 0 (List.flatMap eS ([])) 9 1, row none 0 0 (List.flatMap (eI .i64) ([])) 3 1, blk g21 [.bool true, .slice A75 (List.length r69) c76, .slice none 0 0, .slice none 0 0, .slice none 0 0] 27, blk g125 [.bool true, .slice A75 (List.length r69) c76, .slice none 0 0, .slice none 0 0, .slice none 0 0] 27, blk g128 [.slice A75 (List.length r69) c76] 60, blk g109 [.slice A75 (List.length r69) c76] 60, blk g43 [.slice A94 (List.length r89.xrest.ls) c95, .int .i64 r89.xerrno] 84, row A75 (List.length r69) c76 (List.flatMap PairD.cells r69) 40 2] := H141.free (row_nil 44 1)
  have H143 : Own w D w137 [row A75 (List.length r69) c76 (List.flatMap PairD.cells r69) 40 2, row none 0 0 (List.flatMap (eI .i64) ([])) 3 1, row none 0 0 (List.flatMap eS ([])) 9 1, row none 0 0 (List.flatMap (Sv.enc (β := EntryD)) ([])) 44 1, sepL (List.flatMap Row44D.own ([]))] := H142.pick [9, 3, 2, 0, 1] (by decide) rfl
  have e : node_Decode l0 = (NodeT.mk true (Ll.mk r69) (Ll.mk ([])) (Ll.mk ([])) (Ll.mk ([])), 0) := Eq.trans (if_neg h24) (Eq.trans (bnd_of hr39) (Eq.trans (bnd_of hr55) (Eq.trans (if_pos h63) (Eq.trans (bnd_of hr71) (Eq.trans (bnd_of hr90) (Eq.trans (bnd_of hr104) (Eq.trans (if_pos h108) (Eq.trans (bnd_of hr120) (if_pos h124)))))))))
  obtain ⟨rfl, rfl⟩ := pj2 (e.symm.trans hr)
  exact ⟨A75, c76, none, 0, none, 0, none, 0, [], rfl, H143, rfl⟩
  refine Wp.cond1 rfl (decide_eq_true h124) (Wp.seq (Wp.region (Kn (v := .agg #[.bool false, .slice none 0 0, .slice none 0 0, .slice none 0 0, .slice none 0 0]) rfl rfl rfl (fun _ => by kernel_rfl) (Mv rfl rfl ?_))))
  have H144 : Own w D w121 [blk g21 [.bool false, .slice none 0 0, .slice none 0 0, .slice none 0 0, .slice none 0 0] 27, blk g109 [.slice A75 (List.length r69) c76] 60, blk g43 [.slice A94 (List.length r89.xrest.ls) c95, .int .i64 r89.xerrno] 84, row A75 (List.length r69) c76 (List.flatMap PairD.cells r69) 40 2] := H123.pick [3, 0, 1, 2] (by decide) rfl
  refine WL.do0 (Do.store (vs := [.bool false, .slice none 0 0, .slice none 0 0, .slice none 0 0, .slice none 0 0]) (o := 0) H144 rfl rfl Try.sizeOf27 rfl rfl rfl rfl ?_)
  intro w145 H146
  replace H146 : Own w D w145 [blk g21 [.bool false, .slice none 0 0, .slice none 0 0, .slice none 0 0, .slice none 0 0] 27, blk g109 [.slice A75 (List.length r69) c76] 60, blk g43 [.slice A94 (List.length r89.xrest.ls) c95, .int .i64 r89.xerrno] 84, row A75 (List.length r69) c76 (List.flatMap PairD.cells r69) 40 2] := H146
  refine As rfl rfl (WL.nil (Fin.then (Wp.ret (Fin.thenR (Fin.res (resN (vs := [.agg #[.bool false, .slice none 0 0, .slice none 0 0, .slice none 0 0, .slice none 0 0], .int .i64 r119]) rfl (ResV.cell rfl (Lds.agg (cs := [.bool false, .slice none 0 0, .slice none 0 0, .slice none 0 0, .slice none 0 0]) Try.isAgg27 Try.sizeOf27 ((H146.cls (i := 0) rfl).lit (k := 0) (m := 5) rfl)) (ResV.tmp rfl ResV.nil)) (Nat.le_of_ble_eq_true rfl)) ?_)))))
  have H147 : Own w D w145 [row none 0 0 (List.flatMap PairD.cells ([])) 40 2, blk g21 [.bool false, .slice none 0 0, .slice none 0 0, .slice none 0 0, .slice none 0 0] 27, blk g109 [.slice A75 (List.length r69) c76] 60, blk g43 [.slice A94 (List.length r89.xrest.ls) c95, .int .i64 r89.xerrno] 84, row A75 (List.length r69) c76 (List.flatMap PairD.cells r69) 40 2] := H146.free (row_nil 40 2)
  have H148 : Own w D w145 [row none 0 0 (List.flatMap (eI .i64) ([])) 3 1, row none 0 0 (List.flatMap PairD.cells ([])) 40 2, blk g21 [.bool false, .slice none 0 0, .slice none 0 0, .slice none 0 0, .slice none 0 0] 27, blk g109 [.slice A75 (List.length r69) c76] 60, blk g43 [.slice A94 (List.length r89.xrest.ls) c95, .int .i64 r89.xerrno] 84, row A75 (List.length r69) c76 (List.flatMap PairD.cells r69) 40 2] := H147.free (row_nil 3 1)
  have H149 : Own w D w145 [row none 0 0 (List.flatMap eS ([])) 9 1, row none 0 0 (List.flatMap (eI .i64) ([])) 3 1, row none 0 0 (List.flatMap PairD.cells ([])) 40 2, blk g21 [.bool false, .slice none 0 0, .slice none 0 0, .slice none 0 0, .slice none 0 0] 27, blk g109 [.slice A75 (List.length r69) c76] 60, blk g43 [.slice A94 (List.length r89.xrest.ls) c95, .int .i64 r89.xerrno] 84, row A75 (List.length r69) c76 (List.flatMap PairD.cells r69) 40 2] := H148.free (row_nil 9 1)
  have H150 : Own w D w145 [sepL (List.flatMap Row44D.own ([])), row none 0 0 (List.flatMap eS ([])) 9 1, row none 0 0 (List.flatMap (eI .i64) ([])) 3 1, row none 0 0 (List.flatMap PairD.cells ([])) 40 2, blk g21 [.bool false, .slice none 0 0, .slice none 0 0, .slice none 0 0, .slice none 0 0] 27, blk g109 [.slice A75 (List.length r69) c76] 60, blk g43 [.slice A94 (List.length r89.xrest.ls) c95, .int .i64 r89.xerrno] 84, row A75 (List.length r69) c76 (List.flatMap PairD.cells r69) 40 2] := H149.sepNil
  have H151 : Own w D w145 [row none 0 0 (List.flatMap (Sv.enc (β := EntryD)) ([])) 44 1, sepL (List.flatMap Row44D.own ([])), row none 0 0 (List.flatMap eS ([])) 9 1, row none 0 0 (List.flatMap (eI .i64) ([])) 3 1, row none 0 0 (List.flatMap PairD.cells ([])) 40 2, blk g21 [.bool false, .slice none 0 0, .slice none 0 0, .slice none 0 0, .slice none 0 0] 27, blk g109 [.slice A75 (List.length r69) c76] 60, blk g43 [.slice A94 (List.length r89.xrest.ls) c95, .int .i64 r89.xerrno] 84, row A75 (List.length r69) c76 (List.flatMap PairD.cells r69) 40 2] := H150.free (row_nil 44 1)
  have H152 : Own w D w145 [row none 0 0 (List.flatMap PairD.cells ([])) 40 2, row none 0 0 (List.flatMap (eI .i64) ([])) 3 1, row none 0 0 (List.flatMap eS ([])) 9 1, row none 0 0 (List.flatMap (Sv.enc (β := EntryD)) ([])) 44 1, sepL (List.flatMap Row44D.own ([]))] := H151.pick [4, 3, 2, 0, 1] (by decide) rfl
  have e : node_Decode l0 = (NodeT.mk false (Ll.mk ([])) (Ll.mk ([])) (Ll.mk ([])) (Ll.mk ([])), r119) := Eq.trans (if_neg h24) (Eq.trans (bnd_of hr39) (Eq.trans (bnd_of hr55) (Eq.trans (if_pos h63) (Eq.trans (bnd_of hr71) (Eq.trans (bnd_of hr90) (Eq.trans (bnd_of hr104) (Eq.trans (if_pos h108) (Eq.trans (bnd_of hr120) (if_neg h124)))))))))
  obtain ⟨rfl, rfl⟩ := pj2 (e.symm.trans hr)
  exact ⟨none, 0, none, 0, none, 0, none, 0, [], rfl, H152, rfl⟩
  refine Wp.cond1 rfl (decide_eq_true h108) (Wp.seq (Wp.region (Kn (v := .agg #[.bool false, .slice none 0 0, .slice none 0 0, .slice none 0 0, .slice none 0 0]) rfl rfl rfl (fun _ => by kernel_rfl) (Mv rfl rfl ?_))))
  have H153 : Own w D w105 [blk g21 [.bool false, .slice none 0 0, .slice none 0 0, .slice none 0 0, .slice none 0 0] 27, blk g43 [.slice A94 (List.length r89.xrest.ls) c95, .int .i64 r89.xerrno] 84, row A75 (List.length r69) c76 (List.flatMap PairD.cells r69) 40 2] := H107.pick [2, 0, 1] (by decide) rfl
  refine WL.do0 (Do.store (vs := [.bool false, .slice none 0 0, .slice none 0 0, .slice none 0 0, .slice none 0 0]) (o := 0) H153 rfl rfl Try.sizeOf27 rfl rfl rfl rfl ?_)
  intro w154 H155
  replace H155 : Own w D w154 [blk g21 [.bool false, .slice none 0 0, .slice none 0 0, .slice none 0 0, .slice none 0 0] 27, blk g43 [.slice A94 (List.length r89.xrest.ls) c95, .int .i64 r89.xerrno] 84, row A75 (List.length r69) c76 (List.flatMap PairD.cells r69) 40 2] := H155
  refine As rfl rfl (WL.nil (Fin.then (Wp.ret (Fin.thenR (Fin.res (resN (vs := [.agg #[.bool false, .slice none 0 0, .slice none 0 0, .slice none 0 0, .slice none 0 0], .int .i64 r103]) rfl (ResV.cell rfl (Lds.agg (cs := [.bool false, .slice none 0 0, .slice none 0 0, .slice none 0 0, .slice none 0 0]) Try.isAgg27 Try.sizeOf27 ((H155.cls (i := 0) rfl).lit (k := 0) (m := 5) rfl)) (ResV.tmp rfl ResV.nil)) (Nat.le_of_ble_eq_true rfl)) ?_)))))
  have H156 : Own w D w154 [row none 0 0 (List.flatMap PairD.cells ([])) 40 2, blk g21 [.bool false, .slice none 0 0, .slice none 0 0, .slice none 0 0, .slice none 0 0] 27, blk g43 [.slice A94 (List.length r89.xrest.ls) c95, .int .i64 r89.xerrno] 84, row A75 (List.length r69) c76 (List.flatMap PairD.cells r69) 40 2] := H155.free (row_nil 40 2)
  have H157 : Own w D w154 [row none 0 0 (List.flatMap (eI .i64) ([])) 3 1, row none 0 0 (List.flatMap PairD.cells ([])) 40 2, blk g21 [.bool false, .slice none 0 0, .slice none 0 0, .slice none 0 0, .slice none 0 0] 27, blk g43 [.slice A94 (List.length r89.xrest.ls) c95, .int .i64 r89.xerrno] 84, row A75 (List.length r69) c76 (List.flatMap PairD.cells r69) 40 2] := H156.free (row_nil 3 1)
  have H158 : Own w D w154 [row none 0 0 (List.flatMap eS ([])) 9 1, row none 0 0 (List.flatMap (eI .i64) ([])) 3 1, row none 0 0 (List.flatMap PairD.cells ([])) 40 2, blk g21 [.bool false, .slice none 0 0, .slice none 0 0, .slice none 0 0, .slice none 0 0] 27, blk g43 [.slice A94 (List.length r89.xrest.ls) c95, .int .i64 r89.xerrno] 84, row A75 (List.length r69) c76 (List.flatMap PairD.cells r69) 40 2] := H157.free (row_nil 9 1)
  have H159 : Own w D w154 [sepL (List.flatMap Row44D.own ([])), row none 0 0 (List.flatMap eS ([])) 9 1, row none 0 0 (List.flatMap (eI .i64) ([])) 3 1, row none 0 0 (List.flatMap PairD.cells ([])) 40 2, blk g21 [.bool false, .slice none 0 0, .slice none 0 0, .slice none 0 0, .slice none 0 0] 27, blk g43 [.slice A94 (List.length r89.xrest.ls) c95, .int .i64 r89.xerrno] 84, row A75 (List.length r69) c76 (List.flatMap PairD.cells r69) 40 2] := H158.sepNil
  have H160 : Own w D w154 [row none 0 0 (List.flatMap (Sv.enc (β := EntryD)) ([])) 44 1, sepL (List.flatMap Row44D.own ([])), row none 0 0 (List.flatMap eS ([])) 9 1, row none 0 0 (List.flatMap (eI .i64) ([])) 3 1, row none 0 0 (List.flatMap PairD.cells ([])) 40 2, blk g21 [.bool false, .slice none 0 0, .slice none 0 0, .slice none 0 0, .slice none 0 0] 27, blk g43 [.slice A94 (List.length r89.xrest.ls) c95, .int .i64 r89.xerrno] 84, row A75 (List.length r69) c76 (List.flatMap PairD.cells r69) 40 2] := H159.free (row_nil 44 1)
  have H161 : Own w D w154 [row none 0 0 (List.flatMap PairD.cells ([])) 40 2, row none 0 0 (List.flatMap (eI .i64) ([])) 3 1, row none 0 0 (List.flatMap eS ([])) 9 1, row none 0 0 (List.flatMap (Sv.enc (β := EntryD)) ([])) 44 1, sepL (List.flatMap Row44D.own ([]))] := H160.pick [4, 3, 2, 0, 1] (by decide) rfl
  have e : node_Decode l0 = (NodeT.mk false (Ll.mk ([])) (Ll.mk ([])) (Ll.mk ([])) (Ll.mk ([])), r103) := Eq.trans (if_neg h24) (Eq.trans (bnd_of hr39) (Eq.trans (bnd_of hr55) (Eq.trans (if_pos h63) (Eq.trans (bnd_of hr71) (Eq.trans (bnd_of hr90) (Eq.trans (bnd_of hr104) (if_neg h108)))))))
  obtain ⟨rfl, rfl⟩ := pj2 (e.symm.trans hr)
  exact ⟨none, 0, none, 0, none, 0, none, 0, [], rfl, H161, rfl⟩
  refine Wp.cond0 rfl (decide_eq_false h63) (Wp.seq (Wp.region (Kn (v := .bool (decide (((r53.toNat : Nat) : Int) = 2))) rfl rfl rfl (fun _ => by kernel_rfl) (As rfl rfl (WL.nil (Fin.then ?_))))))
  by_cases h162 : ((r53.toNat : Nat) : Int) = 2
  refine Wp.cond1 rfl (decide_eq_true h162) (Wp.region (Mv rfl rfl ?_))
  obtain ⟨⟨r168, r169⟩, hr170⟩ : ∃ q : stemT × ReaderT, node_readStem r54 = q := ⟨_, rfl⟩
  obtain ⟨D163, HP164, ro165, bk166, rr167⟩ := Own.enter1 H58
  refine WL.do rfl (Do.call Try.call28 rfl (node_readStem_ok _ _ g43 r54 A59 c60 r168 r169 HP164 (fun w9 h9 => SubS.rds eB_len (by decide) hs61 ((fun w9 h9 => SubS.rds eB_len (by decide) hs46 ((ro165 _ hx0) w9 h9)) w9 h9)) (show List.length r54.xrest.ls ≤ c60 ∧ List.length r54.xrest.ls ≤ 9223372036854775807 from by omega) hr170) ?_)
  rintro _ w171 ⟨A174, c175, A176, c177, A178, c179, d180, A182, c183, rfl, HQ172, hd181, hs184⟩
  have H173 : Own w D w171 [row A174 (List.length r168.xkids.ls) c175 (List.flatMap (eI .i64) r168.xkids.ls) 3 1, row A176 (List.length r168.xpivots.ls) c177 (List.flatMap eS r168.xpivots.ls) 9 1, row A178 (List.length r168.xbuffers.ls) c179 (List.flatMap (Sv.enc (β := EntryD)) d180) 44 1, sepL (List.flatMap Row44D.own d180), blk g43 [.slice A182 (List.length r169.xrest.ls) c183, .int .i64 r169.xerrno] 84, blk g21 [.bool false, .slice none 0 0, .slice none 0 0, .slice none 0 0, .slice none 0 0] 27] := bk166 _ _ HQ172
  replace hs184 : SubS 1 A59 c60 r54.xrest.ls A182 c183 r169.xrest.ls := hs184
  have hz185 := (hs184).le
  have hl186 := abs_len hd181
  have hb187 := H173.rowC (i := 0) rfl
  have hb188 := H173.rowC (i := 1) rfl
  have hb189 := H173.rowC (i := 2) rfl
  refine Kn (v := .iface 63 (.agg #[.slice A174 (List.length r168.xkids.ls) c175, .slice A176 (List.length r168.xpivots.ls) c177, .slice A178 (List.length r168.xbuffers.ls) c179])) rfl rfl rfl (fun _ => by kernel_rfl) (As rfl rfl (WL.nil (Fin.blockN (Fin.then (Wp.seq (Wp.region (Mv rfl rfl ?_)))))))
  have H190 : Own w D w171 [blk g43 [.slice A182 (List.length r169.xrest.ls) c183, .int .i64 r169.xerrno] 84, row A174 (List.length r168.xkids.ls) c175 (List.flatMap (eI .i64) r168.xkids.ls) 3 1, row A176 (List.length r168.xpivots.ls) c177 (List.flatMap eS r168.xpivots.ls) 9 1, row A178 (List.length r168.xbuffers.ls) c179 (List.flatMap (Sv.enc (β := EntryD)) d180) 44 1, sepL (List.flatMap Row44D.own d180), blk g21 [.bool false, .slice none 0 0, .slice none 0 0, .slice none 0 0, .slice none 0 0] 27] := H173.pick [4, 0, 1, 2, 3, 5] (by decide) rfl
  obtain ⟨r196, hr197⟩ : ∃ q, reader_Reader_End r169 = q := ⟨_, rfl⟩
  obtain ⟨D191, HP192, ro193, bk194, rr195⟩ := Own.enter1 H190
  refine WL.do rfl (Do.call Try.call30 rfl (reader_Reader_End_ok _ _ g43 r169 A182 c183 r196 HP192 (fun w9 h9 => SubS.rds eB_len (by decide) hs184 ((fun w9 h9 => SubS.rds eB_len (by decide) hs61 ((fun w9 h9 => SubS.rds eB_len (by decide) hs46 ((ro193 _ hx0) w9 h9)) w9 h9)) w9 h9)) (show List.length r169.xrest.ls ≤ c183 ∧ List.length r169.xrest.ls ≤ 9223372036854775807 from by omega) hr197) ?_)
  rintro _ w198 ⟨A201, c202, rfl, HQ199, hs203⟩
  have H200 : Own w D w198 [blk g43 [.slice A201 (List.length r196.xrest.ls) c202, .int .i64 r196.xerrno] 84, row A174 (List.length r168.xkids.ls) c175 (List.flatMap (eI .i64) r168.xkids.ls) 3 1, row A176 (List.length r168.xpivots.ls) c177 (List.flatMap eS r168.xpivots.ls) 9 1, row A178 (List.length r168.xbuffers.ls) c179 (List.flatMap (Sv.enc (β := EntryD)) d180) 44 1, sepL (List.flatMap Row44D.own d180), blk g21 [.bool false, .slice none 0 0, .slice none 0 0, .slice none 0 0, .slice none 0 0] 27] := bk194 _ _ HQ199
  replace hs203 : SubS 1 A182 c183 r169.xrest.ls A201 c202 r196.xrest.ls := hs203
  have hz204 := (hs203).le
  refine WL.nil (Fin.then (Wp.seq (Wp.region (Mv rfl rfl (Mv rfl rfl ?_)))))
  obtain ⟨r210, hr211⟩ : ∃ q, reader_Reader_Err r196 = q := ⟨_, rfl⟩
  obtain ⟨D205, HP206, ro207, bk208, rr209⟩ := Own.enter1 H200
  refine WL.do rfl (Do.call Try.call31 rfl (reader_Reader_Err_ok _ _ g43 r196 A201 c202 r210 HP206 (fun w9 h9 => SubS.rds eB_len (by decide) hs203 ((fun w9 h9 => SubS.rds eB_len (by decide) hs184 ((fun w9 h9 => SubS.rds eB_len (by decide) hs61 ((fun w9 h9 => SubS.rds eB_len (by decide) hs46 ((ro207 _ hx0) w9 h9)) w9 h9)) w9 h9)) w9 h9)) (show List.length r196.xrest.ls ≤ c202 ∧ List.length r196.xrest.ls ≤ 9223372036854775807 from by omega) hr211) ?_)
  rintro _ w212 ⟨rfl, HQ213⟩
  have H214 : Own w D w212 [blk g43 [.slice A201 (List.length r196.xrest.ls) c202, .int .i64 r196.xerrno] 84, row A174 (List.length r168.xkids.ls) c175 (List.flatMap (eI .i64) r168.xkids.ls) 3 1, row A176 (List.length r168.xpivots.ls) c177 (List.flatMap eS r168.xpivots.ls) 9 1, row A178 (List.length r168.xbuffers.ls) c179 (List.flatMap (Sv.enc (β := EntryD)) d180) 44 1, sepL (List.flatMap Row44D.own d180), blk g21 [.bool false, .slice none 0 0, .slice none 0 0, .slice none 0 0, .slice none 0 0] 27] := bk208 _ _ HQ213
  refine As rfl rfl (As rfl rfl (WL.nil (Fin.then (Wp.ret (Fin.res (res2 rfl rfl rfl) (Mv rfl rfl (Kn (v := .iface 63 (.agg #[.slice A174 (List.length r168.xkids.ls) c175, .slice A176 (List.length r168.xpivots.ls) c177, .slice A178 (List.length r168.xbuffers.ls) c179])) rfl rfl rfl (fun _ => by kernel_rfl) (Kn (v := .int .i64 r210) rfl rfl rfl (fun _ => by kernel_rfl) (As rfl rfl (As rfl rfl (WL.nil (Fin.then (Wp.seq (Wp.seq (Wp.region (Mv rfl rfl (WL.val (v := .bool (decide (¬ (r210 = 0)))) rfl (Yl.bool (e := !(decide (r210 = 0))) (Yl.kern rfl rfl (fun _ => by kernel_rfl)) decide_not.symm) (WL.nil (Fin.then ?_)))))))))))))))))))
  by_cases h215 : r210 = 0
  refine Wp.cond0 rfl (decide_eq_false (not_not_intro h215)) (Wp.skip (Fin.then (Wp.seq (Wp.seq (Wp.region (Mv rfl rfl ?_))))))
  refine WL.do rfl (Do.call Try.call13 rfl ?_ (fun _ _ k => k))
  refine Calls.body (args := [.iface 63 (.agg #[.slice A174 (List.length r168.xkids.ls) c175, .slice A176 (List.length r168.xpivots.ls) c177, .slice A178 (List.length r168.xbuffers.ls) c179])]) Try.func13 rfl rfl rfl ?_
  show Wp _ _ _ [(0, .iface 63 (.agg #[.slice A174 (List.length r168.xkids.ls) c175, .slice A176 (List.length r168.xpivots.ls) c177, .slice A178 (List.length r168.xbuffers.ls) c179]))] _ _
  refine Wp.seq (Wp.region (As rfl rfl (WL.nil (Fin.then (Wp.seq (Wp.seq (Wp.region (Mv rfl rfl (WL.nil (Fin.then (Wp.block (Wp.seq (Wp.region (Kn (v := .tuple #[.agg #[.slice none 0 0], .bool false]) rfl rfl rfl (fun _ => by kernel_rfl) (Kn (v := .bool false) rfl rfl rfl (fun _ => by kernel_rfl) (Kn (v := .agg #[.slice none 0 0]) rfl rfl rfl (fun _ => by kernel_rfl) (WL.nil (Fin.then (Wp.cond0 rfl rfl (Wp.seq (Wp.region (Kn (v := .tuple #[.agg #[.slice A174 (List.length r168.xkids.ls) c175, .slice A176 (List.length r168.xpivots.ls) c177, .slice A178 (List.length r168.xbuffers.ls) c179], .bool true]) rfl rfl rfl (fun _ => by kernel_rfl) (Kn (v := .bool true) rfl rfl rfl (fun _ => by kernel_rfl) (Kn (v := .agg #[.slice A174 (List.length r168.xkids.ls) c175, .slice A176 (List.length r168.xpivots.ls) c177, .slice A178 (List.length r168.xbuffers.ls) c179]) rfl rfl rfl (fun _ => by kernel_rfl) (WL.nil (Fin.then (Wp.cond1 rfl rfl (Wp.seq (Wp.region ?_)))))))))))))))))))))))))))))
  refine WL.do rfl (Do.newP (cs := [.slice none 0 0, .slice none 0 0, .slice none 0 0]) (t := 63) H214 rfl rfl (fun _ => by kernel_rfl) ?_)
  intro g216 w217 H218
  replace H218 : Own w D w217 [blk g216 [.slice none 0 0, .slice none 0 0, .slice none 0 0] 63, blk g43 [.slice A201 (List.length r196.xrest.ls) c202, .int .i64 r196.xerrno] 84, row A174 (List.length r168.xkids.ls) c175 (List.flatMap (eI .i64) r168.xkids.ls) 3 1, row A176 (List.length r168.xpivots.ls) c177 (List.flatMap eS r168.xpivots.ls) 9 1, row A178 (List.length r168.xbuffers.ls) c179 (List.flatMap (Sv.enc (β := EntryD)) d180) 44 1, sepL (List.flatMap Row44D.own d180), blk g21 [.bool false, .slice none 0 0, .slice none 0 0, .slice none 0 0, .slice none 0 0] 27] := H218
  refine WL.do0 (Do.store (vs := [.slice A174 (List.length r168.xkids.ls) c175, .slice A176 (List.length r168.xpivots.ls) c177, .slice A178 (List.length r168.xbuffers.ls) c179]) (o := 0) H218 rfl rfl Try.sizeOf63 rfl rfl rfl rfl ?_)
  intro w219 H220
  replace H220 : Own w D w219 [blk g216 [.slice A174 (List.length r168.xkids.ls) c175, .slice A176 (List.length r168.xpivots.ls) c177, .slice A178 (List.length r168.xbuffers.ls) c179] 63, blk g43 [.slice A201 (List.length r196.xrest.ls) c202, .int .i64 r196.xerrno] 84, row A174 (List.length r168.xkids.ls) c175 (List.flatMap (eI .i64) r168.xkids.ls) 3 1, row A176 (List.length r168.xpivots.ls) c177 (List.flatMap eS r168.xpivots.ls) 9 1, row A178 (List.length r168.xbuffers.ls) c179 (List.flatMap (Sv.enc (β := EntryD)) d180) 44 1, sepL (List.flatMap Row44D.own d180), blk g21 [.bool false, .slice none 0 0, .slice none 0 0, .slice none 0 0, .slice none 0 0] 27] := H220
  refine WL.nil (Fin.then (Wp.seq (Wp.region (WL.val (v := .agg #[.slice A174 (List.length r168.xkids.ls) c175, .slice A176 (List.length r168.xpivots.ls) c177, .slice A178 (List.length r168.xbuffers.ls) c179]) rfl (Yl.load rfl (Lds.agg (cs := [.slice A174 (List.length r168.xkids.ls) c175, .slice A176 (List.length r168.xpivots.ls) c177, .slice A178 (List.length r168.xbuffers.ls) c179]) Try.isAgg63 Try.sizeOf63 ((H220.cls (i := 0) rfl).lit (k := 0) (m := 3) rfl))) ?_))))
  obtain ⟨r226, hr227⟩ : ∃ q, node_stem_check r168 = q := ⟨_, rfl⟩
  obtain ⟨D221, HP222, ro223, bk224, rr225⟩ := Own.enter0 H220
  refine WL.do rfl (Do.call Try.call21 rfl (node_stem_check_ok _ _ r168 A174 (List.length r168.xkids.ls) c175 A176 (List.length r168.xpivots.ls) c177 A178 (List.length r168.xbuffers.ls) c179 d180 r226 HP222 rfl (rr225 _ 2 _ rfl row_rds) (by first | exact ⟨Nat.le_of_ble_eq_true rfl, Nat.le_of_ble_eq_true rfl⟩ | omega | exact ⟨Nat.le_refl _, by omega⟩) rfl (rr225 _ 3 _ rfl row_rds) (by first | exact ⟨Nat.le_of_ble_eq_true rfl, Nat.le_of_ble_eq_true rfl⟩ | omega | exact ⟨Nat.le_refl _, by omega⟩) hd181 rfl (rr225 _ 4 _ rfl row_rds) (by first | exact ⟨Nat.le_of_ble_eq_true rfl, Nat.le_of_ble_eq_true rfl⟩ | omega | exact ⟨Nat.le_refl _, by omega⟩) (fun x9 h9 => ⟨rr225 _ 5 _ rfl (sepL_mem (List.mem_flatMap.2 ⟨x9, h9, .head _⟩) row_rds), own_rd (φ := fun _ => _) H220 (i := 5) rfl (sepL_mem (List.mem_flatMap.2 ⟨x9, h9, .head _⟩) row_le)⟩) hr227) ?_)
  rintro _ w228 ⟨rfl, HQ229, hk231⟩
  have H230 : Own w D w228 [blk g216 [.slice A174 (List.length r168.xkids.ls) c175, .slice A176 (List.length r168.xpivots.ls) c177, .slice A178 (List.length r168.xbuffers.ls) c179] 63, blk g43 [.slice A201 (List.length r196.xrest.ls) c202, .int .i64 r196.xerrno] 84, row A174 (List.length r168.xkids.ls) c175 (List.flatMap (eI .i64) r168.xkids.ls) 3 1, row A176 (List.length r168.xpivots.ls) c177 (List.flatMap eS r168.xpivots.ls) 9 1, row A178 (List.length r168.xbuffers.ls) c179 (List.flatMap (Sv.enc (β := EntryD)) d180) 44 1, sepL (List.flatMap Row44D.own d180), blk g21 [.bool false, .slice none 0 0, .slice none 0 0, .slice none 0 0, .slice none 0 0] 27] := bk224 _ _ HQ229
  replace hk231 : ¬ (r226 = 0) ∨ (List.length r168.xkids.ls ≤ 8 ∧ List.length r168.xpivots.ls ≤ 8 ∧ List.length r168.xbuffers.ls ≤ 8) := hk231
  refine As rfl rfl (WL.nil (Fin.then (Wp.ret (Fin.blockR (Fin.thenR (Fin.res (res1 rfl rfl) (As rfl rfl (WL.nil (Fin.then (Wp.seq (Wp.region (Mv rfl rfl (WL.val (v := .bool (decide (¬ (r226 = 0)))) rfl (Yl.bool (e := !(decide (r226 = 0))) (Yl.kern rfl rfl (fun _ => by kernel_rfl)) decide_not.symm) (WL.nil (Fin.then ?_)))))))))))))))
  by_cases h232 : r226 = 0
  refine Wp.cond0 rfl (decide_eq_false (not_not_intro h232)) (Wp.skip (Fin.then (Wp.seq (Wp.region (Mv rfl rfl ?_)))))
  refine WL.do rfl (Do.call Try.call17 rfl ?_ (fun _ _ k => k))
  refine Calls.body (args := [.iface 63 (.agg #[.slice A174 (List.length r168.xkids.ls) c175, .slice A176 (List.length r168.xpivots.ls) c177, .slice A178 (List.length r168.xbuffers.ls) c179])]) Try.func17 rfl rfl rfl ?_
  show Wp _ _ _ [(0, .iface 63 (.agg #[.slice A174 (List.length r168.xkids.ls) c175, .slice A176 (List.length r168.xpivots.ls) c177, .slice A178 (List.length r168.xbuffers.ls) c179]))] _ _
  refine Wp.seq (Wp.region ?_)
  refine WL.do rfl (Do.newP (cs := [.bool false, .slice none 0 0, .slice none 0 0, .slice none 0 0, .slice none 0 0]) (t := 27) H230 rfl rfl (fun _ => by kernel_rfl) ?_)
  intro g233 w234 H235
  replace H235 : Own w D w234 [blk g233 [.bool false, .slice none 0 0, .slice none 0 0, .slice none 0 0, .slice none 0 0] 27, blk g216 [.slice A174 (List.length r168.xkids.ls) c175, .slice A176 (List.length r168.xpivots.ls) c177, .slice A178 (List.length r168.xbuffers.ls) c179] 63, blk g43 [.slice A201 (List.length r196.xrest.ls) c202, .int .i64 r196.xerrno] 84, row A174 (List.length r168.xkids.ls) c175 (List.flatMap (eI .i64) r168.xkids.ls) 3 1, row A176 (List.length r168.xpivots.ls) c177 (List.flatMap eS r168.xpivots.ls) 9 1, row A178 (List.length r168.xbuffers.ls) c179 (List.flatMap (Sv.enc (β := EntryD)) d180) 44 1, sepL (List.flatMap Row44D.own d180), blk g21 [.bool false, .slice none 0 0, .slice none 0 0, .slice none 0 0, .slice none 0 0] 27] := H235
  refine WL.nil (Fin.then (Wp.seq (Wp.seq (Wp.region (Mv rfl rfl (WL.nil (Fin.then (Wp.block (Wp.seq (Wp.region (Kn (v := .tuple #[.agg #[.slice none 0 0], .bool false]) rfl rfl rfl (fun _ => by kernel_rfl) (Kn (v := .bool false) rfl rfl rfl (fun _ => by kernel_rfl) (Kn (v := .agg #[.slice none 0 0]) rfl rfl rfl (fun _ => by kernel_rfl) (WL.nil (Fin.then (Wp.cond0 rfl rfl (Wp.seq (Wp.region (Kn (v := .tuple #[.agg #[.slice A174 (List.length r168.xkids.ls) c175, .slice A176 (List.length r168.xpivots.ls) c177, .slice A178 (List.length r168.xbuffers.ls) c179], .bool true]) rfl rfl rfl (fun _ => by kernel_rfl) (Kn (v := .bool true) rfl rfl rfl (fun _ => by kernel_rfl) (Kn (v := .agg #[.slice A174 (List.length r168.xkids.ls) c175, .slice A176 (List.length r168.xpivots.ls) c177, .slice A178 (List.length r168.xbuffers.ls) c179]) rfl rfl rfl (fun _ => by kernel_rfl) (WL.nil (Fin.then (Wp.cond1 rfl rfl (Wp.seq (Wp.region ?_))))))))))))))))))))))))))
  refine WL.do rfl (Do.newP (cs := [.slice none 0 0, .slice none 0 0, .slice none 0 0]) (t := 63) H235 rfl rfl (fun _ => by kernel_rfl) ?_)
  intro g236 w237 H238
  replace H238 : Own w D w237 [blk g236 [.slice none 0 0, .slice none 0 0, .slice none 0 0] 63, blk g233 [.bool false, .slice none 0 0, .slice none 0 0, .slice none 0 0, .slice none 0 0] 27, blk g216 [.slice A174 (List.length r168.xkids.ls) c175, .slice A176 (List.length r168.xpivots.ls) c177, .slice A178 (List.length r168.xbuffers.ls) c179] 63, blk g43 [.slice A201 (List.length r196.xrest.ls) c202, .int .i64 r196.xerrno] 84, row A174 (List.length r168.xkids.ls) c175 (List.flatMap (eI .i64) r168.xkids.ls) 3 1, row A176 (List.length r168.xpivots.ls) c177 (List.flatMap eS r168.xpivots.ls) 9 1, row A178 (List.length r168.xbuffers.ls) c179 (List.flatMap (Sv.enc (β := EntryD)) d180) 44 1, sepL (List.flatMap Row44D.own d180), blk g21 [.bool false, .slice none 0 0, .slice none 0 0, .slice none 0 0, .slice none 0 0] 27] := H238
  refine WL.do0 (Do.store (vs := [.slice A174 (List.length r168.xkids.ls) c175, .slice A176 (List.length r168.xpivots.ls) c177, .slice A178 (List.length r168.xbuffers.ls) c179]) (o := 0) H238 rfl rfl Try.sizeOf63 rfl rfl rfl rfl ?_)
  intro w239 H240
  replace H240 : Own w D w239 [blk g236 [.slice A174 (List.length r168.xkids.ls) c175, .slice A176 (List.length r168.xpivots.ls) c177, .slice A178 (List.length r168.xbuffers.ls) c179] 63, blk g233 [.bool false, .slice none 0 0, .slice none 0 0, .slice none 0 0, .slice none 0 0] 27, blk g216 [.slice A174 (List.length r168.xkids.ls) c175, .slice A176 (List.length r168.xpivots.ls) c177, .slice A178 (List.length r168.xbuffers.ls) c179] 63, blk g43 [.slice A201 (List.length r196.xrest.ls) c202, .int .i64 r196.xerrno] 84, row A174 (List.length r168.xkids.ls) c175 (List.flatMap (eI .i64) r168.xkids.ls) 3 1, row A176 (List.length r168.xpivots.ls) c177 (List.flatMap eS r168.xpivots.ls) 9 1, row A178 (List.length r168.xbuffers.ls) c179 (List.flatMap (Sv.enc (β := EntryD)) d180) 44 1, sepL (List.flatMap Row44D.own d180), blk g21 [.bool false, .slice none 0 0, .slice none 0 0, .slice none 0 0, .slice none 0 0] 27] := H240
  refine WL.nil (Fin.then (Wp.seq (Wp.region (Kn (v := .pointer (some ⟨g236, 0, none⟩)) rfl rfl rfl (fun _ => by kernel_rfl) (WL.val (v := .slice A174 (List.length r168.xkids.ls) c175) rfl (Yl.load rfl (Lds.one Try.isAgg23 (Cls.of (H240.cls (i := 0) rfl) rfl))) (Kn (v := .pointer (some ⟨g236, 1, none⟩)) rfl rfl rfl (fun _ => by kernel_rfl) (WL.val (v := .slice A176 (List.length r168.xpivots.ls) c177) rfl (Yl.load rfl (Lds.one Try.isAgg24 (Cls.of (H240.cls (i := 0) rfl) rfl))) (Kn (v := .pointer (some ⟨g236, 2, none⟩)) rfl rfl rfl (fun _ => by kernel_rfl) (WL.val (v := .slice A178 (List.length r168.xbuffers.ls) c179) rfl (Yl.load rfl (Lds.one Try.isAgg25 (Cls.of (H240.cls (i := 0) rfl) rfl))) (Kn (v := .agg #[.bool false, .slice none 0 0, .slice A174 (List.length r168.xkids.ls) c175, .slice A176 (List.length r168.xpivots.ls) c177, .slice A178 (List.length r168.xbuffers.ls) c179]) rfl rfl rfl (fun _ => by kernel_rfl) ?_))))))))))
  have H241 : Own w D w239 [blk g233 [.bool false, .slice none 0 0, .slice none 0 0, .slice none 0 0, .slice none 0 0] 27, blk g236 [.slice A174 (List.length r168.xkids.ls) c175, .slice A176 (List.length r168.xpivots.ls) c177, .slice A178 (List.length r168.xbuffers.ls) c179] 63, blk g216 [.slice A174 (List.length r168.xkids.ls) c175, .slice A176 (List.length r168.xpivots.ls) c177, .slice A178 (List.length r168.xbuffers.ls) c179] 63, blk g43 [.slice A201 (List.length r196.xrest.ls) c202, .int .i64 r196.xerrno] 84, row A174 (List.length r168.xkids.ls) c175 (List.flatMap (eI .i64) r168.xkids.ls) 3 1, row A176 (List.length r168.xpivots.ls) c177 (List.flatMap eS r168.xpivots.ls) 9 1, row A178 (List.length r168.xbuffers.ls) c179 (List.flatMap (Sv.enc (β := EntryD)) d180) 44 1, sepL (List.flatMap Row44D.own d180), blk g21 [.bool false, .slice none 0 0, .slice none 0 0, .slice none 0 0, .slice none 0 0] 27] := H240.pick [1, 0, 2, 3, 4, 5, 6, 7, 8] (by decide) rfl
  refine WL.do0 (Do.store (vs := [.bool false, .slice none 0 0, .slice A174 (List.length r168.xkids.ls) c175, .slice A176 (List.length r168.xpivots.ls) c177, .slice A178 (List.length r168.xbuffers.ls) c179]) (o := 0) H241 rfl rfl Try.sizeOf27 rfl rfl rfl rfl ?_)
  intro w242 H243
  replace H243 : Own w D w242 [blk g233 [.bool false, .slice none 0 0, .slice A174 (List.length r168.xkids.ls) c175, .slice A176 (List.length r168.xpivots.ls) c177, .slice A178 (List.length r168.xbuffers.ls) c179] 27, blk g236 [.slice A174 (List.length r168.xkids.ls) c175, .slice A176 (List.length r168.xpivots.ls) c177, .slice A178 (List.length r168.xbuffers.ls) c179] 63, blk g216 [.slice A174 (List.length r168.xkids.ls) c175, .slice A176 (List.length r168.xpivots.ls) c177, .slice A178 (List.length r168.xbuffers.ls) c179] 63, blk g43 [.slice A201 (List.length r196.xrest.ls) c202, .int .i64 r196.xerrno] 84, row A174 (List.length r168.xkids.ls) c175 (List.flatMap (eI .i64) r168.xkids.ls) 3 1, row A176 (List.length r168.xpivots.ls) c177 (List.flatMap eS r168.xpivots.ls) 9 1, row A178 (List.length r168.xbuffers.ls) c179 (List.flatMap (Sv.enc (β := EntryD)) d180) 44 1, sepL (List.flatMap Row44D.own d180), blk g21 [.bool false, .slice none 0 0, .slice none 0 0, .slice none 0 0, .slice none 0 0] 27] := H243
  refine WL.nil (Fin.then (Wp.ret (Fin.blockR (Fin.thenR (Fin.res (resC rfl rfl (Lds.agg (cs := [.bool false, .slice none 0 0, .slice A174 (List.length r168.xkids.ls) c175, .slice A176 (List.length r168.xpivots.ls) c177, .slice A178 (List.length r168.xbuffers.ls) c179]) Try.isAgg27 Try.sizeOf27 ((H243.cls (i := 0) rfl).lit (k := 0) (m := 5) rfl))) ?_)))))
  have H244 : Own w D w242 [blk g21 [.bool false, .slice none 0 0, .slice none 0 0, .slice none 0 0, .slice none 0 0] 27, blk g233 [.bool false, .slice none 0 0, .slice A174 (List.length r168.xkids.ls) c175, .slice A176 (List.length r168.xpivots.ls) c177, .slice A178 (List.length r168.xbuffers.ls) c179] 27, blk g236 [.slice A174 (List.length r168.xkids.ls) c175, .slice A176 (List.length r168.xpivots.ls) c177, .slice A178 (List.length r168.xbuffers.ls) c179] 63, blk g216 [.slice A174 (List.length r168.xkids.ls) c175, .slice A176 (List.length r168.xpivots.ls) c177, .slice A178 (List.length r168.xbuffers.ls) c179] 63, blk g43 [.slice A201 (List.length r196.xrest.ls) c202, .int .i64 r196.xerrno] 84, row A174 (List.length r168.xkids.ls) c175 (List.flatMap (eI .i64) r168.xkids.ls) 3 1, row A176 (List.length r168.xpivots.ls) c177 (List.flatMap eS r168.xpivots.ls) 9 1, row A178 (List.length r168.xbuffers.ls) c179 (List.flatMap (Sv.enc (β := EntryD)) d180) 44 1, sepL (List.flatMap Row44D.own d180)] := H243.pick [8, 0, 1, 2, 3, 4, 5, 6, 7] (by decide) rfl
  refine WL.do0 (Do.store (vs := [.bool false, .slice none 0 0, .slice A174 (List.length r168.xkids.ls) c175, .slice A176 (List.length r168.xpivots.ls) c177, .slice A178 (List.length r168.xbuffers.ls) c179]) (o := 0) H244 rfl rfl Try.sizeOf27 rfl rfl rfl rfl ?_)
  intro w245 H246
  replace H246 : Own w D w245 [blk g21 [.bool false, .slice none 0 0, .slice A174 (List.length r168.xkids.ls) c175, .slice A176 (List.length r168.xpivots.ls) c177, .slice A178 (List.length r168.xbuffers.ls) c179] 27, blk g233 [.bool false, .slice none 0 0, .slice A174 (List.length r168.xkids.ls) c175, .slice A176 (List.length r168.xpivots.ls) c177, .slice A178 (List.length r168.xbuffers.ls) c179] 27, blk g236 [.slice A174 (List.length r168.xkids.ls) c175, .slice A176 (List.length r168.xpivots.ls) c177, .slice A178 (List.length r168.xbuffers.ls) c179] 63, blk g216 [.slice A174 (List.length r168.xkids.ls) c175, .slice A176 (List.length r168.xpivots.ls) c177, .slice A178 (List.length r168.xbuffers.ls) c179] 63, blk g43 [.slice A201 (List.length r196.xrest.ls) c202, .int .i64 r196.xerrno] 84, row A174 (List.length r168.xkids.ls) c175 (List.flatMap (eI .i64) r168.xkids.ls) 3 1, row A176 (List.length r168.xpivots.ls) c177 (List.flatMap eS r168.xpivots.ls) 9 1, row A178 (List.length r168.xbuffers.ls) c179 (List.flatMap (Sv.enc (β := EntryD)) d180) 44 1, sepL (List.flatMap Row44D.own d180)] := H246
  refine As rfl rfl (WL.nil (Fin.then (Wp.ret (Fin.res (resN (vs := [.agg #[.bool false, .slice none 0 0, .slice A174 (List.length r168.xkids.ls) c175, .slice A176 (List.length r168.xpivots.ls) c177, .slice A178 (List.length r168.xbuffers.ls) c179], .int .i64 0]) rfl (ResV.cell rfl (Lds.agg (cs := [.bool false, .slice none 0 0, .slice A174 (List.length r168.xkids.ls) c175, .slice A176 (List.length r168.xpivots.ls) c177, .slice A178 (List.length r168.xbuffers.ls) c179]) Try.isAgg27 Try.sizeOf27 ((H246.cls (i := 0) rfl).lit (k := 0) (m := 5) rfl)) (ResV.tmp rfl ResV.nil)) (Nat.le_of_ble_eq_true rfl)) ?_))))
  have H247 : Own w D w245 [row none 0 0 (List.flatMap PairD.cells ([])) 40 2, blk g21 [.bool false, .slice none 0 0, .slice A174 (List.length r168.xkids.ls) c175, .slice A176 (List.length r168.xpivots.ls) c177, .slice A178 (List.length r168.xbuffers.ls) c179] 27, blk g233 [.bool false, .slice none 0 0, .slice A174 (List.length r168.xkids.ls) c175, .slice A176 (List.length r168.xpivots.ls) c177, .slice A178 (List.length r168.xbuffers.ls) c179] 27, blk g236 [.slice A174 (List.length r168.xkids.ls) c175, .slice A176 (List.length r168.xpivots.ls) c177, .slice A178 (List.length r168.xbuffers.ls) c179] 63, blk g216 [.slice A174 (List.length r168.xkids.ls) c175, .slice A176 (List.length r168.xpivots.ls) c177, .slice A178 (List.length r168.xbuffers.ls) c179] 63, blk g43 [.slice A201 (List.length r196.xrest.ls) c202, .int .i64 r196.xerrno] 84, row A174 (List.length r168.xkids.ls) c175 (List.flatMap (eI .i64) r168.xkids.ls) 3 1, row A176 (List.length r168.xpivots.ls) c177 (List.flatMap eS r168.xpivots.ls) 9 1, row A178 (List.length r168.xbuffers.ls) c179 (List.flatMap (Sv.enc (β := EntryD)) d180) 44 1, sepL (List.flatMap Row44D.own d180)] := H246.free (row_nil 40 2)
  have H248 : Own w D w245 [row none 0 0 (List.flatMap PairD.cells ([])) 40 2, row A174 (List.length r168.xkids.ls) c175 (List.flatMap (eI .i64) r168.xkids.ls) 3 1, row A176 (List.length r168.xpivots.ls) c177 (List.flatMap eS r168.xpivots.ls) 9 1, row A178 (List.length r168.xbuffers.ls) c179 (List.flatMap (Sv.enc (β := EntryD)) d180) 44 1, sepL (List.flatMap Row44D.own d180)] := H247.pick [0, 6, 7, 8, 9] (by decide) rfl
  have e : node_Decode l0 = (NodeT.mk false (Ll.mk ([])) (Ll.mk r168.xkids.ls) (Ll.mk r168.xpivots.ls) (Ll.mk r168.xbuffers.ls), 0) := Eq.trans (if_neg h24) (Eq.trans (bnd_of hr39) (Eq.trans (bnd_of hr55) (Eq.trans (if_neg h63) (Eq.trans (if_pos h162) (Eq.trans (bnd_of hr170) (Eq.trans (bnd_of hr197) (Eq.trans (bnd_of hr211) (Eq.trans (if_pos h215) (Eq.trans (bnd_of hr227) (if_pos h232))))))))))
  obtain ⟨rfl, rfl⟩ := pj2 (e.symm.trans hr)
  exact ⟨none, 0, A174, c175, A176, c177, A178, c179, d180, rfl, H248, hd181⟩
  refine Wp.cond1 rfl (decide_eq_true h232) (Wp.seq (Wp.region (Kn (v := .agg #[.bool false, .slice none 0 0, .slice none 0 0, .slice none 0 0, .slice none 0 0]) rfl rfl rfl (fun _ => by kernel_rfl) (Mv rfl rfl ?_))))
  have H249 : Own w D w228 [blk g21 [.bool false, .slice none 0 0, .slice none 0 0, .slice none 0 0, .slice none 0 0] 27, blk g216 [.slice A174 (List.length r168.xkids.ls) c175, .slice A176 (List.length r168.xpivots.ls) c177, .slice A178 (List.length r168.xbuffers.ls) c179] 63, blk g43 [.slice A201 (List.length r196.xrest.ls) c202, .int .i64 r196.xerrno] 84, row A174 (List.length r168.xkids.ls) c175 (List.flatMap (eI .i64) r168.xkids.ls) 3 1, row A176 (List.length r168.xpivots.ls) c177 (List.flatMap eS r168.xpivots.ls) 9 1, row A178 (List.length r168.xbuffers.ls) c179 (List.flatMap (Sv.enc (β := EntryD)) d180) 44 1, sepL (List.flatMap Row44D.own d180)] := H230.pick [6, 0, 1, 2, 3, 4, 5] (by decide) rfl
  refine WL.do0 (Do.store (vs := [.bool false, .slice none 0 0, .slice none 0 0, .slice none 0 0, .slice none 0 0]) (o := 0) H249 rfl rfl Try.sizeOf27 rfl rfl rfl rfl ?_)
  intro w250 H251
  replace H251 : Own w D w250 [blk g21 [.bool false, .slice none 0 0, .slice none 0 0, .slice none 0 0, .slice none 0 0] 27, blk g216 [.slice A174 (List.length r168.xkids.ls) c175, .slice A176 (List.length r168.xpivots.ls) c177, .slice A178 (List.length r168.xbuffers.ls) c179] 63, blk g43 [.slice A201 (List.length r196.xrest.ls) c202, .int .i64 r196.xerrno] 84, row A174 (List.length r168.xkids.ls) c175 (List.flatMap (eI .i64) r168.xkids.ls) 3 1, row A176 (List.length r168.xpivots.ls) c177 (List.flatMap eS r168.xpivots.ls) 9 1, row A178 (List.length r168.xbuffers.ls) c179 (List.flatMap (Sv.enc (β := EntryD)) d180) 44 1, sepL (List.flatMap Row44D.own d180)] := H251
  refine As rfl rfl (WL.nil (Fin.then (Wp.ret (Fin.thenR (Fin.res (resN (vs := [.agg #[.bool false, .slice none 0 0, .slice none 0 0, .slice none 0 0, .slice none 0 0], .int .i64 r226]) rfl (ResV.cell rfl (Lds.agg (cs := [.bool false, .slice none 0 0, .slice none 0 0, .slice none 0 0, .slice none 0 0]) Try.isAgg27 Try.sizeOf27 ((H251.cls (i := 0) rfl).lit (k := 0) (m := 5) rfl)) (ResV.tmp rfl ResV.nil)) (Nat.le_of_ble_eq_true rfl)) ?_)))))
  have H252 : Own w D w250 [row none 0 0 (List.flatMap PairD.cells ([])) 40 2, blk g21 [.bool false, .slice none 0 0, .slice none 0 0, .slice none 0 0, .slice none 0 0] 27, blk g216 [.slice A174 (List.length r168.xkids.ls) c175, .slice A176 (List.length r168.xpivots.ls) c177, .slice A178 (List.length r168.xbuffers.ls) c179] 63, blk g43 [.slice A201 (List.length r196.xrest.ls) c202, .int .i64 r196.xerrno] 84, row A174 (List.length r168.xkids.ls) c175 (List.flatMap (eI .i64) r168.xkids.ls) 3 1, row A176 (List.length r168.xpivots.ls) c177 (List.flatMap eS r168.xpivots.ls) 9 1, row A178 (List.length r168.xbuffers.ls) c179 (List.flatMap (Sv.enc (β := EntryD)) d180) 44 1, sepL (List.flatMap Row44D.own d180)] := H251.free (row_nil 40 2)
  have H253 : Own w D w250 [row none 0 0 (List.flatMap (eI .i64) ([])) 3 1, row none 0 0 (List.flatMap PairD.cells ([])) 40 2, blk g21 [.bool false, .slice none 0 0, .slice none 0 0, .slice none 0 0, .slice none 0 0] 27, blk g216 [.slice A174 (List.length r168.xkids.ls) c175, .slice A176 (List.length r168.xpivots.ls) c177, .slice A178 (List.length r168.xbuffers.ls) c179] 63, blk g43 [.slice A201 (List.length r196.xrest.ls) c202, .int .i64 r196.xerrno] 84, row A174 (List.length r168.xkids.ls) c175 (List.flatMap (eI .i64) r168.xkids.ls) 3 1, row A176 (List.length r168.xpivots.ls) c177 (List.flatMap eS r168.xpivots.ls) 9 1, row A178 (List.length r168.xbuffers.ls) c179 (List.flatMap (Sv.enc (β := EntryD)) d180) 44 1, sepL (List.flatMap Row44D.own d180)] := H252.free (row_nil 3 1)
  have H254 : Own w D w250 [row none 0 0 (List.flatMap eS ([])) 9 1, row none 0 0 (List.flatMap (eI .i64) ([])) 3 1, row none 0 0 (List.flatMap PairD.cells ([])) 40 2, blk g21 [.bool false, .slice none 0 0, .slice none 0 0, .slice none 0 0, .slice none 0 0] 27, blk g216 [.slice A174 (List.length r168.xkids.ls) c175, .slice A176 (List.length r168.xpivots.ls) c177, .slice A178 (List.length r168.xbuffers.ls) c179] 63, blk g43 [.slice A201 (List.length r196.xrest.ls) c202, .int .i64 r196.xerrno] 84, row A174 (List.length r168.xkids.ls) c175 (List.flatMap (eI .i64) r168.xkids.ls) 3 1, row A176 (List.length r168.xpivots.ls) c177 (List.flatMap eS r168.xpivots.ls) 9 1, row A178 (List.length r168.xbuffers.ls) c179 (List.flatMap (Sv.enc (β := EntryD)) d180) 44 1, sepL (List.flatMap Row44D.own d180)] := H253.free (row_nil 9 1)
  have H255 : Own w D w250 [sepL (List.flatMap Row44D.own ([])), row none 0 0 (List.flatMap eS ([])) 9 1, row none 0 0 (List.flatMap (eI .i64) ([])) 3 1, row none 0 0 (List.flatMap PairD.cells ([])) 40 2, blk g21 [.bool false, .slice none 0 0, .slice none 0 0, .slice none 0 0, .slice none 0 0] 27, blk g216 [.slice A174 (List.length r168.xkids.ls) c175, .slice A176 (List.length r168.xpivots.ls) c177, .slice A178 (List.length r168.xbuffers.ls) c179] 63, blk g43 [.slice A201 (List.length r196.xrest.ls) c202, .int .i64 r196.xerrno] 84, row A174 (List.length r168.xkids.ls) c175 (List.flatMap (eI .i64) r168.xkids.ls) 3 1, row A176 (List.length r168.xpivots.ls) c177 (List.flatMap eS r168.xpivots.ls) 9 1, row A178 (List.length r168.xbuffers.ls) c179 (List.flatMap (Sv.enc (β := EntryD)) d180) 44 1, sepL (List.flatMap Row44D.own d180)] := H254.sepNil
  have H256 : Own w D w250 [row none 0 0 (List.flatMap (Sv.enc (β := EntryD)) ([])) 44 1, sepL (List.flatMap Row44D.own ([])), row none 0 0 (List.flatMap eS ([])) 9 1, row none 0 0 (List.flatMap (eI .i64) ([])) 3 1, row none 0 0 (List.flatMap PairD.cells ([])) 40 2, blk g21 [.bool false, .slice none 0 0, .slice none 0 0, .slice none 0 0, .slice none 0 0] 27, blk g216 [.slice A174 (List.length r168.xkids.ls) c175, .slice A176 (List.length r168.xpivots.ls) c177, .slice A178 (List.length r168.xbuffers.ls) c179] 63, blk g43 [.slice A201 (List.length r196.xrest.ls) c202, .int .i64 r196.xerrno] 84, row A174 (List.length r168.xkids.ls) c175 (List.flatMap (eI .i64) r168.xkids.ls) 3 1, row A176 (List.length r168.xpivots.ls) c177 (List.flatMap eS r168.xpivots.ls) 9 1, row A178 (List.length r168.xbuffers.ls) c179 (List.flatMap (Sv.enc (β := EntryD)) d180) 44 1, sepL (List.flatMap Row44D.own d180)] := H255.free (row_nil 44 1)
  have H257 : Own w D w250 [row none 0 0 (List.flatMap PairD.cells ([])) 40 2, row none 0 0 (List.flatMap (eI .i64) ([])) 3 1, row none 0 0 (List.flatMap eS ([])) 9 1, row none 0 0 (List.flatMap (Sv.enc (β := EntryD)) ([])) 44 1, sepL (List.flatMap Row44D.own ([]))] := H256.pick [4, 3, 2, 0, 1] (by decide) rfl
  have e : node_Decode l0 = (NodeT.mk false (Ll.mk ([])) (Ll.mk ([])) (Ll.mk ([])) (Ll.mk ([])), r226) := Eq.trans (if_neg h24) (Eq.trans (bnd_of hr39) (Eq.trans (bnd_of hr55) (Eq.trans (if_neg h63) (Eq.trans (if_pos h162) (Eq.trans (bnd_of hr170) (Eq.trans (bnd_of hr197) (Eq.trans (bnd_of hr211) (Eq.trans (if_pos h215) (Eq.trans (bnd_of hr227) (if_neg h232))))))))))
  obtain ⟨rfl, rfl⟩ := pj2 (e.symm.trans hr)
  exact ⟨none, 0, none, 0, none, 0, none, 0, [], rfl, H257, rfl⟩
  refine Wp.cond1 rfl (decide_eq_true h215) (Wp.seq (Wp.region (Kn (v := .agg #[.bool false, .slice none 0 0, .slice none 0 0, .slice none 0 0, .slice none 0 0]) rfl rfl rfl (fun _ => by kernel_rfl) (Mv rfl rfl ?_))))
  have H258 : Own w D w212 [blk g21 [.bool false, .slice none 0 0, .slice none 0 0, .slice none 0 0, .slice none 0 0] 27, blk g43 [.slice A201 (List.length r196.xrest.ls) c202, .int .i64 r196.xerrno] 84, row A174 (List.length r168.xkids.ls) c175 (List.flatMap (eI .i64) r168.xkids.ls) 3 1, row A176 (List.length r168.xpivots.ls) c177 (List.flatMap eS r168.xpivots.ls) 9 1, row A178 (List.length r168.xbuffers.ls) c179 (List.flatMap (Sv.enc (β := EntryD)) d180) 44 1, sepL (List.flatMap Row44D.own d180)] := H214.pick [5, 0, 1, 2, 3, 4] (by decide) rfl
  refine WL.do0 (Do.store (vs := [.bool false, .slice none 0 0, .slice none 0 0, .slice none 0 0, .slice none 0 0]) (o := 0) H258 rfl rfl Try.sizeOf27 rfl rfl rfl rfl ?_)
  intro w259 H260
  replace H260 : Own w D w259 [blk g21 [.bool false, .slice none 0 0, .slice none 0 0, .slice none 0 0, .slice none 0 0] 27, blk g43 [.slice A201 (List.length r196.xrest.ls) c202, .int .i64 r196.xerrno] 84, row A174 (List.length r168.xkids.ls) c175 (List.flatMap (eI .i64) r168.xkids.ls) 3 1, row A176 (List.length r168.xpivots.ls) c177 (List.flatMap eS r168.xpivots.ls) 9 1, row A178 (List.length r168.xbuffers.ls) c179 (List.flatMap (Sv.enc (β := EntryD)) d180) 44 1, sepL (List.flatMap Row44D.own d180)] := H260
  refine As rfl rfl (WL.nil (Fin.then (Wp.ret (Fin.thenR (Fin.res (resN (vs := [.agg #[.bool false, .slice none 0 0, .slice none 0 0, .slice none 0 0, .slice none 0 0], .int .i64 r210]) rfl (ResV.cell rfl (Lds.agg (cs := [.bool false, .slice none 0 0, .slice none 0 0, .slice none 0 0, .slice none 0 0]) Try.isAgg27 Try.sizeOf27 ((H260.cls (i := 0) rfl).lit (k := 0) (m := 5) rfl)) (ResV.tmp rfl ResV.nil)) (Nat.le_of_ble_eq_true rfl)) ?_)))))
  have H261 : Own w D w259 [row none 0 0 (List.flatMap PairD.cells ([])) 40 2, blk g21 [.bool false, .slice none 0 0, .slice none 0 0, .slice none 0 0, .slice none 0 0] 27, blk g43 [.slice A201 (List.length r196.xrest.ls) c202, .int .i64 r196.xerrno] 84, row A174 (List.length r168.xkids.ls) c175 (List.flatMap (eI .i64) r168.xkids.ls) 3 1, row A176 (List.length r168.xpivots.ls) c177 (List.flatMap eS r168.xpivots.ls) 9 1, row A178 (List.length r168.xbuffers.ls) c179 (List.flatMap (Sv.enc (β := EntryD)) d180) 44 1, sepL (List.flatMap Row44D.own d180)] := H260.free (row_nil 40 2)
  have H262 : Own w D w259 [row none 0 0 (List.flatMap (eI .i64) ([])) 3 1, row none 0 0 (List.flatMap PairD.cells ([])) 40 2, blk g21 [.bool false, .slice none 0 0, .slice none 0 0, .slice none 0 0, .slice none 0 0] 27, blk g43 [.slice A201 (List.length r196.xrest.ls) c202, .int .i64 r196.xerrno] 84, row A174 (List.length r168.xkids.ls) c175 (List.flatMap (eI .i64) r168.xkids.ls) 3 1, row A176 (List.length r168.xpivots.ls) c177 (List.flatMap eS r168.xpivots.ls) 9 1, row A178 (List.length r168.xbuffers.ls) c179 (List.flatMap (Sv.enc (β := EntryD)) d180) 44 1, sepL (List.flatMap Row44D.own d180)] := H261.free (row_nil 3 1)
  have H263 : Own w D w259 [row none 0 0 (List.flatMap eS ([])) 9 1, row none 0 0 (List.flatMap (eI .i64) ([])) 3 1, row none 0 0 (List.flatMap PairD.cells ([])) 40 2, blk g21 [.bool false, .slice none 0 0, .slice none 0 0, .slice none 0 0, .slice none 0 0] 27, blk g43 [.slice A201 (List.length r196.xrest.ls) c202, .int .i64 r196.xerrno] 84, row A174 (List.length r168.xkids.ls) c175 (List.flatMap (eI .i64) r168.xkids.ls) 3 1, row A176 (List.length r168.xpivots.ls) c177 (List.flatMap eS r168.xpivots.ls) 9 1, row A178 (List.length r168.xbuffers.ls) c179 (List.flatMap (Sv.enc (β := EntryD)) d180) 44 1, sepL (List.flatMap Row44D.own d180)] := H262.free (row_nil 9 1)
  have H264 : Own w D w259 [sepL (List.flatMap Row44D.own ([])), row none 0 0 (List.flatMap eS ([])) 9 1, row none 0 0 (List.flatMap (eI .i64) ([])) 3 1, row none 0 0 (List.flatMap PairD.cells ([])) 40 2, blk g21 [.bool false, .slice none 0 0, .slice none 0 0, .slice none 0 0, .slice none 0 0] 27, blk g43 [.slice A201 (List.length r196.xrest.ls) c202, .int .i64 r196.xerrno] 84, row A174 (List.length r168.xkids.ls) c175 (List.flatMap (eI .i64) r168.xkids.ls) 3 1, row A176 (List.length r168.xpivots.ls) c177 (List.flatMap eS r168.xpivots.ls) 9 1, row A178 (List.length r168.xbuffers.ls) c179 (List.flatMap (Sv.enc (β := EntryD)) d180) 44 1, sepL (List.flatMap Row44D.own d180)] := H263.sepNil
  have H265 : Own w D w259 [row none 0 0 (List.flatMap (Sv.enc (β := EntryD)) ([])) 44 1, sepL (List.flatMap Row44D.own ([])), row none 0 0 (List.flatMap eS ([])) 9 1, row none 0 0 (List.flatMap (eI .i64) ([])) 3 1, row none 0 0 (List.flatMap PairD.cells ([])) 40 2, blk g21 [.bool false, .slice none 0 0, .slice none 0 0, .slice none 0 0, .slice none 0 0] 27, blk g43 [.slice A201 (List.length r196.xrest.ls) c202, .int .i64 r196.xerrno] 84, row A174 (List.length r168.xkids.ls) c175 (List.flatMap (eI .i64) r168.xkids.ls) 3 1, row A176 (List.length r168.xpivots.ls) c177 (List.flatMap eS r168.xpivots.ls) 9 1, row A178 (List.length r168.xbuffers.ls) c179 (List.flatMap (Sv.enc (β := EntryD)) d180) 44 1, sepL (List.flatMap Row44D.own d180)] := H264.free (row_nil 44 1)
  have H266 : Own w D w259 [row none 0 0 (List.flatMap PairD.cells ([])) 40 2, row none 0 0 (List.flatMap (eI .i64) ([])) 3 1, row none 0 0 (List.flatMap eS ([])) 9 1, row none 0 0 (List.flatMap (Sv.enc (β := EntryD)) ([])) 44 1, sepL (List.flatMap Row44D.own ([]))] := H265.pick [4, 3, 2, 0, 1] (by decide) rfl
  have e : node_Decode l0 = (NodeT.mk false (Ll.mk ([])) (Ll.mk ([])) (Ll.mk ([])) (Ll.mk ([])), r210) := Eq.trans (if_neg h24) (Eq.trans (bnd_of hr39) (Eq.trans (bnd_of hr55) (Eq.trans (if_neg h63) (Eq.trans (if_pos h162) (Eq.trans (bnd_of hr170) (Eq.trans (bnd_of hr197) (Eq.trans (bnd_of hr211) (if_neg h215))))))))
  obtain ⟨rfl, rfl⟩ := pj2 (e.symm.trans hr)
  exact ⟨none, 0, none, 0, none, 0, none, 0, [], rfl, H266, rfl⟩
  refine Wp.cond0 rfl (decide_eq_false h162) (Wp.region (Mv rfl rfl ?_))
  obtain ⟨r272, hr273⟩ : ∃ q, reader_Reader_Fail r54 11 = q := ⟨_, rfl⟩
  obtain ⟨D267, HP268, ro269, bk270, rr271⟩ := Own.enter1 H58
  refine WL.do rfl (Do.call Try.call29 rfl (reader_Reader_Fail_ok _ _ g43 r54 A59 c60 11 r272 HP268 (fun w9 h9 => SubS.rds eB_len (by decide) hs61 ((fun w9 h9 => SubS.rds eB_len (by decide) hs46 ((ro269 _ hx0) w9 h9)) w9 h9)) (show List.length r54.xrest.ls ≤ c60 ∧ List.length r54.xrest.ls ≤ 9223372036854775807 from by omega) hr273) ?_)
  rintro _ w274 ⟨A277, c278, rfl, HQ275, hs279⟩
  have H276 : Own w D w274 [blk g43 [.slice A277 (List.length r272.xrest.ls) c278, .int .i64 r272.xerrno] 84, blk g21 [.bool false, .slice none 0 0, .slice none 0 0, .slice none 0 0, .slice none 0 0] 27] := bk270 _ _ HQ275
  replace hs279 : SubS 1 A59 c60 r54.xrest.ls A277 c278 r272.xrest.ls := hs279
  have hz280 := (hs279).le
  refine WL.nil (Fin.blockN (Fin.then (Wp.seq (Wp.region (Mv rfl rfl ?_)))))
  obtain ⟨r286, hr287⟩ : ∃ q, reader_Reader_End r272 = q := ⟨_, rfl⟩
  obtain ⟨D281, HP282, ro283, bk284, rr285⟩ := Own.enter1 H276
  refine WL.do rfl (Do.call Try.call30 rfl (reader_Reader_End_ok _ _ g43 r272 A277 c278 r286 HP282 (fun w9 h9 => SubS.rds eB_len (by decide) hs279 ((fun w9 h9 => SubS.rds eB_len (by decide) hs61 ((fun w9 h9 => SubS.rds eB_len (by decide) hs46 ((ro283 _ hx0) w9 h9)) w9 h9)) w9 h9)) (show List.length r272.xrest.ls ≤ c278 ∧ List.length r272.xrest.ls ≤ 9223372036854775807 from by omega) hr287) ?_)
  rintro _ w288 ⟨A291, c292, rfl, HQ289, hs293⟩
  have H290 : Own w D w288 [blk g43 [.slice A291 (List.length r286.xrest.ls) c292, .int .i64 r286.xerrno] 84, blk g21 [.bool false, .slice none 0 0, .slice none 0 0, .slice none 0 0, .slice none 0 0] 27] := bk284 _ _ HQ289
  replace hs293 : SubS 1 A277 c278 r272.xrest.ls A291 c292 r286.xrest.ls := hs293
  have hz294 := (hs293).le
  refine WL.nil (Fin.then (Wp.seq (Wp.region (Mv rfl rfl (Mv rfl rfl ?_)))))
  obtain ⟨r300, hr301⟩ : ∃ q, reader_Reader_Err r286 = q := ⟨_, rfl⟩
  obtain ⟨D295, HP296, ro297, bk298, rr299⟩ := Own.enter1 H290
  refine WL.do rfl (Do.call Try.call31 rfl (reader_Reader_Err_ok _ _ g43 r286 A291 c292 r300 HP296 (fun w9 h9 => SubS.rds eB_len (by decide) hs293 ((fun w9 h9 => SubS.rds eB_len (by decide) hs279 ((fun w9 h9 => SubS.rds eB_len (by decide) hs61 ((fun w9 h9 => SubS.rds eB_len (by decide) hs46 ((ro297 _ hx0) w9 h9)) w9 h9)) w9 h9)) w9 h9)) (show List.length r286.xrest.ls ≤ c292 ∧ List.length r286.xrest.ls ≤ 9223372036854775807 from by omega) hr301) ?_)
  rintro _ w302 ⟨rfl, HQ303⟩
  have H304 : Own w D w302 [blk g43 [.slice A291 (List.length r286.xrest.ls) c292, .int .i64 r286.xerrno] 84, blk g21 [.bool false, .slice none 0 0, .slice none 0 0, .slice none 0 0, .slice none 0 0] 27] := bk298 _ _ HQ303
  refine As rfl rfl (As rfl rfl (WL.nil (Fin.then (Wp.ret (Fin.res (res2 rfl rfl rfl) (Mv rfl rfl (Kn (v := .nilIface) rfl rfl rfl (fun _ => by kernel_rfl) (Kn (v := .int .i64 r300) rfl rfl rfl (fun _ => by kernel_rfl) (As rfl rfl (As rfl rfl (WL.nil (Fin.then (Wp.seq (Wp.seq (Wp.region (Mv rfl rfl (WL.val (v := .bool (decide (¬ (r300 = 0)))) rfl (Yl.bool (e := !(decide (r300 = 0))) (Yl.kern rfl rfl (fun _ => by kernel_rfl)) decide_not.symm) (WL.nil (Fin.then ?_)))))))))))))))))))
  by_cases h305 : r300 = 0
  refine Wp.cond0 rfl (decide_eq_false (not_not_intro h305)) (Wp.skip (Fin.then (Wp.seq (Wp.seq (Wp.region (Mv rfl rfl ?_))))))
  refine WL.do rfl (Do.call Try.call13 rfl ?_ (fun _ _ k => k))
  refine Calls.body (args := [.nilIface]) Try.func13 rfl rfl rfl ?_
  show Wp _ _ _ [(0, .nilIface)] _ _
  refine Wp.seq (Wp.region (As rfl rfl (WL.nil (Fin.then (Wp.seq (Wp.seq (Wp.region (Mv rfl rfl (WL.nil (Fin.then (Wp.block (Wp.seq (Wp.region (Kn (v := .tuple #[.agg #[.slice none 0 0], .bool false]) rfl rfl rfl (fun _ => by kernel_rfl) (Kn (v := .bool false) rfl rfl rfl (fun _ => by kernel_rfl) (Kn (v := .agg #[.slice none 0 0]) rfl rfl rfl (fun _ => by kernel_rfl) (WL.nil (Fin.then (Wp.cond0 rfl rfl (Wp.seq (Wp.region (Kn (v := .tuple #[.agg #[.slice none 0 0, .slice none 0 0, .slice none 0 0], .bool false]) rfl rfl rfl (fun _ => by kernel_rfl) (Kn (v := .bool false) rfl rfl rfl (fun _ => by kernel_rfl) (Kn (v := .agg #[.slice none 0 0, .slice none 0 0, .slice none 0 0]) rfl rfl rfl (fun _ => by kernel_rfl) (WL.nil (Fin.then (Wp.cond0 rfl rfl (Wp.skip (Fin.blockN (Fin.then (Wp.seq (Wp.region (As rfl rfl (WL.nil (Fin.then (Wp.ret (Fin.res (res1 rfl rfl) (As rfl rfl (WL.nil ?_)))))))))))))))))))))))))))))))))))))))
  refine Fin.then (Wp.seq (Wp.region (Mv rfl rfl (Kn (v := .bool true) rfl rfl rfl (fun _ => by kernel_rfl) (WL.nil (Fin.then (Wp.cond1 rfl rfl (Wp.seq (Wp.region (Kn (v := .agg #[.bool false, .slice none 0 0, .slice none 0 0, .slice none 0 0, .slice none 0 0]) rfl rfl rfl (fun _ => by kernel_rfl) (Mv rfl rfl ?_)))))))))))
  have H306 : Own w D w302 [blk g21 [.bool false, .slice none 0 0, .slice none 0 0, .slice none 0 0, .slice none 0 0] 27, blk g43 [.slice A291 (List.length r286.xrest.ls) c292, .int .i64 r286.xerrno] 84] := H304.pick [1, 0] (by decide) rfl
  refine WL.do0 (Do.store (vs := [.bool false, .slice none 0 0, .slice none 0 0, .slice none 0 0, .slice none 0 0]) (o := 0) H306 rfl rfl Try.sizeOf27 rfl rfl rfl rfl ?_)
  intro w307 H308
  replace H308 : Own w D w307 [blk g21 [.bool false, .slice none 0 0, .slice none 0 0, .slice none 0 0, .slice none 0 0] 27, blk g43 [.slice A291 (List.length r286.xrest.ls) c292, .int .i64 r286.xerrno] 84] := H308
  refine As rfl rfl (WL.nil (Fin.then (Wp.ret (Fin.thenR (Fin.res (resN (vs := [.agg #[.bool false, .slice none 0 0, .slice none 0 0, .slice none 0 0, .slice none 0 0], .int .i64 130]) rfl (ResV.cell rfl (Lds.agg (cs := [.bool false, .slice none 0 0, .slice none 0 0, .slice none 0 0, .slice none 0 0]) Try.isAgg27 Try.sizeOf27 ((H308.cls (i := 0) rfl).lit (k := 0) (m := 5) rfl)) (ResV.tmp rfl ResV.nil)) (Nat.le_of_ble_eq_true rfl)) ?_)))))
  have H309 : Own w D w307 [row none 0 0 (List.flatMap PairD.cells ([])) 40 2, blk g21 [.bool false, .slice none 0 0, .slice none 0 0, .slice none 0 0, .slice none 0 0] 27, blk g43 [.slice A291 (List.length r286.xrest.ls) c292, .int .i64 r286.xerrno] 84] := H308.free (row_nil 40 2)
  have H310 : Own w D w307 [row none 0 0 (List.flatMap (eI .i64) ([])) 3 1, row none 0 0 (List.flatMap PairD.cells ([])) 40 2, blk g21 [.bool false, .slice none 0 0, .slice none 0 0, .slice none 0 0, .slice none 0 0] 27, blk g43 [.slice A291 (List.length r286.xrest.ls) c292, .int .i64 r286.xerrno] 84] := H309.free (row_nil 3 1)
  have H311 : Own w D w307 [row none 0 0 (List.flatMap eS ([])) 9 1, row none 0 0 (List.flatMap (eI .i64) ([])) 3 1, row none 0 0 (List.flatMap PairD.cells ([])) 40 2, blk g21 [.bool false, .slice none 0 0, .slice none 0 0, .slice none 0 0, .slice none 0 0] 27, blk g43 [.slice A291 (List.length r286.xrest.ls) c292, .int .i64 r286.xerrno] 84] := H310.free (row_nil 9 1)
  have H312 : Own w D w307 [sepL (List.flatMap Row44D.own ([])), row none 0 0 (List.flatMap eS ([])) 9 1, row none 0 0 (List.flatMap (eI .i64) ([])) 3 1, row none 0 0 (List.flatMap PairD.cells ([])) 40 2, blk g21 [.bool false, .slice none 0 0, .slice none 0 0, .slice none 0 0, .slice none 0 0] 27, blk g43 [.slice A291 (List.length r286.xrest.ls) c292, .int .i64 r286.xerrno] 84] := H311.sepNil
  have H313 : Own w D w307 [row none 0 0 (List.flatMap (Sv.enc (β := EntryD)) ([])) 44 1, sepL (List.flatMap Row44D.own ([])), row none 0 0 (List.flatMap eS ([])) 9 1, row none 0 0 (List.flatMap (eI .i64) ([])) 3 1, row none 0 0 (List.flatMap PairD.cells ([])) 40 2, blk g21 [.bool false, .slice none 0 0, .slice none 0 0, .slice none 0 0, .slice none 0 0] 27, blk g43 [.slice A291 (List.length r286.xrest.ls) c292, .int .i64 r286.xerrno] 84] := H312.free (row_nil 44 1)
  have H314 : Own w D w307 [row none 0 0 (List.flatMap PairD.cells ([])) 40 2, row none 0 0 (List.flatMap (eI .i64) ([])) 3 1, row none 0 0 (List.flatMap eS ([])) 9 1, row none 0 0 (List.flatMap (Sv.enc (β := EntryD)) ([])) 44 1, sepL (List.flatMap Row44D.own ([]))] := H313.pick [4, 3, 2, 0, 1] (by decide) rfl
  have e : node_Decode l0 = (NodeT.mk false (Ll.mk ([])) (Ll.mk ([])) (Ll.mk ([])) (Ll.mk ([])), 130) := Eq.trans (if_neg h24) (Eq.trans (bnd_of hr39) (Eq.trans (bnd_of hr55) (Eq.trans (if_neg h63) (Eq.trans (if_neg h162) (Eq.trans (bnd_of hr273) (Eq.trans (bnd_of hr287) (Eq.trans (bnd_of hr301) (if_pos h305))))))))
  obtain ⟨rfl, rfl⟩ := pj2 (e.symm.trans hr)
  exact ⟨none, 0, none, 0, none, 0, none, 0, [], rfl, H314, rfl⟩
  refine Wp.cond1 rfl (decide_eq_true h305) (Wp.seq (Wp.region (Kn (v := .agg #[.bool false, .slice none 0 0, .slice none 0 0, .slice none 0 0, .slice none 0 0]) rfl rfl rfl (fun _ => by kernel_rfl) (Mv rfl rfl ?_))))
  have H315 : Own w D w302 [blk g21 [.bool false, .slice none 0 0, .slice none 0 0, .slice none 0 0, .slice none 0 0] 27, blk g43 [.slice A291 (List.length r286.xrest.ls) c292, .int .i64 r286.xerrno] 84] := H304.pick [1, 0] (by decide) rfl
  refine WL.do0 (Do.store (vs := [.bool false, .slice none 0 0, .slice none 0 0, .slice none 0 0, .slice none 0 0]) (o := 0) H315 rfl rfl Try.sizeOf27 rfl rfl rfl rfl ?_)
  intro w316 H317
  replace H317 : Own w D w316 [blk g21 [.bool false, .slice none 0 0, .slice none 0 0, .slice none 0 0, .slice none 0 0] 27, blk g43 [.slice A291 (List.length r286.xrest.ls) c292, .int .i64 r286.xerrno] 84] := H317
  refine As rfl rfl (WL.nil (Fin.then (Wp.ret (Fin.thenR (Fin.res (resN (vs := [.agg #[.bool false, .slice none 0 0, .slice none 0 0, .slice none 0 0, .slice none 0 0], .int .i64 r300]) rfl (ResV.cell rfl (Lds.agg (cs := [.bool false, .slice none 0 0, .slice none 0 0, .slice none 0 0, .slice none 0 0]) Try.isAgg27 Try.sizeOf27 ((H317.cls (i := 0) rfl).lit (k := 0) (m := 5) rfl)) (ResV.tmp rfl ResV.nil)) (Nat.le_of_ble_eq_true rfl)) ?_)))))
  have H318 : Own w D w316 [row none 0 0 (List.flatMap PairD.cells ([])) 40 2, blk g21 [.bool false, .slice none 0 0, .slice none 0 0, .slice none 0 0, .slice none 0 0] 27, blk g43 [.slice A291 (List.length r286.xrest.ls) c292, .int .i64 r286.xerrno] 84] := H317.free (row_nil 40 2)
  have H319 : Own w D w316 [row none 0 0 (List.flatMap (eI .i64) ([])) 3 1, row none 0 0 (List.flatMap PairD.cells ([])) 40 2, blk g21 [.bool false, .slice none 0 0, .slice none 0 0, .slice none 0 0, .slice none 0 0] 27, blk g43 [.slice A291 (List.length r286.xrest.ls) c292, .int .i64 r286.xerrno] 84] := H318.free (row_nil 3 1)
  have H320 : Own w D w316 [row none 0 0 (List.flatMap eS ([])) 9 1, row none 0 0 (List.flatMap (eI .i64) ([])) 3 1, row none 0 0 (List.flatMap PairD.cells ([])) 40 2, blk g21 [.bool false, .slice none 0 0, .slice none 0 0, .slice none 0 0, .slice none 0 0] 27, blk g43 [.slice A291 (List.length r286.xrest.ls) c292, .int .i64 r286.xerrno] 84] := H319.free (row_nil 9 1)
  have H321 : Own w D w316 [sepL (List.flatMap Row44D.own ([])), row none 0 0 (List.flatMap eS ([])) 9 1, row none 0 0 (List.flatMap (eI .i64) ([])) 3 1, row none 0 0 (List.flatMap PairD.cells ([])) 40 2, blk g21 [.bool false, .slice none 0 0, .slice none 0 0, .slice none 0 0, .slice none 0 0] 27, blk g43 [.slice A291 (List.length r286.xrest.ls) c292, .int .i64 r286.xerrno] 84] := H320.sepNil
  have H322 : Own w D w316 [row none 0 0 (List.flatMap (Sv.enc (β := EntryD)) ([])) 44 1, sepL (List.flatMap Row44D.own ([])), row none 0 0 (List.flatMap eS ([])) 9 1, row none 0 0 (List.flatMap (eI .i64) ([])) 3 1, row none 0 0 (List.flatMap PairD.cells ([])) 40 2, blk g21 [.bool false, .slice none 0 0, .slice none 0 0, .slice none 0 0, .slice none 0 0] 27, blk g43 [.slice A291 (List.length r286.xrest.ls) c292, .int .i64 r286.xerrno] 84] := H321.free (row_nil 44 1)
  have H323 : Own w D w316 [row none 0 0 (List.flatMap PairD.cells ([])) 40 2, row none 0 0 (List.flatMap (eI .i64) ([])) 3 1, row none 0 0 (List.flatMap eS ([])) 9 1, row none 0 0 (List.flatMap (Sv.enc (β := EntryD)) ([])) 44 1, sepL (List.flatMap Row44D.own ([]))] := H322.pick [4, 3, 2, 0, 1] (by decide) rfl
  have e : node_Decode l0 = (NodeT.mk false (Ll.mk ([])) (Ll.mk ([])) (Ll.mk ([])) (Ll.mk ([])), r300) := Eq.trans (if_neg h24) (Eq.trans (bnd_of hr39) (Eq.trans (bnd_of hr55) (Eq.trans (if_neg h63) (Eq.trans (if_neg h162) (Eq.trans (bnd_of hr273) (Eq.trans (bnd_of hr287) (Eq.trans (bnd_of hr301) (if_neg h305))))))))
  obtain ⟨rfl, rfl⟩ := pj2 (e.symm.trans hr)
  exact ⟨none, 0, none, 0, none, 0, none, 0, [], rfl, H323, rfl⟩
end Go.Proofs.Ytfkkipmdnjfocaa
