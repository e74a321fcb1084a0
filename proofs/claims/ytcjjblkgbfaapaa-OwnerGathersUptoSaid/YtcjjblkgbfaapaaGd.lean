/-
 owner: the document's answer.
-/
import Derived.Test.YtcjjblkgbfaapaaGc
namespace Go.Proofs.Ytcjjblkgbfaapaa
open Go.RowKit
set_option linter.unusedVariables false
set_option linter.unusedSectionVars false
set_option linter.unusedSimpArgs false

def r17_Gather_L1 (l0 : List OpD) (k22 : Nat) : List Int → Unit ⊕ ((List ResultT) × Int)
  | [] => Sum.inl ()
  | x70 :: q58 => if x70 < 0 then Sum.inr ([], 1) else if x70 ≥ ((l0.length : Nat) : Int) then Sum.inr ([], 1) else r17_Gather_L1 l0 k22 q58

def r17_Gather_L0 (l0 : List OpD) (l1 : List PartDT) (l2 : List (Ll ResultT)) : List PartDT → Nat → Unit ⊕ ((List ResultT) × Int)
  | [], k22 => Sum.inl ()
  | x35 :: q23, k22 => if ((x35.xOps.ls.length : Nat) : Int) = ((x35.xFrom.ls.length : Nat) : Int) then bnd (List.getD l2 k22 default) fun yx50 => if ((x35.xOps.ls.length : Nat) : Int) = ((yx50.ls.length : Nat) : Int) then lpS (r17_Gather_L1 l0 k22 x35.xFrom.ls) fun _ => r17_Gather_L0 l0 l1 l2 q23 (k22 + 1) else Sum.inr ([], 1) else Sum.inr ([], 1)

def r17_Gather_L5 (k159 : Nat) (b160 : Bool) (s161 : List UInt8) : List PairD → List PairD → (List PairD)
  | [], l201 => l201
  | x216 :: q202, l201 => bnd (r17_in l201 x216) fun yr230 => r17_Gather_L5 k159 b160 s161 q202 yr230

def r17_Gather_L4 (l2 : List (Ll ResultT)) (x113 : OpD) (k128 : Nat) (k97 : Nat) : List Int → Bool → Nat → Bool → List UInt8 → List PairD → Bool × Bool × (List UInt8) × (List PairD)
  | [], b158, k159, b160, s161, l164 => (b158, b160, s161, l164)
  | x177 :: q165, b158, k159, b160, s161, l164 => if x177 = ((k97 : Nat) : Int) then bnd (List.getD l2 k128 default) fun yx181 => bnd (List.getD yx181.ls k159 default) fun yx187 => if x113.xKind = 4 then bnd (r17_Gather_L5 k159 b160 s161 yx187.xPairs.ls l164) fun sLrtLaLsLsLstbbtL => r17_Gather_L4 l2 x113 k128 k97 q165 false (k159 + 1) b160 s161 sLrtLaLsLsLstbbtL else if b158 = true then r17_Gather_L4 l2 x113 k128 k97 q165 false (k159 + 1) yx187.xFound yx187.xValue yx187.xPairs.ls else r17_Gather_L4 l2 x113 k128 k97 q165 false (k159 + 1) b160 s161 l164 else r17_Gather_L4 l2 x113 k128 k97 q165 b158 (k159 + 1) b160 s161 l164

def r17_Gather_L3 (l2 : List (Ll ResultT)) (x113 : OpD) (l95 : List ResultT) (k97 : Nat) : List PartDT → Bool → Nat → Bool → List UInt8 → List PairD → Bool × (List UInt8) × (List PairD)
  | [], b127, k128, b129, s130, l133 => (b129, s130, l133)
  | x146 :: q134, b127, k128, b129, s130, l133 => bnd (r17_Gather_L4 l2 x113 k128 k97 x146.xFrom.ls b127 0 b129 s130 l133) fun sLrtLaLsLsL => r17_Gather_L3 l2 x113 l95 k97 q134 sLrtLaLsLsL.1 (k128 + 1) sLrtLaLsLsL.2.1 sLrtLaLsLsL.2.2.1 sLrtLaLsLsL.2.2.2

def r17_Gather_L2 (l1 : List PartDT) (l2 : List (Ll ResultT)) : List OpD → List ResultT → Nat → (List ResultT)
  | [], l95, k97 => l95
  | x113 :: q98, l95, k97 => bnd (r17_Gather_L3 l2 x113 l95 k97 l1 true 0 false ([]) ([])) fun sLrtLaLsL => if x113.xKind = 4 then if ((sLrtLaLsL.2.2.length : Nat) : Int) > max 0 x113.xMost then r17_Gather_L2 l1 l2 q98 (l95 ++ [(ResultT.mk sLrtLaLsL.1 sLrtLaLsL.2.1 (Ll.mk (List.take (Int.toNat (max 0 x113.xMost)) sLrtLaLsL.2.2)))]) (k97 + 1) else r17_Gather_L2 l1 l2 q98 (l95 ++ [(ResultT.mk sLrtLaLsL.1 sLrtLaLsL.2.1 (Ll.mk sLrtLaLsL.2.2))]) (k97 + 1) else r17_Gather_L2 l1 l2 q98 (l95 ++ [(ResultT.mk sLrtLaLsL.1 sLrtLaLsL.2.1 (Ll.mk sLrtLaLsL.2.2))]) (k97 + 1)

def r17_Gather (l0 : List OpD) (l1 : List PartDT) (l2 : List (Ll ResultT)) : (List ResultT) × Int :=
 if ((l1.length : Nat) : Int) = ((l2.length : Nat) : Int) then lp (r17_Gather_L0 l0 l1 l2 l1 0) fun _ => bnd (r17_Gather_L2 l1 l2 l0 ([]) 0) fun sLrtLaL => (sLrtLaL, 0) else ([], 1)

set_option maxRecDepth 100000 in
theorem r17_Gather_ok (w : World) (D : Nat → Prop) (A0 : Option Addr) (n0 c0 : Nat) (l0 : List OpD) (A1 : Option Addr) (n1 c1 : Nat) (d1 : List PartDx) (l1 : List PartDT) (A2 : Option Addr) (n2 c2 : Nat) (d2 : List Row49D) (l2 : List (Ll ResultT)) (r0 : List ResultT) (r1 : Int) (H : Own w D w []) (hx0 : Ro w D fun w' => Rds w' 6 A0 n0 (List.flatMap OpD.cells l0)) (hn0 : n0 = l0.length) (hl0 : l0.length * 80 ≤ 211106232532992) (hd1 : List.map PartDx.abs d1 = l1) (hx1 : Ro w D fun w' => Rds w' 3 A1 n1 (List.flatMap PartDx.cells d1)) (hm1 : ∀ x ∈ d1, Ro w D (fun w' => Rds w' 6 x.xOps.A x.xOps.ls.length (List.flatMap OpD.cells x.xOps.ls)) ∧ (x.xOps.ls.length ≤ x.xOps.c ∧ x.xOps.ls.length ≤ 9223372036854775807) ∧ Ro w D (fun w' => Rds w' 1 x.xFrom.A x.xFrom.ls.length (List.flatMap (eI .i64) x.xFrom.ls)) ∧ (x.xFrom.ls.length ≤ x.xFrom.c ∧ x.xFrom.ls.length ≤ 9223372036854775807)) (hn1 : n1 = l1.length) (hl1 : l1.length * 56 ≤ 211106232532992) (hd2 : List.map Row49D.abs d2 = l2) (hx2 : Ro w D fun w' => Rds w' 1 A2 n2 (List.flatMap (Sv.enc (β := ResultD)) d2)) (hm2 : ∀ x ∈ d2, Ro w D (fun w' => Rds w' 3 x.A x.ls.length (List.flatMap ResultD.cells x.ls)) ∧ (x.ls.length ≤ x.c ∧ x.ls.length ≤ 9223372036854775807) ∧ (∀ y1 ∈ x.ls, Ro w D (fun w' => Rds w' 2 y1.xPairs.A y1.xPairs.ls.length (List.flatMap PairD.cells y1.xPairs.ls)) ∧ (y1.xPairs.ls.length ≤ y1.xPairs.c ∧ y1.xPairs.ls.length ≤ 9223372036854775807))) (hn2 : n2 = l2.length) (hl2 : l2.length * 24 ≤ 211106232532992) (hh0 : tt l2 ≤ 100000000) (hr : r17_Gather l0 l1 l2 = (r0, r1)) :
    Calls Try.prog 24 #[.slice A0 n0 c0, .slice A1 n1 c1, .slice A2 n2 c2] w (Ret fun v w' => ∃ (B0 : Option Addr) (b0 : Nat) (e0 : List ResultD), v = .tuple #[.slice B0 r0.length b0, .int .i64 r1] ∧ Own w D w' [row B0 r0.length b0 (List.flatMap ResultD.cells e0) 56 3, sepL (List.flatMap ResultD.own e0)] ∧ (List.map ResultD.abs e0 = r0)) := by
 subst hn0 hn1 hn2
 have hdl1 := abs_len hd1
 have hdl2 := abs_len hd2
 refine Calls.body (args := [.slice A0 l0.length c0, .slice A1 l1.length c1, .slice A2 l2.length c2]) Try.func24 rfl rfl rfl ?_
 show Wp _ _ _ [(0, .slice A0 l0.length c0), (1, .slice A1 l1.length c1), (2, .slice A2 l2.length c2)] _ _
 refine sr (Az rfl (An rfl (Wp.seq (sr (Mz rfl (Kz (.int .i64 ((l1.length : Nat) : Int)) (Mz rfl (Kz (.int .i64 ((l2.length : Nat) : Int)) (fw (.bool (decide (¬ (((l1.length : Nat) : Int) = ((l2.length : Nat) : Int))))) (Yl.bool (e := !(decide (((l1.length : Nat) : Int) = ((l2.length : Nat) : Int)))) yk decide_not.symm) (nt ?_))))))))))
 by_cases h21 : ((l1.length : Nat) : Int) = ((l2.length : Nat) : Int)
 refine jF (dF (not_not_intro h21)) (sk (Wp.seq (sr (Mz rfl (Kz (.int .i64 ((l1.length : Nat) : Int)) (Mn rfl (bo ?_)))))))
 have H24 : Own w D w [] := H.pk []
 obtain ⟨I28, hI29⟩ : ∃ q : Nat → World → Prop, q = fun (i : Nat) w' => Own w D w' [] ∧ (i ≤ l1.length ∧ AllOk l0.length l1 l2 i ∧ r17_Gather_L0 l0 l1 l2 l1 0 = r17_Gather_L0 l0 l1 l2 (List.drop i l1) i) := ⟨_, rfl⟩
 have dm30 : ∀ {k22 : Nat} {w' : World}, I28 k22 w' ↔ Own w D w' [] ∧ k22 ≤ l1.length ∧ AllOk l0.length l1 l2 k22 ∧ r17_Gather_L0 l0 l1 l2 l1 0 = r17_Gather_L0 l0 l1 l2 (List.drop k22 l1) k22 := by intros; subst hI29; exact Iff.rfl
 refine Wp.loop (fun i : Nat => [(6, .slice none 0 0), (7, .int .i64 0), (31, .int .i64 ((i : Nat) : Int)), (30, .int .i64 ((l1.length : Nat) : Int)), (29, .slice A1 l1.length c1), (0, .slice A0 l0.length c0), (1, .slice A1 l1.length c1), (2, .slice A2 l2.length c2)]) I28 (fun i => l1.length - i) 0 ⟨rfl, rfl, rfl, rfl, rfl, rfl, rfl, rfl, trivial⟩ (dm30.2 ⟨H24, by omega, by first | exact allok_0 | exact allok_step (by assumption) (by assumption) (by simp only [PartDx.abs]; omega) (by simp only [PartDx.abs]; omega) (from_all (by assumption) (by simp only [PartDx.abs]; omega)), rfl⟩) ?_
 rintro k22 w25 hf27
 show Wp _ _ _ [(6, .slice none 0 0), (7, .int .i64 0), (31, .int .i64 ((k22 : Nat) : Int)), (30, .int .i64 ((l1.length : Nat) : Int)), (29, .slice A1 l1.length c1), (0, .slice A0 l0.length c0), (1, .slice A1 l1.length c1), (2, .slice A2 l2.length c2)] _ _
 obtain ⟨H26, hi32, hi33, hq31⟩ := dm30.1 hf27
 refine sr (Kz (.bool (decide (((k22 : Nat) : Int) < ((l1.length : Nat) : Int)))) (nt (Wp.seq ?_)))
 by_cases h34 : ((k22 : Nat) : Int) < ((l1.length : Nat) : Int)
 obtain ⟨x35, hx36⟩ := rds_at (ls := d1) (i := k22) PartDx.len (by decide) (H26.ro hx1) (by first | omega | (simp; done) | (simp; omega))
 have hX37 := abs_at hd1 hx36
 have hb38 := (hm1 _ (List.mem_of_getElem? hx36)).2.1
 have hb39 := (hm1 _ (List.mem_of_getElem? hx36)).2.2.2
 have hd41 := drop_at hX37
 refine jT (dT h34) (sk (Wp.seq (bo (sr (Mz rfl (fw (.pointer (some ⟨ab A1, ao A1 + k22 * 3, none⟩)) (Yl.indexAddr (El44) rfl rfl ((H26.ro hx1).addr (i := k22) (by omega)) (by omega)) (fw (.agg (PartDx.cells x35).toArray) (Yl.load rfl (Lds.agg (cs := (PartDx.cells x35)) Try.isAgg48 Try.sizeOf48 ((H26.ro hx1).elem PartDx.len hx36 (by decide)))) ?_)))))))
 refine npw [.int .i64 0, .slice none 0 0, .slice none 0 0] 48 H26 ?_
 intro g42 w43 H44
 refine Az rfl ?_
 refine sto (PartDx.cells x35) 0 H44 Try.sizeOf48 ?_
 intro w45 H46
 refine nt (Wp.seq (Wp.seq ?_))
 have H48 := H46.drew
 refine Wp.drawnX [] (fun W => ∃ L', Own w D W ([blk g42 (PartDx.cells x35) 48] ++ L')) (by kernel_rfl) (by kernel_rfl) (NoP.then (NoP.then (NoP.block (NoP.then (NoP.then (NoP.block (NoP.then NoP.base))))))) ⟨_, H48⟩ ?_
 revert H48
 generalize World.drew w45 = w47
 intro H48
 refine GX.take (v := .pointer (some ⟨g42, 1, none⟩)) (rs := []) 0 rfl (by kernel_rfl) (fun _ _ => yk) (GX.take (v := .slice x35.xOps.A x35.xOps.ls.length x35.xOps.c) (rs := []) 1 rfl (by kernel_rfl) (fun _ ⟨_, H9⟩ => Yl.load rfl (Lds.one Try.isAgg41 (Cls.of (H9.cls (i := 0) rfl) rfl))) (GX.take (v := .int .i64 ((x35.xOps.ls.length : Nat) : Int)) (rs := []) 2 rfl (by kernel_rfl) (fun _ _ => yk) (GX.take (v := .pointer (some ⟨g42, 2, none⟩)) (rs := []) 3 rfl (by kernel_rfl) (fun _ _ => yk) (GX.take (v := .slice x35.xFrom.A x35.xFrom.ls.length x35.xFrom.c) (rs := []) 4 rfl (by kernel_rfl) (fun _ ⟨_, H9⟩ => Yl.load rfl (Lds.one Try.isAgg45 (Cls.of (H9.cls (i := 0) rfl) rfl))) (GX.take (v := .int .i64 ((x35.xFrom.ls.length : Nat) : Int)) (rs := []) 5 rfl (by kernel_rfl) (fun _ _ => yk) (GX.take (v := .bool (decide (¬ (((x35.xOps.ls.length : Nat) : Int) = ((x35.xFrom.ls.length : Nat) : Int))))) (rs := []) 6 rfl (by kernel_rfl) (fun _ _ => Yl.bool (e := !(decide (((x35.xOps.ls.length : Nat) : Int) = ((x35.xFrom.ls.length : Nat) : Int)))) yk decide_not.symm) (GX.take (v := .bool (decide (¬ (((x35.xOps.ls.length : Nat) : Int) = ((x35.xFrom.ls.length : Nat) : Int))))) (rs := []) 7 rfl (by kernel_rfl) (fun _ _ => Yl.move rfl) ?_)))))))
 by_cases h49 : ((x35.xOps.ls.length : Nat) : Int) = ((x35.xFrom.ls.length : Nat) : Int)
 refine GX.takeG (v := .pointer (some ⟨g42, 1, none⟩)) (rs := []) 8 rfl rfl rfl (dF (not_not_intro h49)) (by kernel_rfl) (fun _ _ => yk) (GX.takeG (v := .slice x35.xOps.A x35.xOps.ls.length x35.xOps.c) (rs := []) 9 rfl rfl rfl (dF (not_not_intro h49)) (by kernel_rfl) (fun _ ⟨_, H9⟩ => Yl.load rfl (Lds.one Try.isAgg41 (Cls.of (H9.cls (i := 0) rfl) rfl))) (GX.takeG (v := .int .i64 ((x35.xOps.ls.length : Nat) : Int)) (rs := []) 10 rfl rfl rfl (dF (not_not_intro h49)) (by kernel_rfl) (fun _ _ => yk) (GX.takeG (v := .slice A2 l2.length c2) (rs := []) 11 rfl rfl rfl (dF (not_not_intro h49)) (by kernel_rfl) (fun _ _ => Yl.move rfl) (GX.takeG (v := .int .i64 ((k22 : Nat) : Int)) (rs := []) 12 rfl rfl rfl (dF (not_not_intro h49)) (by kernel_rfl) (fun _ _ => Yl.move rfl) ?_))))
 obtain ⟨x50, hx51⟩ := at_of (ls := d2) (i := k22) (by first | omega | (simp; done) | (simp; omega))
 have hX52 := abs_at hd2 hx51
 have hb53 := (hm2 _ (List.mem_of_getElem? hx51)).2.1
 have hl54 : List.length (List.map ResultD.abs x50.ls) = x50.ls.length := List.length_map ..
 have hz55 : x50.ls.length = List.length (List.getD l2 k22 default).ls := by rw [gd_at hX52]; exact (List.length_map ..).symm
 refine GX.takeG (v := .pointer (some ⟨ab A2, ao A2 + k22 * 1, none⟩)) (rs := []) 13 rfl rfl rfl (dF (not_not_intro h49)) (by kernel_rfl) (fun _ ⟨_, H9⟩ => Yl.indexAddr (El43) rfl rfl ((H9.ro hx2).addr (i := k22) (by omega)) (by omega)) (GX.takeG (v := .slice x50.A x50.ls.length x50.c) (rs := []) 14 rfl rfl rfl (dF (not_not_intro h49)) (by kernel_rfl) (fun _ ⟨_, H9⟩ => Yl.load rfl (Lds.one Try.isAgg49 (((H9.ro hx2).elem svLen hx51 (by decide)).at_ (k := 0) rfl))) (GX.takeG (v := .int .i64 ((List.length (List.map ResultD.abs x50.ls) : Nat) : Int)) (rs := []) 15 rfl rfl rfl (dF (not_not_intro h49)) (by kernel_rfl) (fun _ _ => Yl.int (e := ((x50.ls.length : Nat) : Int)) yk (by rw [List.length_map])) (GX.takeG (v := .bool (decide (¬ (((x35.xOps.ls.length : Nat) : Int) = ((List.length (List.map ResultD.abs x50.ls) : Nat) : Int))))) (rs := []) 16 rfl rfl rfl (dF (not_not_intro h49)) (by kernel_rfl) (fun _ _ => Yl.bool (e := !(decide (((x35.xOps.ls.length : Nat) : Int) = ((List.length (List.map ResultD.abs x50.ls) : Nat) : Int)))) yk decide_not.symm) (GX.take (v := .bool (decide (¬ (((x35.xOps.ls.length : Nat) : Int) = ((List.length (List.map ResultD.abs x50.ls) : Nat) : Int))))) (rs := []) 17 rfl (by kernel_rfl) (fun _ _ => Yl.pickF rfl (dF (not_not_intro h49)) rfl) (GX.done (by kernel_rfl) (Fin.then ?_))))))
 by_cases h56 : ((x35.xOps.ls.length : Nat) : Int) = ((List.length (List.map ResultD.abs x50.ls) : Nat) : Int)
 refine jF (dF (not_not_intro h56)) (sk (sr (Kz (.pointer (some ⟨g42, 2, none⟩)) (Lz (.slice x35.xFrom.A x35.xFrom.ls.length x35.xFrom.c) H48 0 Try.isAgg45 (Kz (.int .i64 ((x35.xFrom.ls.length : Nat) : Int)) (Mn rfl (bo ?_)))))))
 have H59 := H48.pk [0]
 obtain ⟨I63, hI64⟩ : ∃ q : Nat → World → Prop, q = fun (i : Nat) w' => Own w D w' [blk g42 (PartDx.cells x35) 48] ∧ (i ≤ x35.xFrom.ls.length ∧ FromOk l0.length (List.take i x35.xFrom.ls) ∧ r17_Gather_L1 l0 k22 x35.xFrom.ls = r17_Gather_L1 l0 k22 (List.drop i x35.xFrom.ls)) := ⟨_, rfl⟩
 have dm65 : ∀ {k57 : Nat} {w' : World}, I63 k57 w' ↔ Own w D w' [blk g42 (PartDx.cells x35) 48] ∧ k57 ≤ x35.xFrom.ls.length ∧ FromOk l0.length (List.take k57 x35.xFrom.ls) ∧ r17_Gather_L1 l0 k22 x35.xFrom.ls = r17_Gather_L1 l0 k22 (List.drop k57 x35.xFrom.ls) := by intros; subst hI64; exact Iff.rfl
 refine Wp.loop (fun i : Nat => [(6, .slice none 0 0), (7, .int .i64 0), (57, .int .i64 ((i : Nat) : Int)), (56, .int .i64 ((x35.xFrom.ls.length : Nat) : Int)), (55, .slice x35.xFrom.A x35.xFrom.ls.length x35.xFrom.c), (31, .int .i64 ((k22 : Nat) : Int)), (30, .int .i64 ((l1.length : Nat) : Int)), (29, .slice A1 l1.length c1), (0, .slice A0 l0.length c0), (1, .slice A1 l1.length c1), (2, .slice A2 l2.length c2)]) I63 (fun i => x35.xFrom.ls.length - i) 0 ⟨rfl, rfl, rfl, rfl, rfl, rfl, rfl, rfl, rfl, rfl, rfl, trivial⟩ (dm65.2 ⟨H59, by omega, by first | exact from_0 | exact from_step (by assumption) (by assumption) (by omega) (by omega), rfl⟩) ?_
 rintro k57 w60 hf62
 show Wp _ _ _ [(6, .slice none 0 0), (7, .int .i64 0), (57, .int .i64 ((k57 : Nat) : Int)), (56, .int .i64 ((x35.xFrom.ls.length : Nat) : Int)), (55, .slice x35.xFrom.A x35.xFrom.ls.length x35.xFrom.c), (31, .int .i64 ((k22 : Nat) : Int)), (30, .int .i64 ((l1.length : Nat) : Int)), (29, .slice A1 l1.length c1), (0, .slice A0 l0.length c0), (1, .slice A1 l1.length c1), (2, .slice A2 l2.length c2)] _ _
 obtain ⟨H61, hi67, hi68, hq66⟩ := dm65.1 hf62
 refine sr (Kz (.bool (decide (((k57 : Nat) : Int) < ((x35.xFrom.ls.length : Nat) : Int)))) (nt (Wp.seq ?_)))
 by_cases h69 : ((k57 : Nat) : Int) < ((x35.xFrom.ls.length : Nat) : Int)
 obtain ⟨x70, hx71⟩ := rds_at (ls := x35.xFrom.ls) (i := k57) eI_len (by decide) (H61.ro (hm1 _ (List.mem_of_getElem? hx36)).2.2.1) (by first | omega | (simp; done) | (simp; omega))
 have hd72 := drop_at hx71
 refine jT (dT h69) (sk (Wp.seq (bo (sr (fw (.pointer (some ⟨ab x35.xFrom.A, ao x35.xFrom.A + k57 * 1, none⟩)) (Yl.indexAddr (El45) rfl rfl ((H61.ro (hm1 _ (List.mem_of_getElem? hx36)).2.2.1).addr (i := k57) (by omega)) (by omega)) (fw (.int .i64 x70) (Yl.load rfl (Lds.one Try.isAgg3 (((H61.ro (hm1 _ (List.mem_of_getElem? hx36)).2.2.1).elem eI_len hx71 (by decide)).at_ (k := 0) rfl))) (Ar rfl (Mz rfl (Kz (.bool (decide (x70 < 0))) (Mz rfl ?_))))))))))
 by_cases h73 : x70 < 0
 refine Sz (dT h73) (Sz (dT h73) (Sz (dT h73) (Sz (dT h73) (fw (.bool true) (Yl.pickT rfl (dT h73) rfl) (nt (jt (sr (Az rfl (An rfl (rt (bR (tR (tR (bR (bR (tR (tR (bR (tR (Fin.res (res2 rfl rfl rfl) ?_))))))))))))))))))))
 have H74 : Own w D w60 [sepL (List.flatMap ResultD.own ([])), blk g42 (PartDx.cells x35) 48] := H61.sepNil
 have H75 : Own w D w60 [row none 0 0 (List.flatMap ResultD.cells ([])) 56 3, sepL (List.flatMap ResultD.own ([])), blk g42 (PartDx.cells x35) 48] := H74.free (row_nil 56 3)
 have H76 := H75.pk [0, 1]
 have e : r17_Gather l0 l1 l2 = ([], 1) := et (ip h21) (lp_r (et (hq31) (et (congrArg (fun q => r17_Gather_L0 l0 l1 l2 q k22) hd41) (et (ip h49) (et (bnd_of (getD_of hX52)) (et (ip h56) (lpS_r (et (hq66) (et (congrArg (fun q => r17_Gather_L1 l0 k22 q) hd72) (ip h73))))))))))
 obtain ⟨rfl, rfl⟩ := pj2 (e.symm.trans hr)
 exact ⟨none, 0, [], rfl, H76, rfl⟩
 refine gw (.int .i64 x70) (dF h73) (Yl.move rfl) (gw (.slice A0 l0.length c0) (dF h73) (Yl.move rfl) (Gz (.int .i64 ((l0.length : Nat) : Int)) (dF h73) (Gz (.bool (decide (x70 ≥ ((l0.length : Nat) : Int)))) (dF h73) (fw (.bool (decide (x70 ≥ ((l0.length : Nat) : Int)))) (Yl.pickF rfl (dF h73) rfl) (nt ?_)))))
 by_cases h77 : x70 ≥ ((l0.length : Nat) : Int)
 refine jT (dT h77) (sr (Az rfl (An rfl (rt (bR (tR (tR (bR (bR (tR (tR (bR (tR (Fin.res (res2 rfl rfl rfl) ?_))))))))))))))
 have H78 : Own w D w60 [sepL (List.flatMap ResultD.own ([])), blk g42 (PartDx.cells x35) 48] := H61.sepNil
 have H79 : Own w D w60 [row none 0 0 (List.flatMap ResultD.cells ([])) 56 3, sepL (List.flatMap ResultD.own ([])), blk g42 (PartDx.cells x35) 48] := H78.free (row_nil 56 3)
 have H80 := H79.pk [0, 1]
 have e : r17_Gather l0 l1 l2 = ([], 1) := et (ip h21) (lp_r (et (hq31) (et (congrArg (fun q => r17_Gather_L0 l0 l1 l2 q k22) hd41) (et (ip h49) (et (bnd_of (getD_of hX52)) (et (ip h56) (lpS_r (et (hq66) (et (congrArg (fun q => r17_Gather_L1 l0 k22 q) hd72) (et (iN h73) (ip h77)))))))))))
 obtain ⟨rfl, rfl⟩ := pj2 (e.symm.trans hr)
 exact ⟨none, 0, [], rfl, H80, rfl⟩
 refine jF (dF h77) (Wp.skip (bN (Fin.then (Wp.region (fw (.int .i64 ((k57 + 1 : Nat) : Int)) (Yl.int (e := IntKind.i64.wrap (((k57 : Nat) : Int) + 1)) yk (by rw [IntWalk.i64_in _ (by omega)]; omega)) (Mz rfl (WL.nil ?_)))))))
 have H81 := H61.pk [0]
 exact Fin.round (k57 + 1) ⟨rfl, rfl, rfl, rfl, rfl, rfl, rfl, rfl, rfl, rfl, rfl, trivial⟩ (dm65.2 ⟨H81, by omega, by first | exact from_0 | exact from_step (by assumption) (by assumption) (by omega) (by omega), et (hq66) (et (congrArg (fun q => r17_Gather_L1 l0 k22 q) hd72) (et (iN h73) (iN h77)))⟩) (by show x35.xFrom.ls.length - (k57 + 1) < x35.xFrom.ls.length - k57; omega)
 refine jF (dF h69) (Wp.exit (Fin.thenX ?_))
 have hL82 : r17_Gather_L1 l0 k22 x35.xFrom.ls = Sum.inl () := et (hq66) (et (congrArg (fun q => r17_Gather_L1 l0 k22 q) (drop_end (ls := x35.xFrom.ls) (i := k57) (by omega))) rfl)
 refine Fin.thenX (Fin.blockX (bN (Fin.then (Wp.region (fw (.int .i64 ((k22 + 1 : Nat) : Int)) (Yl.int (e := IntKind.i64.wrap (((k22 : Nat) : Int) + 1)) yk (by rw [IntWalk.i64_in _ (by omega)]; omega)) (Mz rfl (WL.nil ?_)))))))
 have H83 := H61.pk []
 exact Fin.round (k22 + 1) ⟨rfl, rfl, rfl, rfl, rfl, rfl, rfl, rfl, trivial⟩ (dm30.2 ⟨H83, by omega, by first | exact allok_0 | exact allok_step (by assumption) (by assumption) (by simp only [PartDx.abs]; omega) (by simp only [PartDx.abs]; omega) (from_all (by assumption) (by simp only [PartDx.abs]; omega)), Eq.trans (hq31) (Eq.trans (congrArg (fun q => r17_Gather_L0 l0 l1 l2 q k22) hd41) (Eq.trans (if_pos h49) (Eq.trans (bnd_of (getD_of hX52)) (Eq.trans (if_pos h56) (lpS_l hL82)))))⟩) (by show l1.length - (k22 + 1) < l1.length - k22; omega)
 refine jT (dT h56) (sr (Az rfl (An rfl (rt (tR (bR (tR (tR (bR (tR (Fin.res (res2 rfl rfl rfl) ?_)))))))))))
 have H84 : Own w D w47 [sepL (List.flatMap ResultD.own ([])), blk g42 (PartDx.cells x35) 48] := H48.sepNil
 have H85 : Own w D w47 [row none 0 0 (List.flatMap ResultD.cells ([])) 56 3, sepL (List.flatMap ResultD.own ([])), blk g42 (PartDx.cells x35) 48] := H84.free (row_nil 56 3)
 have H86 := H85.pk [0, 1]
 have e : r17_Gather l0 l1 l2 = ([], 1) := et (ip h21) (lp_r (et (hq31) (et (congrArg (fun q => r17_Gather_L0 l0 l1 l2 q k22) hd41) (et (ip h49) (et (bnd_of (getD_of hX52)) (iN h56))))))
 obtain ⟨rfl, rfl⟩ := pj2 (e.symm.trans hr)
 exact ⟨none, 0, [], rfl, H86, rfl⟩
 refine GX.skipG (rs := []) 8 rfl rfl rfl (dT h49) (by kernel_rfl) (GX.skipG (rs := []) 9 rfl rfl rfl (dT h49) (by kernel_rfl) (GX.skipG (rs := []) 10 rfl rfl rfl (dT h49) (by kernel_rfl) (GX.skipG (rs := []) 11 rfl rfl rfl (dT h49) (by kernel_rfl) (GX.skipG (rs := []) 12 rfl rfl rfl (dT h49) (by kernel_rfl) (GX.skipG (rs := []) 13 rfl rfl rfl (dT h49) (by kernel_rfl) (GX.skipG (rs := []) 14 rfl rfl rfl (dT h49) (by kernel_rfl) (GX.skipG (rs := []) 15 rfl rfl rfl (dT h49) (by kernel_rfl) (GX.skipG (rs := []) 16 rfl rfl rfl (dT h49) (by kernel_rfl) (GX.take (v := .bool true) (rs := []) 17 rfl (by kernel_rfl) (fun _ _ => Yl.pickT rfl (dT h49) rfl) (GX.done (by kernel_rfl) (Fin.then (jt (sr (Az rfl (An rfl (rt (tR (bR (tR (tR (bR (tR (Fin.res (res2 rfl rfl rfl) ?_)))))))))))))))))))))))
 have H87 : Own w D w47 [sepL (List.flatMap ResultD.own ([])), blk g42 (PartDx.cells x35) 48] := H48.sepNil
 have H88 : Own w D w47 [row none 0 0 (List.flatMap ResultD.cells ([])) 56 3, sepL (List.flatMap ResultD.own ([])), blk g42 (PartDx.cells x35) 48] := H87.free (row_nil 56 3)
 have H89 := H88.pk [0, 1]
 have e : r17_Gather l0 l1 l2 = ([], 1) := et (ip h21) (lp_r (et (hq31) (et (congrArg (fun q => r17_Gather_L0 l0 l1 l2 q k22) hd41) (iN h49))))
 obtain ⟨rfl, rfl⟩ := pj2 (e.symm.trans hr)
 exact ⟨none, 0, [], rfl, H89, rfl⟩
 refine jF (dF h34) (Wp.exit (Fin.thenX ?_))
 have hL90 : r17_Gather_L0 l0 l1 l2 l1 0 = Sum.inl () := et (hq31) (et (congrArg (fun q => r17_Gather_L0 l0 l1 l2 q k22) (drop_end (ls := l1) (i := k22) (by omega))) rfl)
 refine Fin.thenX (Fin.blockX (Fin.then (sr (An rfl (Wp.seq (sr (Mz rfl (Kz (.int .i64 ((l0.length : Nat) : Int)) (Mn rfl (bo ?_))))))))))
 have H91 : Own w D w25 [sepL (List.flatMap ResultD.own ([]))] := H26.sepNil
 have H92 : Own w D w25 [row none 0 0 (List.flatMap ResultD.cells ([])) 56 3, sepL (List.flatMap ResultD.own ([]))] := H91.free (row_nil 56 3)
 have H99 := H92.pk [0, 1]
 obtain ⟨I103, hI104⟩ : ∃ q : ((Option Addr) × Nat × (List ResultD) × (List ResultT) × Nat) → World → Prop, q = fun (i : (Option Addr) × Nat × (List ResultD) × (List ResultT) × Nat) w' => Own w D w' [row i.1 i.2.2.2.1.length i.2.1 (List.flatMap ResultD.cells i.2.2.1) 56 3, sepL (List.flatMap ResultD.own i.2.2.1)] ∧ (List.map ResultD.abs i.2.2.1 = i.2.2.2.1 ∧ i.2.2.2.2 ≤ l0.length ∧ i.2.2.2.1.length = i.2.2.2.2 ∧ i.2.2.2.1.length ≤ i.2.2.2.2 ∧ r17_Gather_L2 l1 l2 l0 ([]) 0 = r17_Gather_L2 l1 l2 (List.drop i.2.2.2.2 l0) i.2.2.2.1 i.2.2.2.2) := ⟨_, rfl⟩
 have dm105 : ∀ {A93 : Option Addr} {c94 : Nat} {d96 : List ResultD} {l95 : List ResultT} {k97 : Nat} {w' : World}, I103 (A93, c94, d96, l95, k97) w' ↔ Own w D w' [row A93 l95.length c94 (List.flatMap ResultD.cells d96) 56 3, sepL (List.flatMap ResultD.own d96)] ∧ List.map ResultD.abs d96 = l95 ∧ k97 ≤ l0.length ∧ l95.length = k97 ∧ l95.length ≤ k97 ∧ r17_Gather_L2 l1 l2 l0 ([]) 0 = r17_Gather_L2 l1 l2 (List.drop k97 l0) l95 k97 := by intros; subst hI104; exact Iff.rfl
 refine Wp.loop (fun i : (Option Addr) × Nat × (List ResultD) × (List ResultT) × Nat => [(12, .slice i.1 i.2.2.2.1.length i.2.1), (73, .int .i64 ((i.2.2.2.2 : Nat) : Int)), (72, .int .i64 ((l0.length : Nat) : Int)), (71, .slice A0 l0.length c0), (6, .slice none 0 0), (7, .int .i64 0), (1, .slice A1 l1.length c1), (2, .slice A2 l2.length c2)]) I103 (fun i => l0.length - i.2.2.2.2) (none, 0, [], [], 0) ⟨rfl, rfl, rfl, rfl, rfl, rfl, rfl, rfl, trivial⟩ (dm105.2 ⟨H99, (show List.map ResultD.abs ([]) = ([]) ∧ 0 ≤ l0.length ∧ 0 = 0 ∧ 0 ≤ 0 ∧ r17_Gather_L2 l1 l2 l0 ([]) 0 = r17_Gather_L2 l1 l2 (List.drop 0 l0) ([]) 0 from ⟨by exact rfl, by omega, by omega, by omega, rfl⟩)⟩) ?_
 rintro ⟨A93, c94, d96, l95, k97⟩ w100 hf102
 show Wp _ _ _ [(12, .slice A93 l95.length c94), (73, .int .i64 ((k97 : Nat) : Int)), (72, .int .i64 ((l0.length : Nat) : Int)), (71, .slice A0 l0.length c0), (6, .slice none 0 0), (7, .int .i64 0), (1, .slice A1 l1.length c1), (2, .slice A2 l2.length c2)] _ _
 obtain ⟨H101, hi107, hi108, hi109, hi110, hq106⟩ := dm105.1 hf102
 have hl111 := abs_len hi107
 refine sr (Kz (.bool (decide (((k97 : Nat) : Int) < ((l0.length : Nat) : Int)))) (nt (Wp.seq ?_)))
 by_cases h112 : ((k97 : Nat) : Int) < ((l0.length : Nat) : Int)
 obtain ⟨x113, hx114⟩ := rds_at (ls := l0) (i := k97) OpD.len (by decide) (H101.ro hx0) (by first | omega | (simp; done) | (simp; omega))
 have hd115 := drop_at hx114
 refine jT (dT h112) (sk (Wp.seq (bo (sr (Mz rfl (fw (.pointer (some ⟨ab A0, ao A0 + k97 * 6, none⟩)) (Yl.indexAddr (El41) rfl rfl ((H101.ro hx0).addr (i := k97) (by omega)) (by omega)) (fw (.agg (OpD.cells x113).toArray) (Yl.load rfl (Lds.agg (cs := (OpD.cells x113)) Try.isAgg74 Try.sizeOf74 ((H101.ro hx0).elem OpD.len hx114 (by decide)))) ?_)))))))
 refine npw [.int .i64 0, .string ⟨List.toArray ([])⟩, .string ⟨List.toArray ([])⟩, .string ⟨List.toArray ([])⟩, .string ⟨List.toArray ([])⟩, .int .i64 0] 74 H101 ?_
 intro g116 w117 H118
 refine Az rfl ?_
 refine sto (OpD.cells x113) 0 H118 Try.sizeOf74 ?_
 intro w119 H120
 refine ns (Kz (.agg #[.bool false, .string ⟨List.toArray ([])⟩, .slice none 0 0]) ?_)
 refine npw [.bool false, .string ⟨List.toArray ([])⟩, .slice none 0 0] 56 H120 ?_
 intro g121 w122 H123
 refine sto [.bool false, .string ⟨List.toArray ([])⟩, .slice none 0 0] 0 H123 Try.sizeOf56 ?_
 intro w124 H125
 refine ns (An rfl (Wp.seq (sr (Mz rfl (Kz (.int .i64 ((l1.length : Nat) : Int)) (Mn rfl (bo ?_)))))))
 have H126 : Own w D w124 [row none 0 0 (List.flatMap PairD.cells ([])) 58 2, blk g121 [.bool false, .string ⟨List.toArray ([])⟩, .slice none 0 0] 56, blk g116 (OpD.cells x113) 74, row A93 l95.length c94 (List.flatMap ResultD.cells d96) 56 3, sepL (List.flatMap ResultD.own d96)] := H125.free (row_nil 58 2)
 have H135 := H126.pk [1, 2, 3, 4, 0]
 obtain ⟨I139, hI140⟩ : ∃ q : (Bool × Nat × Bool × (List UInt8) × (Option Addr) × Nat × (List PairD)) → World → Prop, q = fun (i : Bool × Nat × Bool × (List UInt8) × (Option Addr) × Nat × (List PairD)) w' => Own w D w' [blk g121 [.bool i.2.2.1, .string ⟨List.toArray i.2.2.2.1⟩, .slice i.2.2.2.2.1 i.2.2.2.2.2.2.length i.2.2.2.2.2.1] 56, blk g116 (OpD.cells x113) 74, row A93 l95.length c94 (List.flatMap ResultD.cells d96) 56 3, sepL (List.flatMap ResultD.own d96), row i.2.2.2.2.1 i.2.2.2.2.2.2.length i.2.2.2.2.2.1 (List.flatMap PairD.cells i.2.2.2.2.2.2) 58 2] ∧ (i.2.1 ≤ l1.length ∧ i.2.2.2.2.2.2.length ≤ tt (List.take i.2.1 l2) ∧ r17_Gather_L3 l2 x113 l95 k97 l1 true 0 false ([]) ([]) = r17_Gather_L3 l2 x113 l95 k97 (List.drop i.2.1 l1) i.1 i.2.1 i.2.2.1 i.2.2.2.1 i.2.2.2.2.2.2) := ⟨_, rfl⟩
 have dm141 : ∀ {b127 : Bool} {k128 : Nat} {b129 : Bool} {s130 : List UInt8} {A131 : Option Addr} {c132 : Nat} {l133 : List PairD} {w' : World}, I139 (b127, k128, b129, s130, A131, c132, l133) w' ↔ Own w D w' [blk g121 [.bool b129, .string ⟨List.toArray s130⟩, .slice A131 l133.length c132] 56, blk g116 (OpD.cells x113) 74, row A93 l95.length c94 (List.flatMap ResultD.cells d96) 56 3, sepL (List.flatMap ResultD.own d96), row A131 l133.length c132 (List.flatMap PairD.cells l133) 58 2] ∧ k128 ≤ l1.length ∧ l133.length ≤ tt (List.take k128 l2) ∧ r17_Gather_L3 l2 x113 l95 k97 l1 true 0 false ([]) ([]) = r17_Gather_L3 l2 x113 l95 k97 (List.drop k128 l1) b127 k128 b129 s130 l133 := by intros; subst hI140; exact Iff.rfl
 refine Wp.loop (fun i : Bool × Nat × Bool × (List UInt8) × (Option Addr) × Nat × (List PairD) => [(16, .bool i.1), (81, .int .i64 ((i.2.1 : Nat) : Int)), (80, .int .i64 ((l1.length : Nat) : Int)), (79, .slice A1 l1.length c1), (15, .pointer (some ⟨g121, 0, none⟩)), (13, .int .i64 ((k97 : Nat) : Int)), (14, .pointer (some ⟨g116, 0, none⟩)), (12, .slice A93 l95.length c94), (73, .int .i64 ((k97 : Nat) : Int)), (72, .int .i64 ((l0.length : Nat) : Int)), (71, .slice A0 l0.length c0), (6, .slice none 0 0), (7, .int .i64 0), (1, .slice A1 l1.length c1), (2, .slice A2 l2.length c2)]) I139 (fun i => l1.length - i.2.1) (true, 0, false, [], none, 0, []) ⟨rfl, rfl, rfl, rfl, rfl, rfl, rfl, rfl, rfl, rfl, rfl, rfl, rfl, rfl, rfl, trivial⟩ (dm141.2 ⟨H135, (show 0 ≤ l1.length ∧ 0 ≤ tt (List.take 0 l2) ∧ r17_Gather_L3 l2 x113 l95 k97 l1 true 0 false ([]) ([]) = r17_Gather_L3 l2 x113 l95 k97 (List.drop 0 l1) true 0 false ([]) ([]) from ⟨by omega, by first | exact Nat.zero_le _ | exact seen_end2 (by assumption) (by omega), rfl⟩)⟩) ?_
 rintro ⟨b127, k128, b129, s130, A131, c132, l133⟩ w136 hf138
 show Wp _ _ _ [(16, .bool b127), (81, .int .i64 ((k128 : Nat) : Int)), (80, .int .i64 ((l1.length : Nat) : Int)), (79, .slice A1 l1.length c1), (15, .pointer (some ⟨g121, 0, none⟩)), (13, .int .i64 ((k97 : Nat) : Int)), (14, .pointer (some ⟨g116, 0, none⟩)), (12, .slice A93 l95.length c94), (73, .int .i64 ((k97 : Nat) : Int)), (72, .int .i64 ((l0.length : Nat) : Int)), (71, .slice A0 l0.length c0), (6, .slice none 0 0), (7, .int .i64 0), (1, .slice A1 l1.length c1), (2, .slice A2 l2.length c2)] _ _
 obtain ⟨H137, hi143, hi144, hq142⟩ := dm141.1 hf138
 refine sr (Kz (.bool (decide (((k128 : Nat) : Int) < ((l1.length : Nat) : Int)))) (nt (Wp.seq ?_)))
 by_cases h145 : ((k128 : Nat) : Int) < ((l1.length : Nat) : Int)
 obtain ⟨x146, hx147⟩ := rds_at (ls := d1) (i := k128) PartDx.len (by decide) (H137.ro hx1) (by first | omega | (simp; done) | (simp; omega))
 have hX148 := abs_at hd1 hx147
 have hb149 := (hm1 _ (List.mem_of_getElem? hx147)).2.1
 have hb150 := (hm1 _ (List.mem_of_getElem? hx147)).2.2.2
 have hz151 : x146.xFrom.ls.length = List.length (List.getD l2 k128 default).ls := part_at (by assumption) (by omega) hX148
 have hd152 := drop_at hX148
 refine jT (dT h145) (sk (Wp.seq (bo (sr (Mz rfl (fw (.pointer (some ⟨ab A1, ao A1 + k128 * 3, none⟩)) (Yl.indexAddr (El44) rfl rfl ((H137.ro hx1).addr (i := k128) (by omega)) (by omega)) (fw (.agg (PartDx.cells x146).toArray) (Yl.load rfl (Lds.agg (cs := (PartDx.cells x146)) Try.isAgg48 Try.sizeOf48 ((H137.ro hx1).elem PartDx.len hx147 (by decide)))) ?_)))))))
 refine npw [.int .i64 0, .slice none 0 0, .slice none 0 0] 48 H137 ?_
 intro g153 w154 H155
 refine Az rfl ?_
 refine sto (PartDx.cells x146) 0 H155 Try.sizeOf48 ?_
 intro w156 H157
 refine ns (Kz (.pointer (some ⟨g153, 2, none⟩)) (Lz (.slice x146.xFrom.A x146.xFrom.ls.length x146.xFrom.c) H157 0 Try.isAgg45 (Kz (.int .i64 ((x146.xFrom.ls.length : Nat) : Int)) (Mn rfl (bo ?_)))))
 have H166 := H157.pk [1, 2, 3, 4, 5]
 obtain ⟨I170, hI171⟩ : ∃ q : (Bool × Nat × Bool × (List UInt8) × (Option Addr) × Nat × (List PairD)) → World → Prop, q = fun (i : Bool × Nat × Bool × (List UInt8) × (Option Addr) × Nat × (List PairD)) w' => Own w D w' [blk g121 [.bool i.2.2.1, .string ⟨List.toArray i.2.2.2.1⟩, .slice i.2.2.2.2.1 i.2.2.2.2.2.2.length i.2.2.2.2.2.1] 56, blk g116 (OpD.cells x113) 74, row A93 l95.length c94 (List.flatMap ResultD.cells d96) 56 3, sepL (List.flatMap ResultD.own d96), row i.2.2.2.2.1 i.2.2.2.2.2.2.length i.2.2.2.2.2.1 (List.flatMap PairD.cells i.2.2.2.2.2.2) 58 2] ∧ (i.2.1 ≤ x146.xFrom.ls.length ∧ i.2.2.2.2.2.2.length ≤ seen l2 k128 i.2.1 ∧ r17_Gather_L4 l2 x113 k128 k97 x146.xFrom.ls b127 0 b129 s130 l133 = r17_Gather_L4 l2 x113 k128 k97 (List.drop i.2.1 x146.xFrom.ls) i.1 i.2.1 i.2.2.1 i.2.2.2.1 i.2.2.2.2.2.2) := ⟨_, rfl⟩
 have dm172 : ∀ {b158 : Bool} {k159 : Nat} {b160 : Bool} {s161 : List UInt8} {A162 : Option Addr} {c163 : Nat} {l164 : List PairD} {w' : World}, I170 (b158, k159, b160, s161, A162, c163, l164) w' ↔ Own w D w' [blk g121 [.bool b160, .string ⟨List.toArray s161⟩, .slice A162 l164.length c163] 56, blk g116 (OpD.cells x113) 74, row A93 l95.length c94 (List.flatMap ResultD.cells d96) 56 3, sepL (List.flatMap ResultD.own d96), row A162 l164.length c163 (List.flatMap PairD.cells l164) 58 2] ∧ k159 ≤ x146.xFrom.ls.length ∧ l164.length ≤ seen l2 k128 k159 ∧ r17_Gather_L4 l2 x113 k128 k97 x146.xFrom.ls b127 0 b129 s130 l133 = r17_Gather_L4 l2 x113 k128 k97 (List.drop k159 x146.xFrom.ls) b158 k159 b160 s161 l164 := by intros; subst hI171; exact Iff.rfl
 refine Wp.loop (fun i : Bool × Nat × Bool × (List UInt8) × (Option Addr) × Nat × (List PairD) => [(16, .bool i.1), (89, .int .i64 ((i.2.1 : Nat) : Int)), (88, .int .i64 ((x146.xFrom.ls.length : Nat) : Int)), (87, .slice x146.xFrom.A x146.xFrom.ls.length x146.xFrom.c), (17, .int .i64 ((k128 : Nat) : Int)), (81, .int .i64 ((k128 : Nat) : Int)), (80, .int .i64 ((l1.length : Nat) : Int)), (79, .slice A1 l1.length c1), (15, .pointer (some ⟨g121, 0, none⟩)), (13, .int .i64 ((k97 : Nat) : Int)), (14, .pointer (some ⟨g116, 0, none⟩)), (12, .slice A93 l95.length c94), (73, .int .i64 ((k97 : Nat) : Int)), (72, .int .i64 ((l0.length : Nat) : Int)), (71, .slice A0 l0.length c0), (6, .slice none 0 0), (7, .int .i64 0), (1, .slice A1 l1.length c1), (2, .slice A2 l2.length c2)]) I170 (fun i => x146.xFrom.ls.length - i.2.1) (b127, 0, b129, s130, A131, c132, l133) ⟨rfl, rfl, rfl, rfl, rfl, rfl, rfl, rfl, rfl, rfl, rfl, rfl, rfl, rfl, rfl, rfl, rfl, rfl, rfl, trivial⟩ (dm172.2 ⟨H166, by omega, by first | (rw [seen_0]; assumption) | first | exact Nat.le_trans (by assumption) (seen_mono _ _ _) | (rw [seen_at (by assumption) (by assumption)]; simp only [ResultD.abs]; omega) | assumption | omega, rfl⟩) ?_
 rintro ⟨b158, k159, b160, s161, A162, c163, l164⟩ w167 hf169
 show Wp _ _ _ [(16, .bool b158), (89, .int .i64 ((k159 : Nat) : Int)), (88, .int .i64 ((x146.xFrom.ls.length : Nat) : Int)), (87, .slice x146.xFrom.A x146.xFrom.ls.length x146.xFrom.c), (17, .int .i64 ((k128 : Nat) : Int)), (81, .int .i64 ((k128 : Nat) : Int)), (80, .int .i64 ((l1.length : Nat) : Int)), (79, .slice A1 l1.length c1), (15, .pointer (some ⟨g121, 0, none⟩)), (13, .int .i64 ((k97 : Nat) : Int)), (14, .pointer (some ⟨g116, 0, none⟩)), (12, .slice A93 l95.length c94), (73, .int .i64 ((k97 : Nat) : Int)), (72, .int .i64 ((l0.length : Nat) : Int)), (71, .slice A0 l0.length c0), (6, .slice none 0 0), (7, .int .i64 0), (1, .slice A1 l1.length c1), (2, .slice A2 l2.length c2)] _ _
 obtain ⟨H168, hi174, hi175, hq173⟩ := dm172.1 hf169
 refine sr (Kz (.bool (decide (((k159 : Nat) : Int) < ((x146.xFrom.ls.length : Nat) : Int)))) (nt (Wp.seq ?_)))
 by_cases h176 : ((k159 : Nat) : Int) < ((x146.xFrom.ls.length : Nat) : Int)
 obtain ⟨x177, hx178⟩ := rds_at (ls := x146.xFrom.ls) (i := k159) eI_len (by decide) (H168.ro (hm1 _ (List.mem_of_getElem? hx147)).2.2.1) (by first | omega | (simp; done) | (simp; omega))
 have hd179 := drop_at hx178
 refine jT (dT h176) (sk (Wp.seq (bo (sr (Mz rfl (fw (.pointer (some ⟨ab x146.xFrom.A, ao x146.xFrom.A + k159 * 1, none⟩)) (Yl.indexAddr (El45) rfl rfl ((H168.ro (hm1 _ (List.mem_of_getElem? hx147)).2.2.1).addr (i := k159) (by omega)) (by omega)) (fw (.int .i64 x177) (Yl.load rfl (Lds.one Try.isAgg3 (((H168.ro (hm1 _ (List.mem_of_getElem? hx147)).2.2.1).elem eI_len hx178 (by decide)).at_ (k := 0) rfl))) (Az rfl (An rfl (Wp.seq (sr (Mz rfl (Mz rfl (fw (.bool (decide (¬ (x177 = ((k97 : Nat) : Int))))) (Yl.bool (e := !(decide (x177 = ((k97 : Nat) : Int)))) yk decide_not.symm) (nt ?_)))))))))))))))
 by_cases h180 : x177 = ((k97 : Nat) : Int)
 refine jF (dF (not_not_intro h180)) (sk (sr (Mz rfl (Mz rfl ?_))))
 obtain ⟨x181, hx182⟩ := rds_at (ls := d2) (i := k128) svLen (by decide) (H168.ro hx2) (by first | omega | (simp; done) | (simp; omega))
 have hX183 := abs_at hd2 hx182
 have hb184 := (hm2 _ (List.mem_of_getElem? hx182)).2.1
 have hl185 : List.length (List.map ResultD.abs x181.ls) = x181.ls.length := List.length_map ..
 have hz186 : x181.ls.length = List.length (List.getD l2 k128 default).ls := by rw [gd_at hX183]; exact (List.length_map ..).symm
 refine fw (.pointer (some ⟨ab A2, ao A2 + k128 * 1, none⟩)) (Yl.indexAddr (El43) rfl rfl ((H168.ro hx2).addr (i := k128) (by omega)) (by omega)) (fw (.slice x181.A x181.ls.length x181.c) (Yl.load rfl (Lds.one Try.isAgg49 (((H168.ro hx2).elem svLen hx182 (by decide)).at_ (k := 0) rfl))) (Mz rfl ?_))
 obtain ⟨x187, hx188⟩ := rds_at (ls := x181.ls) (i := k159) ResultD.len (by decide) (H168.ro (hm2 _ (List.mem_of_getElem? hx182)).1) (by first | omega | (simp; done) | (simp; omega))
 have hX189 := abs_at (rfl : List.map ResultD.abs x181.ls = List.map ResultD.abs x181.ls) hx188
 have hb190 := ((hm2 _ (List.mem_of_getElem? hx182)).2.2 _ (List.mem_of_getElem? hx188)).2
 have hz191 : seen l2 k128 k159 + (x187.xPairs.ls.length + 1) ≤ 100000000 := by have q9 := seen_at hX183 hX189; have q8 := seen_le l2 k128 (k159 + 1); simp only [ResultD.abs] at q9; omega
 refine fw (.pointer (some ⟨ab x181.A, ao x181.A + k159 * 3, none⟩)) (Yl.indexAddr (El49) rfl rfl ((H168.ro (hm2 _ (List.mem_of_getElem? hx182)).1).addr (i := k159) (by omega)) (by omega)) (fw (.agg (ResultD.cells x187).toArray) (Yl.load rfl (Lds.agg (cs := (ResultD.cells x187)) Try.isAgg56 Try.sizeOf56 ((H168.ro (hm2 _ (List.mem_of_getElem? hx182)).1).elem ResultD.len hx188 (by decide)))) ?_)
 refine npw [.bool false, .string ⟨List.toArray ([])⟩, .slice none 0 0] 56 H168 ?_
 intro g192 w193 H194
 refine sto (ResultD.cells x187) 0 H194 Try.sizeOf56 ?_
 intro w195 H196
 refine nt (Wp.seq (sr (Kz (.pointer (some ⟨g116, 0, none⟩)) (Lz (.int .i64 x113.xKind) H196 2 Try.isAgg3 (Kz (.bool (decide (x113.xKind = 4))) (nt ?_))))))
 by_cases h197 : x113.xKind = 4
 refine jT (dT h197) (sr (Kz (.pointer (some ⟨g192, 2, none⟩)) (Lz (.slice x187.xPairs.A x187.xPairs.ls.length x187.xPairs.c) H196 0 Try.isAgg54 (Kz (.int .i64 ((x187.xPairs.ls.length : Nat) : Int)) (Mn rfl (bo ?_))))))
 have H203 := H196.pk [1, 2, 3, 4, 5]
 obtain ⟨I207, hI208⟩ : ∃ q : (Nat × (Option Addr) × Nat × (List PairD)) → World → Prop, q = fun (i : Nat × (Option Addr) × Nat × (List PairD)) w' => Own w D w' [blk g121 [.bool b160, .string ⟨List.toArray s161⟩, .slice i.2.1 i.2.2.2.length i.2.2.1] 56, blk g116 (OpD.cells x113) 74, row A93 l95.length c94 (List.flatMap ResultD.cells d96) 56 3, sepL (List.flatMap ResultD.own d96), row i.2.1 i.2.2.2.length i.2.2.1 (List.flatMap PairD.cells i.2.2.2) 58 2] ∧ (i.1 ≤ x187.xPairs.ls.length ∧ i.2.2.2.length = l164.length + i.1 ∧ i.2.2.2.length ≤ l164.length + i.1 ∧ i.2.2.2.length ≤ seen l2 k128 k159 + i.1 ∧ r17_Gather_L5 k159 b160 s161 x187.xPairs.ls l164 = r17_Gather_L5 k159 b160 s161 (List.drop i.1 x187.xPairs.ls) i.2.2.2) := ⟨_, rfl⟩
 have dm209 : ∀ {k198 : Nat} {A199 : Option Addr} {c200 : Nat} {l201 : List PairD} {w' : World}, I207 (k198, A199, c200, l201) w' ↔ Own w D w' [blk g121 [.bool b160, .string ⟨List.toArray s161⟩, .slice A199 l201.length c200] 56, blk g116 (OpD.cells x113) 74, row A93 l95.length c94 (List.flatMap ResultD.cells d96) 56 3, sepL (List.flatMap ResultD.own d96), row A199 l201.length c200 (List.flatMap PairD.cells l201) 58 2] ∧ k198 ≤ x187.xPairs.ls.length ∧ l201.length = l164.length + k198 ∧ l201.length ≤ l164.length + k198 ∧ l201.length ≤ seen l2 k128 k159 + k198 ∧ r17_Gather_L5 k159 b160 s161 x187.xPairs.ls l164 = r17_Gather_L5 k159 b160 s161 (List.drop k198 x187.xPairs.ls) l201 := by intros; subst hI208; exact Iff.rfl
 refine Wp.loop (fun i : Nat × (Option Addr) × Nat × (List PairD) => [(110, .int .i64 ((i.1 : Nat) : Int)), (109, .int .i64 ((x187.xPairs.ls.length : Nat) : Int)), (108, .slice x187.xPairs.A x187.xPairs.ls.length x187.xPairs.c), (16, .bool b158), (89, .int .i64 ((k159 : Nat) : Int)), (88, .int .i64 ((x146.xFrom.ls.length : Nat) : Int)), (87, .slice x146.xFrom.A x146.xFrom.ls.length x146.xFrom.c), (17, .int .i64 ((k128 : Nat) : Int)), (81, .int .i64 ((k128 : Nat) : Int)), (80, .int .i64 ((l1.length : Nat) : Int)), (79, .slice A1 l1.length c1), (15, .pointer (some ⟨g121, 0, none⟩)), (13, .int .i64 ((k97 : Nat) : Int)), (14, .pointer (some ⟨g116, 0, none⟩)), (12, .slice A93 l95.length c94), (73, .int .i64 ((k97 : Nat) : Int)), (72, .int .i64 ((l0.length : Nat) : Int)), (71, .slice A0 l0.length c0), (6, .slice none 0 0), (7, .int .i64 0), (1, .slice A1 l1.length c1), (2, .slice A2 l2.length c2)]) I207 (fun i => x187.xPairs.ls.length - i.1) (0, A162, c163, l164) ⟨rfl, rfl, rfl, rfl, rfl, rfl, rfl, rfl, rfl, rfl, rfl, rfl, rfl, rfl, rfl, rfl, rfl, rfl, rfl, rfl, rfl, rfl, trivial⟩ (dm209.2 ⟨H203, by omega, by omega, by omega, by omega, rfl⟩) ?_
 rintro ⟨k198, A199, c200, l201⟩ w204 hf206
 show Wp _ _ _ [(110, .int .i64 ((k198 : Nat) : Int)), (109, .int .i64 ((x187.xPairs.ls.length : Nat) : Int)), (108, .slice x187.xPairs.A x187.xPairs.ls.length x187.xPairs.c), (16, .bool b158), (89, .int .i64 ((k159 : Nat) : Int)), (88, .int .i64 ((x146.xFrom.ls.length : Nat) : Int)), (87, .slice x146.xFrom.A x146.xFrom.ls.length x146.xFrom.c), (17, .int .i64 ((k128 : Nat) : Int)), (81, .int .i64 ((k128 : Nat) : Int)), (80, .int .i64 ((l1.length : Nat) : Int)), (79, .slice A1 l1.length c1), (15, .pointer (some ⟨g121, 0, none⟩)), (13, .int .i64 ((k97 : Nat) : Int)), (14, .pointer (some ⟨g116, 0, none⟩)), (12, .slice A93 l95.length c94), (73, .int .i64 ((k97 : Nat) : Int)), (72, .int .i64 ((l0.length : Nat) : Int)), (71, .slice A0 l0.length c0), (6, .slice none 0 0), (7, .int .i64 0), (1, .slice A1 l1.length c1), (2, .slice A2 l2.length c2)] _ _
 obtain ⟨H205, hi211, hi212, hi213, hi214, hq210⟩ := dm209.1 hf206
 refine sr (Kz (.bool (decide (((k198 : Nat) : Int) < ((x187.xPairs.ls.length : Nat) : Int)))) (nt (Wp.seq ?_)))
 by_cases h215 : ((k198 : Nat) : Int) < ((x187.xPairs.ls.length : Nat) : Int)
 obtain ⟨x216, hx217⟩ := rds_at (ls := x187.xPairs.ls) (i := k198) PairD.len (by decide) (H205.ro ((hm2 _ (List.mem_of_getElem? hx182)).2.2 _ (List.mem_of_getElem? hx188)).1) (by first | omega | (simp; done) | (simp; omega))
 have hd218 := drop_at hx217
 refine jT (dT h215) (sk (Wp.seq (bo (sr (fw (.pointer (some ⟨ab x187.xPairs.A, ao x187.xPairs.A + k198 * 2, none⟩)) (Yl.indexAddr (El54) rfl rfl ((H205.ro ((hm2 _ (List.mem_of_getElem? hx182)).2.2 _ (List.mem_of_getElem? hx188)).1).addr (i := k198) (by omega)) (by omega)) (fw (.agg (PairD.cells x216).toArray) (Yl.load rfl (Lds.agg (cs := (PairD.cells x216)) Try.isAgg58 Try.sizeOf58 ((H205.ro ((hm2 _ (List.mem_of_getElem? hx182)).2.2 _ (List.mem_of_getElem? hx188)).1).elem PairD.len hx217 (by decide)))) ?_))))))
 refine npw [.string ⟨List.toArray ([])⟩, .string ⟨List.toArray ([])⟩] 58 H205 ?_
 intro g219 w220 H221
 refine sto (PairD.cells x216) 0 H221 Try.sizeOf58 ?_
 intro w222 H223
 refine nt (Wp.region (Kz (.pointer (some ⟨g121, 2, none⟩)) (Lz (.slice A199 l201.length c200) H223 1 Try.isAgg54 (La (PairD.cells x216) H223 0 Try.isAgg58 Try.sizeOf58 ?_))))
 have hb229 := H223.rowC (i := 5) rfl
 obtain ⟨r230, hr231⟩ : ∃ q, r17_in l201 x216 = q := ⟨_, rfl⟩
 obtain ⟨D224, HP225, ro226, bk227, rr228⟩ := Own.enter0 H223
 refine cl Try.call46 (r17_in_ok _ _ A199 l201.length c200 l201 x216 r230 HP225 (rr228 _ 5 _ rfl row_rds) rfl (by omega) (by first | omega | (simp only [List.length_take, List.length_drop]; omega) | exact Nat.le_refl _) (by omega) hr231) ?_
 rintro _ w232 ⟨A235, c236, rfl, HQ233, hk237⟩
 have H234 := bk227 _ _ HQ233
 have hb238 := H234.rowC (i := 0) rfl
 replace hk237 : r230.length = l201.length + 1 := hk237
 refine Kz (.pointer (some ⟨g121, 2, none⟩)) ?_
 have H239 := H234.pk [2, 0, 1, 3, 4, 5, 6]
 refine sto [.slice A235 r230.length c236] 2 H239 Try.sizeOf54 ?_
 intro w240 H241
 refine WL.nil (bN (Fin.then ?_))
 have H242 := H241.pk [0, 1, 3, 4, 5, 6]
 refine Wp.region (fw (.int .i64 ((k198 + 1 : Nat) : Int)) (Yl.int (e := IntKind.i64.wrap (((k198 : Nat) : Int) + 1)) yk (by rw [IntWalk.i64_in _ (by omega)]; omega)) (Mz rfl (WL.nil ?_)))
 have H243 := H242.pk [0, 2, 3, 4, 1]
 exact Fin.round (k198 + 1, A235, c236, r230) ⟨rfl, rfl, rfl, rfl, rfl, rfl, rfl, rfl, rfl, rfl, rfl, rfl, rfl, rfl, rfl, rfl, rfl, rfl, rfl, rfl, rfl, rfl, trivial⟩ (dm209.2 ⟨H243, by omega, by omega, by omega, by omega, et (hq210) (et (congrArg (fun q => r17_Gather_L5 k159 b160 s161 q l201) hd218) (bnd_of hr231))⟩) (by show x187.xPairs.ls.length - (k198 + 1) < x187.xPairs.ls.length - k198; omega)
 refine jF (dF h215) (Wp.exit (Fin.thenX ?_))
 have hL244 : r17_Gather_L5 k159 b160 s161 x187.xPairs.ls l164 = l201 := et (hq210) (et (congrArg (fun q => r17_Gather_L5 k159 b160 s161 q l201) (drop_end (ls := x187.xPairs.ls) (i := k198) (by omega))) rfl)
 refine Fin.thenX (Fin.blockX (Fin.then (Wp.region (Az rfl (WL.nil (bN (Fin.then (Wp.region (fw (.int .i64 ((k159 + 1 : Nat) : Int)) (Yl.int (e := IntKind.i64.wrap (((k159 : Nat) : Int) + 1)) yk (by rw [IntWalk.i64_in _ (by omega)]; omega)) (Mz rfl (WL.nil ?_)))))))))))
 have H245 := H205.pk [0, 1, 2, 3, 4]
 exact Fin.round (false, k159 + 1, b160, s161, A199, c200, l201) ⟨rfl, rfl, rfl, rfl, rfl, rfl, rfl, rfl, rfl, rfl, rfl, rfl, rfl, rfl, rfl, rfl, rfl, rfl, rfl, trivial⟩ (dm172.2 ⟨H245, (show (k159 + 1) ≤ x146.xFrom.ls.length ∧ l201.length ≤ seen l2 k128 (k159 + 1) ∧ r17_Gather_L4 l2 x113 k128 k97 x146.xFrom.ls b127 0 b129 s130 l133 = r17_Gather_L4 l2 x113 k128 k97 (List.drop (k159 + 1) x146.xFrom.ls) false (k159 + 1) b160 s161 l201 from ⟨by omega, by first | (rw [seen_0]; assumption) | first | exact Nat.le_trans (by assumption) (seen_mono _ _ _) | (rw [seen_at (by assumption) (by assumption)]; simp only [ResultD.abs]; omega) | assumption | omega, Eq.trans (hq173) (Eq.trans (congrArg (fun q => r17_Gather_L4 l2 x113 k128 k97 q b158 k159 b160 s161 l164) hd179) (Eq.trans (if_pos h180) (Eq.trans (bnd_of (getD_of hX183)) (Eq.trans (bnd_of (getD_of hX189)) (Eq.trans (if_pos h197) (bnd_of hL244))))))⟩)⟩) (by show x146.xFrom.ls.length - (k159 + 1) < x146.xFrom.ls.length - k159; omega)
 refine jF (dF h197) (sr (Mn rfl ?_))
 rcases Bool.eq_false_or_eq_true (b158) with h246 | h246
 refine jT h246 ?_
 have H247 := H196.pk [0, 2, 3, 4, 5, 1]
 have H249 := H247.drew
 refine Wp.drawnX [] (fun W => ∃ L', Own w D W ([blk g192 (ResultD.cells x187) 56, blk g116 (OpD.cells x113) 74, row A93 l95.length c94 (List.flatMap ResultD.cells d96) 56 3, sepL (List.flatMap ResultD.own d96), row A162 l164.length c163 (List.flatMap PairD.cells l164) 58 2] ++ L')) (by kernel_rfl) (by kernel_rfl) (NoP.then (NoP.block (NoP.then (NoP.then (NoP.block (NoP.block (NoP.then (NoP.then (NoP.block (NoP.then (NoP.block (NoP.then (NoP.then (NoP.block (NoP.then NoP.base))))))))))))))) ⟨_, H249⟩ ?_
 revert H249
 generalize World.drew w195 = w248
 intro H249
 refine GX.take (v := .pointer (some ⟨g192, 0, none⟩)) (rs := []) 0 rfl (by kernel_rfl) (fun _ _ => yk) (GX.take (v := .bool x187.xFound) (rs := []) 1 rfl (by kernel_rfl) (fun _ ⟨_, H9⟩ => Yl.load rfl (Lds.one Try.isAgg4 (Cls.of (H9.cls (i := 0) rfl) rfl))) (GX.take (v := .pointer (some ⟨g192, 1, none⟩)) (rs := []) 2 rfl (by kernel_rfl) (fun _ _ => yk) (GX.take (v := .string ⟨List.toArray x187.xValue⟩) (rs := []) 3 rfl (by kernel_rfl) (fun _ ⟨_, H9⟩ => Yl.load rfl (Lds.one Try.isAgg9 (Cls.of (H9.cls (i := 0) rfl) rfl))) (GX.take (v := .pointer (some ⟨g192, 2, none⟩)) (rs := []) 4 rfl (by kernel_rfl) (fun _ _ => yk) (GX.take (v := .slice x187.xPairs.A x187.xPairs.ls.length x187.xPairs.c) (rs := []) 5 rfl (by kernel_rfl) (fun _ ⟨_, H9⟩ => Yl.load rfl (Lds.one Try.isAgg54 (Cls.of (H9.cls (i := 0) rfl) rfl))) ?_)))))
 have H250 : Own w D w248 [row none 0 0 (List.flatMap PairD.cells ([])) 58 2, blk g192 (ResultD.cells x187) 56, blk g116 (OpD.cells x113) 74, row A93 l95.length c94 (List.flatMap ResultD.cells d96) 56 3, sepL (List.flatMap ResultD.own d96), row A162 l164.length c163 (List.flatMap PairD.cells l164) 58 2, blk g121 [.bool b160, .string ⟨List.toArray s161⟩, .slice A162 l164.length c163] 56] := H249.free (row_nil 58 2)
 refine GX.do 6 rfl (by kernel_rfl) (Do.appendW (k := 0) (m := x187.xPairs.ls.length) (El54) H250 rfl rfl (src_of Try.underlying54 (H250.ro ((hm2 _ (List.mem_of_getElem? hx182)).2.2 _ (List.mem_of_getElem? hx188)).1) (flat_one PairD.one x187.xPairs.ls)) rfl (by omega) (s := x187.xPairs.ls.length) (by omega) rfl ?_)
 intro A251 c252 w253 H254
 have H255 := H254.pk [1, 2, 3, 4, 5, 0, 6]
 refine ⟨.inr ⟨_, H255⟩, ?_⟩
 refine GX.take (v := .agg #[.bool x187.xFound, .string ⟨List.toArray x187.xValue⟩, .slice A251 x187.xPairs.ls.length c252]) (rs := []) 7 rfl (by kernel_rfl) (fun _ _ => yk) ?_
 have H256 := H255.pk [6, 0, 1, 2, 3, 4, 5]
 refine GX.do0 8 rfl (by kernel_rfl) (Do.store (vs := [.bool x187.xFound, .string ⟨List.toArray x187.xValue⟩, .slice A251 x187.xPairs.ls.length c252]) (o := 0) H256 rfl rfl Try.sizeOf56 rfl rfl rfl rfl ?_)
 intro w257 H258
 have H259 := H258.pk [1, 2, 3, 4, 5, 0, 6]
 refine ⟨.inr ⟨_, H259⟩, ?_⟩
 refine GX.done (by kernel_rfl) (Fin.then ?_)
 have H260 := H259.pk [1, 2, 3, 4, 5, 6]
 refine Wp.region (Az rfl (WL.nil (bN (Fin.then (Wp.region (fw (.int .i64 ((k159 + 1 : Nat) : Int)) (Yl.int (e := IntKind.i64.wrap (((k159 : Nat) : Int) + 1)) yk (by rw [IntWalk.i64_in _ (by omega)]; omega)) (Mz rfl (WL.nil ?_))))))))
 have H261 := H260.pk [4, 0, 1, 2, 5]
 exact Fin.round (false, k159 + 1, x187.xFound, x187.xValue, A251, c252, x187.xPairs.ls) ⟨rfl, rfl, rfl, rfl, rfl, rfl, rfl, rfl, rfl, rfl, rfl, rfl, rfl, rfl, rfl, rfl, rfl, rfl, rfl, trivial⟩ (dm172.2 ⟨H261, (show (k159 + 1) ≤ x146.xFrom.ls.length ∧ x187.xPairs.ls.length ≤ seen l2 k128 (k159 + 1) ∧ r17_Gather_L4 l2 x113 k128 k97 x146.xFrom.ls b127 0 b129 s130 l133 = r17_Gather_L4 l2 x113 k128 k97 (List.drop (k159 + 1) x146.xFrom.ls) false (k159 + 1) x187.xFound x187.xValue x187.xPairs.ls from ⟨by omega, by first | (rw [seen_0]; assumption) | first | exact Nat.le_trans (by assumption) (seen_mono _ _ _) | (rw [seen_at (by assumption) (by assumption)]; simp only [ResultD.abs]; omega) | assumption | omega, Eq.trans (hq173) (Eq.trans (congrArg (fun q => r17_Gather_L4 l2 x113 k128 k97 q b158 k159 b160 s161 l164) hd179) (Eq.trans (if_pos h180) (Eq.trans (bnd_of (getD_of hX183)) (Eq.trans (bnd_of (getD_of hX189)) (Eq.trans (if_neg h197) (if_pos h246))))))⟩)⟩) (by show x146.xFrom.ls.length - (k159 + 1) < x146.xFrom.ls.length - k159; omega)
 refine jF h246 (sk ?_)
 have H262 := H196.pk [1, 2, 3, 4, 5]
 refine Wp.region (Az rfl (WL.nil (bN (Fin.then (Wp.region (fw (.int .i64 ((k159 + 1 : Nat) : Int)) (Yl.int (e := IntKind.i64.wrap (((k159 : Nat) : Int) + 1)) yk (by rw [IntWalk.i64_in _ (by omega)]; omega)) (Mz rfl (WL.nil ?_))))))))
 have H263 := H262.pk [0, 1, 2, 3, 4]
 exact Fin.round (false, k159 + 1, b160, s161, A162, c163, l164) ⟨rfl, rfl, rfl, rfl, rfl, rfl, rfl, rfl, rfl, rfl, rfl, rfl, rfl, rfl, rfl, rfl, rfl, rfl, rfl, trivial⟩ (dm172.2 ⟨H263, (show (k159 + 1) ≤ x146.xFrom.ls.length ∧ l164.length ≤ seen l2 k128 (k159 + 1) ∧ r17_Gather_L4 l2 x113 k128 k97 x146.xFrom.ls b127 0 b129 s130 l133 = r17_Gather_L4 l2 x113 k128 k97 (List.drop (k159 + 1) x146.xFrom.ls) false (k159 + 1) b160 s161 l164 from ⟨by omega, by first | (rw [seen_0]; assumption) | first | exact Nat.le_trans (by assumption) (seen_mono _ _ _) | (rw [seen_at (by assumption) (by assumption)]; simp only [ResultD.abs]; omega) | assumption | omega, Eq.trans (hq173) (Eq.trans (congrArg (fun q => r17_Gather_L4 l2 x113 k128 k97 q b158 k159 b160 s161 l164) hd179) (Eq.trans (if_pos h180) (Eq.trans (bnd_of (getD_of hX183)) (Eq.trans (bnd_of (getD_of hX189)) (Eq.trans (if_neg h197) (ifF h246))))))⟩)⟩) (by show x146.xFrom.ls.length - (k159 + 1) < x146.xFrom.ls.length - k159; omega)
 refine jT (dT h180) (Wp.exit (Fin.thenX (Fin.blockX (Fin.then (Wp.region (fw (.int .i64 ((k159 + 1 : Nat) : Int)) (Yl.int (e := IntKind.i64.wrap (((k159 : Nat) : Int) + 1)) yk (by rw [IntWalk.i64_in _ (by omega)]; omega)) (Mz rfl (WL.nil ?_))))))))
 have H264 := H168.pk [0, 1, 2, 3, 4]
 exact Fin.round (b158, k159 + 1, b160, s161, A162, c163, l164) ⟨rfl, rfl, rfl, rfl, rfl, rfl, rfl, rfl, rfl, rfl, rfl, rfl, rfl, rfl, rfl, rfl, rfl, rfl, rfl, trivial⟩ (dm172.2 ⟨H264, by omega, by first | (rw [seen_0]; assumption) | first | exact Nat.le_trans (by assumption) (seen_mono _ _ _) | (rw [seen_at (by assumption) (by assumption)]; simp only [ResultD.abs]; omega) | assumption | omega, Eq.trans (hq173) (Eq.trans (congrArg (fun q => r17_Gather_L4 l2 x113 k128 k97 q b158 k159 b160 s161 l164) hd179) (if_neg h180))⟩) (by show x146.xFrom.ls.length - (k159 + 1) < x146.xFrom.ls.length - k159; omega)
 refine jF (dF h176) (Wp.exit (Fin.thenX ?_))
 have hL265 : r17_Gather_L4 l2 x113 k128 k97 x146.xFrom.ls b127 0 b129 s130 l133 = (b158, b160, s161, l164) := et (hq173) (et (congrArg (fun q => r17_Gather_L4 l2 x113 k128 k97 q b158 k159 b160 s161 l164) (drop_end (ls := x146.xFrom.ls) (i := k159) (by omega))) rfl)
 refine Fin.thenX (Fin.blockX (bN (Fin.then (Wp.region (fw (.int .i64 ((k128 + 1 : Nat) : Int)) (Yl.int (e := IntKind.i64.wrap (((k128 : Nat) : Int) + 1)) yk (by rw [IntWalk.i64_in _ (by omega)]; omega)) (Mz rfl (WL.nil ?_)))))))
 have H266 := H168.pk [0, 1, 2, 3, 4]
 exact Fin.round (b158, k128 + 1, b160, s161, A162, c163, l164) ⟨rfl, rfl, rfl, rfl, rfl, rfl, rfl, rfl, rfl, rfl, rfl, rfl, rfl, rfl, rfl, trivial⟩ (dm141.2 ⟨H266, by omega, by first | exact Nat.zero_le _ | exact seen_end2 (by assumption) (by omega), et (hq142) (et (congrArg (fun q => r17_Gather_L3 l2 x113 l95 k97 q b127 k128 b129 s130 l133) hd152) (bnd_of hL265))⟩) (by show l1.length - (k128 + 1) < l1.length - k128; omega)
 refine jF (dF h145) (Wp.exit (Fin.thenX ?_))
 have hL267 : r17_Gather_L3 l2 x113 l95 k97 l1 true 0 false ([]) ([]) = (b129, s130, l133) := et (hq142) (et (congrArg (fun q => r17_Gather_L3 l2 x113 l95 k97 q b127 k128 b129 s130 l133) (drop_end (ls := l1) (i := k128) (by omega))) rfl)
 refine Fin.thenX (Fin.blockX (Fin.then (Wp.seq (sr (Kz (.pointer (some ⟨g116, 0, none⟩)) (Lz (.int .i64 x113.xKind) H137 1 Try.isAgg3 (Kz (.bool (decide (x113.xKind = 4))) (Mz rfl ?_))))))))
 by_cases h268 : x113.xKind = 4
 refine Gz (.pointer (some ⟨g121, 2, none⟩)) (dT h268) (Gl (.slice A131 l133.length c132) (dT h268) H137 0 Try.isAgg54 (Gz (.int .i64 ((l133.length : Nat) : Int)) (dT h268) (Gz (.pointer (some ⟨g116, 5, none⟩)) (dT h268) (Gl (.int .i64 x113.xMost) (dT h268) H137 1 Try.isAgg3 (gw (.int .i64 (max 0 x113.xMost)) (dT h268) (Yl.int (e := if x113.xMost > 0 then x113.xMost else 0) yk (by omega)) (Gz (.bool (decide (((l133.length : Nat) : Int) > max 0 x113.xMost))) (dT h268) (fw (.bool (decide (((l133.length : Nat) : Int) > max 0 x113.xMost))) (Yl.pickT rfl (dT h268) rfl) (nt ?_))))))))
 by_cases h269 : ((l133.length : Nat) : Int) > max 0 x113.xMost
 refine jT (dT h269) (Wp.region (Kz (.pointer (some ⟨g121, 2, none⟩)) (Lz (.slice A131 l133.length c132) H137 0 Try.isAgg54 (Kz (.pointer (some ⟨g116, 5, none⟩)) (Lz (.int .i64 x113.xMost) H137 1 Try.isAgg3 (fw (.int .i64 ((Int.toNat (max 0 x113.xMost) : Nat) : Int)) (Yl.int (e := max 0 x113.xMost) (Yl.int (e := if x113.xMost > 0 then x113.xMost else 0) yk (by omega)) (by omega)) ?_))))))
 have hb270 := H137.rowC (i := 4) rfl
 refine fw (.slice A131 (Int.toNat (max 0 x113.xMost)) c132) (Yl.cutTo (El54) rfl rfl (by omega)) (Kz (.pointer (some ⟨g121, 2, none⟩)) ?_)
 refine sto [.slice A131 (Int.toNat (max 0 x113.xMost)) c132] 2 H137 Try.sizeOf54 ?_
 intro w271 H272
 have H273 := H272.pk [4, 0, 1, 2, 3]
 have H274 : Own w D w271 [row A131 (Int.toNat (max 0 x113.xMost)) c132 (List.flatMap PairD.cells (List.take (Int.toNat (max 0 x113.xMost)) l133)) 58 2, blk g121 [.bool b129, .string ⟨List.toArray s130⟩, .slice A131 (Int.toNat (max 0 x113.xMost)) c132] 56, blk g116 (OpD.cells x113) 74, row A93 l95.length c94 (List.flatMap ResultD.cells d96) 56 3, sepL (List.flatMap ResultD.own d96)] := Own.rowPart H273 (by omega) (flat_take PairD.len _ _)
 have hl275 : List.length (List.take (Int.toNat (max 0 x113.xMost)) l133) = Int.toNat (max 0 x113.xMost) := by rw [List.length_take]; omega
 have hn276 : Int.toNat (max 0 x113.xMost) = List.length (List.take (Int.toNat (max 0 x113.xMost)) l133) := by first | omega | (simp only [List.length_set]; done) | (simp only [List.length_set, List.length_append, List.length_cons, List.length_nil, List.length_take, List.length_drop, List.length_replicate]; omega)
 have H277 : Own w D w271 [row A131 (List.length (List.take (Int.toNat (max 0 x113.xMost)) l133)) c132 (List.flatMap PairD.cells (List.take (Int.toNat (max 0 x113.xMost)) l133)) 58 2, blk g121 [.bool b129, .string ⟨List.toArray s130⟩, .slice A131 (List.length (List.take (Int.toNat (max 0 x113.xMost)) l133)) c132] 56, blk g116 (OpD.cells x113) 74, row A93 l95.length c94 (List.flatMap ResultD.cells d96) 56 3, sepL (List.flatMap ResultD.own d96)] := by rw [← hn276]; exact H274
 refine nt ?_
 have H278 := H277.pk [0, 1, 3, 4]
 refine Wp.region (Mz rfl (La ([.bool b129, .string ⟨List.toArray s130⟩, .slice A131 (List.length (List.take (Int.toNat (max 0 x113.xMost)) l133)) c132]) H278 1 Try.isAgg56 Try.sizeOf56 ?_))
 refine nrw [.bool b129, .string ⟨List.toArray s130⟩, .slice A131 (List.length (List.take (Int.toNat (max 0 x113.xMost)) l133)) c132] 56 3 1 H278 ?_
 intro A279 w280 H281
 replace H281 := Own.reh (y := row A279 1 1 (List.flatMap ResultD.cells ([(ResultD.mk b129 s130 (Sv.mk A131 c132 (List.take (Int.toNat (max 0 x113.xMost)) l133)))])) 56 3) rfl H281
 have H282 := H281.pk [3, 4, 1, 0, 2]
 refine WL.do rfl (Do.appendW (k := l95.length) (m := 1) (El49) H282 rfl rfl (src_of Try.underlying49 (H282.rds (i := 3) rfl) (flat_one ResultD.one ([(ResultD.mk b129 s130 (Sv.mk A131 c132 (List.take (Int.toNat (max 0 x113.xMost)) l133)))]))) rfl (by omega) (s := List.length (l95 ++ [(ResultT.mk b129 s130 (Ll.mk (List.take (Int.toNat (max 0 x113.xMost)) l133)))])) (by first | omega | (simp only [List.length_append, List.length_cons, List.length_nil] <;> omega)) (List.flatMap_append).symm ?_)
 intro A283 c284 w285 H286
 have H287 := H286.pk [1, 2, 0, 3, 4]
 have H288 : Own w D w285 [sepL (List.flatMap ResultD.own (d96 ++ [(ResultD.mk b129 s130 (Sv.mk A131 c132 (List.take (Int.toNat (max 0 x113.xMost)) l133)))])), row A283 (List.length (l95 ++ [(ResultT.mk b129 s130 (Ll.mk (List.take (Int.toNat (max 0 x113.xMost)) l133)))])) c284 (List.flatMap ResultD.cells (d96 ++ [(ResultD.mk b129 s130 (Sv.mk A131 c132 (List.take (Int.toNat (max 0 x113.xMost)) l133)))])) 56 3, row A279 1 1 (List.flatMap ResultD.cells ([(ResultD.mk b129 s130 (Sv.mk A131 c132 (List.take (Int.toNat (max 0 x113.xMost)) l133)))])) 56 3, blk g121 [.bool b129, .string ⟨List.toArray s130⟩, .slice A131 (List.length (List.take (Int.toNat (max 0 x113.xMost)) l133)) c132] 56] := H287.sepAdd (L2 := [row A131 (List.length (List.take (Int.toNat (max 0 x113.xMost)) l133)) c132 (List.flatMap PairD.cells (List.take (Int.toNat (max 0 x113.xMost)) l133)) 58 2]) (List.flatMap_append (f := ResultD.own) (xs := d96) (ys := [(ResultD.mk b129 s130 (Sv.mk A131 c132 (List.take (Int.toNat (max 0 x113.xMost)) l133)))])).symm
 have hl289 : List.length (l95 ++ [(ResultT.mk b129 s130 (Ll.mk (List.take (Int.toNat (max 0 x113.xMost)) l133)))]) = l95.length + 1 := by simp only [List.length_append, List.length_cons, List.length_nil]
 have hl290 := abs_len (abs_app (es := [(ResultD.mk b129 s130 (Sv.mk A131 c132 (List.take (Int.toNat (max 0 x113.xMost)) l133)))]) (ms := [(ResultT.mk b129 s130 (Ll.mk (List.take (Int.toNat (max 0 x113.xMost)) l133)))]) hi107 rfl)
 refine Az rfl (WL.nil (bN (Fin.then ?_)))
 have H291 := H288.pk [0, 1]
 refine Wp.region (fw (.int .i64 ((k97 + 1 : Nat) : Int)) (Yl.int (e := IntKind.i64.wrap (((k97 : Nat) : Int) + 1)) yk (by rw [IntWalk.i64_in _ (by omega)]; omega)) (Mz rfl (WL.nil ?_)))
 have H292 := H291.pk [1, 0]
 exact Fin.round (A283, c284, (d96 ++ [(ResultD.mk b129 s130 (Sv.mk A131 c132 (List.take (Int.toNat (max 0 x113.xMost)) l133)))]), (l95 ++ [(ResultT.mk b129 s130 (Ll.mk (List.take (Int.toNat (max 0 x113.xMost)) l133)))]), k97 + 1) ⟨rfl, rfl, rfl, rfl, rfl, rfl, rfl, rfl, trivial⟩ (dm105.2 ⟨H292, by exact (abs_app (es := [(ResultD.mk b129 s130 (Sv.mk A131 c132 (List.take (Int.toNat (max 0 x113.xMost)) l133)))]) (ms := [(ResultT.mk b129 s130 (Ll.mk (List.take (Int.toNat (max 0 x113.xMost)) l133)))]) hi107 rfl), by omega, by omega, by omega, et (hq106) (et (congrArg (fun q => r17_Gather_L2 l1 l2 q l95 k97) hd115) (et (bnd_of hL267) (et (ip h268) (ip h269))))⟩) (by show l0.length - (k97 + 1) < l0.length - k97; omega)
 refine jF (dF h269) (sk ?_)
 have H293 := H137.pk [0, 2, 3, 4]
 refine Wp.region (Mz rfl (La ([.bool b129, .string ⟨List.toArray s130⟩, .slice A131 l133.length c132]) H293 0 Try.isAgg56 Try.sizeOf56 ?_))
 refine nrw [.bool b129, .string ⟨List.toArray s130⟩, .slice A131 l133.length c132] 56 3 1 H293 ?_
 intro A294 w295 H296
 replace H296 := Own.reh (y := row A294 1 1 (List.flatMap ResultD.cells ([(ResultD.mk b129 s130 (Sv.mk A131 c132 l133))])) 56 3) rfl H296
 have H297 := H296.pk [2, 3, 4, 0, 1]
 refine WL.do rfl (Do.appendW (k := l95.length) (m := 1) (El49) H297 rfl rfl (src_of Try.underlying49 (H297.rds (i := 3) rfl) (flat_one ResultD.one ([(ResultD.mk b129 s130 (Sv.mk A131 c132 l133))]))) rfl (by omega) (s := List.length (l95 ++ [(ResultT.mk b129 s130 (Ll.mk l133))])) (by first | omega | (simp only [List.length_append, List.length_cons, List.length_nil] <;> omega)) (List.flatMap_append).symm ?_)
 intro A298 c299 w300 H301
 have H302 := H301.pk [1, 2, 0, 3, 4]
 have H303 : Own w D w300 [sepL (List.flatMap ResultD.own (d96 ++ [(ResultD.mk b129 s130 (Sv.mk A131 c132 l133))])), row A298 (List.length (l95 ++ [(ResultT.mk b129 s130 (Ll.mk l133))])) c299 (List.flatMap ResultD.cells (d96 ++ [(ResultD.mk b129 s130 (Sv.mk A131 c132 l133))])) 56 3, row A294 1 1 (List.flatMap ResultD.cells ([(ResultD.mk b129 s130 (Sv.mk A131 c132 l133))])) 56 3, blk g121 [.bool b129, .string ⟨List.toArray s130⟩, .slice A131 l133.length c132] 56] := H302.sepAdd (L2 := [row A131 l133.length c132 (List.flatMap PairD.cells l133) 58 2]) (List.flatMap_append (f := ResultD.own) (xs := d96) (ys := [(ResultD.mk b129 s130 (Sv.mk A131 c132 l133))])).symm
 have hl304 : List.length (l95 ++ [(ResultT.mk b129 s130 (Ll.mk l133))]) = l95.length + 1 := by simp only [List.length_append, List.length_cons, List.length_nil]
 have hl305 := abs_len (abs_app (es := [(ResultD.mk b129 s130 (Sv.mk A131 c132 l133))]) (ms := [(ResultT.mk b129 s130 (Ll.mk l133))]) hi107 rfl)
 refine Az rfl (WL.nil (bN (Fin.then ?_)))
 have H306 := H303.pk [0, 1]
 refine Wp.region (fw (.int .i64 ((k97 + 1 : Nat) : Int)) (Yl.int (e := IntKind.i64.wrap (((k97 : Nat) : Int) + 1)) yk (by rw [IntWalk.i64_in _ (by omega)]; omega)) (Mz rfl (WL.nil ?_)))
 have H307 := H306.pk [1, 0]
 exact Fin.round (A298, c299, (d96 ++ [(ResultD.mk b129 s130 (Sv.mk A131 c132 l133))]), (l95 ++ [(ResultT.mk b129 s130 (Ll.mk l133))]), k97 + 1) ⟨rfl, rfl, rfl, rfl, rfl, rfl, rfl, rfl, trivial⟩ (dm105.2 ⟨H307, by exact (abs_app (es := [(ResultD.mk b129 s130 (Sv.mk A131 c132 l133))]) (ms := [(ResultT.mk b129 s130 (Ll.mk l133))]) hi107 rfl), by omega, by omega, by omega, et (hq106) (et (congrArg (fun q => r17_Gather_L2 l1 l2 q l95 k97) hd115) (et (bnd_of hL267) (et (ip h268) (iN h269))))⟩) (by show l0.length - (k97 + 1) < l0.length - k97; omega)
 refine Sz (dF h268) (Sz (dF h268) (Sz (dF h268) (Sz (dF h268) (Sz (dF h268) (Sz (dF h268) (Sz (dF h268) (fw (.bool false) (Yl.pickF rfl (dF h268) rfl) (nt (jf (sk ?_))))))))))
 have H308 := H137.pk [0, 2, 3, 4]
 refine Wp.region (Mz rfl (La ([.bool b129, .string ⟨List.toArray s130⟩, .slice A131 l133.length c132]) H308 0 Try.isAgg56 Try.sizeOf56 ?_))
 refine nrw [.bool b129, .string ⟨List.toArray s130⟩, .slice A131 l133.length c132] 56 3 1 H308 ?_
 intro A309 w310 H311
 replace H311 := Own.reh (y := row A309 1 1 (List.flatMap ResultD.cells ([(ResultD.mk b129 s130 (Sv.mk A131 c132 l133))])) 56 3) rfl H311
 have H312 := H311.pk [2, 3, 4, 0, 1]
 refine WL.do rfl (Do.appendW (k := l95.length) (m := 1) (El49) H312 rfl rfl (src_of Try.underlying49 (H312.rds (i := 3) rfl) (flat_one ResultD.one ([(ResultD.mk b129 s130 (Sv.mk A131 c132 l133))]))) rfl (by omega) (s := List.length (l95 ++ [(ResultT.mk b129 s130 (Ll.mk l133))])) (by first | omega | (simp only [List.length_append, List.length_cons, List.length_nil] <;> omega)) (List.flatMap_append).symm ?_)
 intro A313 c314 w315 H316
 have H317 := H316.pk [1, 2, 0, 3, 4]
 have H318 : Own w D w315 [sepL (List.flatMap ResultD.own (d96 ++ [(ResultD.mk b129 s130 (Sv.mk A131 c132 l133))])), row A313 (List.length (l95 ++ [(ResultT.mk b129 s130 (Ll.mk l133))])) c314 (List.flatMap ResultD.cells (d96 ++ [(ResultD.mk b129 s130 (Sv.mk A131 c132 l133))])) 56 3, row A309 1 1 (List.flatMap ResultD.cells ([(ResultD.mk b129 s130 (Sv.mk A131 c132 l133))])) 56 3, blk g121 [.bool b129, .string ⟨List.toArray s130⟩, .slice A131 l133.length c132] 56] := H317.sepAdd (L2 := [row A131 l133.length c132 (List.flatMap PairD.cells l133) 58 2]) (List.flatMap_append (f := ResultD.own) (xs := d96) (ys := [(ResultD.mk b129 s130 (Sv.mk A131 c132 l133))])).symm
 have hl319 : List.length (l95 ++ [(ResultT.mk b129 s130 (Ll.mk l133))]) = l95.length + 1 := by simp only [List.length_append, List.length_cons, List.length_nil]
 have hl320 := abs_len (abs_app (es := [(ResultD.mk b129 s130 (Sv.mk A131 c132 l133))]) (ms := [(ResultT.mk b129 s130 (Ll.mk l133))]) hi107 rfl)
 refine Az rfl (WL.nil (bN (Fin.then ?_)))
 have H321 := H318.pk [0, 1]
 refine Wp.region (fw (.int .i64 ((k97 + 1 : Nat) : Int)) (Yl.int (e := IntKind.i64.wrap (((k97 : Nat) : Int) + 1)) yk (by rw [IntWalk.i64_in _ (by omega)]; omega)) (Mz rfl (WL.nil ?_)))
 have H322 := H321.pk [1, 0]
 exact Fin.round (A313, c314, (d96 ++ [(ResultD.mk b129 s130 (Sv.mk A131 c132 l133))]), (l95 ++ [(ResultT.mk b129 s130 (Ll.mk l133))]), k97 + 1) ⟨rfl, rfl, rfl, rfl, rfl, rfl, rfl, rfl, trivial⟩ (dm105.2 ⟨H322, by exact (abs_app (es := [(ResultD.mk b129 s130 (Sv.mk A131 c132 l133))]) (ms := [(ResultT.mk b129 s130 (Ll.mk l133))]) hi107 rfl), by omega, by omega, by omega, et (hq106) (et (congrArg (fun q => r17_Gather_L2 l1 l2 q l95 k97) hd115) (et (bnd_of hL267) (iN h268)))⟩) (by show l0.length - (k97 + 1) < l0.length - k97; omega)
 refine jF (dF h112) (Wp.exit (Fin.thenX ?_))
 have hL323 : r17_Gather_L2 l1 l2 l0 ([]) 0 = l95 := et (hq106) (et (congrArg (fun q => r17_Gather_L2 l1 l2 q l95 k97) (drop_end (ls := l0) (i := k97) (by omega))) rfl)
 refine Fin.thenX (Fin.blockX (Fin.then (sr (Mz rfl (Az rfl (An rfl (rt (Fin.res (res2 rfl rfl rfl) ?_))))))))
 have H324 := H101.pk [0, 1]
 have e : r17_Gather l0 l1 l2 = (l95, 0) := et (ip h21) (et (lp_l hL90) (bnd_of hL323))
 obtain ⟨rfl, rfl⟩ := pj2 (e.symm.trans hr)
 exact ⟨A93, c94, d96, rfl, H324, hi107⟩
 refine jT (dT h21) (sr (Az rfl (An rfl (rt (tR (Fin.res (res2 rfl rfl rfl) ?_))))))
 have H325 : Own w D w [sepL (List.flatMap ResultD.own ([]))] := H.sepNil
 have H326 : Own w D w [row none 0 0 (List.flatMap ResultD.cells ([])) 56 3, sepL (List.flatMap ResultD.own ([]))] := H325.free (row_nil 56 3)
 have H327 := H326.pk [0, 1]
 have e : r17_Gather l0 l1 l2 = ([], 1) := iN h21
 obtain ⟨rfl, rfl⟩ := pj2 (e.symm.trans hr)
 exact ⟨none, 0, [], rfl, H327, rfl⟩
end Go.Proofs.Ytcjjblkgbfaapaa
