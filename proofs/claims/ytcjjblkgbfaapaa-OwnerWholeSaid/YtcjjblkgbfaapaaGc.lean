/-
 owner: what was told gathered.
-/
import Derived.Test.YtcjjblkgbfaapaaGaM
namespace Go.Proofs.Ytcjjblkgbfaapaa
open Go.RowKit
set_option linter.unusedVariables false
set_option linter.unusedSectionVars false
set_option linter.unusedSimpArgs false
def owner_Gather_L1 (l2 : List (Ll ResultT)) (k41 : Nat) : List Int → Nat → List (Ll ResultT) → (List (Ll ResultT))
  | [], k72, l74 => l74
  | x91 :: q75, k72, l74 => bnd (List.getD l74 (Int.toNat x91) default) fun yx97 => bnd (List.getD l2 k41 default) fun yx102 => bnd (List.getD yx102.ls k72 default) fun yx108 => owner_Gather_L1 l2 k41 q75 (k72 + 1) (List.set l74 (Int.toNat x91) (Ll.mk (yx97.ls ++ [(ResultT.mk yx108.xFound yx108.xValue (Ll.mk yx108.xPairs.ls))])))
def owner_Gather_L0 (l0 : List OpD) (l2 : List (Ll ResultT)) : List PartT → Nat → List (Ll ResultT) → (List (Ll ResultT))
  | [], k41, l43 => l43
  | x60 :: q44, k41, l43 => bnd (owner_Gather_L1 l2 k41 x60.xFrom.ls 0 l43) fun sLrbtLsL => owner_Gather_L0 l0 l2 q44 (k41 + 1) sLrbtLsL
def owner_Gather_L2 (l43 : List (Ll ResultT)) : List OpD → Nat → List ResultT → (List ResultT)
  | [], k144, l146 => l146
  | x161 :: q147, k144, l146 => bnd (List.getD l43 k144 default) fun yx166 => bnd (owner_gatherOp x161 yx166.ls) fun yr177 => owner_Gather_L2 l43 q147 (k144 + 1) (List.set l146 k144 (ResultT.mk yr177.xFound yr177.xValue (Ll.mk yr177.xPairs.ls)))
def owner_Gather (l0 : List OpD) (l1 : List PartT) (l2 : List (Ll ResultT)) : (List ResultT) × Int :=
 bnd (owner_checkParts l0 l1 l2) fun yr26 => if yr26 = 0 then bnd (owner_Gather_L0 l0 l2 l1 0 (List.replicate l0.length (Ll.mk [] : Ll ResultT))) fun sLrbtL => bnd (owner_Gather_L2 sLrbtL l0 0 (List.replicate l0.length (ResultT.mk false ([]) (Ll.mk ([]))))) fun sLrbtLaL => (sLrbtLaL, 0) else ([], yr26)
set_option maxRecDepth 100000 in
theorem owner_Gather_ok (w : World) (D : Nat → Prop) (A0 : Option Addr) (n0 c0 : Nat) (l0 : List OpD) (A1 : Option Addr) (n1 c1 : Nat) (d1 : List PartD) (l1 : List PartT) (A2 : Option Addr) (n2 c2 : Nat) (d2 : List Row49D) (l2 : List (Ll ResultT)) (r0 : List ResultT) (r1 : Int) (H : Own w D w []) (hx0 : Ro w D fun w' => Rds w' 6 A0 n0 (List.flatMap OpD.cells l0)) (hn0 : n0 = l0.length) (hl0 : l0.length * 80 ≤ 211106232532992) (hd1 : List.map PartD.abs d1 = l1) (hx1 : Ro w D fun w' => Rds w' 3 A1 n1 (List.flatMap PartD.cells d1)) (hm1 : ∀ x ∈ d1, Ro w D (fun w' => Rds w' 6 x.xOps.A x.xOps.ls.length (List.flatMap OpD.cells x.xOps.ls)) ∧ (x.xOps.ls.length ≤ x.xOps.c ∧ x.xOps.ls.length ≤ 9223372036854775807) ∧ Ro w D (fun w' => Rds w' 1 x.xFrom.A x.xFrom.ls.length (List.flatMap (eI .i64) x.xFrom.ls)) ∧ (x.xFrom.ls.length ≤ x.xFrom.c ∧ x.xFrom.ls.length ≤ 9223372036854775807)) (hn1 : n1 = l1.length) (hl1 : l1.length * 56 ≤ 211106232532992) (hd2 : List.map Row49D.abs d2 = l2) (hx2 : Ro w D fun w' => Rds w' 1 A2 n2 (List.flatMap (Sv.enc (β := ResultD)) d2)) (hm2 : ∀ x ∈ d2, Ro w D (fun w' => Rds w' 3 x.A x.ls.length (List.flatMap ResultD.cells x.ls)) ∧ (x.ls.length ≤ x.c ∧ x.ls.length ≤ 9223372036854775807) ∧ (∀ y1 ∈ x.ls, Ro w D (fun w' => Rds w' 2 y1.xPairs.A y1.xPairs.ls.length (List.flatMap PairD.cells y1.xPairs.ls)) ∧ (y1.xPairs.ls.length ≤ y1.xPairs.c ∧ y1.xPairs.ls.length ≤ 9223372036854775807))) (hn2 : n2 = l2.length) (hl2 : l2.length * 24 ≤ 211106232532992) (hh0 : tt l2 ≤ 100000000) (hr : owner_Gather l0 l1 l2 = (r0, r1)) :
    Calls Try.prog 23 #[.slice A0 n0 c0, .slice A1 n1 c1, .slice A2 n2 c2] w (Ret fun v w' => ∃ (B0 : Option Addr) (b0 : Nat) (e0 : List ResultD), v = .tuple #[.slice B0 r0.length b0, .int .i64 r1] ∧ Own w D w' [row B0 r0.length b0 (List.flatMap ResultD.cells e0) 56 3, sepL (List.flatMap ResultD.own e0)] ∧ (List.map ResultD.abs e0 = r0)) := by
 subst hn0 hn1 hn2
 have hdl1 := abs_len hd1
 have hdl2 := abs_len hd2
 refine Calls.body (args := [.slice A0 l0.length c0, .slice A1 l1.length c1, .slice A2 l2.length c2]) Try.func23 rfl rfl rfl ?_
 show Wp _ _ _ [(0, .slice A0 l0.length c0), (1, .slice A1 l1.length c1), (2, .slice A2 l2.length c2)] _ _
 refine sr (Az rfl (An rfl (Wp.seq (sr (Mz rfl (Mz rfl (Mz rfl ?_)))))))
 obtain ⟨r26, hr27⟩ : ∃ q, owner_checkParts l0 l1 l2 = q := ⟨_, rfl⟩
 obtain ⟨D21, HP22, ro23, bk24, rr25⟩ := Own.enter0 H
 refine cl Try.call44 (owner_checkParts_ok _ _ A0 l0.length c0 l0 A1 l1.length c1 d1 l1 A2 l2.length c2 d2 l2 r26 HP22 (ro23 _ hx0) rfl (by omega) hd1 (ro23 _ hx1) (fun x9 h9 => ⟨ro23 _ (hm1 x9 h9).1, (hm1 x9 h9).2.1, ro23 _ (hm1 x9 h9).2.2.1, (hm1 x9 h9).2.2.2⟩) rfl (by omega) hd2 (ro23 _ hx2) (fun x9 h9 => ⟨ro23 _ (hm2 x9 h9).1, (hm2 x9 h9).2.1, (fun y1 k1 => ⟨ro23 _ ((hm2 x9 h9).2.2 y1 k1).1, ((hm2 x9 h9).2.2 y1 k1).2⟩)⟩) rfl (by omega) hr27) ?_
 rintro _ w28 ⟨rfl, HQ29⟩
 have H30 := bk24 _ _ HQ29
 have hz31 : l2.length = l1.length ∨ ¬ (r26 = 0) := chk_len hr27
 refine Ar rfl (Mz rfl (fw (.bool (decide (¬ (r26 = 0)))) (Yl.bool (e := !(decide (r26 = 0))) yk decide_not.symm) (nt ?_)))
 by_cases h32 : r26 = 0
 refine jF (dF (not_not_intro h32)) (sk (sr (Mz rfl (Kz (.int .i64 ((l0.length : Nat) : Int)) ?_))))
 refine WL.do rfl (Do.makeE (x0 := (Sv.mk none 0 [] : Row49D)) (z := .slice none 0 0) (k := l0.length) (size := 1) (bytes := 24) svLen (by decide) rfl Try.underlying43 (by kernel_rfl) H30 rfl rfl (by omega) (by unfold maxLen; omega) ?_)
 intro A33 w34 H35
 have H36 : Own w D w34 [sepL (List.flatMap Row49H.own (List.replicate l0.length (Sv.mk none 0 [] : Row49D))), row A33 l0.length l0.length (List.flatMap (Sv.enc (β := ResultD)) (List.replicate l0.length (Sv.mk none 0 [] : Row49D))) 49 1] := H35.free (free_rep (free_one (row_nil 56 3)))
 have hl37 : List.length (List.replicate l0.length (Sv.mk none 0 [] : Row49D)) = l0.length := List.length_replicate
 have hl38 : List.length (List.replicate l0.length (Ll.mk [] : Ll ResultT)) = l0.length := List.length_replicate
 have hz39 : HmR w D (List.replicate l0.length (Sv.mk none 0 [] : Row49D)) := hmr_rep _
 refine An rfl (Wp.seq (sr (Mz rfl (Kz (.int .i64 ((l1.length : Nat) : Int)) (Mn rfl (bo ?_))))))
 have H45 := H36.pk [1, 0]
 obtain ⟨I49, hI50⟩ : ∃ q : (Nat × (List Row49D) × (List (Ll ResultT))) → World → Prop, q = fun (i : Nat × (List Row49D) × (List (Ll ResultT))) w' => Own w D w' [row A33 l0.length l0.length (List.flatMap (Sv.enc (β := ResultD)) i.2.1) 49 1, sepL (List.flatMap Row49H.own i.2.1)] ∧ (List.map Row49D.abs i.2.1 = i.2.2 ∧ i.2.2.length = l0.length ∧ i.1 ≤ l1.length ∧ HmR w D i.2.1 ∧ tt i.2.2 ≤ tt (List.take i.1 l2) ∧ owner_Gather_L0 l0 l2 l1 0 (List.replicate l0.length (Ll.mk [] : Ll ResultT)) = owner_Gather_L0 l0 l2 (List.drop i.1 l1) i.1 i.2.2) := ⟨_, rfl⟩
 have dm51 : ∀ {k41 : Nat} {d42 : List Row49D} {l43 : List (Ll ResultT)} {w' : World}, I49 (k41, d42, l43) w' ↔ Own w D w' [row A33 l0.length l0.length (List.flatMap (Sv.enc (β := ResultD)) d42) 49 1, sepL (List.flatMap Row49H.own d42)] ∧ List.map Row49D.abs d42 = l43 ∧ l43.length = l0.length ∧ k41 ≤ l1.length ∧ HmR w D d42 ∧ tt l43 ≤ tt (List.take k41 l2) ∧ owner_Gather_L0 l0 l2 l1 0 (List.replicate l0.length (Ll.mk [] : Ll ResultT)) = owner_Gather_L0 l0 l2 (List.drop k41 l1) k41 l43 := by intros; subst hI50; exact Iff.rfl
 refine Wp.loop (fun i : Nat × (List Row49D) × (List (Ll ResultT)) => [(28, .int .i64 ((i.1 : Nat) : Int)), (27, .int .i64 ((l1.length : Nat) : Int)), (26, .slice A1 l1.length c1), (9, .slice A33 l0.length l0.length), (7, .int .i64 0), (6, .slice none 0 0), (0, .slice A0 l0.length c0), (2, .slice A2 l2.length c2)]) I49 (fun i => l1.length - i.1) (0, (List.replicate l0.length (Sv.mk none 0 [] : Row49D)), (List.replicate l0.length (Ll.mk [] : Ll ResultT))) ⟨rfl, rfl, rfl, rfl, rfl, rfl, rfl, rfl, trivial⟩ (dm51.2 ⟨H45, by exact (List.map_replicate (f := Row49D.abs)), by first | omega | (simp only [List.length_set] <;> omega) | (simp only [List.length_replicate]), by omega, by first | assumption | exact hmr_rep _, by first | (rw [tt_rep]; exact Nat.zero_le _) | exact seen_end (by assumption) (by omega), rfl⟩) ?_
 rintro ⟨k41, d42, l43⟩ w46 hf48
 show Wp _ _ _ [(28, .int .i64 ((k41 : Nat) : Int)), (27, .int .i64 ((l1.length : Nat) : Int)), (26, .slice A1 l1.length c1), (9, .slice A33 l0.length l0.length), (7, .int .i64 0), (6, .slice none 0 0), (0, .slice A0 l0.length c0), (2, .slice A2 l2.length c2)] _ _
 obtain ⟨H47, hi53, hi54, hi55, hi56, hi57, hq52⟩ := dm51.1 hf48
 have hl58 := abs_len hi53
 refine sr (Kz (.bool (decide (((k41 : Nat) : Int) < ((l1.length : Nat) : Int)))) (nt (Wp.seq ?_)))
 by_cases h59 : ((k41 : Nat) : Int) < ((l1.length : Nat) : Int)
 obtain ⟨x60, hx61⟩ := rds_at (ls := d1) (i := k41) PartD.len (by decide) (H47.ro hx1) (by first | omega | (simp; done) | (simp; omega))
 have hX62 := abs_at hd1 hx61
 have hb63 := (hm1 _ (List.mem_of_getElem? hx61)).2.1
 have hb64 := (hm1 _ (List.mem_of_getElem? hx61)).2.2.2
 have hz65 : x60.xFrom.ls.length = List.length (List.getD l2 k41 default).ls := (chk_at hr27 (by omega) hX62).1.symm.trans (chk_at hr27 (by omega) hX62).2.1
 have hd66 := drop_at hX62
 refine jT (dT h59) (sk (Wp.seq (bo (sr (Mz rfl (fw (.pointer (some ⟨ab A1, ao A1 + k41 * 3, none⟩)) (Yl.indexAddr (El42) rfl rfl ((H47.ro hx1).addr (i := k41) (by omega)) (by omega)) (fw (.agg (PartD.cells x60).toArray) (Yl.load rfl (Lds.agg (cs := (PartD.cells x60)) Try.isAgg47 Try.sizeOf47 ((H47.ro hx1).elem PartD.len hx61 (by decide)))) ?_)))))))
 refine npw [.int .i64 0, .slice none 0 0, .slice none 0 0] 47 H47 ?_
 intro g67 w68 H69
 refine Az rfl ?_
 refine sto (PartD.cells x60) 0 H69 Try.sizeOf47 ?_
 intro w70 H71
 refine ns (Kz (.pointer (some ⟨g67, 2, none⟩)) (Lz (.slice x60.xFrom.A x60.xFrom.ls.length x60.xFrom.c) H71 0 Try.isAgg45 (Kz (.int .i64 ((x60.xFrom.ls.length : Nat) : Int)) (Mn rfl (bo ?_)))))
 have H76 := H71.pk [1, 2]
 obtain ⟨I80, hI81⟩ : ∃ q : (Nat × (List Row49D) × (List (Ll ResultT))) → World → Prop, q = fun (i : Nat × (List Row49D) × (List (Ll ResultT))) w' => Own w D w' [row A33 l0.length l0.length (List.flatMap (Sv.enc (β := ResultD)) i.2.1) 49 1, sepL (List.flatMap Row49H.own i.2.1)] ∧ (List.map Row49D.abs i.2.1 = i.2.2 ∧ i.2.2.length = l0.length ∧ i.1 ≤ x60.xFrom.ls.length ∧ HmR w D i.2.1 ∧ tt i.2.2 ≤ seen l2 k41 i.1 ∧ owner_Gather_L1 l2 k41 x60.xFrom.ls 0 l43 = owner_Gather_L1 l2 k41 (List.drop i.1 x60.xFrom.ls) i.1 i.2.2) := ⟨_, rfl⟩
 have dm82 : ∀ {k72 : Nat} {d73 : List Row49D} {l74 : List (Ll ResultT)} {w' : World}, I80 (k72, d73, l74) w' ↔ Own w D w' [row A33 l0.length l0.length (List.flatMap (Sv.enc (β := ResultD)) d73) 49 1, sepL (List.flatMap Row49H.own d73)] ∧ List.map Row49D.abs d73 = l74 ∧ l74.length = l0.length ∧ k72 ≤ x60.xFrom.ls.length ∧ HmR w D d73 ∧ tt l74 ≤ seen l2 k41 k72 ∧ owner_Gather_L1 l2 k41 x60.xFrom.ls 0 l43 = owner_Gather_L1 l2 k41 (List.drop k72 x60.xFrom.ls) k72 l74 := by intros; subst hI81; exact Iff.rfl
 refine Wp.loop (fun i : Nat × (List Row49D) × (List (Ll ResultT)) => [(36, .int .i64 ((i.1 : Nat) : Int)), (35, .int .i64 ((x60.xFrom.ls.length : Nat) : Int)), (34, .slice x60.xFrom.A x60.xFrom.ls.length x60.xFrom.c), (10, .int .i64 ((k41 : Nat) : Int)), (28, .int .i64 ((k41 : Nat) : Int)), (27, .int .i64 ((l1.length : Nat) : Int)), (26, .slice A1 l1.length c1), (9, .slice A33 l0.length l0.length), (7, .int .i64 0), (6, .slice none 0 0), (0, .slice A0 l0.length c0), (2, .slice A2 l2.length c2)]) I80 (fun i => x60.xFrom.ls.length - i.1) (0, d42, l43) ⟨rfl, rfl, rfl, rfl, rfl, rfl, rfl, rfl, rfl, rfl, rfl, rfl, trivial⟩ (dm82.2 ⟨H76, by exact hi53, by first | omega | (simp only [List.length_set] <;> omega) | (simp only [List.length_replicate]), by omega, by first | assumption | exact hmr_rep _, by first | (rw [seen_0]; assumption) | exact seen_next (by assumption) (by assumption) (by assumption) (by assumption), rfl⟩) ?_
 rintro ⟨k72, d73, l74⟩ w77 hf79
 show Wp _ _ _ [(36, .int .i64 ((k72 : Nat) : Int)), (35, .int .i64 ((x60.xFrom.ls.length : Nat) : Int)), (34, .slice x60.xFrom.A x60.xFrom.ls.length x60.xFrom.c), (10, .int .i64 ((k41 : Nat) : Int)), (28, .int .i64 ((k41 : Nat) : Int)), (27, .int .i64 ((l1.length : Nat) : Int)), (26, .slice A1 l1.length c1), (9, .slice A33 l0.length l0.length), (7, .int .i64 0), (6, .slice none 0 0), (0, .slice A0 l0.length c0), (2, .slice A2 l2.length c2)] _ _
 obtain ⟨H78, hi84, hi85, hi86, hi87, hi88, hq83⟩ := dm82.1 hf79
 have hl89 := abs_len hi84
 refine sr (Kz (.bool (decide (((k72 : Nat) : Int) < ((x60.xFrom.ls.length : Nat) : Int)))) (nt (Wp.seq ?_)))
 by_cases h90 : ((k72 : Nat) : Int) < ((x60.xFrom.ls.length : Nat) : Int)
 obtain ⟨x91, hx92⟩ := rds_at (ls := x60.xFrom.ls) (i := k72) eI_len (by decide) (H78.ro (hm1 _ (List.mem_of_getElem? hx61)).2.2.1) (by first | omega | (simp; done) | (simp; omega))
 have hz93 : 0 ≤ x91 ∧ x91 < ((l0.length : Nat) : Int) := (chk_at hr27 (by omega) hX62).2.2 _ (List.mem_of_getElem? hx92)
 have hd94 := drop_at hx92
 refine jT (dT h90) (sk (Wp.seq (bo (sr (Mz rfl (fw (.pointer (some ⟨ab x60.xFrom.A, ao x60.xFrom.A + k72 * 1, none⟩)) (Yl.indexAddr (El45) rfl rfl ((H78.ro (hm1 _ (List.mem_of_getElem? hx61)).2.2.1).addr (i := k72) (by omega)) (by omega)) (fw (.int .i64 x91) (Yl.load rfl (Lds.one Try.isAgg3 (((H78.ro (hm1 _ (List.mem_of_getElem? hx61)).2.2.1).elem eI_len hx92 (by decide)).at_ (k := 0) rfl))) (Az rfl (An rfl ?_)))))))))
 have H96 := H78.drew
 refine Wp.drawnX [14, 16] (fun W => ∃ L', Own w D W ([row A33 l0.length l0.length (List.flatMap (Sv.enc (β := ResultD)) d73) 49 1, sepL (List.flatMap Row49H.own d73)] ++ L')) (by kernel_rfl) (by kernel_rfl) (NoP.block (NoP.then (NoP.then (NoP.block (NoP.block (NoP.then (NoP.then (NoP.block (NoP.then NoP.base))))))))) ⟨_, H96⟩ ?_
 revert H96
 generalize World.drew w77 = w95
 intro H96
 refine GX.takeA (v := .slice A33 l0.length l0.length) 0 rfl (by kernel_rfl) (fun _ => Yl.move rfl) (GX.takeA (v := .int .i64 ((Int.toNat x91 : Nat) : Int)) 1 rfl (by kernel_rfl) (fun _ => Yl.int (e := x91) (Yl.move rfl) (by omega)) (GX.take (v := .slice A33 l0.length l0.length) (rs := [[5, 4], []]) 2 rfl (by kernel_rfl) (fun _ _ => Yl.move rfl) (GX.take (v := .int .i64 ((Int.toNat x91 : Nat) : Int)) (rs := [[5, 4], []]) 3 rfl (by kernel_rfl) (fun _ _ => Yl.int (e := x91) (Yl.move rfl) (by omega)) ?_)))
 obtain ⟨x97, hx98⟩ := at_of (ls := d73) (i := Int.toNat x91) (by first | omega | (simp; done) | (simp; omega))
 have hX99 := abs_at hi84 hx98
 obtain ⟨hz100, hz101⟩ : x97.ls.length ≤ 100000000 ∧ List.length (List.map ResultD.abs x97.ls) ≤ 100000000 := by first | exact len_op (by assumption) (seen_le _ _ _) hh0 hX99 | exact len_op (by assumption) (tt_le _ _) hh0 hX99
 refine GX.take (v := .pointer (some ⟨ab A33, ao A33 + (Int.toNat x91) * 1, none⟩)) (rs := [[5], []]) 4 rfl (by kernel_rfl) (fun _ ⟨_, H9⟩ => Yl.indexAddr (El43) rfl rfl ((H9.rds (i := 0) rfl).addr (i := Int.toNat x91) (by omega)) (by omega)) (GX.take (v := .slice x97.A x97.ls.length x97.c) (rs := [[], []]) 5 rfl (by kernel_rfl) (fun _ ⟨_, H9⟩ => Yl.load rfl (Lds.one Try.isAgg49 (((H9.rds (i := 0) rfl).elem svLen hx98 (by decide)).at_ (k := 0) rfl))) (GX.take (v := .slice A2 l2.length c2) (rs := [[13, 12, 11, 9, 8], []]) 6 rfl (by kernel_rfl) (fun _ _ => Yl.move rfl) (GX.take (v := .int .i64 ((k41 : Nat) : Int)) (rs := [[13, 12, 11, 9, 8], []]) 7 rfl (by kernel_rfl) (fun _ _ => Yl.move rfl) ?_)))
 obtain ⟨x102, hx103⟩ := at_of (ls := d2) (i := k41) (by first | omega | (simp; done) | (simp; omega))
 have hX104 := abs_at hd2 hx103
 have hb105 := (hm2 _ (List.mem_of_getElem? hx103)).2.1
 have hl106 : List.length (List.map ResultD.abs x102.ls) = x102.ls.length := List.length_map ..
 have hz107 : x102.ls.length = List.length (List.getD l2 k41 default).ls := by rw [gd_at hX104]; exact (List.length_map ..).symm
 refine GX.take (v := .pointer (some ⟨ab A2, ao A2 + k41 * 1, none⟩)) (rs := [[13, 12, 11, 9], []]) 8 rfl (by kernel_rfl) (fun _ ⟨_, H9⟩ => Yl.indexAddr (El43) rfl rfl ((H9.ro hx2).addr (i := k41) (by omega)) (by omega)) (GX.take (v := .slice x102.A x102.ls.length x102.c) (rs := [[13, 12, 11], []]) 9 rfl (by kernel_rfl) (fun _ ⟨_, H9⟩ => Yl.load rfl (Lds.one Try.isAgg49 (((H9.ro hx2).elem svLen hx103 (by decide)).at_ (k := 0) rfl))) (GX.take (v := .int .i64 ((k72 : Nat) : Int)) (rs := [[13, 12, 11], []]) 10 rfl (by kernel_rfl) (fun _ _ => Yl.move rfl) ?_))
 obtain ⟨x108, hx109⟩ := at_of (ls := x102.ls) (i := k72) (by first | omega | (simp; done) | (simp; omega))
 have hX110 := abs_at (rfl : List.map ResultD.abs x102.ls = List.map ResultD.abs x102.ls) hx109
 have hb111 := ((hm2 _ (List.mem_of_getElem? hx103)).2.2 _ (List.mem_of_getElem? hx109)).2
 refine GX.take (v := .pointer (some ⟨ab x102.A, ao x102.A + k72 * 3, none⟩)) (rs := [[13, 12], []]) 11 rfl (by kernel_rfl) (fun _ ⟨_, H9⟩ => Yl.indexAddr (El49) rfl rfl ((H9.ro (hm2 _ (List.mem_of_getElem? hx103)).1).addr (i := k72) (by omega)) (by omega)) (GX.take (v := .agg (ResultD.cells x108).toArray) (rs := [[13], []]) 12 rfl (by kernel_rfl) (fun _ ⟨_, H9⟩ => Yl.load rfl (Lds.agg (cs := (ResultD.cells x108)) Try.isAgg56 Try.sizeOf56 ((H9.ro (hm2 _ (List.mem_of_getElem? hx103)).1).elem ResultD.len hx109 (by decide)))) ?_)
 refine GX.do 13 rfl (by kernel_rfl) (Do.newRow (cs := (ResultD.cells x108)) (t := 56) (sz := 3) (m := 1) H96 rfl rfl (fun _ => by kernel_rfl) rfl (by decide) ?_)
 intro A112 w113 H114
 replace H114 := Own.reh (y := row A112 1 1 (List.flatMap ResultD.cells ([(ResultD.mk x108.xFound x108.xValue (Sv.mk x108.xPairs.A x108.xPairs.c x108.xPairs.ls))])) 56 3) rfl H114
 have H115 := H114.pk [1, 2, 0]
 refine ⟨.inr ⟨_, H115⟩, ?_⟩
 have H116 := H115.pk [1, 0, 2]
 have H117 : Own w D w113 [row x97.A x97.ls.length x97.c (List.flatMap ResultD.cells x97.ls) 56 3, sepL (List.flatMap Row49H.own (List.take (Int.toNat x91) d73) ++ List.flatMap Row49H.own (List.drop (Int.toNat x91 + 1) d73)), row A33 l0.length l0.length (List.flatMap (Sv.enc (β := ResultD)) d73) 49 1, row A112 1 1 (List.flatMap ResultD.cells ([(ResultD.mk x108.xFound x108.xValue (Sv.mk x108.xPairs.A x108.xPairs.c x108.xPairs.ls))])) 56 3] := Own.sepOpen (f := Row49H.own) (i := Int.toNat x91) hx98 H116
 have hb118 := H117.rowC (i := 0) rfl
 refine GX.do 14 rfl (by kernel_rfl) (Do.appendW (k := x97.ls.length) (m := 1) (El49) H117 rfl rfl (src_of Try.underlying49 (H117.rds (i := 3) rfl) (flat_one ResultD.one ([(ResultD.mk x108.xFound x108.xValue (Sv.mk x108.xPairs.A x108.xPairs.c x108.xPairs.ls))]))) rfl (by omega) (s := List.length (x97.ls ++ [(ResultD.mk x108.xFound x108.xValue (Sv.mk x108.xPairs.A x108.xPairs.c x108.xPairs.ls))])) (by first | omega | (simp only [List.length_append, List.length_cons, List.length_nil] <;> omega)) (List.flatMap_append).symm ?_)
 intro A119 c120 w121 H122
 have hm123 : ∀ x : ResultD, x ∈ (x97.ls ++ [(ResultD.mk x108.xFound x108.xValue (Sv.mk x108.xPairs.A x108.xPairs.c x108.xPairs.ls))]) → Ro w D (fun w' => Rds w' 2 x.xPairs.A x.xPairs.ls.length (List.flatMap PairD.cells x.xPairs.ls)) ∧ (x.xPairs.ls.length ≤ x.xPairs.c ∧ x.xPairs.ls.length ≤ 9223372036854775807) := fun x9 h9 => Or.elim (List.mem_append.1 h9) (fun h9 => (hmr_at (by assumption) hx98) x9 h9) (fun h9 => (by rcases List.mem_cons.1 h9 with rfl | h9; exact ⟨((hm2 _ (List.mem_of_getElem? hx103)).2.2 _ (List.mem_of_getElem? hx109)).1, (show x108.xPairs.ls.length ≤ x108.xPairs.c ∧ x108.xPairs.ls.length ≤ 9223372036854775807 from by omega)⟩; exact (absurd h9 List.not_mem_nil)))
 have hl124 : List.length (x97.ls ++ [(ResultD.mk x108.xFound x108.xValue (Sv.mk x108.xPairs.A x108.xPairs.c x108.xPairs.ls))]) = x97.ls.length + 1 := by simp only [List.length_append, List.length_cons, List.length_nil]
 have hl125 := abs_len (abs_app (es := [(ResultD.mk x108.xFound x108.xValue (Sv.mk x108.xPairs.A x108.xPairs.c x108.xPairs.ls))]) (ms := [(ResultT.mk x108.xFound x108.xValue (Ll.mk x108.xPairs.ls))]) (rfl : List.map ResultD.abs x97.ls = List.map ResultD.abs x97.ls) rfl)
 refine ⟨.inl (by kernel_rfl), ?_⟩
 refine GX.takeA (v := .pointer (some ⟨ab A33, ao A33 + (Int.toNat x91) * 1, none⟩)) 15 rfl (by kernel_rfl) (fun _ => Yl.indexAddr (El43) rfl rfl ((H122.rds (i := 2) rfl).addr (i := Int.toNat x91) (by omega)) (by omega)) ?_
 have H126 : Own w D w121 [sepL (List.flatMap Row49H.own (List.set d73 (Int.toNat x91) (Sv.mk A119 c120 (x97.ls ++ [(ResultD.mk x108.xFound x108.xValue (Sv.mk x108.xPairs.A x108.xPairs.c x108.xPairs.ls))]) : Row49D))), row A33 l0.length l0.length (List.flatMap (Sv.enc (β := ResultD)) d73) 49 1, row A112 1 1 (List.flatMap ResultD.cells ([(ResultD.mk x108.xFound x108.xValue (Sv.mk x108.xPairs.A x108.xPairs.c x108.xPairs.ls))])) 56 3] := Own.sepClose (f := Row49H.own) (y := (Sv.mk A119 c120 (x97.ls ++ [(ResultD.mk x108.xFound x108.xValue (Sv.mk x108.xPairs.A x108.xPairs.c x108.xPairs.ls))]) : Row49D)) hx98 H122
 have H127 := H126.pk [1, 0, 2]
 refine GX.do0 16 rfl (by kernel_rfl) (Do.storeRow (vs := [.slice A119 (List.length (x97.ls ++ [(ResultD.mk x108.xFound x108.xValue (Sv.mk x108.xPairs.A x108.xPairs.c x108.xPairs.ls))])) c120]) (o := (Int.toNat x91) * 1 + 0) (q := ao A33 + (Int.toNat x91) * 1) H127 rfl (by omega) rfl Try.sizeOf49 rfl rfl (Nat.le_of_ble_eq_true rfl) (store_fits svLen hx98 (Nat.le_of_ble_eq_true rfl)) (flat_set (y := (Sv.mk A119 c120 (x97.ls ++ [(ResultD.mk x108.xFound x108.xValue (Sv.mk x108.xPairs.A x108.xPairs.c x108.xPairs.ls))]) : Row49D)) svLen rfl (Nat.le_of_ble_eq_true rfl) hx98) ?_)
 intro w128 H129
 have hz130 : HmR w D (List.set d73 (Int.toNat x91) (Sv.mk A119 c120 (x97.ls ++ [(ResultD.mk x108.xFound x108.xValue (Sv.mk x108.xPairs.A x108.xPairs.c x108.xPairs.ls))]) : Row49D)) := hmr_set (by assumption) hm123
 have hl131 : List.length (List.set d73 (Int.toNat x91) (Sv.mk A119 c120 (x97.ls ++ [(ResultD.mk x108.xFound x108.xValue (Sv.mk x108.xPairs.A x108.xPairs.c x108.xPairs.ls))]) : Row49D)) = List.length (List.set l74 (Int.toNat x91) (Ll.mk ((List.map ResultD.abs x97.ls) ++ [(ResultT.mk x108.xFound x108.xValue (Ll.mk x108.xPairs.ls))]))) := abs_len (map_set' hi84 (congrArg Ll.mk (abs_app (es := [(ResultD.mk x108.xFound x108.xValue (Sv.mk x108.xPairs.A x108.xPairs.c x108.xPairs.ls))]) (ms := [(ResultT.mk x108.xFound x108.xValue (Ll.mk x108.xPairs.ls))]) (rfl : List.map ResultD.abs x97.ls = List.map ResultD.abs x97.ls) rfl)))
 have hl132 : List.length (List.set l74 (Int.toNat x91) (Ll.mk ((List.map ResultD.abs x97.ls) ++ [(ResultT.mk x108.xFound x108.xValue (Ll.mk x108.xPairs.ls))]))) = l74.length := List.length_set
 refine ⟨.inl (by kernel_rfl), ?_⟩
 refine GX.done (by kernel_rfl) (bN (Fin.then ?_))
 have H133 := H129.pk [0, 1]
 refine Wp.region (fw (.int .i64 ((k72 + 1 : Nat) : Int)) (Yl.int (e := IntKind.i64.wrap (((k72 : Nat) : Int) + 1)) yk (by rw [IntWalk.i64_in _ (by omega)]; omega)) (Mz rfl (WL.nil ?_)))
 have H134 := H133.pk [0, 1]
 exact Fin.round (k72 + 1, (List.set d73 (Int.toNat x91) (Sv.mk A119 c120 (x97.ls ++ [(ResultD.mk x108.xFound x108.xValue (Sv.mk x108.xPairs.A x108.xPairs.c x108.xPairs.ls))]) : Row49D)), (List.set l74 (Int.toNat x91) (Ll.mk ((List.map ResultD.abs x97.ls) ++ [(ResultT.mk x108.xFound x108.xValue (Ll.mk x108.xPairs.ls))])))) ⟨rfl, rfl, rfl, rfl, rfl, rfl, rfl, rfl, rfl, rfl, rfl, rfl, trivial⟩ (dm82.2 ⟨H134, by exact (map_set' hi84 (congrArg Ll.mk (abs_app (es := [(ResultD.mk x108.xFound x108.xValue (Sv.mk x108.xPairs.A x108.xPairs.c x108.xPairs.ls))]) (ms := [(ResultT.mk x108.xFound x108.xValue (Ll.mk x108.xPairs.ls))]) (rfl : List.map ResultD.abs x97.ls = List.map ResultD.abs x97.ls) rfl))), by first | omega | (simp only [List.length_set] <;> omega) | (simp only [List.length_replicate]), by omega, by first | assumption | exact hmr_rep _, by first | (rw [seen_0]; assumption) | exact seen_next (by assumption) (by assumption) (by assumption) (by assumption), Eq.trans (hq83) (Eq.trans (congrArg (fun q => owner_Gather_L1 l2 k41 q k72 l74) hd94) (Eq.trans (bnd_of (getD_of hX99)) (Eq.trans (bnd_of (getD_of hX104)) (bnd_of (getD_of hX110)))))⟩) (by show x60.xFrom.ls.length - (k72 + 1) < x60.xFrom.ls.length - k72; omega)
 refine jF (dF h90) (Wp.exit (Fin.thenX ?_))
 have hL135 : owner_Gather_L1 l2 k41 x60.xFrom.ls 0 l43 = l74 := et (hq83) (et (congrArg (fun q => owner_Gather_L1 l2 k41 q k72 l74) (drop_end (ls := x60.xFrom.ls) (i := k72) (by omega))) rfl)
 refine Fin.thenX (Fin.blockX (bN (Fin.then (Wp.region (fw (.int .i64 ((k41 + 1 : Nat) : Int)) (Yl.int (e := IntKind.i64.wrap (((k41 : Nat) : Int) + 1)) yk (by rw [IntWalk.i64_in _ (by omega)]; omega)) (Mz rfl (WL.nil ?_)))))))
 have H136 := H78.pk [0, 1]
 exact Fin.round (k41 + 1, d73, l74) ⟨rfl, rfl, rfl, rfl, rfl, rfl, rfl, rfl, trivial⟩ (dm51.2 ⟨H136, by exact hi84, by first | omega | (simp only [List.length_set] <;> omega) | (simp only [List.length_replicate]), by omega, by first | assumption | exact hmr_rep _, by first | (rw [tt_rep]; exact Nat.zero_le _) | exact seen_end (by assumption) (by omega), Eq.trans (hq52) (Eq.trans (congrArg (fun q => owner_Gather_L0 l0 l2 q k41 l43) hd66) (bnd_of hL135))⟩) (by show l1.length - (k41 + 1) < l1.length - k41; omega)
 refine jF (dF h59) (Wp.exit (Fin.thenX ?_))
 have hL137 : owner_Gather_L0 l0 l2 l1 0 (List.replicate l0.length (Ll.mk [] : Ll ResultT)) = l43 := et (hq52) (et (congrArg (fun q => owner_Gather_L0 l0 l2 q k41 l43) (drop_end (ls := l1) (i := k41) (by omega))) rfl)
 refine Fin.thenX (Fin.blockX (Fin.then (sr (Mz rfl (Kz (.int .i64 ((l0.length : Nat) : Int)) ?_)))))
 refine WL.do rfl (Do.makeE (x0 := (ResultD.mk false ([]) (Sv.mk none 0 ([])))) (z := .agg #[.bool false, .string ⟨List.toArray ([])⟩, .slice none 0 0]) (k := l0.length) (size := 3) (bytes := 48) ResultD.len (by decide) rfl Try.underlying49 (by kernel_rfl) H47 rfl rfl (by omega) (by unfold maxLen; omega) ?_)
 intro A138 w139 H140
 have H141 : Own w D w139 [sepL (List.flatMap ResultD.own (List.replicate l0.length (ResultD.mk false ([]) (Sv.mk none 0 ([]))))), row A138 l0.length l0.length (List.flatMap ResultD.cells (List.replicate l0.length (ResultD.mk false ([]) (Sv.mk none 0 ([]))))) 56 3, row A33 l0.length l0.length (List.flatMap (Sv.enc (β := ResultD)) d42) 49 1, sepL (List.flatMap Row49H.own d42)] := H140.free (free_rep (free_one (row_nil 58 2)))
 have hl142 : List.length (List.replicate l0.length (ResultD.mk false ([]) (Sv.mk none 0 ([])))) = l0.length := List.length_replicate
 have hl143 : List.length (List.replicate l0.length (ResultT.mk false ([]) (Ll.mk ([])))) = l0.length := List.length_replicate
 refine An rfl (Wp.seq (sr (Mz rfl (Kz (.int .i64 ((l0.length : Nat) : Int)) (Mn rfl (bo ?_))))))
 have H148 := H141.pk [1, 2, 3, 0]
 obtain ⟨I152, hI153⟩ : ∃ q : (Nat × (List ResultD) × (List ResultT)) → World → Prop, q = fun (i : Nat × (List ResultD) × (List ResultT)) w' => Own w D w' [row A138 l0.length l0.length (List.flatMap ResultD.cells i.2.1) 56 3, row A33 l0.length l0.length (List.flatMap (Sv.enc (β := ResultD)) d42) 49 1, sepL (List.flatMap Row49H.own d42), sepL (List.flatMap ResultD.own i.2.1)] ∧ (List.map ResultD.abs i.2.1 = i.2.2 ∧ i.2.2.length = l0.length ∧ i.1 ≤ l0.length ∧ owner_Gather_L2 l43 l0 0 (List.replicate l0.length (ResultT.mk false ([]) (Ll.mk ([])))) = owner_Gather_L2 l43 (List.drop i.1 l0) i.1 i.2.2) := ⟨_, rfl⟩
 have dm154 : ∀ {k144 : Nat} {d145 : List ResultD} {l146 : List ResultT} {w' : World}, I152 (k144, d145, l146) w' ↔ Own w D w' [row A138 l0.length l0.length (List.flatMap ResultD.cells d145) 56 3, row A33 l0.length l0.length (List.flatMap (Sv.enc (β := ResultD)) d42) 49 1, sepL (List.flatMap Row49H.own d42), sepL (List.flatMap ResultD.own d145)] ∧ List.map ResultD.abs d145 = l146 ∧ l146.length = l0.length ∧ k144 ≤ l0.length ∧ owner_Gather_L2 l43 l0 0 (List.replicate l0.length (ResultT.mk false ([]) (Ll.mk ([])))) = owner_Gather_L2 l43 (List.drop k144 l0) k144 l146 := by intros; subst hI153; exact Iff.rfl
 refine Wp.loop (fun i : Nat × (List ResultD) × (List ResultT) => [(64, .int .i64 ((i.1 : Nat) : Int)), (63, .int .i64 ((l0.length : Nat) : Int)), (14, .slice A138 l0.length l0.length), (9, .slice A33 l0.length l0.length), (7, .int .i64 0), (6, .slice none 0 0), (0, .slice A0 l0.length c0)]) I152 (fun i => l0.length - i.1) (0, (List.replicate l0.length (ResultD.mk false ([]) (Sv.mk none 0 ([])))), (List.replicate l0.length (ResultT.mk false ([]) (Ll.mk ([]))))) ⟨rfl, rfl, rfl, rfl, rfl, rfl, rfl, trivial⟩ (dm154.2 ⟨H148, by exact (List.map_replicate (f := ResultD.abs)), by first | omega | (simp only [List.length_set] <;> omega) | (simp only [List.length_replicate]), by omega, rfl⟩) ?_
 rintro ⟨k144, d145, l146⟩ w149 hf151
 show Wp _ _ _ [(64, .int .i64 ((k144 : Nat) : Int)), (63, .int .i64 ((l0.length : Nat) : Int)), (14, .slice A138 l0.length l0.length), (9, .slice A33 l0.length l0.length), (7, .int .i64 0), (6, .slice none 0 0), (0, .slice A0 l0.length c0)] _ _
 obtain ⟨H150, hi156, hi157, hi158, hq155⟩ := dm154.1 hf151
 have hl159 := abs_len hi156
 refine sr (Kz (.bool (decide (((k144 : Nat) : Int) < ((l0.length : Nat) : Int)))) (nt (Wp.seq ?_)))
 by_cases h160 : ((k144 : Nat) : Int) < ((l0.length : Nat) : Int)
 obtain ⟨x161, hx162⟩ := rds_at (ls := l0) (i := k144) OpD.len (by decide) (H150.ro hx0) (by first | omega | (simp; done) | (simp; omega))
 have hd163 := drop_at hx162
 refine jT (dT h160) (sk (Wp.seq (bo (sr (Mz rfl (An rfl ?_))))))
 have H165 := H150.drew
 refine Wp.drawnX [12] (fun W => ∃ L', Own w D W ([row A138 l0.length l0.length (List.flatMap ResultD.cells d145) 56 3, row A33 l0.length l0.length (List.flatMap (Sv.enc (β := ResultD)) d42) 49 1, sepL (List.flatMap Row49H.own d42), sepL (List.flatMap ResultD.own d145)] ++ L')) (by kernel_rfl) (by kernel_rfl) (NoP.block (NoP.then (NoP.then (NoP.block (NoP.then NoP.base))))) ⟨_, H165⟩ ?_
 revert H165
 generalize World.drew w149 = w164
 intro H165
 refine GX.take (v := .slice A138 l0.length l0.length) (rs := [[]]) 0 rfl (by kernel_rfl) (fun _ _ => Yl.move rfl) (GX.take (v := .int .i64 ((k144 : Nat) : Int)) (rs := [[]]) 1 rfl (by kernel_rfl) (fun _ _ => Yl.move rfl) (GX.take (v := .slice A0 l0.length c0) (rs := [[]]) 2 rfl (by kernel_rfl) (fun _ _ => Yl.move rfl) (GX.take (v := .int .i64 ((k144 : Nat) : Int)) (rs := [[]]) 3 rfl (by kernel_rfl) (fun _ _ => Yl.move rfl) (GX.take (v := .pointer (some ⟨ab A0, ao A0 + k144 * 6, none⟩)) (rs := [[]]) 4 rfl (by kernel_rfl) (fun _ ⟨_, H9⟩ => Yl.indexAddr (El41) rfl rfl ((H9.ro hx0).addr (i := k144) (by omega)) (by omega)) (GX.take (v := .agg (OpD.cells x161).toArray) (rs := [[]]) 5 rfl (by kernel_rfl) (fun _ ⟨_, H9⟩ => Yl.load rfl (Lds.agg (cs := (OpD.cells x161)) Try.isAgg74 Try.sizeOf74 ((H9.ro hx0).elem OpD.len hx162 (by decide)))) (GX.take (v := .slice A33 l0.length l0.length) (rs := [[]]) 6 rfl (by kernel_rfl) (fun _ _ => Yl.move rfl) (GX.take (v := .int .i64 ((k144 : Nat) : Int)) (rs := [[]]) 7 rfl (by kernel_rfl) (fun _ _ => Yl.move rfl) ?_)))))))
 obtain ⟨x166, hx167⟩ := at_of (ls := d42) (i := k144) (by first | omega | (simp; done) | (simp; omega))
 have hX168 := abs_at hi53 hx167
 obtain ⟨hz169, hz170⟩ : x166.ls.length ≤ 100000000 ∧ List.length (List.map ResultD.abs x166.ls) ≤ 100000000 := by first | exact len_op (by assumption) (seen_le _ _ _) hh0 hX168 | exact len_op (by assumption) (tt_le _ _) hh0 hX168
 refine GX.take (v := .pointer (some ⟨ab A33, ao A33 + k144 * 1, none⟩)) (rs := [[]]) 8 rfl (by kernel_rfl) (fun _ ⟨_, H9⟩ => Yl.indexAddr (El43) rfl rfl ((H9.rds (i := 1) rfl).addr (i := k144) (by omega)) (by omega)) (GX.take (v := .slice x166.A x166.ls.length x166.c) (rs := [[]]) 9 rfl (by kernel_rfl) (fun _ ⟨_, H9⟩ => Yl.load rfl (Lds.one Try.isAgg49 (((H9.rds (i := 1) rfl).elem svLen hx167 (by decide)).at_ (k := 0) rfl))) ?_)
 have hz176 : x166.ls.length = List.length (List.map ResultD.abs x166.ls) := (by first | rfl | omega | (simp only [List.length_append, List.length_cons, List.length_nil, List.length_take, List.length_drop, List.length_set, List.length_replicate, List.length_map] <;> omega))
 obtain ⟨r177, hr178⟩ : ∃ q, owner_gatherOp x161 (List.map ResultD.abs x166.ls) = q := ⟨_, rfl⟩
 obtain ⟨D171, HP172, ro173, bk174, rr175⟩ := Own.enter0 H165
 refine GX.do 10 rfl (by kernel_rfl) (Do.call Try.call45 rfl (owner_gatherOp_ok _ _ x161 x166.A x166.ls.length x166.c x166.ls (List.map ResultD.abs x166.ls) r177 HP172 (rfl : List.map ResultD.abs x166.ls = List.map ResultD.abs x166.ls) (rr175 _ 2 _ rfl (sepL_mem (List.mem_flatMap.2 ⟨x166, List.mem_of_getElem? hx167, .head _⟩) row_rds)) (fun x9 h9 => ⟨ro173 _ ((hmr_at (by assumption) hx167) x9 h9).1, ((hmr_at (by assumption) hx167) x9 h9).2⟩) (by first | rfl | omega | (simp only [List.length_append, List.length_cons, List.length_nil, List.length_take, List.length_drop, List.length_set, List.length_replicate, List.length_map] <;> omega)) (by first | omega | (simp only [List.length_append, List.length_cons, List.length_nil, List.length_take, List.length_drop, List.length_set]; omega)) (by first | assumption | omega | exact tt_op (by assumption) hh0 (by assumption)) hr178) ?_)
 rintro _ w179 ⟨A182, c183, rfl, HQ180⟩
 have H181 := bk174 _ _ HQ180
 have hb184 := H181.rowC (i := 0) rfl
 have H185 := H181.pk [1, 2, 3, 4, 0]
 refine ⟨.inr ⟨_, H185⟩, ?_⟩
 obtain ⟨x186, hx187⟩ := at_of (ls := d145) (i := k144) (by first | omega | (simp; done) | (simp; omega))
 have hX188 := abs_at hi156 hx187
 refine GX.take (v := .pointer (some ⟨ab A138, ao A138 + k144 * 3, none⟩)) (rs := [[]]) 11 rfl (by kernel_rfl) (fun _ ⟨_, H9⟩ => Yl.indexAddr (El49) rfl rfl ((H9.rds (i := 0) rfl).addr (i := k144) (by omega)) (by omega)) ?_
 have H189 := H185.pk [3, 0, 1, 2, 4]
 have H190 : Own w D w179 [row x186.xPairs.A x186.xPairs.ls.length x186.xPairs.c (List.flatMap PairD.cells x186.xPairs.ls) 58 2, sepL (List.flatMap ResultD.own (List.take k144 d145) ++ List.flatMap ResultD.own (List.drop (k144 + 1) d145)), row A138 l0.length l0.length (List.flatMap ResultD.cells d145) 56 3, row A33 l0.length l0.length (List.flatMap (Sv.enc (β := ResultD)) d42) 49 1, sepL (List.flatMap Row49H.own d42), row A182 r177.xPairs.ls.length c183 (List.flatMap PairD.cells r177.xPairs.ls) 58 2] := Own.sepOpen (f := ResultD.own) (i := k144) hx187 H189
 have H191 := H190.pk [1, 2, 3, 4, 5]
 have H192 := H191.pk [4, 0, 1, 2, 3]
 have H193 : Own w D w179 [sepL (List.flatMap ResultD.own (List.set d145 k144 (ResultD.mk r177.xFound r177.xValue (Sv.mk A182 c183 r177.xPairs.ls)))), row A138 l0.length l0.length (List.flatMap ResultD.cells d145) 56 3, row A33 l0.length l0.length (List.flatMap (Sv.enc (β := ResultD)) d42) 49 1, sepL (List.flatMap Row49H.own d42)] := Own.sepClose (f := ResultD.own) (y := (ResultD.mk r177.xFound r177.xValue (Sv.mk A182 c183 r177.xPairs.ls))) hx187 H192
 have H194 := H193.pk [1, 0, 2, 3]
 refine GX.do0 12 rfl (by kernel_rfl) (Do.storeRow (vs := [.bool r177.xFound, .string ⟨List.toArray r177.xValue⟩, .slice A182 r177.xPairs.ls.length c183]) (o := k144 * 3 + 0) (q := ao A138 + k144 * 3) H194 rfl (by omega) rfl Try.sizeOf56 rfl rfl (Nat.le_of_ble_eq_true rfl) (store_fits ResultD.len hx187 (Nat.le_of_ble_eq_true rfl)) (flat_set (y := (ResultD.mk r177.xFound r177.xValue (Sv.mk A182 c183 r177.xPairs.ls))) ResultD.len rfl (Nat.le_of_ble_eq_true rfl) hx187) ?_)
 intro w195 H196
 have hl197 : List.length (List.set d145 k144 (ResultD.mk r177.xFound r177.xValue (Sv.mk A182 c183 r177.xPairs.ls))) = List.length (List.set l146 k144 (ResultT.mk r177.xFound r177.xValue (Ll.mk r177.xPairs.ls))) := abs_len (map_set' hi156 rfl)
 have hl198 : List.length (List.set l146 k144 (ResultT.mk r177.xFound r177.xValue (Ll.mk r177.xPairs.ls))) = l146.length := List.length_set
 refine ⟨.inl (by kernel_rfl), ?_⟩
 refine GX.done (by kernel_rfl) (bN (Fin.then (Wp.region (fw (.int .i64 ((k144 + 1 : Nat) : Int)) (Yl.int (e := IntKind.i64.wrap (((k144 : Nat) : Int) + 1)) yk (by rw [IntWalk.i64_in _ (by omega)]; omega)) (Mz rfl (WL.nil ?_))))))
 have H199 := H196.pk [0, 2, 3, 1]
 exact Fin.round (k144 + 1, (List.set d145 k144 (ResultD.mk r177.xFound r177.xValue (Sv.mk A182 c183 r177.xPairs.ls))), (List.set l146 k144 (ResultT.mk r177.xFound r177.xValue (Ll.mk r177.xPairs.ls)))) ⟨rfl, rfl, rfl, rfl, rfl, rfl, rfl, trivial⟩ (dm154.2 ⟨H199, by exact (map_set' hi156 rfl), by first | omega | (simp only [List.length_set] <;> omega) | (simp only [List.length_replicate]), by omega, Eq.trans (hq155) (Eq.trans (congrArg (fun q => owner_Gather_L2 l43 q k144 l146) hd163) (Eq.trans (bnd_of (getD_of hX168)) (bnd_of hr178)))⟩) (by show l0.length - (k144 + 1) < l0.length - k144; omega)
 refine jF (dF h160) (Wp.exit (Fin.thenX ?_))
 have hL200 : owner_Gather_L2 l43 l0 0 (List.replicate l0.length (ResultT.mk false ([]) (Ll.mk ([])))) = l146 := et (hq155) (et (congrArg (fun q => owner_Gather_L2 l43 q k144 l146) (drop_end (ls := l0) (i := k144) (by omega))) rfl)
 refine Fin.thenX (Fin.blockX (Fin.then (Wp.seq ?_)))
 have H201 := H150.pk [0, 3]
 refine Wp.region (Mz rfl (Az rfl (An rfl (rt (Fin.res (res2 rfl rfl rfl) ?_)))))
 have hn202 : l0.length = l146.length := by first | omega | (simp only [List.length_set]; done) | (simp only [List.length_set, List.length_append, List.length_cons, List.length_nil, List.length_take, List.length_drop, List.length_replicate]; omega)
 have H203 : Own w D w149 [row A138 l146.length l0.length (List.flatMap ResultD.cells d145) 56 3, sepL (List.flatMap ResultD.own d145)] := by rw [← hn202]; exact H201
 have H204 := H203.pk [0, 1]
 have e : owner_Gather l0 l1 l2 = (l146, 0) := et (bnd_of hr27) (et (ip h32) (et (bnd_of hL137) (bnd_of hL200)))
 obtain ⟨rfl, rfl⟩ := pj2 (e.symm.trans hr)
 exact ⟨A138, l0.length, d145, (by first | rfl | (rw [← hn202]; done) | (rw [← hn202]; rfl)), H204, hi156⟩
 refine jT (dT h32) (sr (Mz rfl (Az rfl (An rfl (rt (tR (Fin.res (res2 rfl rfl rfl) ?_)))))))
 have H205 : Own w D w28 [sepL (List.flatMap ResultD.own ([]))] := H30.sepNil
 have H206 : Own w D w28 [row none 0 0 (List.flatMap ResultD.cells ([])) 56 3, sepL (List.flatMap ResultD.own ([]))] := H205.free (row_nil 56 3)
 have H207 := H206.pk [0, 1]
 have e : owner_Gather l0 l1 l2 = ([], r26) := et (bnd_of hr27) (iN h32)
 obtain ⟨rfl, rfl⟩ := pj2 (e.symm.trans hr)
 exact ⟨none, 0, [], rfl, H207, rfl⟩
end Go.Proofs.Ytcjjblkgbfaapaa
