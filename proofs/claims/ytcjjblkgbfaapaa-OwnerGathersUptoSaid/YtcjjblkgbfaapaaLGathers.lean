/-
 owner: the law OwnerGathers
-/
import Derived.Test.YtcjjblkgbfaapaaGe
import Derived.Test.YtcjjblkgbfaapaaGaL
namespace Go.Proofs.Ytcjjblkgbfaapaa
open Go.RowKit
set_option linter.unusedVariables false
set_option linter.unusedSectionVars false
set_option linter.unusedSimpArgs false

def w17_OwnerGathers_L0 (l0 : List OpD) (l1 : List PartT) (l2 : List (Ll ResultT)) (r26 : Bool) : List PartT → List PartDT → (List PartDT)
  | [], l34 => l34
  | x53 :: q37, l34 => w17_OwnerGathers_L0 l0 l1 l2 r26 q37 (l34 ++ [(PartDT.mk x53.xShard (Ll.mk x53.xOps.ls) (Ll.mk x53.xFrom.ls))])

def w17_OwnerGathers_L3 (k139 : Nat) : Nat → Nat → List ResultT → (List ResultT)
  | 0, k161, l163 => l163
  | q164 + 1, k161, l163 => bnd (List.getD l163 k139 default) fun yx179 => bnd (List.getD yx179.xPairs.ls k161 default) fun yx184 => w17_OwnerGathers_L3 k139 q164 (k161 + 1) (List.set l163 k139 (ResultT.mk yx179.xFound yx179.xValue (Ll.mk (List.set yx179.xPairs.ls k161 (PairD.mk ([122, 122]) yx184.xValue)))))

def w17_OwnerGathers_L2 : Nat → Nat → List ResultT → Unit
  | 0, k139, l141 => ()
  | q142 + 1, k139, l141 => bnd (List.getD l141 k139 default) fun yx157 => bnd (w17_OwnerGathers_L3 k139 yx157.xPairs.ls.length 0 l141) fun sLrbLaLsbbtbtLsbL => w17_OwnerGathers_L2 q142 (k139 + 1) sLrbLaLsbbtbtLsbL

def w17_OwnerGathers_L1 (l0 : List OpD) (l1 : List PartT) (l2 : List (Ll ResultT)) (r26 : Bool) (l34 : List PartDT) : Nat → Unit ⊕ Bool
  | 0 => Sum.inl ()
  | q79 + 1 => bnd (owner_Gather l0 l1 l2) fun yr95 => bnd (r17_Gather l0 l34 l2) fun yr113 => if yr95.2 = yr113.2 then bnd (r04_SameResults yr95.1 yr113.1) fun yr132 => if yr132 = true then bnd (w17_OwnerGathers_L2 yr95.1.length 0 yr95.1) fun _ => w17_OwnerGathers_L1 l0 l1 l2 r26 l34 q79 else Sum.inr (false) else Sum.inr (false)

def w17_OwnerGathers (l0 : List OpD) (l1 : List PartT) (l2 : List (Ll ResultT)) : Bool :=
 bnd (w17_live) fun yr26 => bnd (w17_OwnerGathers_L0 l0 l1 l2 yr26 l1 ([])) fun sLrbL => lp (w17_OwnerGathers_L1 l0 l1 l2 yr26 sLrbL 2) fun _ => yr26

set_option maxRecDepth 100000 in
theorem w17_OwnerGathers_ok (w : World) (D : Nat → Prop) (A0 : Option Addr) (n0 c0 : Nat) (l0 : List OpD) (A1 : Option Addr) (n1 c1 : Nat) (d1 : List PartD) (l1 : List PartT) (A2 : Option Addr) (n2 c2 : Nat) (d2 : List Row49D) (l2 : List (Ll ResultT)) (r0 : Bool) (H : Own w D w []) (hx0 : Ro w D fun w' => Rds w' 6 A0 n0 (List.flatMap OpD.cells l0)) (hn0 : n0 = l0.length) (hl0 : l0.length * 80 ≤ 211106232532992) (hd1 : List.map PartD.abs d1 = l1) (hx1 : Ro w D fun w' => Rds w' 3 A1 n1 (List.flatMap PartD.cells d1)) (hm1 : ∀ x ∈ d1, Ro w D (fun w' => Rds w' 6 x.xOps.A x.xOps.ls.length (List.flatMap OpD.cells x.xOps.ls)) ∧ (x.xOps.ls.length ≤ x.xOps.c ∧ x.xOps.ls.length ≤ 9223372036854775807) ∧ Ro w D (fun w' => Rds w' 1 x.xFrom.A x.xFrom.ls.length (List.flatMap (eI .i64) x.xFrom.ls)) ∧ (x.xFrom.ls.length ≤ x.xFrom.c ∧ x.xFrom.ls.length ≤ 9223372036854775807)) (hn1 : n1 = l1.length) (hl1 : l1.length * 56 ≤ 211106232532992) (hd2 : List.map Row49D.abs d2 = l2) (hx2 : Ro w D fun w' => Rds w' 1 A2 n2 (List.flatMap (Sv.enc (β := ResultD)) d2)) (hm2 : ∀ x ∈ d2, Ro w D (fun w' => Rds w' 3 x.A x.ls.length (List.flatMap ResultD.cells x.ls)) ∧ (x.ls.length ≤ x.c ∧ x.ls.length ≤ 9223372036854775807) ∧ (∀ y1 ∈ x.ls, Ro w D (fun w' => Rds w' 2 y1.xPairs.A y1.xPairs.ls.length (List.flatMap PairD.cells y1.xPairs.ls)) ∧ (y1.xPairs.ls.length ≤ y1.xPairs.c ∧ y1.xPairs.ls.length ≤ 9223372036854775807))) (hn2 : n2 = l2.length) (hl2 : l2.length * 24 ≤ 211106232532992) (hh0 : l0.length * 80 ≤ 140737488351232) (hh1 : l1.length * 56 ≤ 140737488351232) (hh2 : l2.length * 24 ≤ 140737488351232) (hh3 : tt l2 ≤ 100000000) (hr : w17_OwnerGathers l0 l1 l2 = r0) :
    Calls Try.prog 5 #[.slice A0 n0 c0, .slice A1 n1 c1, .slice A2 n2 c2] w (Ret fun v w' => v = .bool r0 ∧ Own w D w' []) := by
 subst hn0 hn1 hn2
 have hdl1 := abs_len hd1
 have hdl2 := abs_len hd2
 refine Calls.body (args := [.slice A0 l0.length c0, .slice A1 l1.length c1, .slice A2 l2.length c2]) Try.func5 rfl rfl rfl ?_
 show Wp _ _ _ [(0, .slice A0 l0.length c0), (1, .slice A1 l1.length c1), (2, .slice A2 l2.length c2)] _ _
 refine sr (Ar rfl ?_)
 obtain ⟨r26, hr27⟩ : ∃ q, w17_live = q := ⟨_, rfl⟩
 obtain ⟨D21, HP22, ro23, bk24, rr25⟩ := Own.enter0 H
 refine cl Try.call9 (w17_live_ok _ _ r26 HP22 hr27) ?_
 rintro _ w28 ⟨rfl, HQ29⟩
 have H30 := bk24 _ _ HQ29
 refine Ar rfl (An rfl (Wp.seq (sr (Mz rfl (Kz (.int .i64 ((l1.length : Nat) : Int)) (Mn rfl (bo ?_)))))))
 have H31 : Own w D w28 [row none 0 0 (List.flatMap PartDx.cells ([])) 48 3] := H30.free (row_nil 48 3)
 have H38 := H31.pk [0]
 obtain ⟨I42, hI43⟩ : ∃ q : ((Option Addr) × Nat × (List PartDx) × (List PartDT) × Nat) → World → Prop, q = fun (i : (Option Addr) × Nat × (List PartDx) × (List PartDT) × Nat) w' => Own w D w' [row i.1 i.2.2.2.1.length i.2.1 (List.flatMap PartDx.cells i.2.2.1) 48 3] ∧ (List.map PartDx.abs i.2.2.1 = i.2.2.2.1 ∧ (∀ x : PartDx, x ∈ i.2.2.1 → Ro w D (fun w' => Rds w' 6 x.xOps.A x.xOps.ls.length (List.flatMap OpD.cells x.xOps.ls)) ∧ (x.xOps.ls.length ≤ x.xOps.c ∧ x.xOps.ls.length ≤ 9223372036854775807) ∧ Ro w D (fun w' => Rds w' 1 x.xFrom.A x.xFrom.ls.length (List.flatMap (eI .i64) x.xFrom.ls)) ∧ (x.xFrom.ls.length ≤ x.xFrom.c ∧ x.xFrom.ls.length ≤ 9223372036854775807)) ∧ i.2.2.2.2 ≤ l1.length ∧ i.2.2.2.1.length = i.2.2.2.2 ∧ i.2.2.2.1.length ≤ i.2.2.2.2 ∧ w17_OwnerGathers_L0 l0 l1 l2 r26 l1 ([]) = w17_OwnerGathers_L0 l0 l1 l2 r26 (List.drop i.2.2.2.2 l1) i.2.2.2.1) := ⟨_, rfl⟩
 have dm44 : ∀ {A32 : Option Addr} {c33 : Nat} {d35 : List PartDx} {l34 : List PartDT} {k36 : Nat} {w' : World}, I42 (A32, c33, d35, l34, k36) w' ↔ Own w D w' [row A32 l34.length c33 (List.flatMap PartDx.cells d35) 48 3] ∧ List.map PartDx.abs d35 = l34 ∧ (∀ x : PartDx, x ∈ d35 → Ro w D (fun w' => Rds w' 6 x.xOps.A x.xOps.ls.length (List.flatMap OpD.cells x.xOps.ls)) ∧ (x.xOps.ls.length ≤ x.xOps.c ∧ x.xOps.ls.length ≤ 9223372036854775807) ∧ Ro w D (fun w' => Rds w' 1 x.xFrom.A x.xFrom.ls.length (List.flatMap (eI .i64) x.xFrom.ls)) ∧ (x.xFrom.ls.length ≤ x.xFrom.c ∧ x.xFrom.ls.length ≤ 9223372036854775807)) ∧ k36 ≤ l1.length ∧ l34.length = k36 ∧ l34.length ≤ k36 ∧ w17_OwnerGathers_L0 l0 l1 l2 r26 l1 ([]) = w17_OwnerGathers_L0 l0 l1 l2 r26 (List.drop k36 l1) l34 := by intros; subst hI43; exact Iff.rfl
 refine Wp.loop (fun i : (Option Addr) × Nat × (List PartDx) × (List PartDT) × Nat => [(8, .slice i.1 i.2.2.2.1.length i.2.1), (20, .int .i64 ((i.2.2.2.2 : Nat) : Int)), (19, .int .i64 ((l1.length : Nat) : Int)), (18, .slice A1 l1.length c1), (7, .bool r26), (6, .bool false), (0, .slice A0 l0.length c0), (1, .slice A1 l1.length c1), (2, .slice A2 l2.length c2)]) I42 (fun i => l1.length - i.2.2.2.2) (none, 0, [], [], 0) ⟨rfl, rfl, rfl, rfl, rfl, rfl, rfl, rfl, rfl, trivial⟩ (dm44.2 ⟨H38, (show List.map PartDx.abs ([]) = ([]) ∧ (∀ x : PartDx, x ∈ ([]) → Ro w D (fun w' => Rds w' 6 x.xOps.A x.xOps.ls.length (List.flatMap OpD.cells x.xOps.ls)) ∧ (x.xOps.ls.length ≤ x.xOps.c ∧ x.xOps.ls.length ≤ 9223372036854775807) ∧ Ro w D (fun w' => Rds w' 1 x.xFrom.A x.xFrom.ls.length (List.flatMap (eI .i64) x.xFrom.ls)) ∧ (x.xFrom.ls.length ≤ x.xFrom.c ∧ x.xFrom.ls.length ≤ 9223372036854775807)) ∧ 0 ≤ l1.length ∧ 0 = 0 ∧ 0 ≤ 0 ∧ w17_OwnerGathers_L0 l0 l1 l2 r26 l1 ([]) = w17_OwnerGathers_L0 l0 l1 l2 r26 (List.drop 0 l1) ([]) from ⟨by exact rfl, by exact fun _ h => absurd h List.not_mem_nil, by omega, by omega, by omega, rfl⟩)⟩) ?_
 rintro ⟨A32, c33, d35, l34, k36⟩ w39 hf41
 show Wp _ _ _ [(8, .slice A32 l34.length c33), (20, .int .i64 ((k36 : Nat) : Int)), (19, .int .i64 ((l1.length : Nat) : Int)), (18, .slice A1 l1.length c1), (7, .bool r26), (6, .bool false), (0, .slice A0 l0.length c0), (1, .slice A1 l1.length c1), (2, .slice A2 l2.length c2)] _ _
 obtain ⟨H40, hi46, hi47, hi48, hi49, hi50, hq45⟩ := dm44.1 hf41
 have hl51 := abs_len hi46
 refine sr (Kz (.bool (decide (((k36 : Nat) : Int) < ((l1.length : Nat) : Int)))) (nt (Wp.seq ?_)))
 by_cases h52 : ((k36 : Nat) : Int) < ((l1.length : Nat) : Int)
 obtain ⟨x53, hx54⟩ := rds_at (ls := d1) (i := k36) PartD.len (by decide) (H40.ro hx1) (by first | omega | (simp; done) | (simp; omega))
 have hX55 := abs_at hd1 hx54
 have hb56 := (hm1 _ (List.mem_of_getElem? hx54)).2.1
 have hb57 := (hm1 _ (List.mem_of_getElem? hx54)).2.2.2
 have hd58 := drop_at hX55
 refine jT (dT h52) (sk (Wp.seq (bo (sr (fw (.pointer (some ⟨ab A1, ao A1 + k36 * 3, none⟩)) (Yl.indexAddr (El42) rfl rfl ((H40.ro hx1).addr (i := k36) (by omega)) (by omega)) (fw (.agg (PartD.cells x53).toArray) (Yl.load rfl (Lds.agg (cs := (PartD.cells x53)) Try.isAgg47 Try.sizeOf47 ((H40.ro hx1).elem PartD.len hx54 (by decide)))) ?_))))))
 refine npw [.int .i64 0, .slice none 0 0, .slice none 0 0] 47 H40 ?_
 intro g59 w60 H61
 refine sto (PartD.cells x53) 0 H61 Try.sizeOf47 ?_
 intro w62 H63
 refine nt (Wp.region (Mz rfl (Kz (.pointer (some ⟨g59, 0, none⟩)) (Lz (.int .i64 x53.xShard) H63 0 Try.isAgg3 (Kz (.pointer (some ⟨g59, 1, none⟩)) (Lz (.slice x53.xOps.A x53.xOps.ls.length x53.xOps.c) H63 0 Try.isAgg41 (Kz (.pointer (some ⟨g59, 2, none⟩)) (Lz (.slice x53.xFrom.A x53.xFrom.ls.length x53.xFrom.c) H63 0 Try.isAgg45 (Kz (.agg (PartD.cells x53).toArray) ?_)))))))))
 refine nrw (PartD.cells x53) 48 3 1 H63 ?_
 intro A64 w65 H66
 replace H66 := Own.reh (y := row A64 1 1 (List.flatMap PartDx.cells ([(PartDx.mk x53.xShard (Sv.mk x53.xOps.A x53.xOps.c x53.xOps.ls) (Sv.mk x53.xFrom.A x53.xFrom.c x53.xFrom.ls))])) 48 3) rfl H66
 have H67 := H66.pk [2, 0, 1]
 refine WL.do rfl (Do.appendW (k := l34.length) (m := 1) (El44) H67 rfl rfl (src_of Try.underlying44 (H67.rds (i := 1) rfl) (flat_one PartDx.one ([(PartDx.mk x53.xShard (Sv.mk x53.xOps.A x53.xOps.c x53.xOps.ls) (Sv.mk x53.xFrom.A x53.xFrom.c x53.xFrom.ls))]))) rfl (by omega) (s := List.length (l34 ++ [(PartDT.mk x53.xShard (Ll.mk x53.xOps.ls) (Ll.mk x53.xFrom.ls))])) (by first | omega | (simp only [List.length_append, List.length_cons, List.length_nil] <;> omega)) (List.flatMap_append).symm ?_)
 intro A68 c69 w70 H71
 have hm72 : ∀ x : PartDx, x ∈ (d35 ++ [(PartDx.mk x53.xShard (Sv.mk x53.xOps.A x53.xOps.c x53.xOps.ls) (Sv.mk x53.xFrom.A x53.xFrom.c x53.xFrom.ls))]) → Ro w D (fun w' => Rds w' 6 x.xOps.A x.xOps.ls.length (List.flatMap OpD.cells x.xOps.ls)) ∧ (x.xOps.ls.length ≤ x.xOps.c ∧ x.xOps.ls.length ≤ 9223372036854775807) ∧ Ro w D (fun w' => Rds w' 1 x.xFrom.A x.xFrom.ls.length (List.flatMap (eI .i64) x.xFrom.ls)) ∧ (x.xFrom.ls.length ≤ x.xFrom.c ∧ x.xFrom.ls.length ≤ 9223372036854775807) := fun x9 h9 => Or.elim (List.mem_append.1 h9) (fun h9 => hi47 x9 h9) (fun h9 => (by rcases List.mem_cons.1 h9 with rfl | h9; exact ⟨(hm1 _ (List.mem_of_getElem? hx54)).1, (show x53.xOps.ls.length ≤ x53.xOps.c ∧ x53.xOps.ls.length ≤ 9223372036854775807 from by omega), (hm1 _ (List.mem_of_getElem? hx54)).2.2.1, (show x53.xFrom.ls.length ≤ x53.xFrom.c ∧ x53.xFrom.ls.length ≤ 9223372036854775807 from by omega)⟩; exact (absurd h9 List.not_mem_nil)))
 have hl73 : List.length (l34 ++ [(PartDT.mk x53.xShard (Ll.mk x53.xOps.ls) (Ll.mk x53.xFrom.ls))]) = l34.length + 1 := by simp only [List.length_append, List.length_cons, List.length_nil]
 have hl74 := abs_len (abs_app (es := [(PartDx.mk x53.xShard (Sv.mk x53.xOps.A x53.xOps.c x53.xOps.ls) (Sv.mk x53.xFrom.A x53.xFrom.c x53.xFrom.ls))]) (ms := [(PartDT.mk x53.xShard (Ll.mk x53.xOps.ls) (Ll.mk x53.xFrom.ls))]) hi46 rfl)
 refine Az rfl (WL.nil (bN (Fin.then ?_)))
 have H75 := H71.pk [0]
 refine Wp.region (fw (.int .i64 ((k36 + 1 : Nat) : Int)) (Yl.int (e := IntKind.i64.wrap (((k36 : Nat) : Int) + 1)) yk (by rw [IntWalk.i64_in _ (by omega)]; omega)) (Mz rfl (WL.nil ?_)))
 have H76 := H75.pk [0]
 exact Fin.round (A68, c69, (d35 ++ [(PartDx.mk x53.xShard (Sv.mk x53.xOps.A x53.xOps.c x53.xOps.ls) (Sv.mk x53.xFrom.A x53.xFrom.c x53.xFrom.ls))]), (l34 ++ [(PartDT.mk x53.xShard (Ll.mk x53.xOps.ls) (Ll.mk x53.xFrom.ls))]), k36 + 1) ⟨rfl, rfl, rfl, rfl, rfl, rfl, rfl, rfl, rfl, trivial⟩ (dm44.2 ⟨H76, by exact (abs_app (es := [(PartDx.mk x53.xShard (Sv.mk x53.xOps.A x53.xOps.c x53.xOps.ls) (Sv.mk x53.xFrom.A x53.xFrom.c x53.xFrom.ls))]) (ms := [(PartDT.mk x53.xShard (Ll.mk x53.xOps.ls) (Ll.mk x53.xFrom.ls))]) hi46 rfl), by exact hm72, by omega, by omega, by omega, et (hq45) (et (congrArg (fun q => w17_OwnerGathers_L0 l0 l1 l2 r26 q l34) hd58) rfl)⟩) (by show l1.length - (k36 + 1) < l1.length - k36; omega)
 refine jF (dF h52) (Wp.exit (Fin.thenX ?_))
 have hL77 : w17_OwnerGathers_L0 l0 l1 l2 r26 l1 ([]) = l34 := et (hq45) (et (congrArg (fun q => w17_OwnerGathers_L0 l0 l1 l2 r26 q l34) (drop_end (ls := l1) (i := k36) (by omega))) rfl)
 refine Fin.thenX (Fin.blockX (Fin.then (Wp.seq (sr (Mn rfl (bo ?_))))))
 have H80 := H40.pk [0]
 obtain ⟨I84, hI85⟩ : ∃ q : Nat → World → Prop, q = fun (i : Nat) w' => Own w D w' [row A32 l34.length c33 (List.flatMap PartDx.cells d35) 48 3] ∧ (i ≤ 2 ∧ w17_OwnerGathers_L1 l0 l1 l2 r26 l34 2 = w17_OwnerGathers_L1 l0 l1 l2 r26 l34 (2 - i)) := ⟨_, rfl⟩
 have dm86 : ∀ {k78 : Nat} {w' : World}, I84 k78 w' ↔ Own w D w' [row A32 l34.length c33 (List.flatMap PartDx.cells d35) 48 3] ∧ k78 ≤ 2 ∧ w17_OwnerGathers_L1 l0 l1 l2 r26 l34 2 = w17_OwnerGathers_L1 l0 l1 l2 r26 l34 (2 - k78) := by intros; subst hI85; exact Iff.rfl
 refine Wp.loop (fun i : Nat => [(6, .bool false), (35, .int .i64 ((i : Nat) : Int)), (8, .slice A32 l34.length c33), (7, .bool r26), (0, .slice A0 l0.length c0), (1, .slice A1 l1.length c1), (2, .slice A2 l2.length c2)]) I84 (fun i => 2 - i) 0 ⟨rfl, rfl, rfl, rfl, rfl, rfl, rfl, trivial⟩ (dm86.2 ⟨H80, by omega, rfl⟩) ?_
 rintro k78 w81 hf83
 show Wp _ _ _ [(6, .bool false), (35, .int .i64 ((k78 : Nat) : Int)), (8, .slice A32 l34.length c33), (7, .bool r26), (0, .slice A0 l0.length c0), (1, .slice A1 l1.length c1), (2, .slice A2 l2.length c2)] _ _
 obtain ⟨H82, hi88, hq87⟩ := dm86.1 hf83
 refine sr (Kz (.bool (decide (((k78 : Nat) : Int) < 2))) (nt (Wp.seq ?_)))
 by_cases h89 : ((k78 : Nat) : Int) < 2
 refine jT (dT h89) (sk (Wp.seq (bo (sr (Mz rfl (Mz rfl (Mz rfl ?_)))))))
 obtain ⟨⟨r95, r96⟩, hr97⟩ : ∃ q : (List ResultT) × Int, owner_Gather l0 l1 l2 = q := ⟨_, rfl⟩
 obtain ⟨D90, HP91, ro92, bk93, rr94⟩ := Own.enter0 H82
 refine cl Try.call23 (owner_Gather_ok _ _ A0 l0.length c0 l0 A1 l1.length c1 d1 l1 A2 l2.length c2 d2 l2 r95 r96 HP91 (ro92 _ hx0) rfl (by omega) hd1 (ro92 _ hx1) (fun x9 h9 => ⟨ro92 _ (hm1 x9 h9).1, (hm1 x9 h9).2.1, ro92 _ (hm1 x9 h9).2.2.1, (hm1 x9 h9).2.2.2⟩) rfl (by omega) hd2 (ro92 _ hx2) (fun x9 h9 => ⟨ro92 _ (hm2 x9 h9).1, (hm2 x9 h9).2.1, (fun y1 k1 => ⟨ro92 _ ((hm2 x9 h9).2.2 y1 k1).1, ((hm2 x9 h9).2.2 y1 k1).2⟩)⟩) rfl (by omega) (by first | assumption | omega) hr97) ?_
 rintro _ w98 ⟨A101, c102, d103, rfl, HQ99, hd104⟩
 have H100 := bk93 _ _ HQ99
 have hl105 := abs_len hd104
 have hb106 := H100.rowC (i := 0) rfl
 have hz107 : r95.length ≤ l0.length := gO_len hr97
 refine Mz rfl (Kz (.slice A101 r95.length c102) (Kz (.int .i64 r96) (Az rfl (Ar rfl (Mz rfl (Mz rfl (Mz rfl ?_)))))))
 obtain ⟨⟨r113, r114⟩, hr115⟩ : ∃ q : (List ResultT) × Int, r17_Gather l0 l34 l2 = q := ⟨_, rfl⟩
 obtain ⟨D108, HP109, ro110, bk111, rr112⟩ := Own.enter0 H100
 refine cl Try.call24 (r17_Gather_ok _ _ A0 l0.length c0 l0 A32 l34.length c33 d35 l34 A2 l2.length c2 d2 l2 r113 r114 HP109 (ro110 _ hx0) rfl (by omega) hi46 (rr112 _ 2 _ rfl row_rds) (fun x9 h9 => ⟨ro110 _ (hi47 x9 h9).1, (hi47 x9 h9).2.1, ro110 _ (hi47 x9 h9).2.2.1, (hi47 x9 h9).2.2.2⟩) rfl (by omega) hd2 (ro110 _ hx2) (fun x9 h9 => ⟨ro110 _ (hm2 x9 h9).1, (hm2 x9 h9).2.1, (fun y1 k1 => ⟨ro110 _ ((hm2 x9 h9).2.2 y1 k1).1, ((hm2 x9 h9).2.2 y1 k1).2⟩)⟩) rfl (by omega) (by first | assumption | omega) hr115) ?_
 rintro _ w116 ⟨A119, c120, d121, rfl, HQ117, hd122⟩
 have H118 := bk111 _ _ HQ117
 have hl123 := abs_len hd122
 have hb124 := H118.rowC (i := 0) rfl
 have hz125 : r113.length ≤ l0.length := gR_len hr115
 refine Mz rfl (Kz (.slice A119 r113.length c120) (Kz (.int .i64 r114) (Az rfl (An rfl (Wp.seq (sr (Mz rfl (Mz rfl (fw (.bool (decide (¬ (r96 = r114)))) (Yl.bool (e := !(decide (r96 = r114))) yk decide_not.symm) (Mz rfl ?_))))))))))
 by_cases h126 : r96 = r114
 refine gw (.slice A101 r95.length c102) (dF (not_not_intro h126)) (Yl.move rfl) (gw (.slice A119 r113.length c120) (dF (not_not_intro h126)) (Yl.move rfl) ?_)
 obtain ⟨r132, hr133⟩ : ∃ q, r04_SameResults r95 r113 = q := ⟨_, rfl⟩
 obtain ⟨D127, HP128, ro129, bk130, rr131⟩ := Own.enter0 H118
 refine clG (dF (not_not_intro h126)) Try.call25 (r04_SameResults_ok _ _ A101 r95.length c102 d103 r95 A119 r113.length c120 d121 r113 r132 HP128 hd104 (rr131 _ 2 _ rfl row_rds) (fun x9 h9 => ⟨rr131 _ 3 _ rfl (sepL_mem (List.mem_flatMap.2 ⟨x9, h9, .head _⟩) row_rds), own_rd (φ := fun _ => _) H118 (i := 3) rfl (sepL_mem (List.mem_flatMap.2 ⟨x9, h9, .head _⟩) row_le2)⟩) rfl (by omega) hd122 (rr131 _ 0 _ rfl row_rds) (fun x9 h9 => ⟨rr131 _ 1 _ rfl (sepL_mem (List.mem_flatMap.2 ⟨x9, h9, .head _⟩) row_rds), own_rd (φ := fun _ => _) H118 (i := 1) rfl (sepL_mem (List.mem_flatMap.2 ⟨x9, h9, .head _⟩) row_le2)⟩) rfl (by omega) hr133) ?_
 rintro _ w134 ⟨rfl, HQ135⟩
 have H136 := bk130 _ _ HQ135
 refine gw (.bool (!r132)) (dF (not_not_intro h126)) yk (fw (.bool (!r132)) (Yl.pickF rfl (dF (not_not_intro h126)) rfl) (nt ?_))
 rcases Bool.eq_false_or_eq_true (r132) with h137 | h137
 refine jF (cn h137) (sk (Wp.seq ?_))
 have H138 := H136.pk [2, 3, 4]
 refine Wp.region (Mz rfl (Kz (.int .i64 ((r95.length : Nat) : Int)) (Mn rfl (bo ?_))))
 have H143 := H138.pk [0, 2, 1]
 obtain ⟨I147, hI148⟩ : ∃ q : (Nat × (List ResultD) × (List ResultT)) → World → Prop, q = fun (i : Nat × (List ResultD) × (List ResultT)) w' => Own w D w' [row A101 r95.length c102 (List.flatMap ResultD.cells i.2.1) 56 3, row A32 l34.length c33 (List.flatMap PartDx.cells d35) 48 3, sepL (List.flatMap ResultD.own i.2.1)] ∧ (List.map ResultD.abs i.2.1 = i.2.2 ∧ i.2.2.length = r95.length ∧ List.map (fun q : ResultT => q.xPairs.ls.length) i.2.2 = List.map (fun q : ResultT => q.xPairs.ls.length) r95 ∧ i.1 ≤ r95.length ∧ w17_OwnerGathers_L2 r95.length 0 r95 = w17_OwnerGathers_L2 (r95.length - i.1) i.1 i.2.2) := ⟨_, rfl⟩
 have dm149 : ∀ {k139 : Nat} {d140 : List ResultD} {l141 : List ResultT} {w' : World}, I147 (k139, d140, l141) w' ↔ Own w D w' [row A101 r95.length c102 (List.flatMap ResultD.cells d140) 56 3, row A32 l34.length c33 (List.flatMap PartDx.cells d35) 48 3, sepL (List.flatMap ResultD.own d140)] ∧ List.map ResultD.abs d140 = l141 ∧ l141.length = r95.length ∧ List.map (fun q : ResultT => q.xPairs.ls.length) l141 = List.map (fun q : ResultT => q.xPairs.ls.length) r95 ∧ k139 ≤ r95.length ∧ w17_OwnerGathers_L2 r95.length 0 r95 = w17_OwnerGathers_L2 (r95.length - k139) k139 l141 := by intros; subst hI148; exact Iff.rfl
 refine Wp.loop (fun i : Nat × (List ResultD) × (List ResultT) => [(62, .int .i64 ((i.1 : Nat) : Int)), (61, .int .i64 ((r95.length : Nat) : Int)), (11, .slice A101 r95.length c102), (6, .bool false), (35, .int .i64 ((k78 : Nat) : Int)), (8, .slice A32 l34.length c33), (7, .bool r26), (0, .slice A0 l0.length c0), (1, .slice A1 l1.length c1), (2, .slice A2 l2.length c2)]) I147 (fun i => r95.length - i.1) (0, d103, r95) ⟨rfl, rfl, rfl, rfl, rfl, rfl, rfl, rfl, rfl, rfl, trivial⟩ (dm149.2 ⟨H143, by exact hd104, by first | omega | (simp only [List.length_set] <;> omega) | (simp only [List.length_replicate]), by exact rfl, by omega, rfl⟩) ?_
 rintro ⟨k139, d140, l141⟩ w144 hf146
 show Wp _ _ _ [(62, .int .i64 ((k139 : Nat) : Int)), (61, .int .i64 ((r95.length : Nat) : Int)), (11, .slice A101 r95.length c102), (6, .bool false), (35, .int .i64 ((k78 : Nat) : Int)), (8, .slice A32 l34.length c33), (7, .bool r26), (0, .slice A0 l0.length c0), (1, .slice A1 l1.length c1), (2, .slice A2 l2.length c2)] _ _
 obtain ⟨H145, hi151, hi152, hi153, hi154, hq150⟩ := dm149.1 hf146
 have hl155 := abs_len hi151
 refine sr (Kz (.bool (decide (((k139 : Nat) : Int) < ((r95.length : Nat) : Int)))) (nt (Wp.seq ?_)))
 by_cases h156 : ((k139 : Nat) : Int) < ((r95.length : Nat) : Int)
 refine jT (dT h156) (sk (Wp.seq (bo (sr (Mz rfl (Ar rfl (Mz rfl (Mz rfl ?_))))))))
 obtain ⟨x157, hx158⟩ := rds_at (ls := d140) (i := k139) ResultD.len (by decide) (H145.rds (i := 0) rfl) (by first | omega | (simp; done) | (simp; omega))
 have hX159 := abs_at hi151 hx158
 have hb160 : x157.xPairs.ls.length ≤ x157.xPairs.c ∧ x157.xPairs.ls.length ≤ 9223372036854775807 := own_rd H145 (i := 2) rfl (φ := fun _ => _) (sepL_mem (List.mem_flatMap.2 ⟨x157, List.mem_of_getElem? hx158, .head _⟩) row_le2)
 refine fw (.pointer (some ⟨ab A101, ao A101 + k139 * 3, none⟩)) (Yl.indexAddr (El49) rfl rfl ((H145.rds (i := 0) rfl).addr (i := k139) (by omega)) (by omega)) (Kz (.pointer (some ⟨ab A101, ao A101 + k139 * 3 + 2, none⟩)) (fw (.slice x157.xPairs.A x157.xPairs.ls.length x157.xPairs.c) (Yl.load rfl (Lds.one Try.isAgg54 (((H145.rds (i := 0) rfl).elem ResultD.len hx158 (by decide)).at_ (k := 2) rfl))) (Kz (.int .i64 ((x157.xPairs.ls.length : Nat) : Int)) (Mn rfl (bo ?_)))))
 have H165 := H145.pk [0, 1, 2]
 obtain ⟨I169, hI170⟩ : ∃ q : (Nat × (List ResultD) × (List ResultT)) → World → Prop, q = fun (i : Nat × (List ResultD) × (List ResultT)) w' => Own w D w' [row A101 r95.length c102 (List.flatMap ResultD.cells i.2.1) 56 3, row A32 l34.length c33 (List.flatMap PartDx.cells d35) 48 3, sepL (List.flatMap ResultD.own i.2.1)] ∧ (List.map ResultD.abs i.2.1 = i.2.2 ∧ i.2.2.length = r95.length ∧ List.map (fun q : ResultT => q.xPairs.ls.length) i.2.2 = List.map (fun q : ResultT => q.xPairs.ls.length) l141 ∧ i.1 ≤ x157.xPairs.ls.length ∧ w17_OwnerGathers_L3 k139 x157.xPairs.ls.length 0 l141 = w17_OwnerGathers_L3 k139 (x157.xPairs.ls.length - i.1) i.1 i.2.2) := ⟨_, rfl⟩
 have dm171 : ∀ {k161 : Nat} {d162 : List ResultD} {l163 : List ResultT} {w' : World}, I169 (k161, d162, l163) w' ↔ Own w D w' [row A101 r95.length c102 (List.flatMap ResultD.cells d162) 56 3, row A32 l34.length c33 (List.flatMap PartDx.cells d35) 48 3, sepL (List.flatMap ResultD.own d162)] ∧ List.map ResultD.abs d162 = l163 ∧ l163.length = r95.length ∧ List.map (fun q : ResultT => q.xPairs.ls.length) l163 = List.map (fun q : ResultT => q.xPairs.ls.length) l141 ∧ k161 ≤ x157.xPairs.ls.length ∧ w17_OwnerGathers_L3 k139 x157.xPairs.ls.length 0 l141 = w17_OwnerGathers_L3 k139 (x157.xPairs.ls.length - k161) k161 l163 := by intros; subst hI170; exact Iff.rfl
 refine Wp.loop (fun i : Nat × (List ResultD) × (List ResultT) => [(71, .int .i64 ((i.1 : Nat) : Int)), (70, .int .i64 ((x157.xPairs.ls.length : Nat) : Int)), (15, .int .i64 ((k139 : Nat) : Int)), (62, .int .i64 ((k139 : Nat) : Int)), (61, .int .i64 ((r95.length : Nat) : Int)), (11, .slice A101 r95.length c102), (6, .bool false), (35, .int .i64 ((k78 : Nat) : Int)), (8, .slice A32 l34.length c33), (7, .bool r26), (0, .slice A0 l0.length c0), (1, .slice A1 l1.length c1), (2, .slice A2 l2.length c2)]) I169 (fun i => x157.xPairs.ls.length - i.1) (0, d140, l141) ⟨rfl, rfl, rfl, rfl, rfl, rfl, rfl, rfl, rfl, rfl, rfl, rfl, rfl, trivial⟩ (dm171.2 ⟨H165, by exact hi151, by first | omega | (simp only [List.length_set] <;> omega) | (simp only [List.length_replicate]), by exact rfl, by omega, rfl⟩) ?_
 rintro ⟨k161, d162, l163⟩ w166 hf168
 show Wp _ _ _ [(71, .int .i64 ((k161 : Nat) : Int)), (70, .int .i64 ((x157.xPairs.ls.length : Nat) : Int)), (15, .int .i64 ((k139 : Nat) : Int)), (62, .int .i64 ((k139 : Nat) : Int)), (61, .int .i64 ((r95.length : Nat) : Int)), (11, .slice A101 r95.length c102), (6, .bool false), (35, .int .i64 ((k78 : Nat) : Int)), (8, .slice A32 l34.length c33), (7, .bool r26), (0, .slice A0 l0.length c0), (1, .slice A1 l1.length c1), (2, .slice A2 l2.length c2)] _ _
 obtain ⟨H167, hi173, hi174, hi175, hi176, hq172⟩ := dm171.1 hf168
 have hl177 := abs_len hi173
 refine sr (Kz (.bool (decide (((k161 : Nat) : Int) < ((x157.xPairs.ls.length : Nat) : Int)))) (nt (Wp.seq ?_)))
 by_cases h178 : ((k161 : Nat) : Int) < ((x157.xPairs.ls.length : Nat) : Int)
 refine jT (dT h178) (sk (Wp.seq (bo (sr (Mz rfl (An rfl (Wp.region (Mz rfl (Mz rfl ?_)))))))))
 obtain ⟨x179, hx180⟩ := rds_at (ls := d162) (i := k139) ResultD.len (by decide) (H167.rds (i := 0) rfl) (by first | omega | (simp; done) | (simp; omega))
 have hX181 := abs_at hi173 hx180
 have hb182 : x179.xPairs.ls.length ≤ x179.xPairs.c ∧ x179.xPairs.ls.length ≤ 9223372036854775807 := own_rd H167 (i := 2) rfl (φ := fun _ => _) (sepL_mem (List.mem_flatMap.2 ⟨x179, List.mem_of_getElem? hx180, .head _⟩) row_le2)
 have hz183 : x179.xPairs.ls.length = x157.xPairs.ls.length := lens_at (g := fun q : ResultT => q.xPairs.ls.length) hi175 hX181 hX159
 refine fw (.pointer (some ⟨ab A101, ao A101 + k139 * 3, none⟩)) (Yl.indexAddr (El49) rfl rfl ((H167.rds (i := 0) rfl).addr (i := k139) (by omega)) (by omega)) (Kz (.pointer (some ⟨ab A101, ao A101 + k139 * 3 + 2, none⟩)) (fw (.slice x179.xPairs.A x179.xPairs.ls.length x179.xPairs.c) (Yl.load rfl (Lds.one Try.isAgg54 (((H167.rds (i := 0) rfl).elem ResultD.len hx180 (by decide)).at_ (k := 2) rfl))) (Mz rfl ?_)))
 obtain ⟨x184, hx185⟩ := rds_at (ls := x179.xPairs.ls) (i := k161) PairD.len (by decide) (own_rd H167 (i := 2) rfl (sepL_mem (List.mem_flatMap.2 ⟨x179, List.mem_of_getElem? hx180, .head _⟩) row_rds)) (by first | omega | (simp; done) | (simp; omega))
 refine fw (.pointer (some ⟨ab x179.xPairs.A, ao x179.xPairs.A + k161 * 2, none⟩)) (Yl.indexAddr (El54) rfl rfl ((own_rd H167 (i := 2) rfl (sepL_mem (List.mem_flatMap.2 ⟨x179, List.mem_of_getElem? hx180, .head _⟩) row_rds)).addr (i := k161) (by omega)) (by omega)) (Kz (.pointer (some ⟨ab x179.xPairs.A, ao x179.xPairs.A + k161 * 2, none⟩)) ?_)
 have H186 := H167.pk [2, 0, 1]
 have H187 : Own w D w166 [row x179.xPairs.A x179.xPairs.ls.length x179.xPairs.c (List.flatMap PairD.cells x179.xPairs.ls) 58 2, sepL (List.flatMap ResultD.own (List.take k139 d162) ++ List.flatMap ResultD.own (List.drop (k139 + 1) d162)), row A101 r95.length c102 (List.flatMap ResultD.cells d162) 56 3, row A32 l34.length c33 (List.flatMap PartDx.cells d35) 48 3] := Own.sepOpen (f := ResultD.own) (i := k139) hx180 H186
 refine WL.do0 (Do.storeRow (vs := [.string ⟨List.toArray ([122, 122])⟩]) (o := k161 * 2 + 0) (q := ao x179.xPairs.A + k161 * 2) H187 rfl (by omega) rfl Try.sizeOf9 rfl rfl (Nat.le_of_ble_eq_true rfl) (store_fits PairD.len hx185 (Nat.le_of_ble_eq_true rfl)) (flat_set (y := (PairD.mk ([122, 122]) x184.xValue)) PairD.len rfl (Nat.le_of_ble_eq_true rfl) hx185) ?_)
 intro w188 H189
 have H190 : Own w D w188 [row x179.xPairs.A (List.length (List.set x179.xPairs.ls k161 (PairD.mk ([122, 122]) x184.xValue))) x179.xPairs.c (List.flatMap PairD.cells (List.set x179.xPairs.ls k161 (PairD.mk ([122, 122]) x184.xValue))) 58 2, sepL (List.flatMap ResultD.own (List.take k139 d162) ++ List.flatMap ResultD.own (List.drop (k139 + 1) d162)), row A101 r95.length c102 (List.flatMap ResultD.cells d162) 56 3, row A32 l34.length c33 (List.flatMap PartDx.cells d35) 48 3] := by rw [List.length_set]; exact H189
 have H191 : Own w D w188 [sepL (List.flatMap ResultD.own (List.set d162 k139 (ResultD.mk x179.xFound x179.xValue (Sv.mk x179.xPairs.A x179.xPairs.c (List.set x179.xPairs.ls k161 (PairD.mk ([122, 122]) x184.xValue)))))), row A101 r95.length c102 (List.flatMap ResultD.cells d162) 56 3, row A32 l34.length c33 (List.flatMap PartDx.cells d35) 48 3] := Own.sepClose (f := ResultD.own) (y := (ResultD.mk x179.xFound x179.xValue (Sv.mk x179.xPairs.A x179.xPairs.c (List.set x179.xPairs.ls k161 (PairD.mk ([122, 122]) x184.xValue))))) hx180 H190
 have H192 : Own w D w188 [sepL (List.flatMap ResultD.own (List.set d162 k139 (ResultD.mk x179.xFound x179.xValue (Sv.mk x179.xPairs.A x179.xPairs.c (List.set x179.xPairs.ls k161 (PairD.mk ([122, 122]) x184.xValue)))))), row A101 r95.length c102 (List.flatMap ResultD.cells (List.set d162 k139 (ResultD.mk x179.xFound x179.xValue (Sv.mk x179.xPairs.A x179.xPairs.c (List.set x179.xPairs.ls k161 (PairD.mk ([122, 122]) x184.xValue)))))) 56 3, row A32 l34.length c33 (List.flatMap PartDx.cells d35) 48 3] := by rw [flat_same (f := ResultD.cells) (y := (ResultD.mk x179.xFound x179.xValue (Sv.mk x179.xPairs.A x179.xPairs.c (List.set x179.xPairs.ls k161 (PairD.mk ([122, 122]) x184.xValue))))) hx180 (by simp only [ResultD.cells, List.length_set])]; exact H191
 have hl193 : List.length (List.set d162 k139 (ResultD.mk x179.xFound x179.xValue (Sv.mk x179.xPairs.A x179.xPairs.c (List.set x179.xPairs.ls k161 (PairD.mk ([122, 122]) x184.xValue))))) = List.length (List.set l163 k139 (ResultT.mk x179.xFound x179.xValue (Ll.mk (List.set x179.xPairs.ls k161 (PairD.mk ([122, 122]) x184.xValue))))) := abs_len (map_set' hi173 rfl)
 have hl194 : List.length (List.set l163 k139 (ResultT.mk x179.xFound x179.xValue (Ll.mk (List.set x179.xPairs.ls k161 (PairD.mk ([122, 122]) x184.xValue))))) = l163.length := List.length_set
 refine WL.nil (bN (Fin.then (Wp.region (fw (.int .i64 ((k161 + 1 : Nat) : Int)) (Yl.int (e := IntKind.i64.wrap (((k161 : Nat) : Int) + 1)) yk (by rw [IntWalk.i64_in _ (by omega)]; omega)) (Mz rfl (WL.nil ?_))))))
 have H195 := H192.pk [1, 2, 0]
 exact Fin.round (k161 + 1, (List.set d162 k139 (ResultD.mk x179.xFound x179.xValue (Sv.mk x179.xPairs.A x179.xPairs.c (List.set x179.xPairs.ls k161 (PairD.mk ([122, 122]) x184.xValue))))), (List.set l163 k139 (ResultT.mk x179.xFound x179.xValue (Ll.mk (List.set x179.xPairs.ls k161 (PairD.mk ([122, 122]) x184.xValue)))))) ⟨rfl, rfl, rfl, rfl, rfl, rfl, rfl, rfl, rfl, rfl, rfl, rfl, rfl, trivial⟩ (dm171.2 ⟨H195, by exact (map_set' hi173 rfl), by first | omega | (simp only [List.length_set] <;> omega) | (simp only [List.length_replicate]), by exact ((lens_set (g := fun q : ResultT => q.xPairs.ls.length) hX181 (by simp only [List.length_set]; rfl)).trans hi175), by omega, Eq.trans (hq172) (Eq.trans (congrArg (fun q => w17_OwnerGathers_L3 k139 q k161 l163) (sub_at (n := x157.xPairs.ls.length) (i := k161) (by omega))) (Eq.trans (bnd_of (getD_of hX181)) (bnd_of (getD_of hx185))))⟩) (by show x157.xPairs.ls.length - (k161 + 1) < x157.xPairs.ls.length - k161; omega)
 refine jF (dF h178) (Wp.exit (Fin.thenX ?_))
 have hL196 : w17_OwnerGathers_L3 k139 x157.xPairs.ls.length 0 l141 = l163 := et (hq172) (et (congrArg (fun q => w17_OwnerGathers_L3 k139 q k161 l163) (sub_end (n := x157.xPairs.ls.length) (i := k161) (by omega))) rfl)
 refine Fin.thenX (Fin.blockX (bN (Fin.then (Wp.region (fw (.int .i64 ((k139 + 1 : Nat) : Int)) (Yl.int (e := IntKind.i64.wrap (((k139 : Nat) : Int) + 1)) yk (by rw [IntWalk.i64_in _ (by omega)]; omega)) (Mz rfl (WL.nil ?_)))))))
 have H197 := H167.pk [0, 1, 2]
 exact Fin.round (k139 + 1, d162, l163) ⟨rfl, rfl, rfl, rfl, rfl, rfl, rfl, rfl, rfl, rfl, trivial⟩ (dm149.2 ⟨H197, by exact hi173, by first | omega | (simp only [List.length_set] <;> omega) | (simp only [List.length_replicate]), by exact (hi175.trans hi153), by omega, Eq.trans (hq150) (Eq.trans (congrArg (fun q => w17_OwnerGathers_L2 q k139 l141) (sub_at (n := r95.length) (i := k139) (by omega))) (Eq.trans (bnd_of (getD_of hX159)) (bnd_of hL196)))⟩) (by show r95.length - (k139 + 1) < r95.length - k139; omega)
 refine jF (dF h156) (Wp.exit (Fin.thenX ?_))
 have hL198 : w17_OwnerGathers_L2 r95.length 0 r95 = () := et (hq150) (et (congrArg (fun q => w17_OwnerGathers_L2 q k139 l141) (sub_end (n := r95.length) (i := k139) (by omega))) rfl)
 refine Fin.thenX (Fin.blockX (bN (Fin.then ?_)))
 have H199 := H145.pk [1]
 refine Wp.region (fw (.int .i64 ((k78 + 1 : Nat) : Int)) (Yl.int (e := IntKind.i64.wrap (((k78 : Nat) : Int) + 1)) yk (by rw [IntWalk.i64_in _ (by omega)]; omega)) (Mz rfl (WL.nil ?_)))
 have H200 := H199.pk [0]
 exact Fin.round (k78 + 1) ⟨rfl, rfl, rfl, rfl, rfl, rfl, rfl, trivial⟩ (dm86.2 ⟨H200, by omega, et (hq87) (et (congrArg (fun q => w17_OwnerGathers_L1 l0 l1 l2 r26 l34 q) (sub_at (n := 2) (i := k78) (by omega))) (et (bnd_of hr97) (et (bnd_of hr115) (et (ip h126) (et (bnd_of hr133) (et (ip h137) (bnd_of hL198)))))))⟩) (by show 2 - (k78 + 1) < 2 - k78; omega)
 refine jT (cn h137) (Wp.seq ?_)
 have H201 := H136.pk [2, 3, 4]
 refine Wp.region (An rfl (rt (tR (bR (tR (tR (bR (tR (rs ?_)))))))))
 have H202 := H201.pk []
 obtain rfl : _ = false := hr.symm.trans (et (bnd_of hr27) (et (bnd_of hL77) (lp_r (et (hq87) (et (congrArg (fun q => w17_OwnerGathers_L1 l0 l1 l2 r26 l34 q) (sub_at (n := 2) (i := k78) (by omega))) (et (bnd_of hr97) (et (bnd_of hr115) (et (ip h126) (et (bnd_of hr133) (ifF h137))))))))))
 exact ⟨rfl, H202⟩
 refine Sz (dT h126) (Sz (dT h126) (Sz (dT h126) (Sz (dT h126) (fw (.bool true) (Yl.pickT rfl (dT h126) rfl) (nt (jt (Wp.seq ?_)))))))
 have H203 := H118.pk [2, 3, 4]
 refine Wp.region (An rfl (rt (tR (bR (tR (tR (bR (tR (rs ?_)))))))))
 have H204 := H203.pk []
 obtain rfl : _ = false := hr.symm.trans (et (bnd_of hr27) (et (bnd_of hL77) (lp_r (et (hq87) (et (congrArg (fun q => w17_OwnerGathers_L1 l0 l1 l2 r26 l34 q) (sub_at (n := 2) (i := k78) (by omega))) (et (bnd_of hr97) (et (bnd_of hr115) (iN h126))))))))
 exact ⟨rfl, H204⟩
 refine jF (dF h89) (Wp.exit (Fin.thenX ?_))
 have hL205 : w17_OwnerGathers_L1 l0 l1 l2 r26 l34 2 = Sum.inl () := et (hq87) (et (congrArg (fun q => w17_OwnerGathers_L1 l0 l1 l2 r26 l34 q) (sub_end (n := 2) (i := k78) (by omega))) rfl)
 refine Fin.thenX (Fin.blockX (Fin.then (sr (Mz rfl (An rfl (rt (rs ?_)))))))
 have H206 := H82.pk []
 obtain rfl : _ = r26 := hr.symm.trans (et (bnd_of hr27) (et (bnd_of hL77) (lp_l hL205)))
 exact ⟨rfl, H206⟩
end Go.Proofs.Ytcjjblkgbfaapaa
