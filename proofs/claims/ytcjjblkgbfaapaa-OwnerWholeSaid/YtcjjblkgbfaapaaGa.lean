/-
 owner: what was told of an operation gathered.
-/
import Derived.Test.YtcjjblkgbfaapaaStD
namespace Go.Proofs.Ytcjjblkgbfaapaa
open Go.RowKit
set_option linter.unusedVariables false
set_option linter.unusedSectionVars false
set_option linter.unusedSimpArgs false
theorem El42 : Elem Try.prog 42 47 3 56 := elem_of (z := .agg #[.int .i64 0, .slice none 0 0, .slice none 0 0]) Try.underlying42 (by kernel_rfl) rfl (by decide)
theorem El45 : Elem Try.prog 45 3 1 8 := elem_of (z := .int .i64 0) Try.underlying45 (by kernel_rfl) rfl (by decide)
structure PartD where
 xShard : Int
 xOps : Sv OpD
 xFrom : Sv Int
def PartD.cells (x : PartD) : List Value := [.int .i64 x.xShard, .slice x.xOps.A x.xOps.ls.length x.xOps.c, .slice x.xFrom.A x.xFrom.ls.length x.xFrom.c]
instance : Bk PartD := ⟨fun x _ => bk x.xShard + (bk x.xOps + (bk x.xFrom + (0)))⟩
theorem PartD.len : ∀ x, (PartD.cells x).length = 3 := fun _ => rfl
theorem PartD.one : ∀ x, ∀ u ∈ PartD.cells x, u.oneCell' = true := fun x u hu => by
 simp only [PartD.cells, List.mem_cons, List.not_mem_nil, or_false] at hu
 rcases hu with rfl | rfl | rfl <;> rfl
def PartD.Ok (w : World) (x : PartD) : Prop := ((-9223372036854775808) ≤ x.xShard ∧ x.xShard ≤ 9223372036854775807) ∧ (SvOk w 6 80 OpD.cells (OpD.Ok w) x.xOps) ∧ (SvOk w 1 8 (eI .i64) (fun n => (-9223372036854775808) ≤ n ∧ n ≤ 9223372036854775807) x.xFrom)
instance : Inhabited PartD := ⟨⟨default, default, default⟩⟩
structure PartT where
 xShard : Int
 xOps : Ll OpD
 xFrom : Ll Int
instance : Inhabited PartT := ⟨⟨default, default, default⟩⟩
def PartD.abs (x : PartD) : PartT := ⟨x.xShard, ⟨x.xOps.ls⟩, ⟨x.xFrom.ls⟩⟩
def PartD.own (x : PartD) : List HP := [row x.xOps.A x.xOps.ls.length x.xOps.c (List.flatMap OpD.cells x.xOps.ls) 74 6, row x.xFrom.A x.xFrom.ls.length x.xFrom.c (List.flatMap (eI .i64) x.xFrom.ls) 3 1]
structure PartDx where
 xShard : Int
 xOps : Sv OpD
 xFrom : Sv Int
def PartDx.cells (x : PartDx) : List Value := [.int .i64 x.xShard, .slice x.xOps.A x.xOps.ls.length x.xOps.c, .slice x.xFrom.A x.xFrom.ls.length x.xFrom.c]
instance : Bk PartDx := ⟨fun x _ => bk x.xShard + (bk x.xOps + (bk x.xFrom + (0)))⟩
theorem PartDx.len : ∀ x, (PartDx.cells x).length = 3 := fun _ => rfl
theorem PartDx.one : ∀ x, ∀ u ∈ PartDx.cells x, u.oneCell' = true := fun x u hu => by
 simp only [PartDx.cells, List.mem_cons, List.not_mem_nil, or_false] at hu
 rcases hu with rfl | rfl | rfl <;> rfl
def PartDx.Ok (w : World) (x : PartDx) : Prop := ((-9223372036854775808) ≤ x.xShard ∧ x.xShard ≤ 9223372036854775807) ∧ (SvOk w 6 80 OpD.cells (OpD.Ok w) x.xOps) ∧ (SvOk w 1 8 (eI .i64) (fun n => (-9223372036854775808) ≤ n ∧ n ≤ 9223372036854775807) x.xFrom)
instance : Inhabited PartDx := ⟨⟨default, default, default⟩⟩
structure PartDT where
 xShard : Int
 xOps : Ll OpD
 xFrom : Ll Int
instance : Inhabited PartDT := ⟨⟨default, default, default⟩⟩
def PartDx.abs (x : PartDx) : PartDT := ⟨x.xShard, ⟨x.xOps.ls⟩, ⟨x.xFrom.ls⟩⟩
def PartDx.own (x : PartDx) : List HP := [row x.xOps.A x.xOps.ls.length x.xOps.c (List.flatMap OpD.cells x.xOps.ls) 74 6, row x.xFrom.A x.xFrom.ls.length x.xFrom.c (List.flatMap (eI .i64) x.xFrom.ls) 3 1]
theorem El43 : Elem Try.prog 43 49 1 24 := elem_of (z := .slice none 0 0) Try.underlying43 (by kernel_rfl) rfl (by decide)
abbrev Row49D := Sv ResultD
def Row49D.abs (x : Row49D) : Ll ResultT := ⟨List.map ResultD.abs x.ls⟩
def Row49D.own (x : Row49D) : List HP := [row x.A x.ls.length x.c (List.flatMap ResultD.cells x.ls) 56 3, sepL (List.flatMap ResultD.own x.ls)]
def owner_checkParts_L1 (l0 : List OpD) (k22 : Nat) : List Int → Unit ⊕ Int
  | [] => Sum.inl ()
  | x66 :: q55 => if x66 < 0 then Sum.inr (1) else if x66 ≥ ((l0.length : Nat) : Int) then Sum.inr (1) else owner_checkParts_L1 l0 k22 q55
def owner_checkParts_L0 (l0 : List OpD) (l2 : List (Ll ResultT)) : List PartT → Nat → Unit ⊕ Int
  | [], k22 => Sum.inl ()
  | x34 :: q23, k22 => if ((x34.xOps.ls.length : Nat) : Int) = ((x34.xFrom.ls.length : Nat) : Int) then bnd (List.getD l2 k22 default) fun yx48 => if ((x34.xOps.ls.length : Nat) : Int) = ((yx48.ls.length : Nat) : Int) then lpS (owner_checkParts_L1 l0 k22 x34.xFrom.ls) fun _ => owner_checkParts_L0 l0 l2 q23 (k22 + 1) else Sum.inr (1) else Sum.inr (1)
def owner_checkParts (l0 : List OpD) (l1 : List PartT) (l2 : List (Ll ResultT)) : Int :=
 if ((l2.length : Nat) : Int) = ((l1.length : Nat) : Int) then lp (owner_checkParts_L0 l0 l2 l1 0) fun _ => 0 else 1
set_option maxRecDepth 100000 in
theorem owner_checkParts_ok (w : World) (D : Nat → Prop) (A0 : Option Addr) (n0 c0 : Nat) (l0 : List OpD) (A1 : Option Addr) (n1 c1 : Nat) (d1 : List PartD) (l1 : List PartT) (A2 : Option Addr) (n2 c2 : Nat) (d2 : List Row49D) (l2 : List (Ll ResultT)) (r0 : Int) (H : Own w D w []) (hx0 : Ro w D fun w' => Rds w' 6 A0 n0 (List.flatMap OpD.cells l0)) (hn0 : n0 = l0.length) (hl0 : l0.length * 80 ≤ 211106232532992) (hd1 : List.map PartD.abs d1 = l1) (hx1 : Ro w D fun w' => Rds w' 3 A1 n1 (List.flatMap PartD.cells d1)) (hm1 : ∀ x ∈ d1, Ro w D (fun w' => Rds w' 6 x.xOps.A x.xOps.ls.length (List.flatMap OpD.cells x.xOps.ls)) ∧ (x.xOps.ls.length ≤ x.xOps.c ∧ x.xOps.ls.length ≤ 9223372036854775807) ∧ Ro w D (fun w' => Rds w' 1 x.xFrom.A x.xFrom.ls.length (List.flatMap (eI .i64) x.xFrom.ls)) ∧ (x.xFrom.ls.length ≤ x.xFrom.c ∧ x.xFrom.ls.length ≤ 9223372036854775807)) (hn1 : n1 = l1.length) (hl1 : l1.length * 56 ≤ 211106232532992) (hd2 : List.map Row49D.abs d2 = l2) (hx2 : Ro w D fun w' => Rds w' 1 A2 n2 (List.flatMap (Sv.enc (β := ResultD)) d2)) (hm2 : ∀ x ∈ d2, Ro w D (fun w' => Rds w' 3 x.A x.ls.length (List.flatMap ResultD.cells x.ls)) ∧ (x.ls.length ≤ x.c ∧ x.ls.length ≤ 9223372036854775807) ∧ (∀ y1 ∈ x.ls, Ro w D (fun w' => Rds w' 2 y1.xPairs.A y1.xPairs.ls.length (List.flatMap PairD.cells y1.xPairs.ls)) ∧ (y1.xPairs.ls.length ≤ y1.xPairs.c ∧ y1.xPairs.ls.length ≤ 9223372036854775807))) (hn2 : n2 = l2.length) (hl2 : l2.length * 24 ≤ 211106232532992) (hr : owner_checkParts l0 l1 l2 = r0) :
    Calls Try.prog 44 #[.slice A0 n0 c0, .slice A1 n1 c1, .slice A2 n2 c2] w (Ret fun v w' => v = .int .i64 r0 ∧ Own w D w' []) := by
 subst hn0 hn1 hn2
 have hdl1 := abs_len hd1
 have hdl2 := abs_len hd2
 refine Calls.body (args := [.slice A0 l0.length c0, .slice A1 l1.length c1, .slice A2 l2.length c2]) Try.func44 rfl rfl rfl ?_
 show Wp _ _ _ [(0, .slice A0 l0.length c0), (1, .slice A1 l1.length c1), (2, .slice A2 l2.length c2)] _ _
 refine sr (An rfl (Wp.seq (sr (Mz rfl (Kz (.int .i64 ((l2.length : Nat) : Int)) (Mz rfl (Kz (.int .i64 ((l1.length : Nat) : Int)) (fw (.bool (decide (¬ (((l2.length : Nat) : Int) = ((l1.length : Nat) : Int))))) (Yl.bool (e := !(decide (((l2.length : Nat) : Int) = ((l1.length : Nat) : Int)))) yk decide_not.symm) (nt ?_)))))))))
 by_cases h21 : ((l2.length : Nat) : Int) = ((l1.length : Nat) : Int)
 refine jF (dF (not_not_intro h21)) (sk (Wp.seq (sr (Mz rfl (Kz (.int .i64 ((l1.length : Nat) : Int)) (Mn rfl (bo ?_)))))))
 have H24 : Own w D w [] := H.pk []
 obtain ⟨I28, hI29⟩ : ∃ q : Nat → World → Prop, q = fun (i : Nat) w' => Own w D w' [] ∧ (i ≤ l1.length ∧ owner_checkParts_L0 l0 l2 l1 0 = owner_checkParts_L0 l0 l2 (List.drop i l1) i) := ⟨_, rfl⟩
 have dm30 : ∀ {k22 : Nat} {w' : World}, I28 k22 w' ↔ Own w D w' [] ∧ k22 ≤ l1.length ∧ owner_checkParts_L0 l0 l2 l1 0 = owner_checkParts_L0 l0 l2 (List.drop k22 l1) k22 := by intros; subst hI29; exact Iff.rfl
 refine Wp.loop (fun i : Nat => [(6, .int .i64 0), (18, .int .i64 ((i : Nat) : Int)), (17, .int .i64 ((l1.length : Nat) : Int)), (16, .slice A1 l1.length c1), (0, .slice A0 l0.length c0), (2, .slice A2 l2.length c2)]) I28 (fun i => l1.length - i) 0 ⟨rfl, rfl, rfl, rfl, rfl, rfl, trivial⟩ (dm30.2 ⟨H24, by omega, rfl⟩) ?_
 rintro k22 w25 hf27
 show Wp _ _ _ [(6, .int .i64 0), (18, .int .i64 ((k22 : Nat) : Int)), (17, .int .i64 ((l1.length : Nat) : Int)), (16, .slice A1 l1.length c1), (0, .slice A0 l0.length c0), (2, .slice A2 l2.length c2)] _ _
 obtain ⟨H26, hi32, hq31⟩ := dm30.1 hf27
 refine sr (Kz (.bool (decide (((k22 : Nat) : Int) < ((l1.length : Nat) : Int)))) (nt (Wp.seq ?_)))
 by_cases h33 : ((k22 : Nat) : Int) < ((l1.length : Nat) : Int)
 obtain ⟨x34, hx35⟩ := rds_at (ls := d1) (i := k22) PartD.len (by decide) (H26.ro hx1) (by first | omega | (simp; done) | (simp; omega))
 have hX36 := abs_at hd1 hx35
 have hb37 := (hm1 _ (List.mem_of_getElem? hx35)).2.1
 have hb38 := (hm1 _ (List.mem_of_getElem? hx35)).2.2.2
 have hd39 := drop_at hX36
 refine jT (dT h33) (sk (Wp.seq (bo (sr (Mz rfl (fw (.pointer (some ⟨ab A1, ao A1 + k22 * 3, none⟩)) (Yl.indexAddr (El42) rfl rfl ((H26.ro hx1).addr (i := k22) (by omega)) (by omega)) (fw (.agg (PartD.cells x34).toArray) (Yl.load rfl (Lds.agg (cs := (PartD.cells x34)) Try.isAgg47 Try.sizeOf47 ((H26.ro hx1).elem PartD.len hx35 (by decide)))) ?_)))))))
 refine npw [.int .i64 0, .slice none 0 0, .slice none 0 0] 47 H26 ?_
 intro g40 w41 H42
 refine Az rfl ?_
 refine sto (PartD.cells x34) 0 H42 Try.sizeOf47 ?_
 intro w43 H44
 refine nt (Wp.seq (Wp.seq ?_))
 have H46 := H44.drew
 refine Wp.drawnX [] (fun W => ∃ L', Own w D W ([blk g40 (PartD.cells x34) 47] ++ L')) (by kernel_rfl) (by kernel_rfl) (NoP.then (NoP.then (NoP.block (NoP.then (NoP.then (NoP.block (NoP.then NoP.base))))))) ⟨_, H46⟩ ?_
 revert H46
 generalize World.drew w43 = w45
 intro H46
 refine GX.take (v := .pointer (some ⟨g40, 1, none⟩)) (rs := []) 0 rfl (by kernel_rfl) (fun _ _ => yk) (GX.take (v := .slice x34.xOps.A x34.xOps.ls.length x34.xOps.c) (rs := []) 1 rfl (by kernel_rfl) (fun _ ⟨_, H9⟩ => Yl.load rfl (Lds.one Try.isAgg41 (Cls.of (H9.cls (i := 0) rfl) rfl))) (GX.take (v := .int .i64 ((x34.xOps.ls.length : Nat) : Int)) (rs := []) 2 rfl (by kernel_rfl) (fun _ _ => yk) (GX.take (v := .pointer (some ⟨g40, 2, none⟩)) (rs := []) 3 rfl (by kernel_rfl) (fun _ _ => yk) (GX.take (v := .slice x34.xFrom.A x34.xFrom.ls.length x34.xFrom.c) (rs := []) 4 rfl (by kernel_rfl) (fun _ ⟨_, H9⟩ => Yl.load rfl (Lds.one Try.isAgg45 (Cls.of (H9.cls (i := 0) rfl) rfl))) (GX.take (v := .int .i64 ((x34.xFrom.ls.length : Nat) : Int)) (rs := []) 5 rfl (by kernel_rfl) (fun _ _ => yk) (GX.take (v := .bool (decide (¬ (((x34.xOps.ls.length : Nat) : Int) = ((x34.xFrom.ls.length : Nat) : Int))))) (rs := []) 6 rfl (by kernel_rfl) (fun _ _ => Yl.bool (e := !(decide (((x34.xOps.ls.length : Nat) : Int) = ((x34.xFrom.ls.length : Nat) : Int)))) yk decide_not.symm) (GX.take (v := .bool (decide (¬ (((x34.xOps.ls.length : Nat) : Int) = ((x34.xFrom.ls.length : Nat) : Int))))) (rs := []) 7 rfl (by kernel_rfl) (fun _ _ => Yl.move rfl) ?_)))))))
 by_cases h47 : ((x34.xOps.ls.length : Nat) : Int) = ((x34.xFrom.ls.length : Nat) : Int)
 refine GX.takeG (v := .pointer (some ⟨g40, 1, none⟩)) (rs := []) 8 rfl rfl rfl (dF (not_not_intro h47)) (by kernel_rfl) (fun _ _ => yk) (GX.takeG (v := .slice x34.xOps.A x34.xOps.ls.length x34.xOps.c) (rs := []) 9 rfl rfl rfl (dF (not_not_intro h47)) (by kernel_rfl) (fun _ ⟨_, H9⟩ => Yl.load rfl (Lds.one Try.isAgg41 (Cls.of (H9.cls (i := 0) rfl) rfl))) (GX.takeG (v := .int .i64 ((x34.xOps.ls.length : Nat) : Int)) (rs := []) 10 rfl rfl rfl (dF (not_not_intro h47)) (by kernel_rfl) (fun _ _ => yk) (GX.takeG (v := .slice A2 l2.length c2) (rs := []) 11 rfl rfl rfl (dF (not_not_intro h47)) (by kernel_rfl) (fun _ _ => Yl.move rfl) (GX.takeG (v := .int .i64 ((k22 : Nat) : Int)) (rs := []) 12 rfl rfl rfl (dF (not_not_intro h47)) (by kernel_rfl) (fun _ _ => Yl.move rfl) ?_))))
 obtain ⟨x48, hx49⟩ := at_of (ls := d2) (i := k22) (by first | omega | (simp; done) | (simp; omega))
 have hX50 := abs_at hd2 hx49
 have hb51 := (hm2 _ (List.mem_of_getElem? hx49)).2.1
 have hl52 : List.length (List.map ResultD.abs x48.ls) = x48.ls.length := List.length_map ..
 refine GX.takeG (v := .pointer (some ⟨ab A2, ao A2 + k22 * 1, none⟩)) (rs := []) 13 rfl rfl rfl (dF (not_not_intro h47)) (by kernel_rfl) (fun _ ⟨_, H9⟩ => Yl.indexAddr (El43) rfl rfl ((H9.ro hx2).addr (i := k22) (by omega)) (by omega)) (GX.takeG (v := .slice x48.A x48.ls.length x48.c) (rs := []) 14 rfl rfl rfl (dF (not_not_intro h47)) (by kernel_rfl) (fun _ ⟨_, H9⟩ => Yl.load rfl (Lds.one Try.isAgg49 (((H9.ro hx2).elem svLen hx49 (by decide)).at_ (k := 0) rfl))) (GX.takeG (v := .int .i64 ((List.length (List.map ResultD.abs x48.ls) : Nat) : Int)) (rs := []) 15 rfl rfl rfl (dF (not_not_intro h47)) (by kernel_rfl) (fun _ _ => Yl.int (e := ((x48.ls.length : Nat) : Int)) yk (by rw [List.length_map])) (GX.takeG (v := .bool (decide (¬ (((x34.xOps.ls.length : Nat) : Int) = ((List.length (List.map ResultD.abs x48.ls) : Nat) : Int))))) (rs := []) 16 rfl rfl rfl (dF (not_not_intro h47)) (by kernel_rfl) (fun _ _ => Yl.bool (e := !(decide (((x34.xOps.ls.length : Nat) : Int) = ((List.length (List.map ResultD.abs x48.ls) : Nat) : Int)))) yk decide_not.symm) (GX.take (v := .bool (decide (¬ (((x34.xOps.ls.length : Nat) : Int) = ((List.length (List.map ResultD.abs x48.ls) : Nat) : Int))))) (rs := []) 17 rfl (by kernel_rfl) (fun _ _ => Yl.pickF rfl (dF (not_not_intro h47)) rfl) (GX.done (by kernel_rfl) (Fin.then ?_))))))
 by_cases h53 : ((x34.xOps.ls.length : Nat) : Int) = ((List.length (List.map ResultD.abs x48.ls) : Nat) : Int)
 refine jF (dF (not_not_intro h53)) (sk (sr (Kz (.pointer (some ⟨g40, 2, none⟩)) (Lz (.slice x34.xFrom.A x34.xFrom.ls.length x34.xFrom.c) H46 0 Try.isAgg45 (Kz (.int .i64 ((x34.xFrom.ls.length : Nat) : Int)) (Mn rfl (bo ?_)))))))
 have H56 := H46.pk [0]
 obtain ⟨I60, hI61⟩ : ∃ q : Nat → World → Prop, q = fun (i : Nat) w' => Own w D w' [blk g40 (PartD.cells x34) 47] ∧ (i ≤ x34.xFrom.ls.length ∧ owner_checkParts_L1 l0 k22 x34.xFrom.ls = owner_checkParts_L1 l0 k22 (List.drop i x34.xFrom.ls)) := ⟨_, rfl⟩
 have dm62 : ∀ {k54 : Nat} {w' : World}, I60 k54 w' ↔ Own w D w' [blk g40 (PartD.cells x34) 47] ∧ k54 ≤ x34.xFrom.ls.length ∧ owner_checkParts_L1 l0 k22 x34.xFrom.ls = owner_checkParts_L1 l0 k22 (List.drop k54 x34.xFrom.ls) := by intros; subst hI61; exact Iff.rfl
 refine Wp.loop (fun i : Nat => [(6, .int .i64 0), (44, .int .i64 ((i : Nat) : Int)), (43, .int .i64 ((x34.xFrom.ls.length : Nat) : Int)), (42, .slice x34.xFrom.A x34.xFrom.ls.length x34.xFrom.c), (18, .int .i64 ((k22 : Nat) : Int)), (17, .int .i64 ((l1.length : Nat) : Int)), (16, .slice A1 l1.length c1), (0, .slice A0 l0.length c0), (2, .slice A2 l2.length c2)]) I60 (fun i => x34.xFrom.ls.length - i) 0 ⟨rfl, rfl, rfl, rfl, rfl, rfl, rfl, rfl, rfl, trivial⟩ (dm62.2 ⟨H56, by omega, rfl⟩) ?_
 rintro k54 w57 hf59
 show Wp _ _ _ [(6, .int .i64 0), (44, .int .i64 ((k54 : Nat) : Int)), (43, .int .i64 ((x34.xFrom.ls.length : Nat) : Int)), (42, .slice x34.xFrom.A x34.xFrom.ls.length x34.xFrom.c), (18, .int .i64 ((k22 : Nat) : Int)), (17, .int .i64 ((l1.length : Nat) : Int)), (16, .slice A1 l1.length c1), (0, .slice A0 l0.length c0), (2, .slice A2 l2.length c2)] _ _
 obtain ⟨H58, hi64, hq63⟩ := dm62.1 hf59
 refine sr (Kz (.bool (decide (((k54 : Nat) : Int) < ((x34.xFrom.ls.length : Nat) : Int)))) (nt (Wp.seq ?_)))
 by_cases h65 : ((k54 : Nat) : Int) < ((x34.xFrom.ls.length : Nat) : Int)
 obtain ⟨x66, hx67⟩ := rds_at (ls := x34.xFrom.ls) (i := k54) eI_len (by decide) (H58.ro (hm1 _ (List.mem_of_getElem? hx35)).2.2.1) (by first | omega | (simp; done) | (simp; omega))
 have hd68 := drop_at hx67
 refine jT (dT h65) (sk (Wp.seq (bo (sr (fw (.pointer (some ⟨ab x34.xFrom.A, ao x34.xFrom.A + k54 * 1, none⟩)) (Yl.indexAddr (El45) rfl rfl ((H58.ro (hm1 _ (List.mem_of_getElem? hx35)).2.2.1).addr (i := k54) (by omega)) (by omega)) (fw (.int .i64 x66) (Yl.load rfl (Lds.one Try.isAgg3 (((H58.ro (hm1 _ (List.mem_of_getElem? hx35)).2.2.1).elem eI_len hx67 (by decide)).at_ (k := 0) rfl))) (Ar rfl (Mz rfl (Kz (.bool (decide (x66 < 0))) (Mz rfl ?_))))))))))
 by_cases h69 : x66 < 0
 refine Sz (dT h69) (Sz (dT h69) (Sz (dT h69) (Sz (dT h69) (fw (.bool true) (Yl.pickT rfl (dT h69) rfl) (nt (jt (sr (An rfl (rt (bR (tR (tR (bR (bR (tR (tR (bR (tR (rs ?_)))))))))))))))))))
 have H70 := H58.pk []
 obtain rfl : _ = 1 := hr.symm.trans (et (ip h21) (lp_r (et (hq31) (et (congrArg (fun q => owner_checkParts_L0 l0 l2 q k22) hd39) (et (ip h47) (et (bnd_of (getD_of hX50)) (et (ip h53) (lpS_r (et (hq63) (et (congrArg (fun q => owner_checkParts_L1 l0 k22 q) hd68) (ip h69)))))))))))
 exact ⟨rfl, H70⟩
 refine gw (.int .i64 x66) (dF h69) (Yl.move rfl) (gw (.slice A0 l0.length c0) (dF h69) (Yl.move rfl) (Gz (.int .i64 ((l0.length : Nat) : Int)) (dF h69) (Gz (.bool (decide (x66 ≥ ((l0.length : Nat) : Int)))) (dF h69) (fw (.bool (decide (x66 ≥ ((l0.length : Nat) : Int)))) (Yl.pickF rfl (dF h69) rfl) (nt ?_)))))
 by_cases h71 : x66 ≥ ((l0.length : Nat) : Int)
 refine jT (dT h71) (sr (An rfl (rt (bR (tR (tR (bR (bR (tR (tR (bR (tR (rs ?_)))))))))))))
 have H72 := H58.pk []
 obtain rfl : _ = 1 := hr.symm.trans (et (ip h21) (lp_r (et (hq31) (et (congrArg (fun q => owner_checkParts_L0 l0 l2 q k22) hd39) (et (ip h47) (et (bnd_of (getD_of hX50)) (et (ip h53) (lpS_r (et (hq63) (et (congrArg (fun q => owner_checkParts_L1 l0 k22 q) hd68) (et (iN h69) (ip h71))))))))))))
 exact ⟨rfl, H72⟩
 refine jF (dF h71) (Wp.skip (bN (Fin.then (Wp.region (fw (.int .i64 ((k54 + 1 : Nat) : Int)) (Yl.int (e := IntKind.i64.wrap (((k54 : Nat) : Int) + 1)) yk (by rw [IntWalk.i64_in _ (by omega)]; omega)) (Mz rfl (WL.nil ?_)))))))
 have H73 := H58.pk [0]
 exact Fin.round (k54 + 1) ⟨rfl, rfl, rfl, rfl, rfl, rfl, rfl, rfl, rfl, trivial⟩ (dm62.2 ⟨H73, by omega, et (hq63) (et (congrArg (fun q => owner_checkParts_L1 l0 k22 q) hd68) (et (iN h69) (iN h71)))⟩) (by show x34.xFrom.ls.length - (k54 + 1) < x34.xFrom.ls.length - k54; omega)
 refine jF (dF h65) (Wp.exit (Fin.thenX ?_))
 have hL74 : owner_checkParts_L1 l0 k22 x34.xFrom.ls = Sum.inl () := et (hq63) (et (congrArg (fun q => owner_checkParts_L1 l0 k22 q) (drop_end (ls := x34.xFrom.ls) (i := k54) (by omega))) rfl)
 refine Fin.thenX (Fin.blockX (bN (Fin.then (Wp.region (fw (.int .i64 ((k22 + 1 : Nat) : Int)) (Yl.int (e := IntKind.i64.wrap (((k22 : Nat) : Int) + 1)) yk (by rw [IntWalk.i64_in _ (by omega)]; omega)) (Mz rfl (WL.nil ?_)))))))
 have H75 := H58.pk []
 exact Fin.round (k22 + 1) ⟨rfl, rfl, rfl, rfl, rfl, rfl, trivial⟩ (dm30.2 ⟨H75, by omega, et (hq31) (et (congrArg (fun q => owner_checkParts_L0 l0 l2 q k22) hd39) (et (ip h47) (et (bnd_of (getD_of hX50)) (et (ip h53) (lpS_l hL74)))))⟩) (by show l1.length - (k22 + 1) < l1.length - k22; omega)
 refine jT (dT h53) (sr (An rfl (rt (tR (bR (tR (tR (bR (tR (rs ?_))))))))))
 have H76 := H46.pk []
 obtain rfl : _ = 1 := hr.symm.trans (et (ip h21) (lp_r (et (hq31) (et (congrArg (fun q => owner_checkParts_L0 l0 l2 q k22) hd39) (et (ip h47) (et (bnd_of (getD_of hX50)) (iN h53)))))))
 exact ⟨rfl, H76⟩
 refine GX.skipG (rs := []) 8 rfl rfl rfl (dT h47) (by kernel_rfl) (GX.skipG (rs := []) 9 rfl rfl rfl (dT h47) (by kernel_rfl) (GX.skipG (rs := []) 10 rfl rfl rfl (dT h47) (by kernel_rfl) (GX.skipG (rs := []) 11 rfl rfl rfl (dT h47) (by kernel_rfl) (GX.skipG (rs := []) 12 rfl rfl rfl (dT h47) (by kernel_rfl) (GX.skipG (rs := []) 13 rfl rfl rfl (dT h47) (by kernel_rfl) (GX.skipG (rs := []) 14 rfl rfl rfl (dT h47) (by kernel_rfl) (GX.skipG (rs := []) 15 rfl rfl rfl (dT h47) (by kernel_rfl) (GX.skipG (rs := []) 16 rfl rfl rfl (dT h47) (by kernel_rfl) (GX.take (v := .bool true) (rs := []) 17 rfl (by kernel_rfl) (fun _ _ => Yl.pickT rfl (dT h47) rfl) (GX.done (by kernel_rfl) (Fin.then (jt (sr (An rfl (rt (tR (bR (tR (tR (bR (tR (rs ?_))))))))))))))))))))))
 have H77 := H46.pk []
 obtain rfl : _ = 1 := hr.symm.trans (et (ip h21) (lp_r (et (hq31) (et (congrArg (fun q => owner_checkParts_L0 l0 l2 q k22) hd39) (iN h47)))))
 exact ⟨rfl, H77⟩
 refine jF (dF h33) (Wp.exit (Fin.thenX ?_))
 have hL78 : owner_checkParts_L0 l0 l2 l1 0 = Sum.inl () := et (hq31) (et (congrArg (fun q => owner_checkParts_L0 l0 l2 q k22) (drop_end (ls := l1) (i := k22) (by omega))) rfl)
 refine Fin.thenX (Fin.blockX (Fin.then (sr (An rfl (rt (rs ?_))))))
 have H79 := H26.pk []
 obtain rfl : _ = 0 := hr.symm.trans (et (ip h21) (lp_l hL78))
 exact ⟨rfl, H79⟩
 refine jT (dT h21) (sr (An rfl (rt (tR (rs ?_)))))
 have H80 : Own w D w [] := H.pk []
 obtain rfl : _ = 1 := hr.symm.trans (iN h21)
 exact ⟨rfl, H80⟩
def r04_SameResults_L0 (l1 : List ResultT) : List ResultT → Nat → Unit ⊕ Bool
  | [], k22 => Sum.inl ()
  | x34 :: q23, k22 => bnd (List.getD l1 k22 default) fun yx41 => if x34.xFound = yx41.xFound then if x34.xValue ≠ yx41.xValue then Sum.inr (false) else bnd (r04_SameMap x34.xPairs.ls yx41.xPairs.ls) fun yr53 => if yr53 = true then r04_SameResults_L0 l1 q23 (k22 + 1) else Sum.inr (false) else Sum.inr (false)
def r04_SameResults (l0 : List ResultT) (l1 : List ResultT) : Bool :=
 if ((l0.length : Nat) : Int) = ((l1.length : Nat) : Int) then lp (r04_SameResults_L0 l1 l0 0) fun _ => true else false
set_option maxRecDepth 100000 in
theorem r04_SameResults_ok (w : World) (D : Nat → Prop) (A0 : Option Addr) (n0 c0 : Nat) (d0 : List ResultD) (l0 : List ResultT) (A1 : Option Addr) (n1 c1 : Nat) (d1 : List ResultD) (l1 : List ResultT) (r0 : Bool) (H : Own w D w []) (hd0 : List.map ResultD.abs d0 = l0) (hx0 : Ro w D fun w' => Rds w' 3 A0 n0 (List.flatMap ResultD.cells d0)) (hm0 : ∀ x ∈ d0, Ro w D (fun w' => Rds w' 2 x.xPairs.A x.xPairs.ls.length (List.flatMap PairD.cells x.xPairs.ls)) ∧ (x.xPairs.ls.length ≤ x.xPairs.c ∧ x.xPairs.ls.length ≤ 9223372036854775807)) (hn0 : n0 = l0.length) (hl0 : l0.length * 48 ≤ 211106232532992) (hd1 : List.map ResultD.abs d1 = l1) (hx1 : Ro w D fun w' => Rds w' 3 A1 n1 (List.flatMap ResultD.cells d1)) (hm1 : ∀ x ∈ d1, Ro w D (fun w' => Rds w' 2 x.xPairs.A x.xPairs.ls.length (List.flatMap PairD.cells x.xPairs.ls)) ∧ (x.xPairs.ls.length ≤ x.xPairs.c ∧ x.xPairs.ls.length ≤ 9223372036854775807)) (hn1 : n1 = l1.length) (hl1 : l1.length * 48 ≤ 211106232532992) (hr : r04_SameResults l0 l1 = r0) :
    Calls Try.prog 25 #[.slice A0 n0 c0, .slice A1 n1 c1] w (Ret fun v w' => v = .bool r0 ∧ Own w D w' []) := by
 subst hn0 hn1
 have hdl0 := abs_len hd0
 have hdl1 := abs_len hd1
 refine Calls.body (args := [.slice A0 l0.length c0, .slice A1 l1.length c1]) Try.func25 rfl rfl rfl ?_
 show Wp _ _ _ [(0, .slice A0 l0.length c0), (1, .slice A1 l1.length c1)] _ _
 refine sr (An rfl (Wp.seq (sr (Mz rfl (Kz (.int .i64 ((l0.length : Nat) : Int)) (Mz rfl (Kz (.int .i64 ((l1.length : Nat) : Int)) (fw (.bool (decide (¬ (((l0.length : Nat) : Int) = ((l1.length : Nat) : Int))))) (Yl.bool (e := !(decide (((l0.length : Nat) : Int) = ((l1.length : Nat) : Int)))) yk decide_not.symm) (nt ?_)))))))))
 by_cases h21 : ((l0.length : Nat) : Int) = ((l1.length : Nat) : Int)
 refine jF (dF (not_not_intro h21)) (sk (Wp.seq (sr (Mz rfl (Kz (.int .i64 ((l0.length : Nat) : Int)) (Mn rfl (bo ?_)))))))
 have H24 : Own w D w [] := H.pk []
 obtain ⟨I28, hI29⟩ : ∃ q : Nat → World → Prop, q = fun (i : Nat) w' => Own w D w' [] ∧ (i ≤ l0.length ∧ r04_SameResults_L0 l1 l0 0 = r04_SameResults_L0 l1 (List.drop i l0) i) := ⟨_, rfl⟩
 have dm30 : ∀ {k22 : Nat} {w' : World}, I28 k22 w' ↔ Own w D w' [] ∧ k22 ≤ l0.length ∧ r04_SameResults_L0 l1 l0 0 = r04_SameResults_L0 l1 (List.drop k22 l0) k22 := by intros; subst hI29; exact Iff.rfl
 refine Wp.loop (fun i : Nat => [(4, .bool false), (13, .int .i64 ((i : Nat) : Int)), (12, .int .i64 ((l0.length : Nat) : Int)), (0, .slice A0 l0.length c0), (1, .slice A1 l1.length c1)]) I28 (fun i => l0.length - i) 0 ⟨rfl, rfl, rfl, rfl, rfl, trivial⟩ (dm30.2 ⟨H24, by omega, rfl⟩) ?_
 rintro k22 w25 hf27
 show Wp _ _ _ [(4, .bool false), (13, .int .i64 ((k22 : Nat) : Int)), (12, .int .i64 ((l0.length : Nat) : Int)), (0, .slice A0 l0.length c0), (1, .slice A1 l1.length c1)] _ _
 obtain ⟨H26, hi32, hq31⟩ := dm30.1 hf27
 refine sr (Kz (.bool (decide (((k22 : Nat) : Int) < ((l0.length : Nat) : Int)))) (nt (Wp.seq ?_)))
 by_cases h33 : ((k22 : Nat) : Int) < ((l0.length : Nat) : Int)
 obtain ⟨x34, hx35⟩ := rds_at (ls := d0) (i := k22) ResultD.len (by decide) (H26.ro hx0) (by first | omega | (simp; done) | (simp; omega))
 have hX36 := abs_at hd0 hx35
 have hb37 := (hm0 _ (List.mem_of_getElem? hx35)).2
 have hd38 := drop_at hX36
 refine jT (dT h33) (sk (Wp.seq (bo (sr (Mz rfl (An rfl (Wp.seq ?_)))))))
 have H40 := H26.drew
 refine Wp.drawnX [] (fun W => ∃ L', Own w D W ([] ++ L')) (by kernel_rfl) (by kernel_rfl) (NoP.then (NoP.block (NoP.then (NoP.then (NoP.block (NoP.then NoP.base)))))) ⟨_, H40⟩ ?_
 revert H40
 generalize World.drew w25 = w39
 intro H40
 refine GX.take (v := .slice A0 l0.length c0) (rs := []) 0 rfl (by kernel_rfl) (fun _ _ => Yl.move rfl) (GX.take (v := .int .i64 ((k22 : Nat) : Int)) (rs := []) 1 rfl (by kernel_rfl) (fun _ _ => Yl.move rfl) (GX.take (v := .pointer (some ⟨ab A0, ao A0 + k22 * 3, none⟩)) (rs := []) 2 rfl (by kernel_rfl) (fun _ ⟨_, H9⟩ => Yl.indexAddr (El49) rfl rfl ((H9.ro hx0).addr (i := k22) (by omega)) (by omega)) (GX.take (v := .pointer (some ⟨ab A0, ao A0 + k22 * 3, none⟩)) (rs := []) 3 rfl (by kernel_rfl) (fun _ _ => yk) (GX.take (v := .bool x34.xFound) (rs := []) 4 rfl (by kernel_rfl) (fun _ ⟨_, H9⟩ => Yl.load rfl (Lds.one Try.isAgg4 (((H9.ro hx0).elem ResultD.len hx35 (by decide)).at_ (k := 0) rfl))) (GX.take (v := .slice A1 l1.length c1) (rs := []) 5 rfl (by kernel_rfl) (fun _ _ => Yl.move rfl) (GX.take (v := .int .i64 ((k22 : Nat) : Int)) (rs := []) 6 rfl (by kernel_rfl) (fun _ _ => Yl.move rfl) ?_))))))
 obtain ⟨x41, hx42⟩ := at_of (ls := d1) (i := k22) (by first | omega | (simp; done) | (simp; omega))
 have hX43 := abs_at hd1 hx42
 have hb44 := (hm1 _ (List.mem_of_getElem? hx42)).2
 refine GX.take (v := .pointer (some ⟨ab A1, ao A1 + k22 * 3, none⟩)) (rs := []) 7 rfl (by kernel_rfl) (fun _ ⟨_, H9⟩ => Yl.indexAddr (El49) rfl rfl ((H9.ro hx1).addr (i := k22) (by omega)) (by omega)) (GX.take (v := .pointer (some ⟨ab A1, ao A1 + k22 * 3, none⟩)) (rs := []) 8 rfl (by kernel_rfl) (fun _ _ => yk) (GX.take (v := .bool x41.xFound) (rs := []) 9 rfl (by kernel_rfl) (fun _ ⟨_, H9⟩ => Yl.load rfl (Lds.one Try.isAgg4 (((H9.ro hx1).elem ResultD.len hx42 (by decide)).at_ (k := 0) rfl))) (GX.take (v := .bool (decide (¬ (x34.xFound = x41.xFound)))) (rs := []) 10 rfl (by kernel_rfl) (fun _ _ => Yl.bool (e := !(x34.xFound == x41.xFound)) yk (by first | (rw [Bool.beq_eq_decide_eq]; exact decide_not.symm) | (by_cases q : x34.xFound = x41.xFound <;> simp [q]))) (GX.take (v := .bool (decide (¬ (x34.xFound = x41.xFound)))) (rs := []) 11 rfl (by kernel_rfl) (fun _ _ => Yl.move rfl) ?_))))
 by_cases h45 : x34.xFound = x41.xFound
 refine GX.takeG (v := .slice A0 l0.length c0) (rs := []) 12 rfl rfl rfl (dF (not_not_intro h45)) (by kernel_rfl) (fun _ _ => Yl.move rfl) (GX.takeG (v := .int .i64 ((k22 : Nat) : Int)) (rs := []) 13 rfl rfl rfl (dF (not_not_intro h45)) (by kernel_rfl) (fun _ _ => Yl.move rfl) (GX.takeG (v := .pointer (some ⟨ab A0, ao A0 + k22 * 3, none⟩)) (rs := []) 14 rfl rfl rfl (dF (not_not_intro h45)) (by kernel_rfl) (fun _ ⟨_, H9⟩ => Yl.indexAddr (El49) rfl rfl ((H9.ro hx0).addr (i := k22) (by omega)) (by omega)) (GX.takeG (v := .pointer (some ⟨ab A0, ao A0 + k22 * 3 + 1, none⟩)) (rs := []) 15 rfl rfl rfl (dF (not_not_intro h45)) (by kernel_rfl) (fun _ _ => yk) (GX.takeG (v := .string ⟨List.toArray x34.xValue⟩) (rs := []) 16 rfl rfl rfl (dF (not_not_intro h45)) (by kernel_rfl) (fun _ ⟨_, H9⟩ => Yl.load rfl (Lds.one Try.isAgg9 (((H9.ro hx0).elem ResultD.len hx35 (by decide)).at_ (k := 1) rfl))) (GX.takeG (v := .slice A1 l1.length c1) (rs := []) 17 rfl rfl rfl (dF (not_not_intro h45)) (by kernel_rfl) (fun _ _ => Yl.move rfl) (GX.takeG (v := .int .i64 ((k22 : Nat) : Int)) (rs := []) 18 rfl rfl rfl (dF (not_not_intro h45)) (by kernel_rfl) (fun _ _ => Yl.move rfl) (GX.takeG (v := .pointer (some ⟨ab A1, ao A1 + k22 * 3, none⟩)) (rs := []) 19 rfl rfl rfl (dF (not_not_intro h45)) (by kernel_rfl) (fun _ ⟨_, H9⟩ => Yl.indexAddr (El49) rfl rfl ((H9.ro hx1).addr (i := k22) (by omega)) (by omega)) (GX.takeG (v := .pointer (some ⟨ab A1, ao A1 + k22 * 3 + 1, none⟩)) (rs := []) 20 rfl rfl rfl (dF (not_not_intro h45)) (by kernel_rfl) (fun _ _ => yk) (GX.takeG (v := .string ⟨List.toArray x41.xValue⟩) (rs := []) 21 rfl rfl rfl (dF (not_not_intro h45)) (by kernel_rfl) (fun _ ⟨_, H9⟩ => Yl.load rfl (Lds.one Try.isAgg9 (((H9.ro hx1).elem ResultD.len hx42 (by decide)).at_ (k := 1) rfl))) (GX.takeG (v := .bool (decide (x34.xValue ≠ x41.xValue))) (rs := []) 22 rfl rfl rfl (dF (not_not_intro h45)) (by kernel_rfl) (fun _ _ => Yl.strNe rfl rfl) (GX.take (v := .bool (decide (x34.xValue ≠ x41.xValue))) (rs := []) 23 rfl (by kernel_rfl) (fun _ _ => Yl.pickF rfl (dF (not_not_intro h45)) rfl) (GX.take (v := .bool (decide (x34.xValue ≠ x41.xValue))) (rs := []) 24 rfl (by kernel_rfl) (fun _ _ => Yl.move rfl) ?_))))))))))))
 by_cases h46 : x34.xValue ≠ x41.xValue
 refine GX.skipG (rs := []) 25 rfl rfl rfl (dT h46) (by kernel_rfl) (GX.skipG (rs := []) 26 rfl rfl rfl (dT h46) (by kernel_rfl) (GX.skipG (rs := []) 27 rfl rfl rfl (dT h46) (by kernel_rfl) (GX.skipG (rs := []) 28 rfl rfl rfl (dT h46) (by kernel_rfl) (GX.skipG (rs := []) 29 rfl rfl rfl (dT h46) (by kernel_rfl) (GX.skipG (rs := []) 30 rfl rfl rfl (dT h46) (by kernel_rfl) (GX.skipG (rs := []) 31 rfl rfl rfl (dT h46) (by kernel_rfl) (GX.skipG (rs := []) 32 rfl rfl rfl (dT h46) (by kernel_rfl) (GX.skipG (rs := []) 33 rfl rfl rfl (dT h46) (by kernel_rfl) (GX.skipG (rs := []) 34 rfl rfl rfl (dT h46) (by kernel_rfl) (GX.skipG (rs := []) 35 rfl rfl rfl (dT h46) (by kernel_rfl) (GX.skipG (rs := []) 36 rfl rfl rfl (dT h46) (by kernel_rfl) (GX.take (v := .bool true) (rs := []) 37 rfl (by kernel_rfl) (fun _ _ => Yl.pickT rfl (dT h46) rfl) (GX.done (by kernel_rfl) (Fin.then (jt (sr (An rfl (rt (bR (tR (tR (bR (tR (rs ?_))))))))))))))))))))))))
 have H47 := H40.pk []
 obtain rfl : _ = false := hr.symm.trans (et (ip h21) (lp_r (et (hq31) (et (congrArg (fun q => r04_SameResults_L0 l1 q k22) hd38) (et (bnd_of (getD_of hX43)) (et (ip h45) (ip h46)))))))
 exact ⟨rfl, H47⟩
 refine GX.takeG (v := .slice A0 l0.length c0) (rs := []) 25 rfl rfl rfl (dF h46) (by kernel_rfl) (fun _ _ => Yl.move rfl) (GX.takeG (v := .int .i64 ((k22 : Nat) : Int)) (rs := []) 26 rfl rfl rfl (dF h46) (by kernel_rfl) (fun _ _ => Yl.move rfl) (GX.takeG (v := .pointer (some ⟨ab A0, ao A0 + k22 * 3, none⟩)) (rs := []) 27 rfl rfl rfl (dF h46) (by kernel_rfl) (fun _ ⟨_, H9⟩ => Yl.indexAddr (El49) rfl rfl ((H9.ro hx0).addr (i := k22) (by omega)) (by omega)) (GX.takeG (v := .pointer (some ⟨ab A0, ao A0 + k22 * 3 + 2, none⟩)) (rs := []) 28 rfl rfl rfl (dF h46) (by kernel_rfl) (fun _ _ => yk) (GX.takeG (v := .slice x34.xPairs.A x34.xPairs.ls.length x34.xPairs.c) (rs := []) 29 rfl rfl rfl (dF h46) (by kernel_rfl) (fun _ ⟨_, H9⟩ => Yl.load rfl (Lds.one Try.isAgg54 (((H9.ro hx0).elem ResultD.len hx35 (by decide)).at_ (k := 2) rfl))) (GX.takeG (v := .slice A1 l1.length c1) (rs := []) 30 rfl rfl rfl (dF h46) (by kernel_rfl) (fun _ _ => Yl.move rfl) (GX.takeG (v := .int .i64 ((k22 : Nat) : Int)) (rs := []) 31 rfl rfl rfl (dF h46) (by kernel_rfl) (fun _ _ => Yl.move rfl) (GX.takeG (v := .pointer (some ⟨ab A1, ao A1 + k22 * 3, none⟩)) (rs := []) 32 rfl rfl rfl (dF h46) (by kernel_rfl) (fun _ ⟨_, H9⟩ => Yl.indexAddr (El49) rfl rfl ((H9.ro hx1).addr (i := k22) (by omega)) (by omega)) (GX.takeG (v := .pointer (some ⟨ab A1, ao A1 + k22 * 3 + 2, none⟩)) (rs := []) 33 rfl rfl rfl (dF h46) (by kernel_rfl) (fun _ _ => yk) (GX.takeG (v := .slice x41.xPairs.A x41.xPairs.ls.length x41.xPairs.c) (rs := []) 34 rfl rfl rfl (dF h46) (by kernel_rfl) (fun _ ⟨_, H9⟩ => Yl.load rfl (Lds.one Try.isAgg54 (((H9.ro hx1).elem ResultD.len hx42 (by decide)).at_ (k := 2) rfl))) ?_)))))))))
 obtain ⟨r53, hr54⟩ : ∃ q, r04_SameMap x34.xPairs.ls x41.xPairs.ls = q := ⟨_, rfl⟩
 obtain ⟨D48, HP49, ro50, bk51, rr52⟩ := Own.enter0 H40
 refine GX.doG 35 rfl rfl rfl (dF h46) (by kernel_rfl) (Do.call Try.call47 rfl (r04_SameMap_ok _ _ x34.xPairs.A x34.xPairs.ls.length x34.xPairs.c x34.xPairs.ls x41.xPairs.A x41.xPairs.ls.length x41.xPairs.c x41.xPairs.ls r53 HP49 (ro50 _ (hm0 _ (List.mem_of_getElem? hx35)).1) rfl (by omega) (ro50 _ (hm1 _ (List.mem_of_getElem? hx42)).1) rfl (by omega) hr54) ?_)
 rintro _ w55 ⟨rfl, HQ56⟩
 have H57 := bk51 _ _ HQ56
 refine ⟨.inr ⟨_, H57⟩, ?_⟩
 refine GX.takeG (v := .bool (!r53)) (rs := []) 36 rfl rfl rfl (dF h46) (by kernel_rfl) (fun _ _ => yk) (GX.take (v := .bool (!r53)) (rs := []) 37 rfl (by kernel_rfl) (fun _ _ => Yl.pickF rfl (dF h46) rfl) (GX.done (by kernel_rfl) (Fin.then ?_)))
 rcases Bool.eq_false_or_eq_true (r53) with h58 | h58
 refine jF (cn h58) (Wp.skip (bN (Fin.then (Wp.region (fw (.int .i64 ((k22 + 1 : Nat) : Int)) (Yl.int (e := IntKind.i64.wrap (((k22 : Nat) : Int) + 1)) yk (by rw [IntWalk.i64_in _ (by omega)]; omega)) (Mz rfl (WL.nil ?_)))))))
 have H59 := H57.pk []
 exact Fin.round (k22 + 1) ⟨rfl, rfl, rfl, rfl, rfl, trivial⟩ (dm30.2 ⟨H59, by omega, et (hq31) (et (congrArg (fun q => r04_SameResults_L0 l1 q k22) hd38) (et (bnd_of (getD_of hX43)) (et (ip h45) (et (iN h46) (et (bnd_of hr54) (ip h58))))))⟩) (by show l0.length - (k22 + 1) < l0.length - k22; omega)
 refine jT (cn h58) (sr (An rfl (rt (bR (tR (tR (bR (tR (rs ?_)))))))))
 have H60 := H57.pk []
 obtain rfl : _ = false := hr.symm.trans (et (ip h21) (lp_r (et (hq31) (et (congrArg (fun q => r04_SameResults_L0 l1 q k22) hd38) (et (bnd_of (getD_of hX43)) (et (ip h45) (et (iN h46) (et (bnd_of hr54) (ifF h58)))))))))
 exact ⟨rfl, H60⟩
 refine GX.skipG (rs := []) 12 rfl rfl rfl (dT h45) (by kernel_rfl) (GX.skipG (rs := []) 13 rfl rfl rfl (dT h45) (by kernel_rfl) (GX.skipG (rs := []) 14 rfl rfl rfl (dT h45) (by kernel_rfl) (GX.skipG (rs := []) 15 rfl rfl rfl (dT h45) (by kernel_rfl) (GX.skipG (rs := []) 16 rfl rfl rfl (dT h45) (by kernel_rfl) (GX.skipG (rs := []) 17 rfl rfl rfl (dT h45) (by kernel_rfl) (GX.skipG (rs := []) 18 rfl rfl rfl (dT h45) (by kernel_rfl) (GX.skipG (rs := []) 19 rfl rfl rfl (dT h45) (by kernel_rfl) (GX.skipG (rs := []) 20 rfl rfl rfl (dT h45) (by kernel_rfl) (GX.skipG (rs := []) 21 rfl rfl rfl (dT h45) (by kernel_rfl) (GX.skipG (rs := []) 22 rfl rfl rfl (dT h45) (by kernel_rfl) (GX.take (v := .bool true) (rs := []) 23 rfl (by kernel_rfl) (fun _ _ => Yl.pickT rfl (dT h45) rfl) (GX.take (v := .bool true) (rs := []) 24 rfl (by kernel_rfl) (fun _ _ => Yl.move rfl) (GX.skipG (rs := []) 25 rfl rfl rfl rfl (by kernel_rfl) (GX.skipG (rs := []) 26 rfl rfl rfl rfl (by kernel_rfl) (GX.skipG (rs := []) 27 rfl rfl rfl rfl (by kernel_rfl) (GX.skipG (rs := []) 28 rfl rfl rfl rfl (by kernel_rfl) (GX.skipG (rs := []) 29 rfl rfl rfl rfl (by kernel_rfl) (GX.skipG (rs := []) 30 rfl rfl rfl rfl (by kernel_rfl) (GX.skipG (rs := []) 31 rfl rfl rfl rfl (by kernel_rfl) (GX.skipG (rs := []) 32 rfl rfl rfl rfl (by kernel_rfl) (GX.skipG (rs := []) 33 rfl rfl rfl rfl (by kernel_rfl) (GX.skipG (rs := []) 34 rfl rfl rfl rfl (by kernel_rfl) (GX.skipG (rs := []) 35 rfl rfl rfl rfl (by kernel_rfl) (GX.skipG (rs := []) 36 rfl rfl rfl rfl (by kernel_rfl) (GX.take (v := .bool true) (rs := []) 37 rfl (by kernel_rfl) (fun _ _ => Yl.pickT rfl rfl rfl) (GX.done (by kernel_rfl) (Fin.then (jt (sr (An rfl (rt (bR (tR (tR (bR (tR ?_))))))))))))))))))))))))))))))))))))
 refine rs ?_
 have H61 := H40.pk []
 obtain rfl : _ = false := hr.symm.trans (et (ip h21) (lp_r (et (hq31) (et (congrArg (fun q => r04_SameResults_L0 l1 q k22) hd38) (et (bnd_of (getD_of hX43)) (iN h45))))))
 exact ⟨rfl, H61⟩
 refine jF (dF h33) (Wp.exit (Fin.thenX ?_))
 have hL62 : r04_SameResults_L0 l1 l0 0 = Sum.inl () := et (hq31) (et (congrArg (fun q => r04_SameResults_L0 l1 q k22) (drop_end (ls := l0) (i := k22) (by omega))) rfl)
 refine Fin.thenX (Fin.blockX (Fin.then (sr (An rfl (rt (rs ?_))))))
 have H63 := H26.pk []
 obtain rfl : _ = true := hr.symm.trans (et (ip h21) (lp_l hL62))
 exact ⟨rfl, H63⟩
 refine jT (dT h21) (sr (An rfl (rt (tR (rs ?_)))))
 have H64 : Own w D w [] := H.pk []
 obtain rfl : _ = false := hr.symm.trans (iN h21)
 exact ⟨rfl, H64⟩
end Go.Proofs.Ytcjjblkgbfaapaa
