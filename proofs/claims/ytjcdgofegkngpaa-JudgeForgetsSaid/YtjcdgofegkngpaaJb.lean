/-
 judge: what was seen, judged.
-/
import Derived.Test.YtjcdgofegkngpaaJa
namespace Go.Proofs.Ytjcdgofegkngpaa
open Go.RowKit
set_option linter.unusedVariables false
set_option linter.unusedSectionVars false
set_option linter.unusedSimpArgs false

theorem El22 : Elem Try.prog 22 39 6 80 := elem_of (z := .agg #[.int .i64 0, .int .i64 0, .int .u64 0, .int .i64 0, .slice none 0 0, .slice none 0 0]) Try.underlying22 (by kernel_rfl) rfl (by decide)

def slices_Clone_api_Op_api_Op (l0 : List OpD) : (List OpD) :=
 l0

set_option maxRecDepth 100000 in
theorem slices_Clone_api_Op_api_Op_ok (w : World) (D : Nat → Prop) (A0 : Option Addr) (n0 c0 : Nat) (l0 : List OpD) (r0 : List OpD) (H : Own w D w []) (hx0 : Ro w D fun w' => Rds w' 6 A0 n0 (List.flatMap OpD.cells l0)) (hn0 : n0 = l0.length) (hl0 : l0.length * 80 ≤ 211106232532992) (hr : slices_Clone_api_Op_api_Op l0 = r0) :
    Calls Try.prog 34 #[.slice A0 n0 c0] w (Ret fun v w' => ∃ (B0 : Option Addr) (b0 : Nat), v = .slice B0 r0.length b0 ∧ Own w D w' [row B0 r0.length b0 (List.flatMap OpD.cells r0) 53 6]) := by
 subst hn0
 refine Calls.body (args := [.slice A0 l0.length c0]) Try.func34 rfl rfl rfl ?_
 show Wp _ _ _ [(0, .slice A0 l0.length c0)] _ _
 refine sr (An rfl (Wp.seq (sr (Mz rfl (fw (.bool (Option.isNone A0)) (Yl.sliceNil Try.underlying36 rfl rfl) (nt ?_))))))
 rcases Bool.eq_false_or_eq_true (Option.isNone A0) with h21 | h21
 obtain rfl : l0 = [] := rds_none (enc := OpD.cells) (H.ro hx0) h21
 refine jT h21 (sr (An rfl (rt (tR (rs ?_)))))
 have H22 : Own w D w [row none 0 0 (List.flatMap OpD.cells ([])) 53 6] := H.free (row_nil 53 6)
 have H23 := H22.pk [0]
 obtain rfl : _ = ([]) := hr.symm.trans rfl
 exact ⟨none, 0, rfl, H23⟩
 refine jF h21 (sk (sr ?_))
 refine nrw [] 53 6 0 H ?_
 intro A24 w25 H26
 replace H26 : Own w D w25 [row A24 0 0 (List.flatMap OpD.cells ([])) 53 6] := H26
 refine Mz rfl ?_
 refine WL.do rfl (Do.appendW (k := 0) (m := l0.length) (El36) H26 rfl rfl (src_of Try.underlying36 (H26.ro hx0) (flat_one OpD.one l0)) rfl (by omega) (s := l0.length) (by omega) rfl ?_)
 intro A27 c28 w29 H30
 refine An rfl (rt (rs ?_))
 have H31 := H30.pk [0]
 obtain rfl : _ = l0 := hr.symm.trans rfl
 exact ⟨A27, c28, rfl, H31⟩

def judge_Judge_L1 (k37 : Nat) (l40 : List PairD) (m42 : List (requestD × fateT)) (x57 : SeenT) (x87 : fateT) : Nat → Nat → Unit ⊕ (Int × Int)
  | 0, k187 => Sum.inl ()
  | q188 + 1, k187 => bnd (List.getD x57.xResults.ls k187 default) fun yx199 => bnd (List.getD x87.xresults.ls k187 default) fun yx208 => bnd (judge_same (ResultT.mk yx199.xFound yx199.xValue (Ll.mk yx199.xPairs.ls)) (ResultT.mk yx208.xFound yx208.xValue (Ll.mk yx208.xPairs.ls))) fun yr222 => if yr222 = true then judge_Judge_L1 k37 l40 m42 x57 x87 q188 (k187 + 1) else Sum.inr (((k37 : Nat) : Int), 11)

def judge_Judge_L0 : List SeenT → Nat → List PairD → List (requestD × fateT) → Unit ⊕ (Int × Int)
  | [], k37, l40, m42 => Sum.inl ()
  | x57 :: q43, k37, l40, m42 => bnd (judge_check (SeenT.mk x57.xKind x57.xClient x57.xReq x57.xCode (Ll.mk x57.xOps.ls) (Ll.mk x57.xResults.ls))) fun yr72 => if yr72 = 0 then if Option.isSome (mget m42 (requestD.mk x57.xClient x57.xReq)) = true then bnd (Option.getD (mget m42 (requestD.mk x57.xClient x57.xReq)) default) fun yx87 => if x57.xKind = 1 then Sum.inr (((k37 : Nat) : Int), 6) else if x57.xKind = 2 then if yx87.xdecided = true then Sum.inr (((k37 : Nat) : Int), 6) else if yx87.xtold = true then Sum.inr (((k37 : Nat) : Int), 4) else bnd (op_Apply l40 yx87.xops.ls) fun yr124 => if yr124.2.2 = 0 then judge_Judge_L0 q43 (k37 + 1) yr124.1 (mput m42 (requestD.mk x57.xClient x57.xReq) (fateT.mk (Ll.mk yx87.xops.ls) true yx87.xtold (Ll.mk yr124.2.1))) else Sum.inr (((k37 : Nat) : Int), 1) else if x57.xKind = 3 then if yx87.xtold = true then Sum.inr (((k37 : Nat) : Int), 6) else if yx87.xdecided = (decide (x57.xCode = 1)) then if ((x57.xResults.ls.length : Nat) : Int) = ((yx87.xresults.ls.length : Nat) : Int) then lpS (judge_Judge_L1 k37 l40 m42 x57 yx87 x57.xResults.ls.length 0) fun _ => judge_Judge_L0 q43 (k37 + 1) l40 (mput m42 (requestD.mk x57.xClient x57.xReq) (fateT.mk (Ll.mk yx87.xops.ls) yx87.xdecided true (Ll.mk yx87.xresults.ls))) else Sum.inr (((k37 : Nat) : Int), 11) else Sum.inr (((k37 : Nat) : Int), 4) else judge_Judge_L0 q43 (k37 + 1) l40 (mput m42 (requestD.mk x57.xClient x57.xReq) (fateT.mk (Ll.mk yx87.xops.ls) yx87.xdecided yx87.xtold (Ll.mk yx87.xresults.ls))) else if x57.xKind = 1 then judge_Judge_L0 q43 (k37 + 1) l40 (mput m42 (requestD.mk x57.xClient x57.xReq) (fateT.mk (Ll.mk x57.xOps.ls) false false (Ll.mk ([])))) else if x57.xKind = 2 then Sum.inr (((k37 : Nat) : Int), 5) else if x57.xKind = 3 then Sum.inr (((k37 : Nat) : Int), 5) else Sum.inr (((k37 : Nat) : Int), 5) else Sum.inr (((k37 : Nat) : Int), yr72)

def judge_Judge (l0 : List SeenT) : Int × Int :=
 lp (judge_Judge_L0 l0 0 ([]) ([])) fun _ => ((-1), 0)

set_option maxRecDepth 100000 in
set_option maxHeartbeats 4000000 in
theorem judge_Judge_ok (w : World) (D : Nat → Prop) (A0 : Option Addr) (n0 c0 : Nat) (d0 : List SeenD) (l0 : List SeenT) (r0 : Int) (r1 : Int) (H : Own w D w []) (hd0 : List.map SeenD.abs d0 = l0) (hx0 : Ro w D fun w' => Rds w' 6 A0 n0 (List.flatMap SeenD.cells d0)) (hm0 : ∀ x ∈ d0, Ro w D (fun w' => Rds w' 6 x.xOps.A x.xOps.ls.length (List.flatMap OpD.cells x.xOps.ls)) ∧ (x.xOps.ls.length ≤ x.xOps.c ∧ x.xOps.ls.length ≤ 9223372036854775807) ∧ Ro w D (fun w' => Rds w' 3 x.xResults.A x.xResults.ls.length (List.flatMap ResultD.cells x.xResults.ls)) ∧ (x.xResults.ls.length ≤ x.xResults.c ∧ x.xResults.ls.length ≤ 9223372036854775807) ∧ (∀ y1 ∈ x.xResults.ls, Ro w D (fun w' => Rds w' 2 y1.xPairs.A y1.xPairs.ls.length (List.flatMap PairD.cells y1.xPairs.ls)) ∧ (y1.xPairs.ls.length ≤ y1.xPairs.c ∧ y1.xPairs.ls.length ≤ 9223372036854775807))) (hn0 : n0 = l0.length) (hl0 : l0.length ≤ 9223372036854775807) (hh0 : l0.length ≤ 1000000000) (hr : judge_Judge l0 = (r0, r1)) :
    Calls Try.prog 9 #[.slice A0 n0 c0] w (Ret fun v w' => v = .tuple #[.int .i64 r0, .int .i64 r1] ∧ Own w D w' []) := by
 subst hn0
 have hdl0 := abs_len hd0
 refine Calls.body (args := [.slice A0 l0.length c0]) Try.func9 rfl rfl rfl ?_
 show Wp _ _ _ [(0, .slice A0 l0.length c0)] _ _
 refine sr (Az rfl (Ar rfl ?_))
 refine WL.do rfl (Do.makeMap (κ := requestD) (ν := fateD) requestD.key fateD.val H ?_)
 intro g21 w22 H23
 have H24 : Own w D w22 [sepL (List.flatMap (fun p : requestD × fateD => fateD.own p.2) ([])), mapr g21 requestD.key fateD.val ([])] := H23.sepNil
 refine Kz (.agg #[.map (some g21), .slice none 0 0]) ?_
 refine npw [.map (some g21), .slice none 0 0] 57 H24 ?_
 intro g25 w26 H27
 refine Ar rfl (Mz rfl (Mz rfl ?_))
 refine WL.do rfl (Do.call Try.call18 rfl ?_ (fun _ _ k => k))
 refine Calls.body (args := [.pointer (some ⟨g25, 0, none⟩), .slice A0 l0.length c0]) Try.func18 rfl rfl rfl ?_
 show Wp _ _ _ [(0, .pointer (some ⟨g25, 0, none⟩)), (1, .slice A0 l0.length c0)] _ _
 refine sr (Az rfl (Ar rfl (Mz rfl (Kz (.pointer (some ⟨g25, 0, none⟩)) (Kz (.pointer (some ⟨g25, 0, none⟩)) (Lz (.map (some g21)) H27 0 Try.isAgg55 ?_))))))
 have H28 := H27.pk [2, 0, 1]
 refine WL.do0 (Do.clearMap H28 Try.underlying55 rfl ?_)
 intro w29 H30
 have H31 := H30.pk [0, 1]
 have H32 : Own w D w29 [sepL (List.flatMap (fun p : requestD × fateD => fateD.own p.2) ([])), mapr g21 requestD.key fateD.val ([]), blk g25 [.map (some g21), .slice none 0 0] 57] := H31.sepNil
 refine ns (Mz rfl (Kz (.pointer (some ⟨g25, 0, none⟩)) (Kz (.pointer (some ⟨g25, 1, none⟩)) ?_)))
 have H33 := H32.pk [2, 0, 1]
 refine sto [.slice none 0 0] 1 H33 Try.sizeOf27 ?_
 intro w34 H35
 refine nt (Wp.seq (sr (Mz rfl (Kz (.int .i64 ((l0.length : Nat) : Int)) (Mn rfl (bo ?_))))))
 have H36 : Own w D w34 [row none 0 0 (List.flatMap PairD.cells ([])) 32 2, blk g25 [.map (some g21), .slice none 0 0] 57, sepL (List.flatMap (fun p : requestD × fateD => fateD.own p.2) ([])), mapr g21 requestD.key fateD.val ([])] := H35.free (row_nil 32 2)
 have H44 := H36.pk [1, 3, 2, 0]
 obtain ⟨I48, hI49⟩ : ∃ q : (Nat × (Option Addr) × Nat × (List PairD) × (List (requestD × fateD)) × (List (requestD × fateT))) → World → Prop, q = fun (i : Nat × (Option Addr) × Nat × (List PairD) × (List (requestD × fateD)) × (List (requestD × fateT))) w' => Own w D w' [blk g25 [.map (some g21), .slice i.2.1 i.2.2.2.1.length i.2.2.1] 57, mapr g21 requestD.key fateD.val i.2.2.2.2.1, sepL (List.flatMap (fun p : requestD × fateD => fateD.own p.2) i.2.2.2.2.1), row i.2.1 i.2.2.2.1.length i.2.2.1 (List.flatMap PairD.cells i.2.2.2.1) 32 2] ∧ (mabs fateD.abs i.2.2.2.2.1 = i.2.2.2.2.2 ∧ i.1 ≤ l0.length ∧ ((i.2.2.2.1.length : Nat) : Int) ≤ 24 * ((i.1 : Nat) : Int) ∧ OpsOk i.2.2.2.2.2 ∧ judge_Judge_L0 l0 0 ([]) ([]) = judge_Judge_L0 (List.drop i.1 l0) i.1 i.2.2.2.1 i.2.2.2.2.2) := ⟨_, rfl⟩
 have dm50 : ∀ {k37 : Nat} {A38 : Option Addr} {c39 : Nat} {l40 : List PairD} {d41 : List (requestD × fateD)} {m42 : List (requestD × fateT)} {w' : World}, I48 (k37, A38, c39, l40, d41, m42) w' ↔ Own w D w' [blk g25 [.map (some g21), .slice A38 l40.length c39] 57, mapr g21 requestD.key fateD.val d41, sepL (List.flatMap (fun p : requestD × fateD => fateD.own p.2) d41), row A38 l40.length c39 (List.flatMap PairD.cells l40) 32 2] ∧ mabs fateD.abs d41 = m42 ∧ k37 ≤ l0.length ∧ ((l40.length : Nat) : Int) ≤ 24 * ((k37 : Nat) : Int) ∧ OpsOk m42 ∧ judge_Judge_L0 l0 0 ([]) ([]) = judge_Judge_L0 (List.drop k37 l0) k37 l40 m42 := by intros; subst hI49; exact Iff.rfl
 refine Wp.loop (fun i : Nat × (Option Addr) × Nat × (List PairD) × (List (requestD × fateD)) × (List (requestD × fateT)) => [(4, .int .i64 0), (5, .int .i64 0), (17, .int .i64 ((i.1 : Nat) : Int)), (16, .int .i64 ((l0.length : Nat) : Int)), (0, .pointer (some ⟨g25, 0, none⟩)), (1, .slice A0 l0.length c0)]) I48 (fun i => l0.length - i.1) (0, none, 0, [], [], []) ⟨rfl, rfl, rfl, rfl, rfl, rfl, trivial⟩ (dm50.2 ⟨H44, (show mabs fateD.abs ([]) = ([]) ∧ 0 ≤ l0.length ∧ ((0 : Nat) : Int) ≤ 24 * ((0 : Nat) : Int) ∧ OpsOk ([]) ∧ judge_Judge_L0 l0 0 ([]) ([]) = judge_Judge_L0 (List.drop 0 l0) 0 ([]) ([]) from ⟨by exact (rfl : mabs fateD.abs [] = ([] : List (requestD × fateT))), by omega, by omega, by first | assumption | (intro p hp; cases hp) | exact ops_put (by assumption) (by first | omega | (dsimp only; omega)), rfl⟩)⟩) ?_
 rintro ⟨k37, A38, c39, l40, d41, m42⟩ w45 hf47
 show Wp _ _ _ [(4, .int .i64 0), (5, .int .i64 0), (17, .int .i64 ((k37 : Nat) : Int)), (16, .int .i64 ((l0.length : Nat) : Int)), (0, .pointer (some ⟨g25, 0, none⟩)), (1, .slice A0 l0.length c0)] _ _
 obtain ⟨H46, hi52, hi53, hi54, hi55, hq51⟩ := dm50.1 hf47
 refine sr (Kz (.bool (decide (((k37 : Nat) : Int) < ((l0.length : Nat) : Int)))) (nt (Wp.seq ?_)))
 by_cases h56 : ((k37 : Nat) : Int) < ((l0.length : Nat) : Int)
 obtain ⟨x57, hx58⟩ := rds_at (ls := d0) (i := k37) SeenD.len (by decide) (H46.ro hx0) (by first | omega | (simp; done) | (simp; omega))
 have hX59 := abs_at hd0 hx58
 have hb60 := (hm0 _ (List.mem_of_getElem? hx58)).2.1
 have hb61 := (hm0 _ (List.mem_of_getElem? hx58)).2.2.2.1
 have hl62 : List.length (List.map ResultD.abs x57.xResults.ls) = x57.xResults.ls.length := List.length_map ..
 have hd63 := drop_at hX59
 refine jT (dT h56) (sk (Wp.seq (bo (sr (Mz rfl (Ar rfl (Mz rfl (Mz rfl (Mz rfl (fw (.pointer (some ⟨ab A0, ao A0 + k37 * 6, none⟩)) (Yl.indexAddr (El22) rfl rfl ((H46.ro hx0).addr (i := k37) (by omega)) (by omega)) (fw (.agg (SeenD.cells x57).toArray) (Yl.load rfl (Lds.agg (cs := (SeenD.cells x57)) Try.isAgg39 Try.sizeOf39 ((H46.ro hx0).elem SeenD.len hx58 (by decide)))) ?_)))))))))))
 refine WL.do rfl (Do.call Try.call27 rfl ?_ (fun _ _ k => k))
 refine Calls.body (args := [.pointer (some ⟨g25, 0, none⟩), .agg (SeenD.cells x57).toArray]) Try.func27 rfl rfl rfl ?_
 show Wp _ _ _ [(0, .pointer (some ⟨g25, 0, none⟩)), (1, .agg (SeenD.cells x57).toArray)] _ _
 refine sr ?_
 refine npw (SeenD.cells x57) 39 H46 ?_
 intro g64 w65 H66
 refine An rfl (Wp.seq (sr (La (SeenD.cells x57) H66 0 Try.isAgg39 Try.sizeOf39 ?_)))
 obtain ⟨r72, hr73⟩ : ∃ q, judge_check (SeenT.mk x57.xKind x57.xClient x57.xReq x57.xCode (Ll.mk x57.xOps.ls) (Ll.mk (List.map ResultD.abs x57.xResults.ls))) = q := ⟨_, rfl⟩
 obtain ⟨D67, HP68, ro69, bk70, rr71⟩ := Own.enter0 H66
 refine cl Try.call33 (judge_check_ok _ _ (SeenT.mk x57.xKind x57.xClient x57.xReq x57.xCode (Ll.mk x57.xOps.ls) (Ll.mk (List.map ResultD.abs x57.xResults.ls))) x57.xOps.A x57.xOps.ls.length x57.xOps.c x57.xResults.A x57.xResults.ls.length x57.xResults.c x57.xResults.ls r72 HP68 rfl (ro69 _ (hm0 _ (List.mem_of_getElem? hx58)).1) (show x57.xOps.ls.length ≤ x57.xOps.c ∧ x57.xOps.ls.length ≤ 9223372036854775807 from by omega) (rfl : List.map ResultD.abs x57.xResults.ls = List.map ResultD.abs x57.xResults.ls) (by first | rfl | omega | (simp only [List.length_append, List.length_cons, List.length_nil, List.length_take, List.length_drop, List.length_set, List.length_replicate, List.length_map] <;> omega)) (fun w9 h9 => rdsL (abs_len (rfl : List.map ResultD.abs x57.xResults.ls = List.map ResultD.abs x57.xResults.ls)) ((ro69 _ (hm0 _ (List.mem_of_getElem? hx58)).2.2.1) w9 h9)) (show List.length (List.map ResultD.abs x57.xResults.ls) ≤ x57.xResults.c ∧ List.length (List.map ResultD.abs x57.xResults.ls) ≤ 9223372036854775807 from by omega) (fun x9 h9 => ⟨ro69 _ ((hm0 _ (List.mem_of_getElem? hx58)).2.2.2.2 x9 h9).1, ((hm0 _ (List.mem_of_getElem? hx58)).2.2.2.2 x9 h9).2⟩) hr73) ?_
 rintro _ w74 ⟨rfl, HQ75, hk77⟩
 have H76 := bk70 _ _ HQ75
 replace hk77 : ¬ (r72 = 0) ∨ ¬ (x57.xKind = 1) ∨ x57.xOps.ls.length ≤ 24 := hk77
 refine Ar rfl (Mz rfl (fw (.bool (decide (¬ (r72 = 0)))) (Yl.bool (e := !(decide (r72 = 0))) yk decide_not.symm) (nt ?_)))
 by_cases h78 : r72 = 0
 refine jF (dF (not_not_intro h78)) (sk (sr (Kz (.pointer (some ⟨g64, 1, none⟩)) (Lz (.int .i64 x57.xClient) H76 0 Try.isAgg3 (Kz (.pointer (some ⟨g64, 2, none⟩)) (Lz (.int .u64 ((x57.xReq : Nat) : Int)) H76 0 Try.isAgg35 (Kz (.agg #[.int .i64 x57.xClient, .int .u64 ((x57.xReq : Nat) : Int)]) ?_)))))))
 refine npw [.int .i64 0, .int .u64 0] 75 H76 ?_
 intro g79 w80 H81
 refine sto [.int .i64 x57.xClient, .int .u64 ((x57.xReq : Nat) : Int)] 0 H81 Try.sizeOf75 ?_
 intro w82 H83
 refine nt (Wp.seq ?_)
 have H85 := H83.drew
 refine Wp.drawnX [] (fun W => ∃ L', Own w D W ([blk g79 [.int .i64 x57.xClient, .int .u64 ((x57.xReq : Nat) : Int)] 75, blk g64 (SeenD.cells x57) 39, blk g25 [.map (some g21), .slice A38 l40.length c39] 57, mapr g21 requestD.key fateD.val d41, sepL (List.flatMap (fun p : requestD × fateD => fateD.own p.2) d41), row A38 l40.length c39 (List.flatMap PairD.cells l40) 32 2] ++ L')) (by kernel_rfl) (by kernel_rfl) (NoP.then NoP.base) ⟨_, H85⟩ ?_
 revert H85
 generalize World.drew w82 = w84
 intro H85
 refine GX.take (v := .pointer (some ⟨g25, 0, none⟩)) (rs := []) 0 rfl (by kernel_rfl) (fun _ _ => Yl.move rfl) (GX.take (v := .pointer (some ⟨g25, 0, none⟩)) (rs := []) 1 rfl (by kernel_rfl) (fun _ _ => yk) (GX.take (v := .pointer (some ⟨g25, 0, none⟩)) (rs := []) 2 rfl (by kernel_rfl) (fun _ _ => yk) (GX.take (v := .map (some g21)) (rs := []) 3 rfl (by kernel_rfl) (fun _ ⟨_, H9⟩ => Yl.load rfl (Lds.one Try.isAgg55 (Cls.of (H9.cls (i := 2) rfl) rfl))) (GX.take (v := .agg #[.int .i64 x57.xClient, .int .u64 ((x57.xReq : Nat) : Int)]) (rs := []) 4 rfl (by kernel_rfl) (fun _ ⟨_, H9⟩ => Yl.load rfl (Lds.agg (cs := [.int .i64 x57.xClient, .int .u64 ((x57.xReq : Nat) : Int)]) Try.isAgg75 Try.sizeOf75 ((H9.cls (i := 0) rfl).lit (k := 0) (m := 2) rfl))) ?_))))
 rcases Bool.eq_false_or_eq_true (Option.isSome (mget m42 (requestD.mk x57.xClient x57.xReq))) with h86 | h86
 obtain ⟨x87, j88, hj89, hg90, ha91⟩ := mab_some hi52 h86
 have hz92 : x87.xops.ls.length ≤ 24 := ops_get (by assumption) ha91
 have hb93 : x87.xops.ls.length ≤ x87.xops.c ∧ x87.xops.ls.length ≤ 9223372036854775807 := own_rd H85 (i := 4) rfl (φ := fun _ => _) (sepL_mem (List.mem_flatMap.2 ⟨(((requestD.mk x57.xClient x57.xReq), x87) : requestD × fateD), List.mem_of_getElem? hj89, .head _⟩) row_le2)
 have hb94 : x87.xresults.ls.length ≤ x87.xresults.c ∧ x87.xresults.ls.length ≤ 9223372036854775807 := own_rd H85 (i := 4) rfl (φ := fun _ => _) (sepL_mem (List.mem_flatMap.2 ⟨(((requestD.mk x57.xClient x57.xReq), x87) : requestD × fateD), List.mem_of_getElem? hj89, .tail _ (.head _)⟩) row_le2)
 have hl95 : List.length (List.map ResultD.abs x87.xresults.ls) = x87.xresults.ls.length := List.length_map ..
 refine GX.take (v := .tuple #[.agg #[.slice x87.xops.A x87.xops.ls.length x87.xops.c, .bool x87.xdecided, .bool x87.xtold, .slice x87.xresults.A x87.xresults.ls.length x87.xresults.c], .bool true]) (rs := []) 5 rfl (by kernel_rfl) (fun _ ⟨_, H9⟩ => Yl.lookupOkG (k := (requestD.mk x57.xClient x57.xReq)) (d0 := fateD.zero) (i := 3) H9 rfl kg_requestD Try.underlying55 (fun _ => by kernel_rfl) rfl rfl hg90) (GX.take (v := .tuple #[.agg #[.slice x87.xops.A x87.xops.ls.length x87.xops.c, .bool x87.xdecided, .bool x87.xtold, .slice x87.xresults.A x87.xresults.ls.length x87.xresults.c], .bool true]) (rs := []) 6 rfl (by kernel_rfl) (fun _ _ => Yl.move rfl) (GX.take (v := .agg #[.slice x87.xops.A x87.xops.ls.length x87.xops.c, .bool x87.xdecided, .bool x87.xtold, .slice x87.xresults.A x87.xresults.ls.length x87.xresults.c]) (rs := []) 7 rfl (by kernel_rfl) (fun _ _ => yk) (GX.take (v := .bool true) (rs := []) 8 rfl (by kernel_rfl) (fun _ _ => yk) ?_)))
 refine GX.do 9 rfl (by kernel_rfl) (Do.newP (cs := [.slice none 0 0, .bool false, .bool false, .slice none 0 0]) (t := 77) H85 rfl rfl (fun _ => by kernel_rfl) ?_)
 intro g96 w97 H98
 have H99 := H98.pk [1, 2, 3, 4, 5, 6, 0]
 refine ⟨.inr ⟨_, H99⟩, ?_⟩
 have H100 := H99.pk [6, 0, 1, 2, 3, 4, 5]
 refine GX.do0 10 rfl (by kernel_rfl) (Do.store (vs := [.slice x87.xops.A x87.xops.ls.length x87.xops.c, .bool x87.xdecided, .bool x87.xtold, .slice x87.xresults.A x87.xresults.ls.length x87.xresults.c]) (o := 0) H100 rfl rfl Try.sizeOf77 rfl rfl rfl rfl ?_)
 intro w101 H102
 have H103 := H102.pk [1, 2, 3, 4, 5, 6, 0]
 refine ⟨.inr ⟨_, H103⟩, ?_⟩
 refine GX.take (v := .bool true) (rs := []) 11 rfl (by kernel_rfl) (fun _ _ => Yl.assign rfl) (GX.done (by kernel_rfl) (Fin.then (Wp.seq (sr (Kz (.pointer (some ⟨g64, 0, none⟩)) (Lz (.int .i64 x57.xKind) H103 1 Try.isAgg3 (Kz (.bool (decide (x57.xKind = 1))) (Mz rfl ?_))))))))
 by_cases h104 : x57.xKind = 1
 refine gw (.bool true) (dT h104) (Yl.move rfl) (fw (.bool true) (Yl.pickT rfl (dT h104) rfl) (Mz rfl (Sz rfl (Sz rfl (Sz rfl (Sz rfl (WL.skipU rfl rfl rfl (WL.skipU rfl rfl rfl (Sz rfl (fw (.bool true) (Yl.pickT rfl rfl rfl) (Mz rfl (Sz rfl (Sz rfl (Sz rfl (Sz rfl (WL.skipU rfl rfl rfl (WL.skipU rfl rfl rfl (Sz rfl (fw (.bool true) (Yl.pickT rfl rfl rfl) (nt (jt (sr (An rfl (rt (tR (rs (An rfl (Wp.seq ?_))))))))))))))))))))))))))))
 have H105 := H103.pk [2, 3, 4, 5]
 refine Wp.region (Mz rfl (Kz (.bool true) (nt (jt (sr (Mz rfl (Mz rfl (Az rfl (An rfl (rt (bR (tR (tR (bR (tR (Fin.res (res2 rfl rfl rfl) (Kz (.int .i64 ((k37 : Nat) : Int)) (Kz (.int .i64 6) (Az rfl (An rfl (rt (Fin.res (res2 rfl rfl rfl) ?_))))))))))))))))))))))
 have H106 := H105.pk []
 have e : judge_Judge l0 = (((k37 : Nat) : Int), 6) := lp_r (et (hq51) (et (congrArg (fun q => judge_Judge_L0 q k37 l40 m42) hd63) (et (bnd_of hr73) (et (ip h78) (et (ip h86) (et (bnd_of (getD_some ha91)) (ip h104)))))))
 obtain ⟨rfl, rfl⟩ := pj2 (e.symm.trans hr)
 exact ⟨rfl, H106⟩
 refine Sz (dF h104) (fw (.bool false) (Yl.pickF rfl (dF h104) rfl) (Mz rfl (Gz (.pointer (some ⟨g64, 0, none⟩)) rfl (Gl (.int .i64 x57.xKind) rfl H103 1 Try.isAgg3 (Gz (.bool (decide (x57.xKind = 2))) rfl (gw (.bool (decide (x57.xKind = 2))) rfl (Yl.move rfl) ?_))))))
 by_cases h107 : x57.xKind = 2
 refine Gz (.pointer (some ⟨g96, 1, none⟩)) (dT h107) (Gl (.bool x87.xdecided) (dT h107) H103 6 Try.isAgg4 (gw (.bool x87.xdecided) rfl (Yl.pickT rfl (dT h107) rfl) (fw (.bool x87.xdecided) (Yl.pickF rfl rfl rfl) (Mz rfl ?_))))
 rcases Bool.eq_false_or_eq_true (x87.xdecided) with h108 | h108
 refine Sz h108 (Sz h108 (Sz h108 (Sz h108 (WL.skipU rfl rfl rfl (WL.skipU rfl rfl rfl (Sz h108 (fw (.bool true) (Yl.pickT rfl h108 rfl) (nt (jt (sr (An rfl (rt (tR (rs (An rfl (Wp.seq ?_))))))))))))))))
 have H109 := H103.pk [2, 3, 4, 5]
 refine Wp.region (Mz rfl (Kz (.bool true) (nt (jt (sr (Mz rfl (Mz rfl (Az rfl (An rfl (rt (bR (tR (tR (bR (tR (Fin.res (res2 rfl rfl rfl) (Kz (.int .i64 ((k37 : Nat) : Int)) (Kz (.int .i64 6) (Az rfl (An rfl (rt (Fin.res (res2 rfl rfl rfl) ?_))))))))))))))))))))))
 have H110 := H109.pk []
 have e : judge_Judge l0 = (((k37 : Nat) : Int), 6) := lp_r (et (hq51) (et (congrArg (fun q => judge_Judge_L0 q k37 l40 m42) hd63) (et (bnd_of hr73) (et (ip h78) (et (ip h86) (et (bnd_of (getD_some ha91)) (et (iN h104) (et (ip h107) (ip h108)))))))))
 obtain ⟨rfl, rfl⟩ := pj2 (e.symm.trans hr)
 exact ⟨rfl, H110⟩
 refine Gz (.pointer (some ⟨g64, 0, none⟩)) h108 (Gl (.int .i64 x57.xKind) h108 H103 1 Try.isAgg3 (Gz (.bool (decide (x57.xKind = 3))) h108 (WL.valG (v := .bool (decide (x57.xKind = 3))) rfl rfl h108 rfl (Yl.move rfl) ?_)))
 have hb111 : (decide (x57.xKind = 3)) = false := (dF (by omega))
 refine Sz hb111 (Sz hb111 (WL.valG (v := .bool false) rfl rfl h108 rfl (Yl.pickF rfl hb111 rfl) (fw (.bool false) (Yl.pickF rfl h108 rfl) (nt (jf (sk (Wp.seq (sr (Kz (.pointer (some ⟨g64, 0, none⟩)) (Lz (.int .i64 x57.xKind) H103 1 Try.isAgg3 (fw (.bool (decide (¬ (x57.xKind = 1)))) (Yl.bool (e := !(decide (x57.xKind = 1))) yk decide_not.symm) (Mz rfl ?_))))))))))))
 have hb112 : (decide (¬ (x57.xKind = 1))) = true := (dT (by omega))
 refine WL.valG (v := .bool true) rfl rfl hb112 rfl (Yl.move rfl) (Gz (.bool false) hb112 (fw (.bool false) (Yl.pickT rfl hb112 rfl) (nt (jf (sk (sr (An rfl (Wp.seq (sr (Kz (.pointer (some ⟨g64, 0, none⟩)) (Lz (.int .i64 x57.xKind) H103 1 Try.isAgg3 (nt (bo (sr (Kz (.bool (decide (x57.xKind = 1))) (An rfl (jF (dF h104) (sr (Kz (.bool (decide (x57.xKind = 2))) (An rfl (jT (dT h107) ?_)))))))))))))))))))))
 have H113 := H103.pk [0, 2, 3, 4, 5, 6]
 refine Wp.region (Mz rfl ?_)
 refine WL.do rfl (Do.call Try.call35 rfl ?_ (fun _ _ k => k))
 refine Calls.body (args := [.pointer (some ⟨g25, 0, none⟩), .pointer (some ⟨g96, 0, none⟩)]) Try.func35 rfl rfl rfl ?_
 show Wp _ _ _ [(0, .pointer (some ⟨g25, 0, none⟩)), (1, .pointer (some ⟨g96, 0, none⟩))] _ _
 refine sr (An rfl (Wp.seq (sr (Mz rfl (Kz (.pointer (some ⟨g96, 0, none⟩)) (Kz (.pointer (some ⟨g96, 2, none⟩)) (Lz (.bool x87.xtold) H113 5 Try.isAgg4 (nt ?_))))))))
 rcases Bool.eq_false_or_eq_true (x87.xtold) with h114 | h114
 refine jT h114 (sr (An rfl (rt (tR (rs (Az rfl (WL.nil (bN (Fin.then (Wp.seq (sr (Mz rfl (Kz (.bool false) (nt (jf (sk (Wp.seq ?_)))))))))))))))))
 have H115 := H113.pk [1, 2, 3, 4]
 refine Wp.region (Mz rfl (An rfl (rt (rs (Ar rfl (Mz rfl (Kz (.bool true) (nt (jt (sr (Mz rfl (Mz rfl (Az rfl (An rfl (rt (bR (tR (tR (bR (tR (Fin.res (res2 rfl rfl rfl) (Kz (.int .i64 ((k37 : Nat) : Int)) (Kz (.int .i64 4) (Az rfl (An rfl (rt (Fin.res (res2 rfl rfl rfl) ?_)))))))))))))))))))))))))))
 have H116 := H115.pk []
 have e : judge_Judge l0 = (((k37 : Nat) : Int), 4) := lp_r (et (hq51) (et (congrArg (fun q => judge_Judge_L0 q k37 l40 m42) hd63) (et (bnd_of hr73) (et (ip h78) (et (ip h86) (et (bnd_of (getD_some ha91)) (et (iN h104) (et (ip h107) (et (ifF h108) (ip h114))))))))))
 obtain ⟨rfl, rfl⟩ := pj2 (e.symm.trans hr)
 exact ⟨rfl, H116⟩
 refine jF h114 (sk (Wp.seq ?_))
 have H118 := H113.drew
 refine Wp.drawnX [] (fun W => ∃ L', Own w D W ([blk g79 [.int .i64 x57.xClient, .int .u64 ((x57.xReq : Nat) : Int)] 75, blk g25 [.map (some g21), .slice A38 l40.length c39] 57, mapr g21 requestD.key fateD.val d41, sepL (List.flatMap (fun p : requestD × fateD => fateD.own p.2) d41), row A38 l40.length c39 (List.flatMap PairD.cells l40) 32 2, blk g96 [.slice x87.xops.A x87.xops.ls.length x87.xops.c, .bool x87.xdecided, .bool x87.xtold, .slice x87.xresults.A x87.xresults.ls.length x87.xresults.c] 77] ++ L')) (by kernel_rfl) (by kernel_rfl) (NoP.then NoP.base) ⟨_, H118⟩ ?_
 revert H118
 generalize World.drew w101 = w117
 intro H118
 refine GX.take (v := .pointer (some ⟨g25, 0, none⟩)) (rs := []) 0 rfl (by kernel_rfl) (fun _ _ => Yl.move rfl) (GX.take (v := .pointer (some ⟨g25, 0, none⟩)) (rs := []) 1 rfl (by kernel_rfl) (fun _ _ => yk) (GX.take (v := .pointer (some ⟨g25, 1, none⟩)) (rs := []) 2 rfl (by kernel_rfl) (fun _ _ => yk) (GX.take (v := .slice A38 l40.length c39) (rs := []) 3 rfl (by kernel_rfl) (fun _ ⟨_, H9⟩ => Yl.load rfl (Lds.one Try.isAgg27 (Cls.of (H9.cls (i := 1) rfl) rfl))) (GX.take (v := .pointer (some ⟨g96, 0, none⟩)) (rs := []) 4 rfl (by kernel_rfl) (fun _ _ => Yl.move rfl) (GX.take (v := .pointer (some ⟨g96, 0, none⟩)) (rs := []) 5 rfl (by kernel_rfl) (fun _ _ => yk) (GX.take (v := .pointer (some ⟨g96, 0, none⟩)) (rs := []) 6 rfl (by kernel_rfl) (fun _ _ => yk) (GX.take (v := .slice x87.xops.A x87.xops.ls.length x87.xops.c) (rs := []) 7 rfl (by kernel_rfl) (fun _ ⟨_, H9⟩ => Yl.load rfl (Lds.one Try.isAgg36 (Cls.of (H9.cls (i := 5) rfl) rfl))) ?_)))))))
 obtain ⟨⟨r124, r125, r126⟩, hr127⟩ : ∃ q : (List PairD) × (List ResultT) × Int, op_Apply l40 x87.xops.ls = q := ⟨_, rfl⟩
 obtain ⟨D119, HP120, ro121, bk122, rr123⟩ := Own.enter0 H118
 refine GX.do 8 rfl (by kernel_rfl) (Do.call Try.call41 rfl (op_Apply_ok _ _ A38 l40.length c39 l40 x87.xops.A x87.xops.ls.length x87.xops.c x87.xops.ls r124 r125 r126 HP120 (rr123 _ 4 _ rfl row_rds) rfl (by omega) (rr123 _ 3 _ rfl (sepL_mem (List.mem_flatMap.2 ⟨(((requestD.mk x57.xClient x57.xReq), x87) : requestD × fateD), List.mem_of_getElem? hj89, .head _⟩) row_rds)) rfl (by omega) (by first | omega | (simp only [List.length_cons, List.length_nil]; done) | (simp only [List.length_cons, List.length_nil, List.length_take, List.length_drop]; omega)) hr127) ?_)
 rintro _ w128 ⟨A131, c132, A133, c134, d135, rfl, HQ129, hd136, hk137, hk138⟩
 have H130 := bk122 _ _ HQ129
 have hl139 := abs_len hd136
 have hb140 := H130.rowC (i := 0) rfl
 have hb141 := H130.rowC (i := 1) rfl
 replace hk137 : r124.length ≤ l40.length + x87.xops.ls.length := hk137
 replace hk138 : r125.length ≤ x87.xops.ls.length := hk138
 have H142 := H130.pk [3, 4, 5, 6, 7, 8, 0, 1, 2]
 refine ⟨.inr ⟨_, H142⟩, ?_⟩
 refine GX.take (v := .tuple #[.slice A131 r124.length c132, .slice A133 r125.length c134, .int .i64 r126]) (rs := []) 9 rfl (by kernel_rfl) (fun _ _ => Yl.move rfl) (GX.take (v := .slice A131 r124.length c132) (rs := []) 10 rfl (by kernel_rfl) (fun _ _ => yk) (GX.take (v := .slice A133 r125.length c134) (rs := []) 11 rfl (by kernel_rfl) (fun _ _ => yk) (GX.take (v := .int .i64 r126) (rs := []) 12 rfl (by kernel_rfl) (fun _ _ => yk) (GX.take (v := .slice A131 r124.length c132) (rs := []) 13 rfl (by kernel_rfl) (fun _ _ => Yl.assign rfl) (GX.take (v := .slice A133 r125.length c134) (rs := []) 14 rfl (by kernel_rfl) (fun _ _ => Yl.assign rfl) (GX.take (v := .int .i64 r126) (rs := []) 15 rfl (by kernel_rfl) (fun _ _ => Yl.assign rfl) (GX.done (by kernel_rfl) (Fin.then (Wp.seq (sr (Mz rfl (fw (.bool (decide (¬ (r126 = 0)))) (Yl.bool (e := !(decide (r126 = 0))) yk decide_not.symm) (nt ?_)))))))))))))
 by_cases h143 : r126 = 0
 refine jF (dF (not_not_intro h143)) (sk (sr (Mz rfl (Mz rfl (Kz (.pointer (some ⟨g25, 0, none⟩)) (Kz (.pointer (some ⟨g25, 1, none⟩)) ?_))))))
 have H144 := H142.pk [1, 0, 2, 3, 4, 5, 6, 7, 8]
 refine sto [.slice A131 r124.length c132] 1 H144 Try.sizeOf27 ?_
 intro w145 H146
 refine nt (Wp.seq ?_)
 have H147 := H146.pk [0, 1, 2, 3, 5, 6, 7, 8]
 refine Wp.region (Mz rfl (Mz rfl (Mz rfl (Kz (.pointer (some ⟨g96, 0, none⟩)) (Kz (.pointer (some ⟨g96, 1, none⟩)) ?_)))))
 have H148 := H147.pk [4, 0, 1, 2, 3, 5, 6, 7]
 refine sto [.bool true] 1 H148 Try.sizeOf4 ?_
 intro w149 H150
 refine Kz (.pointer (some ⟨g96, 0, none⟩)) (Kz (.pointer (some ⟨g96, 3, none⟩)) ?_)
 refine sto [.slice A133 r125.length c134] 3 H150 Try.sizeOf37 ?_
 intro w151 H152
 refine ns (An rfl (rt (rs (Az rfl (WL.nil (bN (Fin.then (Wp.seq (sr (Mz rfl (Kz (.bool true) (nt (jt ?_)))))))))))))
 have H154 := H152.drew
 refine Wp.drawnX [] (fun W => ∃ L', Own w D W ([blk g96 [.slice x87.xops.A x87.xops.ls.length x87.xops.c, .bool true, .bool x87.xtold, .slice A133 r125.length c134] 77, blk g25 [.map (some g21), .slice A131 r124.length c132] 57, blk g79 [.int .i64 x57.xClient, .int .u64 ((x57.xReq : Nat) : Int)] 75] ++ L')) (by kernel_rfl) (by kernel_rfl) (NoP.then NoP.base) ⟨_, H154⟩ ?_
 revert H154
 generalize World.drew w151 = w153
 intro H154
 refine GX.take (v := .pointer (some ⟨g25, 0, none⟩)) (rs := []) 0 rfl (by kernel_rfl) (fun _ _ => Yl.move rfl) (GX.take (v := .pointer (some ⟨g25, 0, none⟩)) (rs := []) 1 rfl (by kernel_rfl) (fun _ _ => yk) (GX.take (v := .pointer (some ⟨g25, 0, none⟩)) (rs := []) 2 rfl (by kernel_rfl) (fun _ _ => yk) (GX.take (v := .map (some g21)) (rs := []) 3 rfl (by kernel_rfl) (fun _ ⟨_, H9⟩ => Yl.load rfl (Lds.one Try.isAgg55 (Cls.of (H9.cls (i := 1) rfl) rfl))) (GX.take (v := .agg #[.int .i64 x57.xClient, .int .u64 ((x57.xReq : Nat) : Int)]) (rs := []) 4 rfl (by kernel_rfl) (fun _ ⟨_, H9⟩ => Yl.load rfl (Lds.agg (cs := [.int .i64 x57.xClient, .int .u64 ((x57.xReq : Nat) : Int)]) Try.isAgg75 Try.sizeOf75 ((H9.cls (i := 2) rfl).lit (k := 0) (m := 2) rfl))) (GX.take (v := .agg #[.slice x87.xops.A x87.xops.ls.length x87.xops.c, .bool true, .bool x87.xtold, .slice A133 r125.length c134]) (rs := []) 5 rfl (by kernel_rfl) (fun _ ⟨_, H9⟩ => Yl.load rfl (Lds.agg (cs := [.slice x87.xops.A x87.xops.ls.length x87.xops.c, .bool true, .bool x87.xtold, .slice A133 r125.length c134]) Try.isAgg77 Try.sizeOf77 ((H9.cls (i := 0) rfl).lit (k := 0) (m := 4) rfl))) ?_)))))
 have H155 : Own w D w153 [blk g96 [.slice x87.xops.A x87.xops.ls.length x87.xops.c, .bool true, .bool x87.xtold, .slice A133 r125.length c134] 77, blk g25 [.map (some g21), .slice A131 r124.length c132] 57, blk g79 [.int .i64 x57.xClient, .int .u64 ((x57.xReq : Nat) : Int)] 75, mapr g21 requestD.key fateD.val d41, sepL (List.flatMap (fun p : requestD × fateD => fateD.own p.2) d41), row A131 r124.length c132 (List.flatMap PairD.cells r124) 32 2, row A133 d135.length c134 (List.flatMap ResultD.cells d135) 84 3, sepL (List.flatMap ResultD.own d135)] := by rw [abs_len hd136]; exact H154
 have H156 := H155.pk [4, 0, 1, 2, 3, 5, 6, 7]
 have H157 : Own w D w153 [row x87.xops.A x87.xops.ls.length x87.xops.c (List.flatMap OpD.cells x87.xops.ls) 53 6, row x87.xresults.A x87.xresults.ls.length x87.xresults.c (List.flatMap ResultD.cells x87.xresults.ls) 84 3, sepL (List.flatMap ResultD.own x87.xresults.ls), sepL (List.flatMap (fun p : requestD × fateD => fateD.own p.2) (List.take j88 d41) ++ List.flatMap (fun p : requestD × fateD => fateD.own p.2) (List.drop (j88 + 1) d41)), blk g96 [.slice x87.xops.A x87.xops.ls.length x87.xops.c, .bool true, .bool x87.xtold, .slice A133 r125.length c134] 77, blk g25 [.map (some g21), .slice A131 r124.length c132] 57, blk g79 [.int .i64 x57.xClient, .int .u64 ((x57.xReq : Nat) : Int)] 75, mapr g21 requestD.key fateD.val d41, row A131 r124.length c132 (List.flatMap PairD.cells r124) 32 2, row A133 d135.length c134 (List.flatMap ResultD.cells d135) 84 3, sepL (List.flatMap ResultD.own d135)] := Own.sepOpen (f := (fun p : requestD × fateD => fateD.own p.2)) (i := j88) hj89 H156
 have H158 := H157.pk [0, 9, 10, 3, 1, 2, 4, 5, 6, 7, 8]
 have H159 := H158.pk [0, 1, 2, 3, 6, 7, 8, 9, 10]
 have H160 : Own w D w153 [sepL (List.flatMap (fun p : requestD × fateD => fateD.own p.2) (List.set d41 j88 ((requestD.mk x57.xClient x57.xReq), (fateD.mk (Sv.mk x87.xops.A x87.xops.c x87.xops.ls) true x87.xtold (Sv.mk A133 c134 d135))))), blk g96 [.slice x87.xops.A x87.xops.ls.length x87.xops.c, .bool true, .bool x87.xtold, .slice A133 r125.length c134] 77, blk g25 [.map (some g21), .slice A131 r124.length c132] 57, blk g79 [.int .i64 x57.xClient, .int .u64 ((x57.xReq : Nat) : Int)] 75, mapr g21 requestD.key fateD.val d41, row A131 r124.length c132 (List.flatMap PairD.cells r124) 32 2] := Own.sepClose (f := (fun p : requestD × fateD => fateD.own p.2)) (y := ((requestD.mk x57.xClient x57.xReq), (fateD.mk (Sv.mk x87.xops.A x87.xops.c x87.xops.ls) true x87.xtold (Sv.mk A133 c134 d135)))) hj89 H159
 have H161 := H160.pk [4, 0, 1, 2, 3, 5]
 have hn163 := H161.mapNodup (i := 0) rfl
 have hb162 : mabs fateD.abs (List.set d41 j88 ((requestD.mk x57.xClient x57.xReq), (fateD.mk (Sv.mk x87.xops.A x87.xops.c x87.xops.ls) true x87.xtold (Sv.mk A133 c134 d135)))) = (mput m42 (requestD.mk x57.xClient x57.xReq) (fateT.mk (Ll.mk x87.xops.ls) true x87.xtold (Ll.mk r125))) := (mab_set (v := (fateD.mk (Sv.mk x87.xops.A x87.xops.c x87.xops.ls) true x87.xtold (Sv.mk A133 c134 d135))) hi52 hn163 hj89).trans (congrArg (mput m42 (requestD.mk x57.xClient x57.xReq)) (show fateD.abs (fateD.mk (Sv.mk x87.xops.A x87.xops.c x87.xops.ls) true x87.xtold (Sv.mk A133 c134 d135)) = (fateT.mk (Ll.mk x87.xops.ls) true x87.xtold (Ll.mk r125)) from by simp only [fateD.abs, hd136]))
 refine GX.do0 6 rfl (by kernel_rfl) (Do.mapUpdateG (k := (requestD.mk x57.xClient x57.xReq)) (v := (fateD.mk (Sv.mk x87.xops.A x87.xops.c x87.xops.ls) true x87.xtold (Sv.mk A133 c134 d135))) H161 kg_requestD Try.underlying55 rfl rfl (congrArg some (show (Value.agg #[.slice x87.xops.A x87.xops.ls.length x87.xops.c, .bool true, .bool x87.xtold, .slice A133 r125.length c134] : Value) = fateD.val (fateD.mk (Sv.mk x87.xops.A x87.xops.c x87.xops.ls) true x87.xtold (Sv.mk A133 c134 d135)) from by rw [← abs_len hd136]; first | done | rfl)) ?_)
 intro w164 H165
 have H166 : Own w D w164 [mapr g21 requestD.key fateD.val (List.set d41 j88 ((requestD.mk x57.xClient x57.xReq), (fateD.mk (Sv.mk x87.xops.A x87.xops.c x87.xops.ls) true x87.xtold (Sv.mk A133 c134 d135)))), sepL (List.flatMap (fun p : requestD × fateD => fateD.own p.2) (List.set d41 j88 ((requestD.mk x57.xClient x57.xReq), (fateD.mk (Sv.mk x87.xops.A x87.xops.c x87.xops.ls) true x87.xtold (Sv.mk A133 c134 d135))))), blk g96 [.slice x87.xops.A x87.xops.ls.length x87.xops.c, .bool true, .bool x87.xtold, .slice A133 r125.length c134] 77, blk g25 [.map (some g21), .slice A131 r124.length c132] 57, blk g79 [.int .i64 x57.xClient, .int .u64 ((x57.xReq : Nat) : Int)] 75, row A131 r124.length c132 (List.flatMap PairD.cells r124) 32 2] := by have q9 := H165; rw [mput_set (v := (fateD.mk (Sv.mk x87.xops.A x87.xops.c x87.xops.ls) true x87.xtold (Sv.mk A133 c134 d135))) hn163 hj89] at q9; exact q9
 have H167 := H166.pk [2, 3, 4, 0, 1, 5]
 refine ⟨.inr ⟨_, H167⟩, ?_⟩
 refine GX.done (by kernel_rfl) (Fin.then (Wp.seq ?_))
 have H168 := H167.pk [1, 3, 4, 5]
 refine Wp.region (Mz rfl (An rfl (rt (rs (Ar rfl (Mz rfl (Kz (.bool false) (nt (jf (Wp.skip (bN (Fin.then (Wp.region (fw (.int .i64 ((k37 + 1 : Nat) : Int)) (Yl.int (e := IntKind.i64.wrap (((k37 : Nat) : Int) + 1)) yk (by rw [IntWalk.i64_in _ (by omega)]; omega)) (Mz rfl (WL.nil ?_))))))))))))))))
 have H169 := H168.pk [0, 1, 2, 3]
 exact Fin.round (k37 + 1, A131, c132, r124, (List.set d41 j88 ((requestD.mk x57.xClient x57.xReq), (fateD.mk (Sv.mk x87.xops.A x87.xops.c x87.xops.ls) true x87.xtold (Sv.mk A133 c134 d135)))), (mput m42 (requestD.mk x57.xClient x57.xReq) (fateT.mk (Ll.mk x87.xops.ls) true x87.xtold (Ll.mk r125)))) ⟨rfl, rfl, rfl, rfl, rfl, rfl, trivial⟩ (dm50.2 ⟨H169, by exact hb162, by omega, by omega, by first | assumption | (intro p hp; cases hp) | exact ops_put (by assumption) (by first | omega | (dsimp only; omega)), Eq.trans (hq51) (Eq.trans (congrArg (fun q => judge_Judge_L0 q k37 l40 m42) hd63) (Eq.trans (bnd_of hr73) (Eq.trans (if_pos h78) (Eq.trans (if_pos h86) (Eq.trans (bnd_of (getD_some ha91)) (Eq.trans (if_neg h104) (Eq.trans (if_pos h107) (Eq.trans (ifF h108) (Eq.trans (ifF h114) (Eq.trans (bnd_of hr127) (if_pos h143)))))))))))⟩) (by show l0.length - (k37 + 1) < l0.length - k37; omega)
 refine jT (dT h143) (sr (An rfl (rt (tR (rs (Az rfl (WL.nil (bN (Fin.then (Wp.seq (Wp.seq ?_)))))))))))
 have H170 := H142.pk [0, 1, 2, 3, 4, 5]
 refine Wp.region (Mz rfl (Kz (.bool false) (nt (jf (sk (Wp.seq ?_))))))
 have H171 := H170.pk [1, 2, 3, 4]
 refine Wp.region (Mz rfl (An rfl (rt (rs (Ar rfl (Mz rfl (Kz (.bool true) (nt (jt (sr (Mz rfl (Mz rfl (Az rfl (An rfl (rt (bR (tR (tR (bR (tR (Fin.res (res2 rfl rfl rfl) (Kz (.int .i64 ((k37 : Nat) : Int)) (Kz (.int .i64 1) (Az rfl (An rfl (rt (Fin.res (res2 rfl rfl rfl) ?_)))))))))))))))))))))))))))
 have H172 := H171.pk []
 have e : judge_Judge l0 = (((k37 : Nat) : Int), 1) := lp_r (et (hq51) (et (congrArg (fun q => judge_Judge_L0 q k37 l40 m42) hd63) (et (bnd_of hr73) (et (ip h78) (et (ip h86) (et (bnd_of (getD_some ha91)) (et (iN h104) (et (ip h107) (et (ifF h108) (et (ifF h114) (et (bnd_of hr127) (iN h143))))))))))))
 obtain ⟨rfl, rfl⟩ := pj2 (e.symm.trans hr)
 exact ⟨rfl, H172⟩
 refine Sz (dF h107) (Sz (dF h107) (gw (.bool false) rfl (Yl.pickF rfl (dF h107) rfl) (fw (.bool false) (Yl.pickF rfl rfl rfl) (Mz rfl (Gz (.pointer (some ⟨g64, 0, none⟩)) rfl (Gl (.int .i64 x57.xKind) rfl H103 1 Try.isAgg3 (Gz (.bool (decide (x57.xKind = 3))) rfl (gw (.bool (decide (x57.xKind = 3))) rfl (Yl.move rfl) ?_))))))))
 by_cases h173 : x57.xKind = 3
 refine Gz (.pointer (some ⟨g96, 2, none⟩)) (dT h173) (Gl (.bool x87.xtold) (dT h173) H103 6 Try.isAgg4 (gw (.bool x87.xtold) rfl (Yl.pickT rfl (dT h173) rfl) (fw (.bool x87.xtold) (Yl.pickF rfl rfl rfl) (nt ?_))))
 rcases Bool.eq_false_or_eq_true (x87.xtold) with h174 | h174
 refine jT h174 (sr (An rfl (rt (tR (rs (An rfl (Wp.seq ?_)))))))
 have H175 := H103.pk [2, 3, 4, 5]
 refine Wp.region (Mz rfl (Kz (.bool true) (nt (jt (sr (Mz rfl (Mz rfl (Az rfl (An rfl (rt (bR (tR (tR (bR (tR (Fin.res (res2 rfl rfl rfl) (Kz (.int .i64 ((k37 : Nat) : Int)) (Kz (.int .i64 6) (Az rfl (An rfl (rt (Fin.res (res2 rfl rfl rfl) ?_))))))))))))))))))))))
 have H176 := H175.pk []
 have e : judge_Judge l0 = (((k37 : Nat) : Int), 6) := lp_r (et (hq51) (et (congrArg (fun q => judge_Judge_L0 q k37 l40 m42) hd63) (et (bnd_of hr73) (et (ip h78) (et (ip h86) (et (bnd_of (getD_some ha91)) (et (iN h104) (et (iN h107) (et (ip h173) (ip h174))))))))))
 obtain ⟨rfl, rfl⟩ := pj2 (e.symm.trans hr)
 exact ⟨rfl, H176⟩
 refine jF h174 (sk (Wp.seq (sr (Kz (.pointer (some ⟨g64, 0, none⟩)) (Lz (.int .i64 x57.xKind) H103 1 Try.isAgg3 (fw (.bool (decide (¬ (x57.xKind = 1)))) (Yl.bool (e := !(decide (x57.xKind = 1))) yk decide_not.symm) (Mz rfl ?_)))))))
 have hb177 : (decide (¬ (x57.xKind = 1))) = true := (dT (by omega))
 refine WL.valG (v := .bool true) rfl rfl hb177 rfl (Yl.move rfl) (Gz (.bool false) hb177 (fw (.bool false) (Yl.pickT rfl hb177 rfl) (nt (jf (sk (sr (An rfl (Wp.seq (sr (Kz (.pointer (some ⟨g64, 0, none⟩)) (Lz (.int .i64 x57.xKind) H103 1 Try.isAgg3 (nt (bo (sr (Kz (.bool (decide (x57.xKind = 1))) (An rfl (jF (dF h104) (sr (Kz (.bool (decide (x57.xKind = 2))) (An rfl (jF (dF h107) (sr (Kz (.bool (decide (x57.xKind = 3))) (Az rfl (WL.nil ?_)))))))))))))))))))))))))
 refine Fin.then (jT (dT h173) (Wp.region (La (SeenD.cells x57) H103 1 Try.isAgg39 Try.sizeOf39 ?_)))
 refine WL.do rfl (Do.call Try.call36 rfl ?_ (fun _ _ k => k))
 refine Calls.body (args := [.pointer (some ⟨g96, 0, none⟩), .agg (SeenD.cells x57).toArray]) Try.func36 rfl rfl rfl ?_
 show Wp _ _ _ [(0, .pointer (some ⟨g96, 0, none⟩)), (1, .agg (SeenD.cells x57).toArray)] _ _
 refine sr ?_
 refine npw (SeenD.cells x57) 39 H103 ?_
 intro g178 w179 H180
 refine An rfl (Wp.seq (Wp.seq ?_))
 have H182 := H180.drew
 refine Wp.drawnX [] (fun W => ∃ L', Own w D W ([blk g178 (SeenD.cells x57) 39, blk g79 [.int .i64 x57.xClient, .int .u64 ((x57.xReq : Nat) : Int)] 75, blk g64 (SeenD.cells x57) 39, blk g25 [.map (some g21), .slice A38 l40.length c39] 57, mapr g21 requestD.key fateD.val d41, sepL (List.flatMap (fun p : requestD × fateD => fateD.own p.2) d41), row A38 l40.length c39 (List.flatMap PairD.cells l40) 32 2, blk g96 [.slice x87.xops.A x87.xops.ls.length x87.xops.c, .bool x87.xdecided, .bool x87.xtold, .slice x87.xresults.A x87.xresults.ls.length x87.xresults.c] 77] ++ L')) (by kernel_rfl) (by kernel_rfl) (NoP.then (NoP.then NoP.base)) ⟨_, H182⟩ ?_
 revert H182
 generalize World.drew w179 = w181
 intro H182
 refine GX.take (v := .pointer (some ⟨g96, 0, none⟩)) (rs := []) 0 rfl (by kernel_rfl) (fun _ _ => Yl.move rfl) (GX.take (v := .pointer (some ⟨g96, 0, none⟩)) (rs := []) 1 rfl (by kernel_rfl) (fun _ _ => yk) (GX.take (v := .pointer (some ⟨g96, 1, none⟩)) (rs := []) 2 rfl (by kernel_rfl) (fun _ _ => yk) (GX.take (v := .bool x87.xdecided) (rs := []) 3 rfl (by kernel_rfl) (fun _ ⟨_, H9⟩ => Yl.load rfl (Lds.one Try.isAgg4 (Cls.of (H9.cls (i := 7) rfl) rfl))) (GX.take (v := .pointer (some ⟨g178, 3, none⟩)) (rs := []) 4 rfl (by kernel_rfl) (fun _ _ => yk) (GX.take (v := .int .i64 x57.xCode) (rs := []) 5 rfl (by kernel_rfl) (fun _ ⟨_, H9⟩ => Yl.load rfl (Lds.one Try.isAgg3 (Cls.of (H9.cls (i := 0) rfl) rfl))) (GX.take (v := .bool (decide (x57.xCode = 1))) (rs := []) 6 rfl (by kernel_rfl) (fun _ _ => yk) (GX.take (v := .bool (decide (¬ (x87.xdecided = (decide (x57.xCode = 1)))))) (rs := []) 7 rfl (by kernel_rfl) (fun _ _ => Yl.bool (e := !(x87.xdecided == decide (x57.xCode = 1))) yk (by first | (rw [Bool.beq_eq_decide_eq]; exact decide_not.symm) | (by_cases q : x87.xdecided = (decide (x57.xCode = 1)) <;> simp [q]))) (GX.done (by kernel_rfl) (Fin.then ?_)))))))))
 by_cases h183 : x87.xdecided = (decide (x57.xCode = 1))
 refine jF (dF (not_not_intro h183)) (sk (Wp.seq (Wp.seq ?_)))
 have H185 := H182.drew
 refine Wp.drawnX [] (fun W => ∃ L', Own w D W ([blk g178 (SeenD.cells x57) 39, blk g79 [.int .i64 x57.xClient, .int .u64 ((x57.xReq : Nat) : Int)] 75, blk g64 (SeenD.cells x57) 39, blk g25 [.map (some g21), .slice A38 l40.length c39] 57, mapr g21 requestD.key fateD.val d41, sepL (List.flatMap (fun p : requestD × fateD => fateD.own p.2) d41), row A38 l40.length c39 (List.flatMap PairD.cells l40) 32 2, blk g96 [.slice x87.xops.A x87.xops.ls.length x87.xops.c, .bool x87.xdecided, .bool x87.xtold, .slice x87.xresults.A x87.xresults.ls.length x87.xresults.c] 77] ++ L')) (by kernel_rfl) (by kernel_rfl) (NoP.then (NoP.then NoP.base)) ⟨_, H185⟩ ?_
 revert H185
 generalize World.drew w181 = w184
 intro H185
 refine GX.take (v := .pointer (some ⟨g178, 5, none⟩)) (rs := []) 0 rfl (by kernel_rfl) (fun _ _ => yk) (GX.take (v := .slice x57.xResults.A x57.xResults.ls.length x57.xResults.c) (rs := []) 1 rfl (by kernel_rfl) (fun _ ⟨_, H9⟩ => Yl.load rfl (Lds.one Try.isAgg37 (Cls.of (H9.cls (i := 0) rfl) rfl))) (GX.take (v := .pointer (some ⟨g96, 0, none⟩)) (rs := []) 2 rfl (by kernel_rfl) (fun _ _ => Yl.move rfl) (GX.take (v := .pointer (some ⟨g96, 0, none⟩)) (rs := []) 3 rfl (by kernel_rfl) (fun _ _ => yk) (GX.take (v := .pointer (some ⟨g96, 3, none⟩)) (rs := []) 4 rfl (by kernel_rfl) (fun _ _ => yk) (GX.take (v := .slice x87.xresults.A x87.xresults.ls.length x87.xresults.c) (rs := []) 5 rfl (by kernel_rfl) (fun _ ⟨_, H9⟩ => Yl.load rfl (Lds.one Try.isAgg37 (Cls.of (H9.cls (i := 7) rfl) rfl))) ?_)))))
 refine GX.do 6 rfl (by kernel_rfl) (Do.call Try.call42 rfl ?_ (fun _ _ k => k))
 refine Calls.body (args := [.slice x57.xResults.A x57.xResults.ls.length x57.xResults.c, .slice x87.xresults.A x87.xresults.ls.length x87.xresults.c, .func (.func 43) #[] #[]]) Try.func42 rfl rfl rfl ?_
 show Wp _ _ _ [(0, .slice x57.xResults.A x57.xResults.ls.length x57.xResults.c), (1, .slice x87.xresults.A x87.xresults.ls.length x87.xresults.c), (2, .func (.func 43) #[] #[])] _ _
 refine sr (An rfl (Wp.seq (sr (Mz rfl (fw (.int .i64 ((List.length (List.map ResultD.abs x57.xResults.ls) : Nat) : Int)) (Yl.int (e := ((x57.xResults.ls.length : Nat) : Int)) yk (by rw [List.length_map])) (Mz rfl (fw (.int .i64 ((List.length (List.map ResultD.abs x87.xresults.ls) : Nat) : Int)) (Yl.int (e := ((x87.xresults.ls.length : Nat) : Int)) yk (by rw [List.length_map])) (fw (.bool (decide (¬ (((List.length (List.map ResultD.abs x57.xResults.ls) : Nat) : Int) = ((List.length (List.map ResultD.abs x87.xresults.ls) : Nat) : Int))))) (Yl.bool (e := !(decide (((List.length (List.map ResultD.abs x57.xResults.ls) : Nat) : Int) = ((List.length (List.map ResultD.abs x87.xresults.ls) : Nat) : Int)))) yk decide_not.symm) (nt ?_)))))))))
 by_cases h186 : ((List.length (List.map ResultD.abs x57.xResults.ls) : Nat) : Int) = ((List.length (List.map ResultD.abs x87.xresults.ls) : Nat) : Int)
 refine jF (dF (not_not_intro h186)) (sk (Wp.seq (sr (Mz rfl (fw (.int .i64 ((List.length (List.map ResultD.abs x57.xResults.ls) : Nat) : Int)) (Yl.int (e := ((x57.xResults.ls.length : Nat) : Int)) yk (by rw [List.length_map])) (Mn rfl (bo ?_)))))))
 have H189 := H185.pk [0, 1, 2, 3, 4, 5, 6, 7]
 obtain ⟨I193, hI194⟩ : ∃ q : Nat → World → Prop, q = fun (i : Nat) w' => Own w D w' [blk g178 (SeenD.cells x57) 39, blk g79 [.int .i64 x57.xClient, .int .u64 ((x57.xReq : Nat) : Int)] 75, blk g64 (SeenD.cells x57) 39, blk g25 [.map (some g21), .slice A38 l40.length c39] 57, mapr g21 requestD.key fateD.val d41, sepL (List.flatMap (fun p : requestD × fateD => fateD.own p.2) d41), row A38 l40.length c39 (List.flatMap PairD.cells l40) 32 2, blk g96 [.slice x87.xops.A x87.xops.ls.length x87.xops.c, .bool x87.xdecided, .bool x87.xtold, .slice x87.xresults.A x87.xresults.ls.length x87.xresults.c] 77] ∧ (i ≤ List.length (List.map ResultD.abs x57.xResults.ls) ∧ judge_Judge_L1 k37 l40 m42 (SeenD.abs x57) (fateD.abs x87) (List.length (List.map ResultD.abs x57.xResults.ls)) 0 = judge_Judge_L1 k37 l40 m42 (SeenD.abs x57) (fateD.abs x87) ((List.length (List.map ResultD.abs x57.xResults.ls)) - i) i) := ⟨_, rfl⟩
 have dm195 : ∀ {k187 : Nat} {w' : World}, I193 k187 w' ↔ Own w D w' [blk g178 (SeenD.cells x57) 39, blk g79 [.int .i64 x57.xClient, .int .u64 ((x57.xReq : Nat) : Int)] 75, blk g64 (SeenD.cells x57) 39, blk g25 [.map (some g21), .slice A38 l40.length c39] 57, mapr g21 requestD.key fateD.val d41, sepL (List.flatMap (fun p : requestD × fateD => fateD.own p.2) d41), row A38 l40.length c39 (List.flatMap PairD.cells l40) 32 2, blk g96 [.slice x87.xops.A x87.xops.ls.length x87.xops.c, .bool x87.xdecided, .bool x87.xtold, .slice x87.xresults.A x87.xresults.ls.length x87.xresults.c] 77] ∧ k187 ≤ List.length (List.map ResultD.abs x57.xResults.ls) ∧ judge_Judge_L1 k37 l40 m42 (SeenD.abs x57) (fateD.abs x87) (List.length (List.map ResultD.abs x57.xResults.ls)) 0 = judge_Judge_L1 k37 l40 m42 (SeenD.abs x57) (fateD.abs x87) ((List.length (List.map ResultD.abs x57.xResults.ls)) - k187) k187 := by intros; subst hI194; exact Iff.rfl
 refine Wp.loop (fun i : Nat => [(6, .bool false), (17, .int .i64 ((i : Nat) : Int)), (16, .int .i64 ((List.length (List.map ResultD.abs x57.xResults.ls) : Nat) : Int)), (15, .slice x57.xResults.A x57.xResults.ls.length x57.xResults.c), (1, .slice x87.xresults.A x87.xresults.ls.length x87.xresults.c), (2, .func (.func 43) #[] #[])]) I193 (fun i => (List.length (List.map ResultD.abs x57.xResults.ls)) - i) 0 ⟨rfl, rfl, rfl, rfl, rfl, rfl, trivial⟩ (dm195.2 ⟨H189, by omega, rfl⟩) ?_
 rintro k187 w190 hf192
 show Wp _ _ _ [(6, .bool false), (17, .int .i64 ((k187 : Nat) : Int)), (16, .int .i64 ((List.length (List.map ResultD.abs x57.xResults.ls) : Nat) : Int)), (15, .slice x57.xResults.A x57.xResults.ls.length x57.xResults.c), (1, .slice x87.xresults.A x87.xresults.ls.length x87.xresults.c), (2, .func (.func 43) #[] #[])] _ _
 obtain ⟨H191, hi197, hq196⟩ := dm195.1 hf192
 refine sr (Kz (.bool (decide (((k187 : Nat) : Int) < ((List.length (List.map ResultD.abs x57.xResults.ls) : Nat) : Int)))) (nt (Wp.seq ?_)))
 by_cases h198 : ((k187 : Nat) : Int) < ((List.length (List.map ResultD.abs x57.xResults.ls) : Nat) : Int)
 refine jT (dT h198) (sk (Wp.seq (bo (sr (Mz rfl ?_)))))
 obtain ⟨x199, hx200⟩ := rds_at (ls := x57.xResults.ls) (i := k187) ResultD.len (by decide) (H191.ro (hm0 _ (List.mem_of_getElem? hx58)).2.2.1) (by first | omega | (simp; done) | (simp; omega))
 have hX201 := abs_at (rfl : List.map ResultD.abs x57.xResults.ls = List.map ResultD.abs x57.xResults.ls) hx200
 have hb202 := ((hm0 _ (List.mem_of_getElem? hx58)).2.2.2.2 _ (List.mem_of_getElem? hx200)).2
 refine fw (.pointer (some ⟨ab x57.xResults.A, ao x57.xResults.A + k187 * 3, none⟩)) (Yl.indexAddr (El37) rfl rfl ((H191.ro (hm0 _ (List.mem_of_getElem? hx58)).2.2.1).addr (i := k187) (by omega)) (by omega)) (fw (.agg (ResultD.cells x199).toArray) (Yl.load rfl (Lds.agg (cs := (ResultD.cells x199)) Try.isAgg84 Try.sizeOf84 ((H191.ro (hm0 _ (List.mem_of_getElem? hx58)).2.2.1).elem ResultD.len hx200 (by decide)))) ?_)
 refine npw [.bool false, .string ⟨List.toArray ([])⟩, .slice none 0 0] 84 H191 ?_
 intro g203 w204 H205
 refine Az rfl ?_
 refine sto (ResultD.cells x199) 0 H205 Try.sizeOf84 ?_
 intro w206 H207
 refine ns (Mz rfl (Mz rfl ?_))
 obtain ⟨x208, hx209⟩ := rds_at (ls := x87.xresults.ls) (i := k187) ResultD.len (by decide) (show Rds _ 3 x87.xresults.A x87.xresults.ls.length (List.flatMap ResultD.cells x87.xresults.ls) from (own_rd H207 (i := 6) rfl (sepL_mem (List.mem_flatMap.2 ⟨(((requestD.mk x57.xClient x57.xReq), x87) : requestD × fateD), List.mem_of_getElem? hj89, .tail _ (.head _)⟩) row_rds))) (by first | omega | (simp; done) | (simp; omega))
 have hX210 := abs_at (rfl : List.map ResultD.abs x87.xresults.ls = List.map ResultD.abs x87.xresults.ls) hx209
 have hb211 : x208.xPairs.ls.length ≤ x208.xPairs.c ∧ x208.xPairs.ls.length ≤ 9223372036854775807 := own_rd H207 (i := 6) rfl (φ := fun _ => _) (sepL_mem (List.mem_flatMap.2 ⟨(((requestD.mk x57.xClient x57.xReq), x87) : requestD × fateD), List.mem_of_getElem? hj89, .tail _ (.tail _ (.head _))⟩) (sepL_mem (List.mem_flatMap.2 ⟨x208, List.mem_of_getElem? hx209, .head _⟩) row_le2))
 refine fw (.pointer (some ⟨ab x87.xresults.A, ao x87.xresults.A + k187 * 3, none⟩)) (Yl.indexAddr (El37) rfl rfl ((show Rds _ 3 x87.xresults.A x87.xresults.ls.length (List.flatMap ResultD.cells x87.xresults.ls) from (own_rd H207 (i := 6) rfl (sepL_mem (List.mem_flatMap.2 ⟨(((requestD.mk x57.xClient x57.xReq), x87) : requestD × fateD), List.mem_of_getElem? hj89, .tail _ (.head _)⟩) row_rds))).addr (i := k187) (by omega)) (by omega)) (fw (.agg (ResultD.cells x208).toArray) (Yl.load rfl (Lds.agg (cs := (ResultD.cells x208)) Try.isAgg84 Try.sizeOf84 ((show Rds _ 3 x87.xresults.A x87.xresults.ls.length (List.flatMap ResultD.cells x87.xresults.ls) from (own_rd H207 (i := 6) rfl (sepL_mem (List.mem_flatMap.2 ⟨(((requestD.mk x57.xClient x57.xReq), x87) : requestD × fateD), List.mem_of_getElem? hj89, .tail _ (.head _)⟩) row_rds))).elem ResultD.len hx209 (by decide)))) ?_)
 refine npw [.bool false, .string ⟨List.toArray ([])⟩, .slice none 0 0] 84 H207 ?_
 intro g212 w213 H214
 refine sto (ResultD.cells x208) 0 H214 Try.sizeOf84 ?_
 intro w215 H216
 refine ns (Mz rfl (La (ResultD.cells x199) H216 1 Try.isAgg84 Try.sizeOf84 (La (ResultD.cells x208) H216 0 Try.isAgg84 Try.sizeOf84 ?_)))
 obtain ⟨r222, hr223⟩ : ∃ q, judge_same (ResultT.mk x199.xFound x199.xValue (Ll.mk x199.xPairs.ls)) (ResultT.mk x208.xFound x208.xValue (Ll.mk x208.xPairs.ls)) = q := ⟨_, rfl⟩
 obtain ⟨D217, HP218, ro219, bk220, rr221⟩ := Own.enter0 H216
 refine WL.do rfl (Do.callV Try.call43 rfl rfl (judge_same_ok _ _ (ResultT.mk x199.xFound x199.xValue (Ll.mk x199.xPairs.ls)) x199.xPairs.A x199.xPairs.ls.length x199.xPairs.c (ResultT.mk x208.xFound x208.xValue (Ll.mk x208.xPairs.ls)) x208.xPairs.A x208.xPairs.ls.length x208.xPairs.c r222 HP218 rfl (ro219 _ ((hm0 _ (List.mem_of_getElem? hx58)).2.2.2.2 _ (List.mem_of_getElem? hx200)).1) (show x199.xPairs.ls.length ≤ x199.xPairs.c ∧ x199.xPairs.ls.length ≤ 9223372036854775807 from by omega) rfl (rr221 _ 7 _ rfl (sepL_mem (List.mem_flatMap.2 ⟨(((requestD.mk x57.xClient x57.xReq), x87) : requestD × fateD), List.mem_of_getElem? hj89, .tail _ (.tail _ (.head _))⟩) (sepL_mem (List.mem_flatMap.2 ⟨x208, List.mem_of_getElem? hx209, .head _⟩) row_rds))) (show x208.xPairs.ls.length ≤ x208.xPairs.c ∧ x208.xPairs.ls.length ≤ 9223372036854775807 from by omega) hr223) ?_)
 rintro _ w224 ⟨rfl, HQ225⟩
 have H226 := bk220 _ _ HQ225
 refine Kz (.bool (!r222)) (nt ?_)
 rcases Bool.eq_false_or_eq_true (r222) with h227 | h227
 refine jF (cn h227) (Wp.skip (bN (Fin.then (Wp.region (fw (.int .i64 ((k187 + 1 : Nat) : Int)) (Yl.int (e := IntKind.i64.wrap (((k187 : Nat) : Int) + 1)) yk (by rw [IntWalk.i64_in _ (by omega)]; omega)) (Mz rfl (WL.nil ?_)))))))
 have H228 := H226.pk [2, 3, 4, 5, 6, 7, 8, 9]
 exact Fin.round (k187 + 1) ⟨rfl, rfl, rfl, rfl, rfl, rfl, trivial⟩ (dm195.2 ⟨H228, by omega, et (hq196) (et (congrArg (fun q => judge_Judge_L1 k37 l40 m42 (SeenD.abs x57) (fateD.abs x87) q k187) (sub_at (n := List.length (List.map ResultD.abs x57.xResults.ls)) (i := k187) (by omega))) (et (bnd_of (getD_of hX201)) (et (bnd_of (getD_of hX210)) (et (bnd_of hr223) (ip h227)))))⟩) (by show (List.length (List.map ResultD.abs x57.xResults.ls)) - (k187 + 1) < (List.length (List.map ResultD.abs x57.xResults.ls)) - k187; omega)
 refine jT (cn h227) (sr (An rfl (rt (bR (tR (tR (bR (tR (rs ?_)))))))))
 have H229 := H226.pk [2, 3, 4, 5, 6, 7, 8, 9, 0, 1]
 refine ⟨.inr ⟨_, H229⟩, ?_⟩
 refine GX.take (v := .bool true) (rs := []) 7 rfl (by kernel_rfl) (fun _ _ => yk) (GX.done (by kernel_rfl) (Fin.then (jt (Wp.seq ?_))))
 have H230 := H229.pk [1, 2, 3, 4, 5, 6, 7]
 refine Wp.region (An rfl (rt (tR (rs (Az rfl (WL.nil (bN (Fin.then (Wp.seq (Wp.seq ?_))))))))))
 have H231 := H230.pk [0, 2, 3, 4, 5, 6]
 refine Wp.region (Mz rfl (Kz (.bool false) (nt (jf (sk (Wp.seq ?_))))))
 have H232 := H231.pk [1, 2, 3, 4]
 refine Wp.region (Mz rfl (An rfl (rt (rs (Ar rfl (Mz rfl (Kz (.bool true) (nt (jt (sr (Mz rfl (Mz rfl (Az rfl (An rfl (rt (bR (tR (tR (bR (tR (Fin.res (res2 rfl rfl rfl) (Kz (.int .i64 ((k37 : Nat) : Int)) (Kz (.int .i64 11) (Az rfl (An rfl (rt (Fin.res (res2 rfl rfl rfl) ?_)))))))))))))))))))))))))))
 have H233 := H232.pk []
 have e : judge_Judge l0 = (((k37 : Nat) : Int), 11) := lp_r (et (hq51) (et (congrArg (fun q => judge_Judge_L0 q k37 l40 m42) hd63) (et (bnd_of hr73) (et (ip h78) (et (ip h86) (et (bnd_of (getD_some ha91)) (et (iN h104) (et (iN h107) (et (ip h173) (et (ifF h174) (et (ip h183) (et (ip h186) (lpS_r (et (hq196) (et (congrArg (fun q => judge_Judge_L1 k37 l40 m42 (SeenD.abs x57) (fateD.abs x87) q k187) (sub_at (n := List.length (List.map ResultD.abs x57.xResults.ls)) (i := k187) (by omega))) (et (bnd_of (getD_of hX201)) (et (bnd_of (getD_of hX210)) (et (bnd_of hr223) (ifF h227)))))))))))))))))))
 obtain ⟨rfl, rfl⟩ := pj2 (e.symm.trans hr)
 exact ⟨rfl, H233⟩
 refine jF (dF h198) (Wp.exit (Fin.thenX ?_))
 have hL234 : judge_Judge_L1 k37 l40 m42 (SeenD.abs x57) (fateD.abs x87) (List.length (List.map ResultD.abs x57.xResults.ls)) 0 = Sum.inl () := et (hq196) (et (congrArg (fun q => judge_Judge_L1 k37 l40 m42 (SeenD.abs x57) (fateD.abs x87) q k187) (sub_end (n := List.length (List.map ResultD.abs x57.xResults.ls)) (i := k187) (by omega))) rfl)
 refine Fin.thenX (Fin.blockX (Fin.then (sr (An rfl (rt (rs ?_))))))
 refine ⟨.inr ⟨_, H191⟩, ?_⟩
 refine GX.take (v := .bool false) (rs := []) 7 rfl (by kernel_rfl) (fun _ _ => yk) (GX.done (by kernel_rfl) (Fin.then (jf (sk (Wp.seq ?_)))))
 have H235 := H191.pk [1, 2, 3, 4, 5, 6, 7]
 refine Wp.region (Mz rfl (Kz (.pointer (some ⟨g96, 0, none⟩)) (Kz (.pointer (some ⟨g96, 2, none⟩)) ?_)))
 have H236 := H235.pk [6, 0, 1, 2, 3, 4, 5]
 refine sto [.bool true] 2 H236 Try.sizeOf4 ?_
 intro w237 H238
 refine ns (An rfl (rt (rs (Az rfl (WL.nil (bN (Fin.then (Wp.seq (Wp.seq ?_)))))))))
 have H239 := H238.pk [0, 1, 3, 4, 5, 6]
 refine Wp.region (Mz rfl (Kz (.bool true) (nt (jt ?_))))
 have H241 := H239.drew
 refine Wp.drawnX [] (fun W => ∃ L', Own w D W ([blk g96 [.slice x87.xops.A x87.xops.ls.length x87.xops.c, .bool x87.xdecided, .bool true, .slice x87.xresults.A x87.xresults.ls.length x87.xresults.c] 77, blk g79 [.int .i64 x57.xClient, .int .u64 ((x57.xReq : Nat) : Int)] 75, blk g25 [.map (some g21), .slice A38 l40.length c39] 57] ++ L')) (by kernel_rfl) (by kernel_rfl) (NoP.then NoP.base) ⟨_, H241⟩ ?_
 revert H241
 generalize World.drew w237 = w240
 intro H241
 refine GX.take (v := .pointer (some ⟨g25, 0, none⟩)) (rs := []) 0 rfl (by kernel_rfl) (fun _ _ => Yl.move rfl) (GX.take (v := .pointer (some ⟨g25, 0, none⟩)) (rs := []) 1 rfl (by kernel_rfl) (fun _ _ => yk) (GX.take (v := .pointer (some ⟨g25, 0, none⟩)) (rs := []) 2 rfl (by kernel_rfl) (fun _ _ => yk) (GX.take (v := .map (some g21)) (rs := []) 3 rfl (by kernel_rfl) (fun _ ⟨_, H9⟩ => Yl.load rfl (Lds.one Try.isAgg55 (Cls.of (H9.cls (i := 2) rfl) rfl))) (GX.take (v := .agg #[.int .i64 x57.xClient, .int .u64 ((x57.xReq : Nat) : Int)]) (rs := []) 4 rfl (by kernel_rfl) (fun _ ⟨_, H9⟩ => Yl.load rfl (Lds.agg (cs := [.int .i64 x57.xClient, .int .u64 ((x57.xReq : Nat) : Int)]) Try.isAgg75 Try.sizeOf75 ((H9.cls (i := 1) rfl).lit (k := 0) (m := 2) rfl))) (GX.take (v := .agg #[.slice x87.xops.A x87.xops.ls.length x87.xops.c, .bool x87.xdecided, .bool true, .slice x87.xresults.A x87.xresults.ls.length x87.xresults.c]) (rs := []) 5 rfl (by kernel_rfl) (fun _ ⟨_, H9⟩ => Yl.load rfl (Lds.agg (cs := [.slice x87.xops.A x87.xops.ls.length x87.xops.c, .bool x87.xdecided, .bool true, .slice x87.xresults.A x87.xresults.ls.length x87.xresults.c]) Try.isAgg77 Try.sizeOf77 ((H9.cls (i := 0) rfl).lit (k := 0) (m := 4) rfl))) ?_)))))
 have H242 := H241.pk [4, 0, 1, 2, 3, 5]
 have H243 : Own w D w240 [row x87.xops.A x87.xops.ls.length x87.xops.c (List.flatMap OpD.cells x87.xops.ls) 53 6, row x87.xresults.A x87.xresults.ls.length x87.xresults.c (List.flatMap ResultD.cells x87.xresults.ls) 84 3, sepL (List.flatMap ResultD.own x87.xresults.ls), sepL (List.flatMap (fun p : requestD × fateD => fateD.own p.2) (List.take j88 d41) ++ List.flatMap (fun p : requestD × fateD => fateD.own p.2) (List.drop (j88 + 1) d41)), blk g96 [.slice x87.xops.A x87.xops.ls.length x87.xops.c, .bool x87.xdecided, .bool true, .slice x87.xresults.A x87.xresults.ls.length x87.xresults.c] 77, blk g79 [.int .i64 x57.xClient, .int .u64 ((x57.xReq : Nat) : Int)] 75, blk g25 [.map (some g21), .slice A38 l40.length c39] 57, mapr g21 requestD.key fateD.val d41, row A38 l40.length c39 (List.flatMap PairD.cells l40) 32 2] := Own.sepOpen (f := (fun p : requestD × fateD => fateD.own p.2)) (i := j88) hj89 H242
 have H244 : Own w D w240 [sepL (List.flatMap (fun p : requestD × fateD => fateD.own p.2) (List.set d41 j88 ((requestD.mk x57.xClient x57.xReq), (fateD.mk (Sv.mk x87.xops.A x87.xops.c x87.xops.ls) x87.xdecided true (Sv.mk x87.xresults.A x87.xresults.c x87.xresults.ls))))), blk g96 [.slice x87.xops.A x87.xops.ls.length x87.xops.c, .bool x87.xdecided, .bool true, .slice x87.xresults.A x87.xresults.ls.length x87.xresults.c] 77, blk g79 [.int .i64 x57.xClient, .int .u64 ((x57.xReq : Nat) : Int)] 75, blk g25 [.map (some g21), .slice A38 l40.length c39] 57, mapr g21 requestD.key fateD.val d41, row A38 l40.length c39 (List.flatMap PairD.cells l40) 32 2] := Own.sepClose (f := (fun p : requestD × fateD => fateD.own p.2)) (y := ((requestD.mk x57.xClient x57.xReq), (fateD.mk (Sv.mk x87.xops.A x87.xops.c x87.xops.ls) x87.xdecided true (Sv.mk x87.xresults.A x87.xresults.c x87.xresults.ls)))) hj89 H243
 have H245 := H244.pk [4, 0, 1, 2, 3, 5]
 have hn247 := H245.mapNodup (i := 0) rfl
 have hb246 : mabs fateD.abs (List.set d41 j88 ((requestD.mk x57.xClient x57.xReq), (fateD.mk (Sv.mk x87.xops.A x87.xops.c x87.xops.ls) x87.xdecided true (Sv.mk x87.xresults.A x87.xresults.c x87.xresults.ls)))) = (mput m42 (requestD.mk x57.xClient x57.xReq) (fateT.mk (Ll.mk x87.xops.ls) x87.xdecided true (Ll.mk (List.map ResultD.abs x87.xresults.ls)))) := mab_set (v := (fateD.mk (Sv.mk x87.xops.A x87.xops.c x87.xops.ls) x87.xdecided true (Sv.mk x87.xresults.A x87.xresults.c x87.xresults.ls))) hi52 hn247 hj89
 refine GX.do0 6 rfl (by kernel_rfl) (Do.mapUpdateG (k := (requestD.mk x57.xClient x57.xReq)) (v := (fateD.mk (Sv.mk x87.xops.A x87.xops.c x87.xops.ls) x87.xdecided true (Sv.mk x87.xresults.A x87.xresults.c x87.xresults.ls))) H245 kg_requestD Try.underlying55 rfl rfl rfl ?_)
 intro w248 H249
 have H250 : Own w D w248 [mapr g21 requestD.key fateD.val (List.set d41 j88 ((requestD.mk x57.xClient x57.xReq), (fateD.mk (Sv.mk x87.xops.A x87.xops.c x87.xops.ls) x87.xdecided true (Sv.mk x87.xresults.A x87.xresults.c x87.xresults.ls)))), sepL (List.flatMap (fun p : requestD × fateD => fateD.own p.2) (List.set d41 j88 ((requestD.mk x57.xClient x57.xReq), (fateD.mk (Sv.mk x87.xops.A x87.xops.c x87.xops.ls) x87.xdecided true (Sv.mk x87.xresults.A x87.xresults.c x87.xresults.ls))))), blk g96 [.slice x87.xops.A x87.xops.ls.length x87.xops.c, .bool x87.xdecided, .bool true, .slice x87.xresults.A x87.xresults.ls.length x87.xresults.c] 77, blk g79 [.int .i64 x57.xClient, .int .u64 ((x57.xReq : Nat) : Int)] 75, blk g25 [.map (some g21), .slice A38 l40.length c39] 57, row A38 l40.length c39 (List.flatMap PairD.cells l40) 32 2] := by have q9 := H249; rw [mput_set (v := (fateD.mk (Sv.mk x87.xops.A x87.xops.c x87.xops.ls) x87.xdecided true (Sv.mk x87.xresults.A x87.xresults.c x87.xresults.ls))) hn247 hj89] at q9; exact q9
 have H251 := H250.pk [2, 3, 4, 0, 1, 5]
 refine ⟨.inr ⟨_, H251⟩, ?_⟩
 refine GX.done (by kernel_rfl) (Fin.then (Wp.seq ?_))
 have H252 := H251.pk [2, 3, 4, 5]
 refine Wp.region (Mz rfl (An rfl (rt (rs (Ar rfl (Mz rfl (Kz (.bool false) (nt (jf (Wp.skip (bN (Fin.then (Wp.region (fw (.int .i64 ((k37 + 1 : Nat) : Int)) (Yl.int (e := IntKind.i64.wrap (((k37 : Nat) : Int) + 1)) yk (by rw [IntWalk.i64_in _ (by omega)]; omega)) (Mz rfl (WL.nil ?_))))))))))))))))
 have H253 := H252.pk [0, 1, 2, 3]
 exact Fin.round (k37 + 1, A38, c39, l40, (List.set d41 j88 ((requestD.mk x57.xClient x57.xReq), (fateD.mk (Sv.mk x87.xops.A x87.xops.c x87.xops.ls) x87.xdecided true (Sv.mk x87.xresults.A x87.xresults.c x87.xresults.ls)))), (mput m42 (requestD.mk x57.xClient x57.xReq) (fateT.mk (Ll.mk x87.xops.ls) x87.xdecided true (Ll.mk (List.map ResultD.abs x87.xresults.ls))))) ⟨rfl, rfl, rfl, rfl, rfl, rfl, trivial⟩ (dm50.2 ⟨H253, by exact hb246, by omega, by omega, by first | assumption | (intro p hp; cases hp) | exact ops_put (by assumption) (by first | omega | (dsimp only; omega)), Eq.trans (hq51) (Eq.trans (congrArg (fun q => judge_Judge_L0 q k37 l40 m42) hd63) (Eq.trans (bnd_of hr73) (Eq.trans (if_pos h78) (Eq.trans (if_pos h86) (Eq.trans (bnd_of (getD_some ha91)) (Eq.trans (if_neg h104) (Eq.trans (if_neg h107) (Eq.trans (if_pos h173) (Eq.trans (ifF h174) (Eq.trans (if_pos h183) (Eq.trans (if_pos h186) (lpS_l hL234))))))))))))⟩) (by show l0.length - (k37 + 1) < l0.length - k37; omega)
 refine jT (dT h186) (sr (An rfl (rt (tR (rs ?_)))))
 refine ⟨.inr ⟨_, H185⟩, ?_⟩
 refine GX.take (v := .bool true) (rs := []) 7 rfl (by kernel_rfl) (fun _ _ => yk) (GX.done (by kernel_rfl) (Fin.then (jt (Wp.seq ?_))))
 have H254 := H185.pk [1, 2, 3, 4, 5, 6, 7]
 refine Wp.region (An rfl (rt (tR (rs (Az rfl (WL.nil (bN (Fin.then (Wp.seq (Wp.seq ?_))))))))))
 have H255 := H254.pk [0, 2, 3, 4, 5, 6]
 refine Wp.region (Mz rfl (Kz (.bool false) (nt (jf (sk (Wp.seq ?_))))))
 have H256 := H255.pk [1, 2, 3, 4]
 refine Wp.region (Mz rfl (An rfl (rt (rs (Ar rfl (Mz rfl (Kz (.bool true) (nt (jt (sr (Mz rfl (Mz rfl (Az rfl (An rfl (rt (bR (tR (tR (bR (tR (Fin.res (res2 rfl rfl rfl) (Kz (.int .i64 ((k37 : Nat) : Int)) (Kz (.int .i64 11) (Az rfl (An rfl (rt (Fin.res (res2 rfl rfl rfl) ?_)))))))))))))))))))))))))))
 have H257 := H256.pk []
 have e : judge_Judge l0 = (((k37 : Nat) : Int), 11) := lp_r (et (hq51) (et (congrArg (fun q => judge_Judge_L0 q k37 l40 m42) hd63) (et (bnd_of hr73) (et (ip h78) (et (ip h86) (et (bnd_of (getD_some ha91)) (et (iN h104) (et (iN h107) (et (ip h173) (et (ifF h174) (et (ip h183) (iN h186))))))))))))
 obtain ⟨rfl, rfl⟩ := pj2 (e.symm.trans hr)
 exact ⟨rfl, H257⟩
 refine jT (dT h183) (sr (An rfl (rt (tR (rs (Az rfl (WL.nil (bN (Fin.then (Wp.seq (Wp.seq ?_)))))))))))
 have H258 := H182.pk [1, 3, 4, 5, 6, 7]
 refine Wp.region (Mz rfl (Kz (.bool false) (nt (jf (sk (Wp.seq ?_))))))
 have H259 := H258.pk [1, 2, 3, 4]
 refine Wp.region (Mz rfl (An rfl (rt (rs (Ar rfl (Mz rfl (Kz (.bool true) (nt (jt (sr (Mz rfl (Mz rfl (Az rfl (An rfl (rt (bR (tR (tR (bR (tR (Fin.res (res2 rfl rfl rfl) (Kz (.int .i64 ((k37 : Nat) : Int)) (Kz (.int .i64 4) (Az rfl (An rfl (rt (Fin.res (res2 rfl rfl rfl) ?_)))))))))))))))))))))))))))
 have H260 := H259.pk []
 have e : judge_Judge l0 = (((k37 : Nat) : Int), 4) := lp_r (et (hq51) (et (congrArg (fun q => judge_Judge_L0 q k37 l40 m42) hd63) (et (bnd_of hr73) (et (ip h78) (et (ip h86) (et (bnd_of (getD_some ha91)) (et (iN h104) (et (iN h107) (et (ip h173) (et (ifF h174) (iN h183)))))))))))
 obtain ⟨rfl, rfl⟩ := pj2 (e.symm.trans hr)
 exact ⟨rfl, H260⟩
 refine Sz (dF h173) (Sz (dF h173) (gw (.bool false) rfl (Yl.pickF rfl (dF h173) rfl) (fw (.bool false) (Yl.pickF rfl rfl rfl) (nt (jf (sk (Wp.seq (sr (Kz (.pointer (some ⟨g64, 0, none⟩)) (Lz (.int .i64 x57.xKind) H103 1 Try.isAgg3 (fw (.bool (decide (¬ (x57.xKind = 1)))) (Yl.bool (e := !(decide (x57.xKind = 1))) yk decide_not.symm) (Mz rfl ?_))))))))))))
 have hb261 : (decide (¬ (x57.xKind = 1))) = true := (dT (by omega))
 refine WL.valG (v := .bool true) rfl rfl hb261 rfl (Yl.move rfl) (Gz (.bool false) hb261 (fw (.bool false) (Yl.pickT rfl hb261 rfl) (nt (jf (sk (sr (An rfl (Wp.seq (sr (Kz (.pointer (some ⟨g64, 0, none⟩)) (Lz (.int .i64 x57.xKind) H103 1 Try.isAgg3 (nt (bo (sr (Kz (.bool (decide (x57.xKind = 1))) (An rfl (jF (dF h104) (sr (Kz (.bool (decide (x57.xKind = 2))) (An rfl (jF (dF h107) (sr (Kz (.bool (decide (x57.xKind = 3))) (Az rfl (WL.nil ?_)))))))))))))))))))))))))
 refine Fin.then (jF (dF h173) (Wp.skip (bN (Fin.then (Wp.seq (Wp.seq ?_))))))
 have H262 := H103.pk [0, 2, 3, 4, 5, 6]
 refine Wp.region (Mz rfl (Kz (.bool true) (nt (jt ?_))))
 have H263 := H262.pk [0, 1, 5, 2, 3, 4]
 have H265 := H263.drew
 refine Wp.drawnX [] (fun W => ∃ L', Own w D W ([blk g79 [.int .i64 x57.xClient, .int .u64 ((x57.xReq : Nat) : Int)] 75, blk g25 [.map (some g21), .slice A38 l40.length c39] 57, blk g96 [.slice x87.xops.A x87.xops.ls.length x87.xops.c, .bool x87.xdecided, .bool x87.xtold, .slice x87.xresults.A x87.xresults.ls.length x87.xresults.c] 77] ++ L')) (by kernel_rfl) (by kernel_rfl) (NoP.then NoP.base) ⟨_, H265⟩ ?_
 revert H265
 generalize World.drew w101 = w264
 intro H265
 refine GX.take (v := .pointer (some ⟨g25, 0, none⟩)) (rs := []) 0 rfl (by kernel_rfl) (fun _ _ => Yl.move rfl) (GX.take (v := .pointer (some ⟨g25, 0, none⟩)) (rs := []) 1 rfl (by kernel_rfl) (fun _ _ => yk) (GX.take (v := .pointer (some ⟨g25, 0, none⟩)) (rs := []) 2 rfl (by kernel_rfl) (fun _ _ => yk) (GX.take (v := .map (some g21)) (rs := []) 3 rfl (by kernel_rfl) (fun _ ⟨_, H9⟩ => Yl.load rfl (Lds.one Try.isAgg55 (Cls.of (H9.cls (i := 1) rfl) rfl))) (GX.take (v := .agg #[.int .i64 x57.xClient, .int .u64 ((x57.xReq : Nat) : Int)]) (rs := []) 4 rfl (by kernel_rfl) (fun _ ⟨_, H9⟩ => Yl.load rfl (Lds.agg (cs := [.int .i64 x57.xClient, .int .u64 ((x57.xReq : Nat) : Int)]) Try.isAgg75 Try.sizeOf75 ((H9.cls (i := 0) rfl).lit (k := 0) (m := 2) rfl))) (GX.take (v := .agg #[.slice x87.xops.A x87.xops.ls.length x87.xops.c, .bool x87.xdecided, .bool x87.xtold, .slice x87.xresults.A x87.xresults.ls.length x87.xresults.c]) (rs := []) 5 rfl (by kernel_rfl) (fun _ ⟨_, H9⟩ => Yl.load rfl (Lds.agg (cs := [.slice x87.xops.A x87.xops.ls.length x87.xops.c, .bool x87.xdecided, .bool x87.xtold, .slice x87.xresults.A x87.xresults.ls.length x87.xresults.c]) Try.isAgg77 Try.sizeOf77 ((H9.cls (i := 2) rfl).lit (k := 0) (m := 4) rfl))) ?_)))))
 have H266 := H265.pk [4, 0, 1, 2, 3, 5]
 have H267 : Own w D w264 [row x87.xops.A x87.xops.ls.length x87.xops.c (List.flatMap OpD.cells x87.xops.ls) 53 6, row x87.xresults.A x87.xresults.ls.length x87.xresults.c (List.flatMap ResultD.cells x87.xresults.ls) 84 3, sepL (List.flatMap ResultD.own x87.xresults.ls), sepL (List.flatMap (fun p : requestD × fateD => fateD.own p.2) (List.take j88 d41) ++ List.flatMap (fun p : requestD × fateD => fateD.own p.2) (List.drop (j88 + 1) d41)), blk g79 [.int .i64 x57.xClient, .int .u64 ((x57.xReq : Nat) : Int)] 75, blk g25 [.map (some g21), .slice A38 l40.length c39] 57, blk g96 [.slice x87.xops.A x87.xops.ls.length x87.xops.c, .bool x87.xdecided, .bool x87.xtold, .slice x87.xresults.A x87.xresults.ls.length x87.xresults.c] 77, mapr g21 requestD.key fateD.val d41, row A38 l40.length c39 (List.flatMap PairD.cells l40) 32 2] := Own.sepOpen (f := (fun p : requestD × fateD => fateD.own p.2)) (i := j88) hj89 H266
 have H268 : Own w D w264 [sepL (List.flatMap (fun p : requestD × fateD => fateD.own p.2) (List.set d41 j88 ((requestD.mk x57.xClient x57.xReq), (fateD.mk (Sv.mk x87.xops.A x87.xops.c x87.xops.ls) x87.xdecided x87.xtold (Sv.mk x87.xresults.A x87.xresults.c x87.xresults.ls))))), blk g79 [.int .i64 x57.xClient, .int .u64 ((x57.xReq : Nat) : Int)] 75, blk g25 [.map (some g21), .slice A38 l40.length c39] 57, blk g96 [.slice x87.xops.A x87.xops.ls.length x87.xops.c, .bool x87.xdecided, .bool x87.xtold, .slice x87.xresults.A x87.xresults.ls.length x87.xresults.c] 77, mapr g21 requestD.key fateD.val d41, row A38 l40.length c39 (List.flatMap PairD.cells l40) 32 2] := Own.sepClose (f := (fun p : requestD × fateD => fateD.own p.2)) (y := ((requestD.mk x57.xClient x57.xReq), (fateD.mk (Sv.mk x87.xops.A x87.xops.c x87.xops.ls) x87.xdecided x87.xtold (Sv.mk x87.xresults.A x87.xresults.c x87.xresults.ls)))) hj89 H267
 have H269 := H268.pk [4, 0, 1, 2, 3, 5]
 have hn271 := H269.mapNodup (i := 0) rfl
 have hb270 : mabs fateD.abs (List.set d41 j88 ((requestD.mk x57.xClient x57.xReq), (fateD.mk (Sv.mk x87.xops.A x87.xops.c x87.xops.ls) x87.xdecided x87.xtold (Sv.mk x87.xresults.A x87.xresults.c x87.xresults.ls)))) = (mput m42 (requestD.mk x57.xClient x57.xReq) (fateT.mk (Ll.mk x87.xops.ls) x87.xdecided x87.xtold (Ll.mk (List.map ResultD.abs x87.xresults.ls)))) := mab_set (v := (fateD.mk (Sv.mk x87.xops.A x87.xops.c x87.xops.ls) x87.xdecided x87.xtold (Sv.mk x87.xresults.A x87.xresults.c x87.xresults.ls))) hi52 hn271 hj89
 refine GX.do0 6 rfl (by kernel_rfl) (Do.mapUpdateG (k := (requestD.mk x57.xClient x57.xReq)) (v := (fateD.mk (Sv.mk x87.xops.A x87.xops.c x87.xops.ls) x87.xdecided x87.xtold (Sv.mk x87.xresults.A x87.xresults.c x87.xresults.ls))) H269 kg_requestD Try.underlying55 rfl rfl rfl ?_)
 intro w272 H273
 have H274 : Own w D w272 [mapr g21 requestD.key fateD.val (List.set d41 j88 ((requestD.mk x57.xClient x57.xReq), (fateD.mk (Sv.mk x87.xops.A x87.xops.c x87.xops.ls) x87.xdecided x87.xtold (Sv.mk x87.xresults.A x87.xresults.c x87.xresults.ls)))), sepL (List.flatMap (fun p : requestD × fateD => fateD.own p.2) (List.set d41 j88 ((requestD.mk x57.xClient x57.xReq), (fateD.mk (Sv.mk x87.xops.A x87.xops.c x87.xops.ls) x87.xdecided x87.xtold (Sv.mk x87.xresults.A x87.xresults.c x87.xresults.ls))))), blk g79 [.int .i64 x57.xClient, .int .u64 ((x57.xReq : Nat) : Int)] 75, blk g25 [.map (some g21), .slice A38 l40.length c39] 57, blk g96 [.slice x87.xops.A x87.xops.ls.length x87.xops.c, .bool x87.xdecided, .bool x87.xtold, .slice x87.xresults.A x87.xresults.ls.length x87.xresults.c] 77, row A38 l40.length c39 (List.flatMap PairD.cells l40) 32 2] := by have q9 := H273; rw [mput_set (v := (fateD.mk (Sv.mk x87.xops.A x87.xops.c x87.xops.ls) x87.xdecided x87.xtold (Sv.mk x87.xresults.A x87.xresults.c x87.xresults.ls))) hn271 hj89] at q9; exact q9
 have H275 := H274.pk [2, 3, 4, 0, 1, 5]
 refine ⟨.inr ⟨_, H275⟩, ?_⟩
 refine GX.done (by kernel_rfl) (Fin.then (Wp.seq ?_))
 have H276 := H275.pk [1, 3, 4, 5]
 refine Wp.region (Mz rfl (An rfl (rt (rs (Ar rfl (Mz rfl (Kz (.bool false) (nt (jf (Wp.skip (bN (Fin.then (Wp.region (fw (.int .i64 ((k37 + 1 : Nat) : Int)) (Yl.int (e := IntKind.i64.wrap (((k37 : Nat) : Int) + 1)) yk (by rw [IntWalk.i64_in _ (by omega)]; omega)) (Mz rfl (WL.nil ?_))))))))))))))))
 have H277 := H276.pk [0, 1, 2, 3]
 exact Fin.round (k37 + 1, A38, c39, l40, (List.set d41 j88 ((requestD.mk x57.xClient x57.xReq), (fateD.mk (Sv.mk x87.xops.A x87.xops.c x87.xops.ls) x87.xdecided x87.xtold (Sv.mk x87.xresults.A x87.xresults.c x87.xresults.ls)))), (mput m42 (requestD.mk x57.xClient x57.xReq) (fateT.mk (Ll.mk x87.xops.ls) x87.xdecided x87.xtold (Ll.mk (List.map ResultD.abs x87.xresults.ls))))) ⟨rfl, rfl, rfl, rfl, rfl, rfl, trivial⟩ (dm50.2 ⟨H277, by exact hb270, by omega, by omega, by first | assumption | (intro p hp; cases hp) | exact ops_put (by assumption) (by first | omega | (dsimp only; omega)), Eq.trans (hq51) (Eq.trans (congrArg (fun q => judge_Judge_L0 q k37 l40 m42) hd63) (Eq.trans (bnd_of hr73) (Eq.trans (if_pos h78) (Eq.trans (if_pos h86) (Eq.trans (bnd_of (getD_some ha91)) (Eq.trans (if_neg h104) (Eq.trans (if_neg h107) (if_neg h173))))))))⟩) (by show l0.length - (k37 + 1) < l0.length - k37; omega)
 obtain ⟨hg278, ha279⟩ := mab_none (k := (requestD.mk x57.xClient x57.xReq)) hi52 (by rw [h86]; exact Bool.false_ne_true)
 refine GX.take (v := .tuple #[.agg #[.slice none 0 0, .bool false, .bool false, .slice none 0 0], .bool false]) (rs := []) 5 rfl (by kernel_rfl) (fun _ ⟨_, H9⟩ => Yl.lookupOkG (k := (requestD.mk x57.xClient x57.xReq)) (d0 := fateD.zero) (i := 3) H9 rfl kg_requestD Try.underlying55 (fun _ => by kernel_rfl) rfl rfl hg278) (GX.take (v := .tuple #[.agg #[.slice none 0 0, .bool false, .bool false, .slice none 0 0], .bool false]) (rs := []) 6 rfl (by kernel_rfl) (fun _ _ => Yl.move rfl) (GX.take (v := .agg #[.slice none 0 0, .bool false, .bool false, .slice none 0 0]) (rs := []) 7 rfl (by kernel_rfl) (fun _ _ => yk) (GX.take (v := .bool false) (rs := []) 8 rfl (by kernel_rfl) (fun _ _ => yk) ?_)))
 refine GX.do 9 rfl (by kernel_rfl) (Do.newP (cs := [.slice none 0 0, .bool false, .bool false, .slice none 0 0]) (t := 77) H85 rfl rfl (fun _ => by kernel_rfl) ?_)
 intro g280 w281 H282
 have H283 := H282.pk [1, 2, 3, 4, 5, 6, 0]
 refine ⟨.inr ⟨_, H283⟩, ?_⟩
 have H284 := H283.pk [6, 0, 1, 2, 3, 4, 5]
 refine GX.do0 10 rfl (by kernel_rfl) (Do.store (vs := [.slice none 0 0, .bool false, .bool false, .slice none 0 0]) (o := 0) H284 rfl rfl Try.sizeOf77 rfl rfl rfl rfl ?_)
 intro w285 H286
 have H287 := H286.pk [1, 2, 3, 4, 5, 6, 0]
 refine ⟨.inr ⟨_, H287⟩, ?_⟩
 refine GX.take (v := .bool false) (rs := []) 11 rfl (by kernel_rfl) (fun _ _ => Yl.assign rfl) (GX.done (by kernel_rfl) (Fin.then (Wp.seq (sr (Kz (.pointer (some ⟨g64, 0, none⟩)) (Lz (.int .i64 x57.xKind) H287 1 Try.isAgg3 (Kz (.bool (decide (x57.xKind = 1))) (Mz rfl ?_))))))))
 by_cases h288 : x57.xKind = 1
 refine gw (.bool false) (dT h288) (Yl.move rfl) (fw (.bool false) (Yl.pickT rfl (dT h288) rfl) (Mz rfl (Gz (.pointer (some ⟨g64, 0, none⟩)) rfl (Gl (.int .i64 x57.xKind) rfl H287 1 Try.isAgg3 (Gz (.bool (decide (x57.xKind = 2))) rfl (gw (.bool (decide (x57.xKind = 2))) rfl (Yl.move rfl) ?_))))))
 have hb289 : (decide (x57.xKind = 2)) = false := (dF (by omega))
 refine Sz hb289 (Sz hb289 (gw (.bool false) rfl (Yl.pickF rfl hb289 rfl) (fw (.bool false) (Yl.pickF rfl rfl rfl) (Mz rfl (Gz (.pointer (some ⟨g64, 0, none⟩)) rfl (Gl (.int .i64 x57.xKind) rfl H287 1 Try.isAgg3 (Gz (.bool (decide (x57.xKind = 3))) rfl (gw (.bool (decide (x57.xKind = 3))) rfl (Yl.move rfl) ?_))))))))
 have hb290 : (decide (x57.xKind = 3)) = false := (dF (by omega))
 refine Sz hb290 (Sz hb290 (gw (.bool false) rfl (Yl.pickF rfl hb290 rfl) (fw (.bool false) (Yl.pickF rfl rfl rfl) (nt (jf (sk (Wp.seq (sr (Kz (.pointer (some ⟨g64, 0, none⟩)) (Lz (.int .i64 x57.xKind) H287 1 Try.isAgg3 (fw (.bool (decide (¬ (x57.xKind = 1)))) (Yl.bool (e := !(decide (x57.xKind = 1))) yk decide_not.symm) (Mz rfl ?_))))))))))))
 have hb291 : (decide (¬ (x57.xKind = 1))) = false := (dF (by omega))
 refine Sz hb291 (Sz hb291 (fw (.bool false) (Yl.pickF rfl hb291 rfl) (nt (jf (sk (sr (An rfl (Wp.seq (sr (Kz (.pointer (some ⟨g64, 0, none⟩)) (Lz (.int .i64 x57.xKind) H287 1 Try.isAgg3 (nt (bo (sr (Kz (.bool (decide (x57.xKind = 1))) (An rfl (jT (dT h288) (Wp.region (Kz (.pointer (some ⟨g64, 4, none⟩)) (Lz (.slice x57.xOps.A x57.xOps.ls.length x57.xOps.c) H287 1 Try.isAgg36 ?_))))))))))))))))))))
 obtain ⟨D292, HP293, ro294, bk295, rr296⟩ := Own.enter0 H287
 refine cl Try.call34 (slices_Clone_api_Op_api_Op_ok _ _ x57.xOps.A x57.xOps.ls.length x57.xOps.c x57.xOps.ls x57.xOps.ls HP293 (ro294 _ (hm0 _ (List.mem_of_getElem? hx58)).1) rfl (by omega) rfl) ?_
 rintro _ w297 ⟨A300, c301, rfl, HQ298⟩
 have H299 := bk295 _ _ HQ298
 have hb302 := H299.rowC (i := 0) rfl
 refine Kz (.pointer (some ⟨g280, 0, none⟩)) ?_
 have H303 := H299.pk [7, 0, 1, 2, 3, 4, 5, 6]
 refine sto [.slice A300 x57.xOps.ls.length c301] 0 H303 Try.sizeOf36 ?_
 intro w304 H305
 refine WL.nil (bN (Fin.then (Wp.seq (Wp.seq ?_))))
 have H306 := H305.pk [0, 1, 2, 4, 5, 6, 7]
 refine Wp.region (Mz rfl (Kz (.bool true) (nt (jt ?_))))
 have H307 := H306.pk [0, 2, 3, 1, 4, 5, 6]
 have H309 := H307.drew
 refine Wp.drawnX [] (fun W => ∃ L', Own w D W ([blk g280 [.slice A300 x57.xOps.ls.length c301, .bool false, .bool false, .slice none 0 0] 77, blk g79 [.int .i64 x57.xClient, .int .u64 ((x57.xReq : Nat) : Int)] 75, blk g25 [.map (some g21), .slice A38 l40.length c39] 57] ++ L')) (by kernel_rfl) (by kernel_rfl) (NoP.then NoP.base) ⟨_, H309⟩ ?_
 revert H309
 generalize World.drew w304 = w308
 intro H309
 refine GX.take (v := .pointer (some ⟨g25, 0, none⟩)) (rs := []) 0 rfl (by kernel_rfl) (fun _ _ => Yl.move rfl) (GX.take (v := .pointer (some ⟨g25, 0, none⟩)) (rs := []) 1 rfl (by kernel_rfl) (fun _ _ => yk) (GX.take (v := .pointer (some ⟨g25, 0, none⟩)) (rs := []) 2 rfl (by kernel_rfl) (fun _ _ => yk) (GX.take (v := .map (some g21)) (rs := []) 3 rfl (by kernel_rfl) (fun _ ⟨_, H9⟩ => Yl.load rfl (Lds.one Try.isAgg55 (Cls.of (H9.cls (i := 2) rfl) rfl))) (GX.take (v := .agg #[.int .i64 x57.xClient, .int .u64 ((x57.xReq : Nat) : Int)]) (rs := []) 4 rfl (by kernel_rfl) (fun _ ⟨_, H9⟩ => Yl.load rfl (Lds.agg (cs := [.int .i64 x57.xClient, .int .u64 ((x57.xReq : Nat) : Int)]) Try.isAgg75 Try.sizeOf75 ((H9.cls (i := 1) rfl).lit (k := 0) (m := 2) rfl))) (GX.take (v := .agg #[.slice A300 x57.xOps.ls.length c301, .bool false, .bool false, .slice none 0 0]) (rs := []) 5 rfl (by kernel_rfl) (fun _ ⟨_, H9⟩ => Yl.load rfl (Lds.agg (cs := [.slice A300 x57.xOps.ls.length c301, .bool false, .bool false, .slice none 0 0]) Try.isAgg77 Try.sizeOf77 ((H9.cls (i := 0) rfl).lit (k := 0) (m := 4) rfl))) ?_)))))
 have H310 : Own w D w308 [sepL (List.flatMap ResultD.own ([])), blk g280 [.slice A300 x57.xOps.ls.length c301, .bool false, .bool false, .slice none 0 0] 77, blk g79 [.int .i64 x57.xClient, .int .u64 ((x57.xReq : Nat) : Int)] 75, blk g25 [.map (some g21), .slice A38 l40.length c39] 57, row A300 x57.xOps.ls.length c301 (List.flatMap OpD.cells x57.xOps.ls) 53 6, mapr g21 requestD.key fateD.val d41, sepL (List.flatMap (fun p : requestD × fateD => fateD.own p.2) d41), row A38 l40.length c39 (List.flatMap PairD.cells l40) 32 2] := H309.sepNil
 have H311 : Own w D w308 [row none 0 0 (List.flatMap ResultD.cells ([])) 84 3, sepL (List.flatMap ResultD.own ([])), blk g280 [.slice A300 x57.xOps.ls.length c301, .bool false, .bool false, .slice none 0 0] 77, blk g79 [.int .i64 x57.xClient, .int .u64 ((x57.xReq : Nat) : Int)] 75, blk g25 [.map (some g21), .slice A38 l40.length c39] 57, row A300 x57.xOps.ls.length c301 (List.flatMap OpD.cells x57.xOps.ls) 53 6, mapr g21 requestD.key fateD.val d41, sepL (List.flatMap (fun p : requestD × fateD => fateD.own p.2) d41), row A38 l40.length c39 (List.flatMap PairD.cells l40) 32 2] := H310.free (row_nil 84 3)
 have H312 := H311.pk [7, 5, 0, 1, 2, 3, 4, 6, 8]
 have H313 : Own w D w308 [sepL (List.flatMap (fun p : requestD × fateD => fateD.own p.2) (d41 ++ [((requestD.mk x57.xClient x57.xReq), (fateD.mk (Sv.mk A300 c301 x57.xOps.ls) false false (Sv.mk none 0 ([]))))])), blk g280 [.slice A300 x57.xOps.ls.length c301, .bool false, .bool false, .slice none 0 0] 77, blk g79 [.int .i64 x57.xClient, .int .u64 ((x57.xReq : Nat) : Int)] 75, blk g25 [.map (some g21), .slice A38 l40.length c39] 57, mapr g21 requestD.key fateD.val d41, row A38 l40.length c39 (List.flatMap PairD.cells l40) 32 2] := H312.sepAdd (L2 := [row A300 x57.xOps.ls.length c301 (List.flatMap OpD.cells x57.xOps.ls) 53 6, row none 0 0 (List.flatMap ResultD.cells ([])) 84 3, sepL (List.flatMap ResultD.own ([]))]) (mown_end (own := fateD.own) (k := (requestD.mk x57.xClient x57.xReq)) (v := (fateD.mk (Sv.mk A300 c301 x57.xOps.ls) false false (Sv.mk none 0 ([])))) (m := d41))
 have H314 := H313.pk [4, 0, 1, 2, 3, 5]
 have hb315 : mabs fateD.abs (d41 ++ [((requestD.mk x57.xClient x57.xReq), (fateD.mk (Sv.mk A300 c301 x57.xOps.ls) false false (Sv.mk none 0 ([]))))]) = (mput m42 (requestD.mk x57.xClient x57.xReq) (fateT.mk (Ll.mk x57.xOps.ls) false false (Ll.mk ([])))) := mab_end (v := (fateD.mk (Sv.mk A300 c301 x57.xOps.ls) false false (Sv.mk none 0 ([])))) hi52 hg278
 refine GX.do0 6 rfl (by kernel_rfl) (Do.mapUpdateG (k := (requestD.mk x57.xClient x57.xReq)) (v := (fateD.mk (Sv.mk A300 c301 x57.xOps.ls) false false (Sv.mk none 0 ([])))) H314 kg_requestD Try.underlying55 rfl rfl rfl ?_)
 intro w316 H317
 have H318 : Own w D w316 [mapr g21 requestD.key fateD.val (d41 ++ [((requestD.mk x57.xClient x57.xReq), (fateD.mk (Sv.mk A300 c301 x57.xOps.ls) false false (Sv.mk none 0 ([]))))]), sepL (List.flatMap (fun p : requestD × fateD => fateD.own p.2) (d41 ++ [((requestD.mk x57.xClient x57.xReq), (fateD.mk (Sv.mk A300 c301 x57.xOps.ls) false false (Sv.mk none 0 ([]))))])), blk g280 [.slice A300 x57.xOps.ls.length c301, .bool false, .bool false, .slice none 0 0] 77, blk g79 [.int .i64 x57.xClient, .int .u64 ((x57.xReq : Nat) : Int)] 75, blk g25 [.map (some g21), .slice A38 l40.length c39] 57, row A38 l40.length c39 (List.flatMap PairD.cells l40) 32 2] := by have q9 := H317; rw [mput_end (v := (fateD.mk (Sv.mk A300 c301 x57.xOps.ls) false false (Sv.mk none 0 ([])))) hg278] at q9; exact q9
 have H319 := H318.pk [2, 3, 4, 0, 1, 5]
 refine ⟨.inr ⟨_, H319⟩, ?_⟩
 refine GX.done (by kernel_rfl) (Fin.then (Wp.seq ?_))
 have H320 := H319.pk [2, 3, 4, 5]
 refine Wp.region (Mz rfl (An rfl (rt (rs (Ar rfl (Mz rfl (Kz (.bool false) (nt (jf (Wp.skip (bN (Fin.then (Wp.region (fw (.int .i64 ((k37 + 1 : Nat) : Int)) (Yl.int (e := IntKind.i64.wrap (((k37 : Nat) : Int) + 1)) yk (by rw [IntWalk.i64_in _ (by omega)]; omega)) (Mz rfl (WL.nil ?_))))))))))))))))
 have H321 := H320.pk [0, 1, 2, 3]
 exact Fin.round (k37 + 1, A38, c39, l40, (d41 ++ [((requestD.mk x57.xClient x57.xReq), (fateD.mk (Sv.mk A300 c301 x57.xOps.ls) false false (Sv.mk none 0 ([]))))]), (mput m42 (requestD.mk x57.xClient x57.xReq) (fateT.mk (Ll.mk x57.xOps.ls) false false (Ll.mk ([]))))) ⟨rfl, rfl, rfl, rfl, rfl, rfl, trivial⟩ (dm50.2 ⟨H321, by exact hb315, by omega, by omega, by first | assumption | (intro p hp; cases hp) | exact ops_put (by assumption) (by first | omega | (dsimp only; omega)), Eq.trans (hq51) (Eq.trans (congrArg (fun q => judge_Judge_L0 q k37 l40 m42) hd63) (Eq.trans (bnd_of hr73) (Eq.trans (if_pos h78) (Eq.trans (ifF h86) (if_pos h288)))))⟩) (by show l0.length - (k37 + 1) < l0.length - k37; omega)
 refine Sz (dF h288) (fw (.bool false) (Yl.pickF rfl (dF h288) rfl) (Mz rfl (Gz (.pointer (some ⟨g64, 0, none⟩)) rfl (Gl (.int .i64 x57.xKind) rfl H287 1 Try.isAgg3 (Gz (.bool (decide (x57.xKind = 2))) rfl (gw (.bool (decide (x57.xKind = 2))) rfl (Yl.move rfl) ?_))))))
 by_cases h322 : x57.xKind = 2
 refine Gz (.pointer (some ⟨g280, 1, none⟩)) (dT h322) (Gl (.bool false) (dT h322) H287 6 Try.isAgg4 (gw (.bool false) rfl (Yl.pickT rfl (dT h322) rfl) (fw (.bool false) (Yl.pickF rfl rfl rfl) (Mz rfl (Gz (.pointer (some ⟨g64, 0, none⟩)) rfl (Gl (.int .i64 x57.xKind) rfl H287 1 Try.isAgg3 (Gz (.bool (decide (x57.xKind = 3))) rfl (gw (.bool (decide (x57.xKind = 3))) rfl (Yl.move rfl) ?_))))))))
 have hb323 : (decide (x57.xKind = 3)) = false := (dF (by omega))
 refine Sz hb323 (Sz hb323 (gw (.bool false) rfl (Yl.pickF rfl hb323 rfl) (fw (.bool false) (Yl.pickF rfl rfl rfl) (nt (jf (sk (Wp.seq (sr (Kz (.pointer (some ⟨g64, 0, none⟩)) (Lz (.int .i64 x57.xKind) H287 1 Try.isAgg3 (fw (.bool (decide (¬ (x57.xKind = 1)))) (Yl.bool (e := !(decide (x57.xKind = 1))) yk decide_not.symm) (Mz rfl ?_))))))))))))
 have hb324 : (decide (¬ (x57.xKind = 1))) = true := (dT (by omega))
 refine WL.valG (v := .bool false) rfl rfl hb324 rfl (Yl.move rfl) (Gz (.bool true) hb324 (fw (.bool true) (Yl.pickT rfl hb324 rfl) (nt (jt (sr (An rfl (rt (tR (rs (An rfl (Wp.seq ?_)))))))))))
 have H325 := H287.pk [2, 3, 4, 5]
 refine Wp.region (Mz rfl (Kz (.bool true) (nt (jt (sr (Mz rfl (Mz rfl (Az rfl (An rfl (rt (bR (tR (tR (bR (tR (Fin.res (res2 rfl rfl rfl) (Kz (.int .i64 ((k37 : Nat) : Int)) (Kz (.int .i64 5) (Az rfl (An rfl (rt (Fin.res (res2 rfl rfl rfl) ?_))))))))))))))))))))))
 have H326 := H325.pk []
 have e : judge_Judge l0 = (((k37 : Nat) : Int), 5) := lp_r (et (hq51) (et (congrArg (fun q => judge_Judge_L0 q k37 l40 m42) hd63) (et (bnd_of hr73) (et (ip h78) (et (ifF h86) (et (iN h288) (ip h322)))))))
 obtain ⟨rfl, rfl⟩ := pj2 (e.symm.trans hr)
 exact ⟨rfl, H326⟩
 refine Sz (dF h322) (Sz (dF h322) (gw (.bool false) rfl (Yl.pickF rfl (dF h322) rfl) (fw (.bool false) (Yl.pickF rfl rfl rfl) (Mz rfl (Gz (.pointer (some ⟨g64, 0, none⟩)) rfl (Gl (.int .i64 x57.xKind) rfl H287 1 Try.isAgg3 (Gz (.bool (decide (x57.xKind = 3))) rfl (gw (.bool (decide (x57.xKind = 3))) rfl (Yl.move rfl) ?_))))))))
 by_cases h327 : x57.xKind = 3
 refine Gz (.pointer (some ⟨g280, 2, none⟩)) (dT h327) (Gl (.bool false) (dT h327) H287 6 Try.isAgg4 (gw (.bool false) rfl (Yl.pickT rfl (dT h327) rfl) (fw (.bool false) (Yl.pickF rfl rfl rfl) (nt (jf (sk (Wp.seq (sr (Kz (.pointer (some ⟨g64, 0, none⟩)) (Lz (.int .i64 x57.xKind) H287 1 Try.isAgg3 (fw (.bool (decide (¬ (x57.xKind = 1)))) (Yl.bool (e := !(decide (x57.xKind = 1))) yk decide_not.symm) (Mz rfl ?_))))))))))))
 have hb328 : (decide (¬ (x57.xKind = 1))) = true := (dT (by omega))
 refine WL.valG (v := .bool false) rfl rfl hb328 rfl (Yl.move rfl) (Gz (.bool true) hb328 (fw (.bool true) (Yl.pickT rfl hb328 rfl) (nt (jt (sr (An rfl (rt (tR (rs (An rfl (Wp.seq ?_)))))))))))
 have H329 := H287.pk [2, 3, 4, 5]
 refine Wp.region (Mz rfl (Kz (.bool true) (nt (jt (sr (Mz rfl (Mz rfl (Az rfl (An rfl (rt (bR (tR (tR (bR (tR (Fin.res (res2 rfl rfl rfl) (Kz (.int .i64 ((k37 : Nat) : Int)) (Kz (.int .i64 5) (Az rfl (An rfl (rt (Fin.res (res2 rfl rfl rfl) ?_))))))))))))))))))))))
 have H330 := H329.pk []
 have e : judge_Judge l0 = (((k37 : Nat) : Int), 5) := lp_r (et (hq51) (et (congrArg (fun q => judge_Judge_L0 q k37 l40 m42) hd63) (et (bnd_of hr73) (et (ip h78) (et (ifF h86) (et (iN h288) (et (iN h322) (ip h327))))))))
 obtain ⟨rfl, rfl⟩ := pj2 (e.symm.trans hr)
 exact ⟨rfl, H330⟩
 refine Sz (dF h327) (Sz (dF h327) (gw (.bool false) rfl (Yl.pickF rfl (dF h327) rfl) (fw (.bool false) (Yl.pickF rfl rfl rfl) (nt (jf (sk (Wp.seq (sr (Kz (.pointer (some ⟨g64, 0, none⟩)) (Lz (.int .i64 x57.xKind) H287 1 Try.isAgg3 (fw (.bool (decide (¬ (x57.xKind = 1)))) (Yl.bool (e := !(decide (x57.xKind = 1))) yk decide_not.symm) (Mz rfl ?_))))))))))))
 have hb331 : (decide (¬ (x57.xKind = 1))) = true := (dT (by omega))
 refine WL.valG (v := .bool false) rfl rfl hb331 rfl (Yl.move rfl) (Gz (.bool true) hb331 (fw (.bool true) (Yl.pickT rfl hb331 rfl) (nt (jt (sr (An rfl (rt (tR (rs (An rfl (Wp.seq ?_)))))))))))
 have H332 := H287.pk [2, 3, 4, 5]
 refine Wp.region (Mz rfl (Kz (.bool true) (nt (jt (sr (Mz rfl (Mz rfl (Az rfl (An rfl (rt (bR (tR (tR (bR (tR (Fin.res (res2 rfl rfl rfl) (Kz (.int .i64 ((k37 : Nat) : Int)) (Kz (.int .i64 5) (Az rfl (An rfl (rt (Fin.res (res2 rfl rfl rfl) ?_))))))))))))))))))))))
 have H333 := H332.pk []
 have e : judge_Judge l0 = (((k37 : Nat) : Int), 5) := lp_r (et (hq51) (et (congrArg (fun q => judge_Judge_L0 q k37 l40 m42) hd63) (et (bnd_of hr73) (et (ip h78) (et (ifF h86) (et (iN h288) (et (iN h322) (iN h327))))))))
 obtain ⟨rfl, rfl⟩ := pj2 (e.symm.trans hr)
 exact ⟨rfl, H333⟩
 refine jT (dT h78) (sr (Mz rfl (An rfl (rt (tR (rs (An rfl (Wp.seq ?_))))))))
 have H334 := H76.pk [1, 2, 3, 4]
 refine Wp.region (Mz rfl (fw (.bool (decide (¬ (r72 = 0)))) (Yl.bool (e := !(decide (r72 = 0))) yk decide_not.symm) (nt (jT (dT h78) (sr (Mz rfl (Mz rfl (Az rfl (An rfl (rt (bR (tR (tR (bR (tR (Fin.res (res2 rfl rfl rfl) (Kz (.int .i64 ((k37 : Nat) : Int)) (Kz (.int .i64 r72) (Az rfl (An rfl (rt (Fin.res (res2 rfl rfl rfl) ?_))))))))))))))))))))))
 have H335 := H334.pk []
 have e : judge_Judge l0 = (((k37 : Nat) : Int), r72) := lp_r (et (hq51) (et (congrArg (fun q => judge_Judge_L0 q k37 l40 m42) hd63) (et (bnd_of hr73) (iN h78))))
 obtain ⟨rfl, rfl⟩ := pj2 (e.symm.trans hr)
 exact ⟨rfl, H335⟩
 refine jF (dF h56) (Wp.exit (Fin.thenX ?_))
 have hL336 : judge_Judge_L0 l0 0 ([]) ([]) = Sum.inl () := et (hq51) (et (congrArg (fun q => judge_Judge_L0 q k37 l40 m42) (drop_end (ls := l0) (i := k37) (by omega))) rfl)
 refine Fin.thenX (Fin.blockX (Fin.then (sr (Az rfl (An rfl (rt (Fin.res (res2 rfl rfl rfl) (Kz (.int .i64 (-1)) (Kz (.int .i64 0) (Az rfl (An rfl (rt (Fin.res (res2 rfl rfl rfl) ?_)))))))))))))
 have H337 := H46.pk []
 have e : judge_Judge l0 = ((-1), 0) := lp_l hL336
 obtain ⟨rfl, rfl⟩ := pj2 (e.symm.trans hr)
 exact ⟨rfl, H337⟩

def judge_Replay_L1 (l40 : List PairD) (m42 : List (requestD × fateT)) (x57 : SeenT) (x87 : fateT) : Nat → Nat → Unit ⊕ ((List PairD) × Int)
  | 0, k192 => Sum.inl ()
  | q193 + 1, k192 => bnd (List.getD x57.xResults.ls k192 default) fun yx204 => bnd (List.getD x87.xresults.ls k192 default) fun yx213 => bnd (judge_same (ResultT.mk yx204.xFound yx204.xValue (Ll.mk yx204.xPairs.ls)) (ResultT.mk yx213.xFound yx213.xValue (Ll.mk yx213.xPairs.ls))) fun yr227 => if yr227 = true then judge_Replay_L1 l40 m42 x57 x87 q193 (k192 + 1) else Sum.inr ([], 11)

def judge_Replay_L0 : List SeenT → List PairD → List (requestD × fateT) → (List PairD) ⊕ ((List PairD) × Int)
  | [], l40, m42 => Sum.inl l40
  | x57 :: q43, l40, m42 => bnd (judge_check (SeenT.mk x57.xKind x57.xClient x57.xReq x57.xCode (Ll.mk x57.xOps.ls) (Ll.mk x57.xResults.ls))) fun yr72 => if yr72 = 0 then if Option.isSome (mget m42 (requestD.mk x57.xClient x57.xReq)) = true then bnd (Option.getD (mget m42 (requestD.mk x57.xClient x57.xReq)) default) fun yx87 => if x57.xKind = 1 then Sum.inr ([], 6) else if x57.xKind = 2 then if yx87.xdecided = true then Sum.inr ([], 6) else if yx87.xtold = true then Sum.inr ([], 4) else bnd (op_Apply l40 yx87.xops.ls) fun yr127 => if yr127.2.2 = 0 then judge_Replay_L0 q43 yr127.1 (mput m42 (requestD.mk x57.xClient x57.xReq) (fateT.mk (Ll.mk yx87.xops.ls) true yx87.xtold (Ll.mk yr127.2.1))) else Sum.inr ([], 1) else if x57.xKind = 3 then if yx87.xtold = true then Sum.inr ([], 6) else if yx87.xdecided = (decide (x57.xCode = 1)) then if ((x57.xResults.ls.length : Nat) : Int) = ((yx87.xresults.ls.length : Nat) : Int) then lpS (judge_Replay_L1 l40 m42 x57 yx87 x57.xResults.ls.length 0) fun _ => judge_Replay_L0 q43 l40 (mput m42 (requestD.mk x57.xClient x57.xReq) (fateT.mk (Ll.mk yx87.xops.ls) yx87.xdecided true (Ll.mk yx87.xresults.ls))) else Sum.inr ([], 11) else Sum.inr ([], 4) else judge_Replay_L0 q43 l40 (mput m42 (requestD.mk x57.xClient x57.xReq) (fateT.mk (Ll.mk yx87.xops.ls) yx87.xdecided yx87.xtold (Ll.mk yx87.xresults.ls))) else if x57.xKind = 1 then judge_Replay_L0 q43 l40 (mput m42 (requestD.mk x57.xClient x57.xReq) (fateT.mk (Ll.mk x57.xOps.ls) false false (Ll.mk ([])))) else if x57.xKind = 2 then Sum.inr ([], 5) else if x57.xKind = 3 then Sum.inr ([], 5) else Sum.inr ([], 5) else Sum.inr ([], yr72)

def judge_Replay (l0 : List SeenT) : (List PairD) × Int :=
 lp (judge_Replay_L0 l0 ([]) ([])) fun sLrL => (sLrL, 0)

set_option maxRecDepth 100000 in
set_option maxHeartbeats 4000000 in
theorem judge_Replay_ok (w : World) (D : Nat → Prop) (A0 : Option Addr) (n0 c0 : Nat) (d0 : List SeenD) (l0 : List SeenT) (r0 : List PairD) (r1 : Int) (H : Own w D w []) (hd0 : List.map SeenD.abs d0 = l0) (hx0 : Ro w D fun w' => Rds w' 6 A0 n0 (List.flatMap SeenD.cells d0)) (hm0 : ∀ x ∈ d0, Ro w D (fun w' => Rds w' 6 x.xOps.A x.xOps.ls.length (List.flatMap OpD.cells x.xOps.ls)) ∧ (x.xOps.ls.length ≤ x.xOps.c ∧ x.xOps.ls.length ≤ 9223372036854775807) ∧ Ro w D (fun w' => Rds w' 3 x.xResults.A x.xResults.ls.length (List.flatMap ResultD.cells x.xResults.ls)) ∧ (x.xResults.ls.length ≤ x.xResults.c ∧ x.xResults.ls.length ≤ 9223372036854775807) ∧ (∀ y1 ∈ x.xResults.ls, Ro w D (fun w' => Rds w' 2 y1.xPairs.A y1.xPairs.ls.length (List.flatMap PairD.cells y1.xPairs.ls)) ∧ (y1.xPairs.ls.length ≤ y1.xPairs.c ∧ y1.xPairs.ls.length ≤ 9223372036854775807))) (hn0 : n0 = l0.length) (hl0 : l0.length ≤ 9223372036854775807) (hh0 : l0.length ≤ 1000000000) (hr : judge_Replay l0 = (r0, r1)) :
    Calls Try.prog 11 #[.slice A0 n0 c0] w (Ret fun v w' => ∃ (B0 : Option Addr) (b0 : Nat), v = .tuple #[.slice B0 r0.length b0, .int .i64 r1] ∧ Own w D w' [row B0 r0.length b0 (List.flatMap PairD.cells r0) 32 2]) := by
 subst hn0
 have hdl0 := abs_len hd0
 refine Calls.body (args := [.slice A0 l0.length c0]) Try.func11 rfl rfl rfl ?_
 show Wp _ _ _ [(0, .slice A0 l0.length c0)] _ _
 refine sr (Az rfl (Ar rfl ?_))
 refine WL.do rfl (Do.makeMap (κ := requestD) (ν := fateD) requestD.key fateD.val H ?_)
 intro g21 w22 H23
 have H24 : Own w D w22 [sepL (List.flatMap (fun p : requestD × fateD => fateD.own p.2) ([])), mapr g21 requestD.key fateD.val ([])] := H23.sepNil
 refine Kz (.agg #[.map (some g21), .slice none 0 0]) ?_
 refine npw [.map (some g21), .slice none 0 0] 57 H24 ?_
 intro g25 w26 H27
 refine An rfl (Wp.seq (sr (Mz rfl (Mz rfl ?_))))
 refine WL.do rfl (Do.call Try.call18 rfl ?_ (fun _ _ k => k))
 refine Calls.body (args := [.pointer (some ⟨g25, 0, none⟩), .slice A0 l0.length c0]) Try.func18 rfl rfl rfl ?_
 show Wp _ _ _ [(0, .pointer (some ⟨g25, 0, none⟩)), (1, .slice A0 l0.length c0)] _ _
 refine sr (Az rfl (Ar rfl (Mz rfl (Kz (.pointer (some ⟨g25, 0, none⟩)) (Kz (.pointer (some ⟨g25, 0, none⟩)) (Lz (.map (some g21)) H27 0 Try.isAgg55 ?_))))))
 have H28 := H27.pk [2, 0, 1]
 refine WL.do0 (Do.clearMap H28 Try.underlying55 rfl ?_)
 intro w29 H30
 have H31 := H30.pk [0, 1]
 have H32 : Own w D w29 [sepL (List.flatMap (fun p : requestD × fateD => fateD.own p.2) ([])), mapr g21 requestD.key fateD.val ([]), blk g25 [.map (some g21), .slice none 0 0] 57] := H31.sepNil
 refine ns (Mz rfl (Kz (.pointer (some ⟨g25, 0, none⟩)) (Kz (.pointer (some ⟨g25, 1, none⟩)) ?_)))
 have H33 := H32.pk [2, 0, 1]
 refine sto [.slice none 0 0] 1 H33 Try.sizeOf27 ?_
 intro w34 H35
 refine nt (Wp.seq (sr (Mz rfl (Kz (.int .i64 ((l0.length : Nat) : Int)) (Mn rfl (bo ?_))))))
 have H36 : Own w D w34 [row none 0 0 (List.flatMap PairD.cells ([])) 32 2, blk g25 [.map (some g21), .slice none 0 0] 57, sepL (List.flatMap (fun p : requestD × fateD => fateD.own p.2) ([])), mapr g21 requestD.key fateD.val ([])] := H35.free (row_nil 32 2)
 have H44 := H36.pk [1, 3, 2, 0]
 obtain ⟨I48, hI49⟩ : ∃ q : (Nat × (Option Addr) × Nat × (List PairD) × (List (requestD × fateD)) × (List (requestD × fateT))) → World → Prop, q = fun (i : Nat × (Option Addr) × Nat × (List PairD) × (List (requestD × fateD)) × (List (requestD × fateT))) w' => Own w D w' [blk g25 [.map (some g21), .slice i.2.1 i.2.2.2.1.length i.2.2.1] 57, mapr g21 requestD.key fateD.val i.2.2.2.2.1, sepL (List.flatMap (fun p : requestD × fateD => fateD.own p.2) i.2.2.2.2.1), row i.2.1 i.2.2.2.1.length i.2.2.1 (List.flatMap PairD.cells i.2.2.2.1) 32 2] ∧ (mabs fateD.abs i.2.2.2.2.1 = i.2.2.2.2.2 ∧ i.1 ≤ l0.length ∧ ((i.2.2.2.1.length : Nat) : Int) ≤ 24 * ((i.1 : Nat) : Int) ∧ OpsOk i.2.2.2.2.2 ∧ judge_Replay_L0 l0 ([]) ([]) = judge_Replay_L0 (List.drop i.1 l0) i.2.2.2.1 i.2.2.2.2.2) := ⟨_, rfl⟩
 have dm50 : ∀ {k37 : Nat} {A38 : Option Addr} {c39 : Nat} {l40 : List PairD} {d41 : List (requestD × fateD)} {m42 : List (requestD × fateT)} {w' : World}, I48 (k37, A38, c39, l40, d41, m42) w' ↔ Own w D w' [blk g25 [.map (some g21), .slice A38 l40.length c39] 57, mapr g21 requestD.key fateD.val d41, sepL (List.flatMap (fun p : requestD × fateD => fateD.own p.2) d41), row A38 l40.length c39 (List.flatMap PairD.cells l40) 32 2] ∧ mabs fateD.abs d41 = m42 ∧ k37 ≤ l0.length ∧ ((l40.length : Nat) : Int) ≤ 24 * ((k37 : Nat) : Int) ∧ OpsOk m42 ∧ judge_Replay_L0 l0 ([]) ([]) = judge_Replay_L0 (List.drop k37 l0) l40 m42 := by intros; subst hI49; exact Iff.rfl
 refine Wp.loop (fun i : Nat × (Option Addr) × Nat × (List PairD) × (List (requestD × fateD)) × (List (requestD × fateT)) => [(4, .int .i64 0), (5, .int .i64 0), (17, .int .i64 ((i.1 : Nat) : Int)), (16, .int .i64 ((l0.length : Nat) : Int)), (0, .pointer (some ⟨g25, 0, none⟩)), (1, .slice A0 l0.length c0)]) I48 (fun i => l0.length - i.1) (0, none, 0, [], [], []) ⟨rfl, rfl, rfl, rfl, rfl, rfl, trivial⟩ (dm50.2 ⟨H44, (show mabs fateD.abs ([]) = ([]) ∧ 0 ≤ l0.length ∧ ((0 : Nat) : Int) ≤ 24 * ((0 : Nat) : Int) ∧ OpsOk ([]) ∧ judge_Replay_L0 l0 ([]) ([]) = judge_Replay_L0 (List.drop 0 l0) ([]) ([]) from ⟨by exact (rfl : mabs fateD.abs [] = ([] : List (requestD × fateT))), by omega, by omega, by first | assumption | (intro p hp; cases hp) | exact ops_put (by assumption) (by first | omega | (dsimp only; omega)), rfl⟩)⟩) ?_
 rintro ⟨k37, A38, c39, l40, d41, m42⟩ w45 hf47
 show Wp _ _ _ [(4, .int .i64 0), (5, .int .i64 0), (17, .int .i64 ((k37 : Nat) : Int)), (16, .int .i64 ((l0.length : Nat) : Int)), (0, .pointer (some ⟨g25, 0, none⟩)), (1, .slice A0 l0.length c0)] _ _
 obtain ⟨H46, hi52, hi53, hi54, hi55, hq51⟩ := dm50.1 hf47
 refine sr (Kz (.bool (decide (((k37 : Nat) : Int) < ((l0.length : Nat) : Int)))) (nt (Wp.seq ?_)))
 by_cases h56 : ((k37 : Nat) : Int) < ((l0.length : Nat) : Int)
 obtain ⟨x57, hx58⟩ := rds_at (ls := d0) (i := k37) SeenD.len (by decide) (H46.ro hx0) (by first | omega | (simp; done) | (simp; omega))
 have hX59 := abs_at hd0 hx58
 have hb60 := (hm0 _ (List.mem_of_getElem? hx58)).2.1
 have hb61 := (hm0 _ (List.mem_of_getElem? hx58)).2.2.2.1
 have hl62 : List.length (List.map ResultD.abs x57.xResults.ls) = x57.xResults.ls.length := List.length_map ..
 have hd63 := drop_at hX59
 refine jT (dT h56) (sk (Wp.seq (bo (sr (Mz rfl (Ar rfl (Mz rfl (Mz rfl (Mz rfl (fw (.pointer (some ⟨ab A0, ao A0 + k37 * 6, none⟩)) (Yl.indexAddr (El22) rfl rfl ((H46.ro hx0).addr (i := k37) (by omega)) (by omega)) (fw (.agg (SeenD.cells x57).toArray) (Yl.load rfl (Lds.agg (cs := (SeenD.cells x57)) Try.isAgg39 Try.sizeOf39 ((H46.ro hx0).elem SeenD.len hx58 (by decide)))) ?_)))))))))))
 refine WL.do rfl (Do.call Try.call27 rfl ?_ (fun _ _ k => k))
 refine Calls.body (args := [.pointer (some ⟨g25, 0, none⟩), .agg (SeenD.cells x57).toArray]) Try.func27 rfl rfl rfl ?_
 show Wp _ _ _ [(0, .pointer (some ⟨g25, 0, none⟩)), (1, .agg (SeenD.cells x57).toArray)] _ _
 refine sr ?_
 refine npw (SeenD.cells x57) 39 H46 ?_
 intro g64 w65 H66
 refine An rfl (Wp.seq (sr (La (SeenD.cells x57) H66 0 Try.isAgg39 Try.sizeOf39 ?_)))
 obtain ⟨r72, hr73⟩ : ∃ q, judge_check (SeenT.mk x57.xKind x57.xClient x57.xReq x57.xCode (Ll.mk x57.xOps.ls) (Ll.mk (List.map ResultD.abs x57.xResults.ls))) = q := ⟨_, rfl⟩
 obtain ⟨D67, HP68, ro69, bk70, rr71⟩ := Own.enter0 H66
 refine cl Try.call33 (judge_check_ok _ _ (SeenT.mk x57.xKind x57.xClient x57.xReq x57.xCode (Ll.mk x57.xOps.ls) (Ll.mk (List.map ResultD.abs x57.xResults.ls))) x57.xOps.A x57.xOps.ls.length x57.xOps.c x57.xResults.A x57.xResults.ls.length x57.xResults.c x57.xResults.ls r72 HP68 rfl (ro69 _ (hm0 _ (List.mem_of_getElem? hx58)).1) (show x57.xOps.ls.length ≤ x57.xOps.c ∧ x57.xOps.ls.length ≤ 9223372036854775807 from by omega) (rfl : List.map ResultD.abs x57.xResults.ls = List.map ResultD.abs x57.xResults.ls) (by first | rfl | omega | (simp only [List.length_append, List.length_cons, List.length_nil, List.length_take, List.length_drop, List.length_set, List.length_replicate, List.length_map] <;> omega)) (fun w9 h9 => rdsL (abs_len (rfl : List.map ResultD.abs x57.xResults.ls = List.map ResultD.abs x57.xResults.ls)) ((ro69 _ (hm0 _ (List.mem_of_getElem? hx58)).2.2.1) w9 h9)) (show List.length (List.map ResultD.abs x57.xResults.ls) ≤ x57.xResults.c ∧ List.length (List.map ResultD.abs x57.xResults.ls) ≤ 9223372036854775807 from by omega) (fun x9 h9 => ⟨ro69 _ ((hm0 _ (List.mem_of_getElem? hx58)).2.2.2.2 x9 h9).1, ((hm0 _ (List.mem_of_getElem? hx58)).2.2.2.2 x9 h9).2⟩) hr73) ?_
 rintro _ w74 ⟨rfl, HQ75, hk77⟩
 have H76 := bk70 _ _ HQ75
 replace hk77 : ¬ (r72 = 0) ∨ ¬ (x57.xKind = 1) ∨ x57.xOps.ls.length ≤ 24 := hk77
 refine Ar rfl (Mz rfl (fw (.bool (decide (¬ (r72 = 0)))) (Yl.bool (e := !(decide (r72 = 0))) yk decide_not.symm) (nt ?_)))
 by_cases h78 : r72 = 0
 refine jF (dF (not_not_intro h78)) (sk (sr (Kz (.pointer (some ⟨g64, 1, none⟩)) (Lz (.int .i64 x57.xClient) H76 0 Try.isAgg3 (Kz (.pointer (some ⟨g64, 2, none⟩)) (Lz (.int .u64 ((x57.xReq : Nat) : Int)) H76 0 Try.isAgg35 (Kz (.agg #[.int .i64 x57.xClient, .int .u64 ((x57.xReq : Nat) : Int)]) ?_)))))))
 refine npw [.int .i64 0, .int .u64 0] 75 H76 ?_
 intro g79 w80 H81
 refine sto [.int .i64 x57.xClient, .int .u64 ((x57.xReq : Nat) : Int)] 0 H81 Try.sizeOf75 ?_
 intro w82 H83
 refine nt (Wp.seq ?_)
 have H85 := H83.drew
 refine Wp.drawnX [] (fun W => ∃ L', Own w D W ([blk g79 [.int .i64 x57.xClient, .int .u64 ((x57.xReq : Nat) : Int)] 75, blk g64 (SeenD.cells x57) 39, blk g25 [.map (some g21), .slice A38 l40.length c39] 57, mapr g21 requestD.key fateD.val d41, sepL (List.flatMap (fun p : requestD × fateD => fateD.own p.2) d41), row A38 l40.length c39 (List.flatMap PairD.cells l40) 32 2] ++ L')) (by kernel_rfl) (by kernel_rfl) (NoP.then NoP.base) ⟨_, H85⟩ ?_
 revert H85
 generalize World.drew w82 = w84
 intro H85
 refine GX.take (v := .pointer (some ⟨g25, 0, none⟩)) (rs := []) 0 rfl (by kernel_rfl) (fun _ _ => Yl.move rfl) (GX.take (v := .pointer (some ⟨g25, 0, none⟩)) (rs := []) 1 rfl (by kernel_rfl) (fun _ _ => yk) (GX.take (v := .pointer (some ⟨g25, 0, none⟩)) (rs := []) 2 rfl (by kernel_rfl) (fun _ _ => yk) (GX.take (v := .map (some g21)) (rs := []) 3 rfl (by kernel_rfl) (fun _ ⟨_, H9⟩ => Yl.load rfl (Lds.one Try.isAgg55 (Cls.of (H9.cls (i := 2) rfl) rfl))) (GX.take (v := .agg #[.int .i64 x57.xClient, .int .u64 ((x57.xReq : Nat) : Int)]) (rs := []) 4 rfl (by kernel_rfl) (fun _ ⟨_, H9⟩ => Yl.load rfl (Lds.agg (cs := [.int .i64 x57.xClient, .int .u64 ((x57.xReq : Nat) : Int)]) Try.isAgg75 Try.sizeOf75 ((H9.cls (i := 0) rfl).lit (k := 0) (m := 2) rfl))) ?_))))
 rcases Bool.eq_false_or_eq_true (Option.isSome (mget m42 (requestD.mk x57.xClient x57.xReq))) with h86 | h86
 obtain ⟨x87, j88, hj89, hg90, ha91⟩ := mab_some hi52 h86
 have hz92 : x87.xops.ls.length ≤ 24 := ops_get (by assumption) ha91
 have hb93 : x87.xops.ls.length ≤ x87.xops.c ∧ x87.xops.ls.length ≤ 9223372036854775807 := own_rd H85 (i := 4) rfl (φ := fun _ => _) (sepL_mem (List.mem_flatMap.2 ⟨(((requestD.mk x57.xClient x57.xReq), x87) : requestD × fateD), List.mem_of_getElem? hj89, .head _⟩) row_le2)
 have hb94 : x87.xresults.ls.length ≤ x87.xresults.c ∧ x87.xresults.ls.length ≤ 9223372036854775807 := own_rd H85 (i := 4) rfl (φ := fun _ => _) (sepL_mem (List.mem_flatMap.2 ⟨(((requestD.mk x57.xClient x57.xReq), x87) : requestD × fateD), List.mem_of_getElem? hj89, .tail _ (.head _)⟩) row_le2)
 have hl95 : List.length (List.map ResultD.abs x87.xresults.ls) = x87.xresults.ls.length := List.length_map ..
 refine GX.take (v := .tuple #[.agg #[.slice x87.xops.A x87.xops.ls.length x87.xops.c, .bool x87.xdecided, .bool x87.xtold, .slice x87.xresults.A x87.xresults.ls.length x87.xresults.c], .bool true]) (rs := []) 5 rfl (by kernel_rfl) (fun _ ⟨_, H9⟩ => Yl.lookupOkG (k := (requestD.mk x57.xClient x57.xReq)) (d0 := fateD.zero) (i := 3) H9 rfl kg_requestD Try.underlying55 (fun _ => by kernel_rfl) rfl rfl hg90) (GX.take (v := .tuple #[.agg #[.slice x87.xops.A x87.xops.ls.length x87.xops.c, .bool x87.xdecided, .bool x87.xtold, .slice x87.xresults.A x87.xresults.ls.length x87.xresults.c], .bool true]) (rs := []) 6 rfl (by kernel_rfl) (fun _ _ => Yl.move rfl) (GX.take (v := .agg #[.slice x87.xops.A x87.xops.ls.length x87.xops.c, .bool x87.xdecided, .bool x87.xtold, .slice x87.xresults.A x87.xresults.ls.length x87.xresults.c]) (rs := []) 7 rfl (by kernel_rfl) (fun _ _ => yk) (GX.take (v := .bool true) (rs := []) 8 rfl (by kernel_rfl) (fun _ _ => yk) ?_)))
 refine GX.do 9 rfl (by kernel_rfl) (Do.newP (cs := [.slice none 0 0, .bool false, .bool false, .slice none 0 0]) (t := 77) H85 rfl rfl (fun _ => by kernel_rfl) ?_)
 intro g96 w97 H98
 have H99 := H98.pk [1, 2, 3, 4, 5, 6, 0]
 refine ⟨.inr ⟨_, H99⟩, ?_⟩
 have H100 := H99.pk [6, 0, 1, 2, 3, 4, 5]
 refine GX.do0 10 rfl (by kernel_rfl) (Do.store (vs := [.slice x87.xops.A x87.xops.ls.length x87.xops.c, .bool x87.xdecided, .bool x87.xtold, .slice x87.xresults.A x87.xresults.ls.length x87.xresults.c]) (o := 0) H100 rfl rfl Try.sizeOf77 rfl rfl rfl rfl ?_)
 intro w101 H102
 have H103 := H102.pk [1, 2, 3, 4, 5, 6, 0]
 refine ⟨.inr ⟨_, H103⟩, ?_⟩
 refine GX.take (v := .bool true) (rs := []) 11 rfl (by kernel_rfl) (fun _ _ => Yl.assign rfl) (GX.done (by kernel_rfl) (Fin.then (Wp.seq (sr (Kz (.pointer (some ⟨g64, 0, none⟩)) (Lz (.int .i64 x57.xKind) H103 1 Try.isAgg3 (Kz (.bool (decide (x57.xKind = 1))) (Mz rfl ?_))))))))
 by_cases h104 : x57.xKind = 1
 refine gw (.bool true) (dT h104) (Yl.move rfl) (fw (.bool true) (Yl.pickT rfl (dT h104) rfl) (Mz rfl (Sz rfl (Sz rfl (Sz rfl (Sz rfl (WL.skipU rfl rfl rfl (WL.skipU rfl rfl rfl (Sz rfl (fw (.bool true) (Yl.pickT rfl rfl rfl) (Mz rfl (Sz rfl (Sz rfl (Sz rfl (Sz rfl (WL.skipU rfl rfl rfl (WL.skipU rfl rfl rfl (Sz rfl (fw (.bool true) (Yl.pickT rfl rfl rfl) (nt (jt (sr (An rfl (rt (tR (rs (An rfl (Wp.seq ?_))))))))))))))))))))))))))))
 have H105 := H103.pk [2, 3, 4, 5]
 refine Wp.region (Mz rfl (Kz (.bool true) (nt (jt (sr (Mz rfl (Mz rfl (Az rfl (An rfl (rt (bR (tR (tR (bR (tR (Fin.res (res2 rfl rfl rfl) (Mz rfl (Kz (.int .i64 ((k37 : Nat) : Int)) (Kz (.int .i64 6) (Az rfl (Ar rfl (Mz rfl (Kz (.bool true) (nt (jt (sr (Mz rfl (Az rfl (Az rfl ?_)))))))))))))))))))))))))))))
 refine nt (rt (tR (Fin.res (res2 rfl rfl rfl) ?_)))
 have H106 : Own w D w101 [row none 0 0 (List.flatMap PairD.cells ([])) 32 2, blk g25 [.map (some g21), .slice A38 l40.length c39] 57, mapr g21 requestD.key fateD.val d41, sepL (List.flatMap (fun p : requestD × fateD => fateD.own p.2) d41), row A38 l40.length c39 (List.flatMap PairD.cells l40) 32 2] := H105.free (row_nil 32 2)
 have H107 := H106.pk [0]
 have e : judge_Replay l0 = ([], 6) := lp_r (et (hq51) (et (congrArg (fun q => judge_Replay_L0 q l40 m42) hd63) (et (bnd_of hr73) (et (ip h78) (et (ip h86) (et (bnd_of (getD_some ha91)) (ip h104)))))))
 obtain ⟨rfl, rfl⟩ := pj2 (e.symm.trans hr)
 exact ⟨none, 0, rfl, H107⟩
 refine Sz (dF h104) (fw (.bool false) (Yl.pickF rfl (dF h104) rfl) (Mz rfl (Gz (.pointer (some ⟨g64, 0, none⟩)) rfl (Gl (.int .i64 x57.xKind) rfl H103 1 Try.isAgg3 (Gz (.bool (decide (x57.xKind = 2))) rfl (gw (.bool (decide (x57.xKind = 2))) rfl (Yl.move rfl) ?_))))))
 by_cases h108 : x57.xKind = 2
 refine Gz (.pointer (some ⟨g96, 1, none⟩)) (dT h108) (Gl (.bool x87.xdecided) (dT h108) H103 6 Try.isAgg4 (gw (.bool x87.xdecided) rfl (Yl.pickT rfl (dT h108) rfl) (fw (.bool x87.xdecided) (Yl.pickF rfl rfl rfl) (Mz rfl ?_))))
 rcases Bool.eq_false_or_eq_true (x87.xdecided) with h109 | h109
 refine Sz h109 (Sz h109 (Sz h109 (Sz h109 (WL.skipU rfl rfl rfl (WL.skipU rfl rfl rfl (Sz h109 (fw (.bool true) (Yl.pickT rfl h109 rfl) (nt (jt (sr (An rfl (rt (tR (rs (An rfl (Wp.seq ?_))))))))))))))))
 have H110 := H103.pk [2, 3, 4, 5]
 refine Wp.region (Mz rfl (Kz (.bool true) (nt (jt (sr (Mz rfl (Mz rfl (Az rfl (An rfl (rt (bR (tR (tR (bR (tR (Fin.res (res2 rfl rfl rfl) (Mz rfl (Kz (.int .i64 ((k37 : Nat) : Int)) (Kz (.int .i64 6) (Az rfl (Ar rfl (Mz rfl (Kz (.bool true) (nt (jt (sr (Mz rfl (Az rfl (Az rfl ?_)))))))))))))))))))))))))))))
 refine nt (rt (tR (Fin.res (res2 rfl rfl rfl) ?_)))
 have H111 : Own w D w101 [row none 0 0 (List.flatMap PairD.cells ([])) 32 2, blk g25 [.map (some g21), .slice A38 l40.length c39] 57, mapr g21 requestD.key fateD.val d41, sepL (List.flatMap (fun p : requestD × fateD => fateD.own p.2) d41), row A38 l40.length c39 (List.flatMap PairD.cells l40) 32 2] := H110.free (row_nil 32 2)
 have H112 := H111.pk [0]
 have e : judge_Replay l0 = ([], 6) := lp_r (et (hq51) (et (congrArg (fun q => judge_Replay_L0 q l40 m42) hd63) (et (bnd_of hr73) (et (ip h78) (et (ip h86) (et (bnd_of (getD_some ha91)) (et (iN h104) (et (ip h108) (ip h109)))))))))
 obtain ⟨rfl, rfl⟩ := pj2 (e.symm.trans hr)
 exact ⟨none, 0, rfl, H112⟩
 refine Gz (.pointer (some ⟨g64, 0, none⟩)) h109 (Gl (.int .i64 x57.xKind) h109 H103 1 Try.isAgg3 (Gz (.bool (decide (x57.xKind = 3))) h109 (WL.valG (v := .bool (decide (x57.xKind = 3))) rfl rfl h109 rfl (Yl.move rfl) ?_)))
 have hb113 : (decide (x57.xKind = 3)) = false := (dF (by omega))
 refine Sz hb113 (Sz hb113 (WL.valG (v := .bool false) rfl rfl h109 rfl (Yl.pickF rfl hb113 rfl) (fw (.bool false) (Yl.pickF rfl h109 rfl) (nt (jf (sk (Wp.seq (sr (Kz (.pointer (some ⟨g64, 0, none⟩)) (Lz (.int .i64 x57.xKind) H103 1 Try.isAgg3 (fw (.bool (decide (¬ (x57.xKind = 1)))) (Yl.bool (e := !(decide (x57.xKind = 1))) yk decide_not.symm) (Mz rfl ?_))))))))))))
 have hb114 : (decide (¬ (x57.xKind = 1))) = true := (dT (by omega))
 refine WL.valG (v := .bool true) rfl rfl hb114 rfl (Yl.move rfl) (Gz (.bool false) hb114 (fw (.bool false) (Yl.pickT rfl hb114 rfl) (nt (jf (sk (sr (An rfl (Wp.seq (sr (Kz (.pointer (some ⟨g64, 0, none⟩)) (Lz (.int .i64 x57.xKind) H103 1 Try.isAgg3 (nt (bo (sr (Kz (.bool (decide (x57.xKind = 1))) (An rfl (jF (dF h104) (sr (Kz (.bool (decide (x57.xKind = 2))) (An rfl (jT (dT h108) ?_)))))))))))))))))))))
 have H115 := H103.pk [0, 2, 3, 4, 5, 6]
 refine Wp.region (Mz rfl ?_)
 refine WL.do rfl (Do.call Try.call35 rfl ?_ (fun _ _ k => k))
 refine Calls.body (args := [.pointer (some ⟨g25, 0, none⟩), .pointer (some ⟨g96, 0, none⟩)]) Try.func35 rfl rfl rfl ?_
 show Wp _ _ _ [(0, .pointer (some ⟨g25, 0, none⟩)), (1, .pointer (some ⟨g96, 0, none⟩))] _ _
 refine sr (An rfl (Wp.seq (sr (Mz rfl (Kz (.pointer (some ⟨g96, 0, none⟩)) (Kz (.pointer (some ⟨g96, 2, none⟩)) (Lz (.bool x87.xtold) H115 5 Try.isAgg4 (nt ?_))))))))
 rcases Bool.eq_false_or_eq_true (x87.xtold) with h116 | h116
 refine jT h116 (sr (An rfl (rt (tR (rs (Az rfl (WL.nil (bN (Fin.then (Wp.seq (sr (Mz rfl (Kz (.bool false) (nt (jf (sk (Wp.seq ?_)))))))))))))))))
 have H117 := H115.pk [1, 2, 3, 4]
 refine Wp.region (Mz rfl (An rfl (rt (rs (Ar rfl (Mz rfl (Kz (.bool true) (nt (jt (sr (Mz rfl (Mz rfl (Az rfl (An rfl (rt (bR (tR (tR (bR (tR (Fin.res (res2 rfl rfl rfl) (Mz rfl (Kz (.int .i64 ((k37 : Nat) : Int)) (Kz (.int .i64 4) (Az rfl (An rfl (Wp.seq ?_)))))))))))))))))))))))))))
 refine Wp.region (Mz rfl (Kz (.bool true) (nt (jt (sr (Mz rfl (Az rfl (An rfl (rt (tR (Fin.res (res2 rfl rfl rfl) ?_)))))))))))
 have H118 : Own w D w101 [row none 0 0 (List.flatMap PairD.cells ([])) 32 2, blk g25 [.map (some g21), .slice A38 l40.length c39] 57, mapr g21 requestD.key fateD.val d41, sepL (List.flatMap (fun p : requestD × fateD => fateD.own p.2) d41), row A38 l40.length c39 (List.flatMap PairD.cells l40) 32 2] := H117.free (row_nil 32 2)
 have H119 := H118.pk [0]
 have e : judge_Replay l0 = ([], 4) := lp_r (et (hq51) (et (congrArg (fun q => judge_Replay_L0 q l40 m42) hd63) (et (bnd_of hr73) (et (ip h78) (et (ip h86) (et (bnd_of (getD_some ha91)) (et (iN h104) (et (ip h108) (et (ifF h109) (ip h116))))))))))
 obtain ⟨rfl, rfl⟩ := pj2 (e.symm.trans hr)
 exact ⟨none, 0, rfl, H119⟩
 refine jF h116 (sk (Wp.seq ?_))
 have H121 := H115.drew
 refine Wp.drawnX [] (fun W => ∃ L', Own w D W ([blk g79 [.int .i64 x57.xClient, .int .u64 ((x57.xReq : Nat) : Int)] 75, blk g25 [.map (some g21), .slice A38 l40.length c39] 57, mapr g21 requestD.key fateD.val d41, sepL (List.flatMap (fun p : requestD × fateD => fateD.own p.2) d41), row A38 l40.length c39 (List.flatMap PairD.cells l40) 32 2, blk g96 [.slice x87.xops.A x87.xops.ls.length x87.xops.c, .bool x87.xdecided, .bool x87.xtold, .slice x87.xresults.A x87.xresults.ls.length x87.xresults.c] 77] ++ L')) (by kernel_rfl) (by kernel_rfl) (NoP.then NoP.base) ⟨_, H121⟩ ?_
 revert H121
 generalize World.drew w101 = w120
 intro H121
 refine GX.take (v := .pointer (some ⟨g25, 0, none⟩)) (rs := []) 0 rfl (by kernel_rfl) (fun _ _ => Yl.move rfl) (GX.take (v := .pointer (some ⟨g25, 0, none⟩)) (rs := []) 1 rfl (by kernel_rfl) (fun _ _ => yk) (GX.take (v := .pointer (some ⟨g25, 1, none⟩)) (rs := []) 2 rfl (by kernel_rfl) (fun _ _ => yk) (GX.take (v := .slice A38 l40.length c39) (rs := []) 3 rfl (by kernel_rfl) (fun _ ⟨_, H9⟩ => Yl.load rfl (Lds.one Try.isAgg27 (Cls.of (H9.cls (i := 1) rfl) rfl))) (GX.take (v := .pointer (some ⟨g96, 0, none⟩)) (rs := []) 4 rfl (by kernel_rfl) (fun _ _ => Yl.move rfl) (GX.take (v := .pointer (some ⟨g96, 0, none⟩)) (rs := []) 5 rfl (by kernel_rfl) (fun _ _ => yk) (GX.take (v := .pointer (some ⟨g96, 0, none⟩)) (rs := []) 6 rfl (by kernel_rfl) (fun _ _ => yk) (GX.take (v := .slice x87.xops.A x87.xops.ls.length x87.xops.c) (rs := []) 7 rfl (by kernel_rfl) (fun _ ⟨_, H9⟩ => Yl.load rfl (Lds.one Try.isAgg36 (Cls.of (H9.cls (i := 5) rfl) rfl))) ?_)))))))
 obtain ⟨⟨r127, r128, r129⟩, hr130⟩ : ∃ q : (List PairD) × (List ResultT) × Int, op_Apply l40 x87.xops.ls = q := ⟨_, rfl⟩
 obtain ⟨D122, HP123, ro124, bk125, rr126⟩ := Own.enter0 H121
 refine GX.do 8 rfl (by kernel_rfl) (Do.call Try.call41 rfl (op_Apply_ok _ _ A38 l40.length c39 l40 x87.xops.A x87.xops.ls.length x87.xops.c x87.xops.ls r127 r128 r129 HP123 (rr126 _ 4 _ rfl row_rds) rfl (by omega) (rr126 _ 3 _ rfl (sepL_mem (List.mem_flatMap.2 ⟨(((requestD.mk x57.xClient x57.xReq), x87) : requestD × fateD), List.mem_of_getElem? hj89, .head _⟩) row_rds)) rfl (by omega) (by first | omega | (simp only [List.length_cons, List.length_nil]; done) | (simp only [List.length_cons, List.length_nil, List.length_take, List.length_drop]; omega)) hr130) ?_)
 rintro _ w131 ⟨A134, c135, A136, c137, d138, rfl, HQ132, hd139, hk140, hk141⟩
 have H133 := bk125 _ _ HQ132
 have hl142 := abs_len hd139
 have hb143 := H133.rowC (i := 0) rfl
 have hb144 := H133.rowC (i := 1) rfl
 replace hk140 : r127.length ≤ l40.length + x87.xops.ls.length := hk140
 replace hk141 : r128.length ≤ x87.xops.ls.length := hk141
 have H145 := H133.pk [3, 4, 5, 6, 7, 8, 0, 1, 2]
 refine ⟨.inr ⟨_, H145⟩, ?_⟩
 refine GX.take (v := .tuple #[.slice A134 r127.length c135, .slice A136 r128.length c137, .int .i64 r129]) (rs := []) 9 rfl (by kernel_rfl) (fun _ _ => Yl.move rfl) (GX.take (v := .slice A134 r127.length c135) (rs := []) 10 rfl (by kernel_rfl) (fun _ _ => yk) (GX.take (v := .slice A136 r128.length c137) (rs := []) 11 rfl (by kernel_rfl) (fun _ _ => yk) (GX.take (v := .int .i64 r129) (rs := []) 12 rfl (by kernel_rfl) (fun _ _ => yk) (GX.take (v := .slice A134 r127.length c135) (rs := []) 13 rfl (by kernel_rfl) (fun _ _ => Yl.assign rfl) (GX.take (v := .slice A136 r128.length c137) (rs := []) 14 rfl (by kernel_rfl) (fun _ _ => Yl.assign rfl) (GX.take (v := .int .i64 r129) (rs := []) 15 rfl (by kernel_rfl) (fun _ _ => Yl.assign rfl) (GX.done (by kernel_rfl) (Fin.then (Wp.seq (sr (Mz rfl (fw (.bool (decide (¬ (r129 = 0)))) (Yl.bool (e := !(decide (r129 = 0))) yk decide_not.symm) (nt ?_)))))))))))))
 by_cases h146 : r129 = 0
 refine jF (dF (not_not_intro h146)) (sk (sr (Mz rfl (Mz rfl (Kz (.pointer (some ⟨g25, 0, none⟩)) (Kz (.pointer (some ⟨g25, 1, none⟩)) ?_))))))
 have H147 := H145.pk [1, 0, 2, 3, 4, 5, 6, 7, 8]
 refine sto [.slice A134 r127.length c135] 1 H147 Try.sizeOf27 ?_
 intro w148 H149
 refine nt (Wp.seq ?_)
 have H150 := H149.pk [0, 1, 2, 3, 5, 6, 7, 8]
 refine Wp.region (Mz rfl (Mz rfl (Mz rfl (Kz (.pointer (some ⟨g96, 0, none⟩)) (Kz (.pointer (some ⟨g96, 1, none⟩)) ?_)))))
 have H151 := H150.pk [4, 0, 1, 2, 3, 5, 6, 7]
 refine sto [.bool true] 1 H151 Try.sizeOf4 ?_
 intro w152 H153
 refine Kz (.pointer (some ⟨g96, 0, none⟩)) (Kz (.pointer (some ⟨g96, 3, none⟩)) ?_)
 refine sto [.slice A136 r128.length c137] 3 H153 Try.sizeOf37 ?_
 intro w154 H155
 refine ns (An rfl (rt (rs (Az rfl (WL.nil (bN (Fin.then (Wp.seq (sr (Mz rfl (Kz (.bool true) (nt (jt ?_)))))))))))))
 have H157 := H155.drew
 refine Wp.drawnX [] (fun W => ∃ L', Own w D W ([blk g96 [.slice x87.xops.A x87.xops.ls.length x87.xops.c, .bool true, .bool x87.xtold, .slice A136 r128.length c137] 77, blk g25 [.map (some g21), .slice A134 r127.length c135] 57, blk g79 [.int .i64 x57.xClient, .int .u64 ((x57.xReq : Nat) : Int)] 75] ++ L')) (by kernel_rfl) (by kernel_rfl) (NoP.then NoP.base) ⟨_, H157⟩ ?_
 revert H157
 generalize World.drew w154 = w156
 intro H157
 refine GX.take (v := .pointer (some ⟨g25, 0, none⟩)) (rs := []) 0 rfl (by kernel_rfl) (fun _ _ => Yl.move rfl) (GX.take (v := .pointer (some ⟨g25, 0, none⟩)) (rs := []) 1 rfl (by kernel_rfl) (fun _ _ => yk) (GX.take (v := .pointer (some ⟨g25, 0, none⟩)) (rs := []) 2 rfl (by kernel_rfl) (fun _ _ => yk) (GX.take (v := .map (some g21)) (rs := []) 3 rfl (by kernel_rfl) (fun _ ⟨_, H9⟩ => Yl.load rfl (Lds.one Try.isAgg55 (Cls.of (H9.cls (i := 1) rfl) rfl))) (GX.take (v := .agg #[.int .i64 x57.xClient, .int .u64 ((x57.xReq : Nat) : Int)]) (rs := []) 4 rfl (by kernel_rfl) (fun _ ⟨_, H9⟩ => Yl.load rfl (Lds.agg (cs := [.int .i64 x57.xClient, .int .u64 ((x57.xReq : Nat) : Int)]) Try.isAgg75 Try.sizeOf75 ((H9.cls (i := 2) rfl).lit (k := 0) (m := 2) rfl))) (GX.take (v := .agg #[.slice x87.xops.A x87.xops.ls.length x87.xops.c, .bool true, .bool x87.xtold, .slice A136 r128.length c137]) (rs := []) 5 rfl (by kernel_rfl) (fun _ ⟨_, H9⟩ => Yl.load rfl (Lds.agg (cs := [.slice x87.xops.A x87.xops.ls.length x87.xops.c, .bool true, .bool x87.xtold, .slice A136 r128.length c137]) Try.isAgg77 Try.sizeOf77 ((H9.cls (i := 0) rfl).lit (k := 0) (m := 4) rfl))) ?_)))))
 have H158 : Own w D w156 [blk g96 [.slice x87.xops.A x87.xops.ls.length x87.xops.c, .bool true, .bool x87.xtold, .slice A136 r128.length c137] 77, blk g25 [.map (some g21), .slice A134 r127.length c135] 57, blk g79 [.int .i64 x57.xClient, .int .u64 ((x57.xReq : Nat) : Int)] 75, mapr g21 requestD.key fateD.val d41, sepL (List.flatMap (fun p : requestD × fateD => fateD.own p.2) d41), row A134 r127.length c135 (List.flatMap PairD.cells r127) 32 2, row A136 d138.length c137 (List.flatMap ResultD.cells d138) 84 3, sepL (List.flatMap ResultD.own d138)] := by rw [abs_len hd139]; exact H157
 have H159 := H158.pk [4, 0, 1, 2, 3, 5, 6, 7]
 have H160 : Own w D w156 [row x87.xops.A x87.xops.ls.length x87.xops.c (List.flatMap OpD.cells x87.xops.ls) 53 6, row x87.xresults.A x87.xresults.ls.length x87.xresults.c (List.flatMap ResultD.cells x87.xresults.ls) 84 3, sepL (List.flatMap ResultD.own x87.xresults.ls), sepL (List.flatMap (fun p : requestD × fateD => fateD.own p.2) (List.take j88 d41) ++ List.flatMap (fun p : requestD × fateD => fateD.own p.2) (List.drop (j88 + 1) d41)), blk g96 [.slice x87.xops.A x87.xops.ls.length x87.xops.c, .bool true, .bool x87.xtold, .slice A136 r128.length c137] 77, blk g25 [.map (some g21), .slice A134 r127.length c135] 57, blk g79 [.int .i64 x57.xClient, .int .u64 ((x57.xReq : Nat) : Int)] 75, mapr g21 requestD.key fateD.val d41, row A134 r127.length c135 (List.flatMap PairD.cells r127) 32 2, row A136 d138.length c137 (List.flatMap ResultD.cells d138) 84 3, sepL (List.flatMap ResultD.own d138)] := Own.sepOpen (f := (fun p : requestD × fateD => fateD.own p.2)) (i := j88) hj89 H159
 have H161 := H160.pk [0, 9, 10, 3, 1, 2, 4, 5, 6, 7, 8]
 have H162 := H161.pk [0, 1, 2, 3, 6, 7, 8, 9, 10]
 have H163 : Own w D w156 [sepL (List.flatMap (fun p : requestD × fateD => fateD.own p.2) (List.set d41 j88 ((requestD.mk x57.xClient x57.xReq), (fateD.mk (Sv.mk x87.xops.A x87.xops.c x87.xops.ls) true x87.xtold (Sv.mk A136 c137 d138))))), blk g96 [.slice x87.xops.A x87.xops.ls.length x87.xops.c, .bool true, .bool x87.xtold, .slice A136 r128.length c137] 77, blk g25 [.map (some g21), .slice A134 r127.length c135] 57, blk g79 [.int .i64 x57.xClient, .int .u64 ((x57.xReq : Nat) : Int)] 75, mapr g21 requestD.key fateD.val d41, row A134 r127.length c135 (List.flatMap PairD.cells r127) 32 2] := Own.sepClose (f := (fun p : requestD × fateD => fateD.own p.2)) (y := ((requestD.mk x57.xClient x57.xReq), (fateD.mk (Sv.mk x87.xops.A x87.xops.c x87.xops.ls) true x87.xtold (Sv.mk A136 c137 d138)))) hj89 H162
 have H164 := H163.pk [4, 0, 1, 2, 3, 5]
 have hn166 := H164.mapNodup (i := 0) rfl
 have hb165 : mabs fateD.abs (List.set d41 j88 ((requestD.mk x57.xClient x57.xReq), (fateD.mk (Sv.mk x87.xops.A x87.xops.c x87.xops.ls) true x87.xtold (Sv.mk A136 c137 d138)))) = (mput m42 (requestD.mk x57.xClient x57.xReq) (fateT.mk (Ll.mk x87.xops.ls) true x87.xtold (Ll.mk r128))) := (mab_set (v := (fateD.mk (Sv.mk x87.xops.A x87.xops.c x87.xops.ls) true x87.xtold (Sv.mk A136 c137 d138))) hi52 hn166 hj89).trans (congrArg (mput m42 (requestD.mk x57.xClient x57.xReq)) (show fateD.abs (fateD.mk (Sv.mk x87.xops.A x87.xops.c x87.xops.ls) true x87.xtold (Sv.mk A136 c137 d138)) = (fateT.mk (Ll.mk x87.xops.ls) true x87.xtold (Ll.mk r128)) from by simp only [fateD.abs, hd139]))
 refine GX.do0 6 rfl (by kernel_rfl) (Do.mapUpdateG (k := (requestD.mk x57.xClient x57.xReq)) (v := (fateD.mk (Sv.mk x87.xops.A x87.xops.c x87.xops.ls) true x87.xtold (Sv.mk A136 c137 d138))) H164 kg_requestD Try.underlying55 rfl rfl (congrArg some (show (Value.agg #[.slice x87.xops.A x87.xops.ls.length x87.xops.c, .bool true, .bool x87.xtold, .slice A136 r128.length c137] : Value) = fateD.val (fateD.mk (Sv.mk x87.xops.A x87.xops.c x87.xops.ls) true x87.xtold (Sv.mk A136 c137 d138)) from by rw [← abs_len hd139]; first | done | rfl)) ?_)
 intro w167 H168
 have H169 : Own w D w167 [mapr g21 requestD.key fateD.val (List.set d41 j88 ((requestD.mk x57.xClient x57.xReq), (fateD.mk (Sv.mk x87.xops.A x87.xops.c x87.xops.ls) true x87.xtold (Sv.mk A136 c137 d138)))), sepL (List.flatMap (fun p : requestD × fateD => fateD.own p.2) (List.set d41 j88 ((requestD.mk x57.xClient x57.xReq), (fateD.mk (Sv.mk x87.xops.A x87.xops.c x87.xops.ls) true x87.xtold (Sv.mk A136 c137 d138))))), blk g96 [.slice x87.xops.A x87.xops.ls.length x87.xops.c, .bool true, .bool x87.xtold, .slice A136 r128.length c137] 77, blk g25 [.map (some g21), .slice A134 r127.length c135] 57, blk g79 [.int .i64 x57.xClient, .int .u64 ((x57.xReq : Nat) : Int)] 75, row A134 r127.length c135 (List.flatMap PairD.cells r127) 32 2] := by have q9 := H168; rw [mput_set (v := (fateD.mk (Sv.mk x87.xops.A x87.xops.c x87.xops.ls) true x87.xtold (Sv.mk A136 c137 d138))) hn166 hj89] at q9; exact q9
 have H170 := H169.pk [2, 3, 4, 0, 1, 5]
 refine ⟨.inr ⟨_, H170⟩, ?_⟩
 refine GX.done (by kernel_rfl) (Fin.then (Wp.seq ?_))
 have H171 := H170.pk [1, 3, 4, 5]
 refine Wp.region (Mz rfl (An rfl (rt (rs (Ar rfl (Mz rfl (Kz (.bool false) (nt (jf (Wp.skip (bN (Fin.then (Wp.region (fw (.int .i64 ((k37 + 1 : Nat) : Int)) (Yl.int (e := IntKind.i64.wrap (((k37 : Nat) : Int) + 1)) yk (by rw [IntWalk.i64_in _ (by omega)]; omega)) (Mz rfl (WL.nil ?_))))))))))))))))
 have H172 := H171.pk [0, 1, 2, 3]
 exact Fin.round (k37 + 1, A134, c135, r127, (List.set d41 j88 ((requestD.mk x57.xClient x57.xReq), (fateD.mk (Sv.mk x87.xops.A x87.xops.c x87.xops.ls) true x87.xtold (Sv.mk A136 c137 d138)))), (mput m42 (requestD.mk x57.xClient x57.xReq) (fateT.mk (Ll.mk x87.xops.ls) true x87.xtold (Ll.mk r128)))) ⟨rfl, rfl, rfl, rfl, rfl, rfl, trivial⟩ (dm50.2 ⟨H172, by exact hb165, by omega, by omega, by first | assumption | (intro p hp; cases hp) | exact ops_put (by assumption) (by first | omega | (dsimp only; omega)), Eq.trans (hq51) (Eq.trans (congrArg (fun q => judge_Replay_L0 q l40 m42) hd63) (Eq.trans (bnd_of hr73) (Eq.trans (if_pos h78) (Eq.trans (if_pos h86) (Eq.trans (bnd_of (getD_some ha91)) (Eq.trans (if_neg h104) (Eq.trans (if_pos h108) (Eq.trans (ifF h109) (Eq.trans (ifF h116) (Eq.trans (bnd_of hr130) (if_pos h146)))))))))))⟩) (by show l0.length - (k37 + 1) < l0.length - k37; omega)
 refine jT (dT h146) (sr (An rfl (rt (tR (rs (Az rfl (WL.nil (bN (Fin.then (Wp.seq (Wp.seq ?_)))))))))))
 have H173 := H145.pk [0, 1, 2, 3, 4, 5]
 refine Wp.region (Mz rfl (Kz (.bool false) (nt (jf (sk (Wp.seq ?_))))))
 have H174 := H173.pk [1, 2, 3, 4]
 refine Wp.region (Mz rfl (An rfl (rt (rs (Ar rfl (Mz rfl (Kz (.bool true) (nt (jt (sr (Mz rfl (Mz rfl (Az rfl (An rfl (rt (bR (tR (tR (bR (tR (Fin.res (res2 rfl rfl rfl) (Mz rfl (Kz (.int .i64 ((k37 : Nat) : Int)) (Kz (.int .i64 1) (Az rfl (An rfl (Wp.seq ?_)))))))))))))))))))))))))))
 refine Wp.region (Mz rfl (Kz (.bool true) (nt (jt (sr (Mz rfl (Az rfl (An rfl (rt (tR (Fin.res (res2 rfl rfl rfl) ?_)))))))))))
 have H175 : Own w D w131 [row none 0 0 (List.flatMap PairD.cells ([])) 32 2, blk g25 [.map (some g21), .slice A38 l40.length c39] 57, mapr g21 requestD.key fateD.val d41, sepL (List.flatMap (fun p : requestD × fateD => fateD.own p.2) d41), row A38 l40.length c39 (List.flatMap PairD.cells l40) 32 2] := H174.free (row_nil 32 2)
 have H176 := H175.pk [0]
 have e : judge_Replay l0 = ([], 1) := lp_r (et (hq51) (et (congrArg (fun q => judge_Replay_L0 q l40 m42) hd63) (et (bnd_of hr73) (et (ip h78) (et (ip h86) (et (bnd_of (getD_some ha91)) (et (iN h104) (et (ip h108) (et (ifF h109) (et (ifF h116) (et (bnd_of hr130) (iN h146))))))))))))
 obtain ⟨rfl, rfl⟩ := pj2 (e.symm.trans hr)
 exact ⟨none, 0, rfl, H176⟩
 refine Sz (dF h108) (Sz (dF h108) (gw (.bool false) rfl (Yl.pickF rfl (dF h108) rfl) (fw (.bool false) (Yl.pickF rfl rfl rfl) (Mz rfl (Gz (.pointer (some ⟨g64, 0, none⟩)) rfl (Gl (.int .i64 x57.xKind) rfl H103 1 Try.isAgg3 (Gz (.bool (decide (x57.xKind = 3))) rfl (gw (.bool (decide (x57.xKind = 3))) rfl (Yl.move rfl) ?_))))))))
 by_cases h177 : x57.xKind = 3
 refine Gz (.pointer (some ⟨g96, 2, none⟩)) (dT h177) (Gl (.bool x87.xtold) (dT h177) H103 6 Try.isAgg4 (gw (.bool x87.xtold) rfl (Yl.pickT rfl (dT h177) rfl) (fw (.bool x87.xtold) (Yl.pickF rfl rfl rfl) (nt ?_))))
 rcases Bool.eq_false_or_eq_true (x87.xtold) with h178 | h178
 refine jT h178 (sr (An rfl (rt (tR (rs (An rfl (Wp.seq ?_)))))))
 have H179 := H103.pk [2, 3, 4, 5]
 refine Wp.region (Mz rfl (Kz (.bool true) (nt (jt (sr (Mz rfl (Mz rfl (Az rfl (An rfl (rt (bR (tR (tR (bR (tR (Fin.res (res2 rfl rfl rfl) (Mz rfl (Kz (.int .i64 ((k37 : Nat) : Int)) (Kz (.int .i64 6) (Az rfl (Ar rfl (Mz rfl (Kz (.bool true) (nt (jt (sr (Mz rfl (Az rfl (Az rfl ?_)))))))))))))))))))))))))))))
 refine nt (rt (tR (Fin.res (res2 rfl rfl rfl) ?_)))
 have H180 : Own w D w101 [row none 0 0 (List.flatMap PairD.cells ([])) 32 2, blk g25 [.map (some g21), .slice A38 l40.length c39] 57, mapr g21 requestD.key fateD.val d41, sepL (List.flatMap (fun p : requestD × fateD => fateD.own p.2) d41), row A38 l40.length c39 (List.flatMap PairD.cells l40) 32 2] := H179.free (row_nil 32 2)
 have H181 := H180.pk [0]
 have e : judge_Replay l0 = ([], 6) := lp_r (et (hq51) (et (congrArg (fun q => judge_Replay_L0 q l40 m42) hd63) (et (bnd_of hr73) (et (ip h78) (et (ip h86) (et (bnd_of (getD_some ha91)) (et (iN h104) (et (iN h108) (et (ip h177) (ip h178))))))))))
 obtain ⟨rfl, rfl⟩ := pj2 (e.symm.trans hr)
 exact ⟨none, 0, rfl, H181⟩
 refine jF h178 (sk (Wp.seq (sr (Kz (.pointer (some ⟨g64, 0, none⟩)) (Lz (.int .i64 x57.xKind) H103 1 Try.isAgg3 (fw (.bool (decide (¬ (x57.xKind = 1)))) (Yl.bool (e := !(decide (x57.xKind = 1))) yk decide_not.symm) (Mz rfl ?_)))))))
 have hb182 : (decide (¬ (x57.xKind = 1))) = true := (dT (by omega))
 refine WL.valG (v := .bool true) rfl rfl hb182 rfl (Yl.move rfl) (Gz (.bool false) hb182 (fw (.bool false) (Yl.pickT rfl hb182 rfl) (nt (jf (sk (sr (An rfl (Wp.seq (sr (Kz (.pointer (some ⟨g64, 0, none⟩)) (Lz (.int .i64 x57.xKind) H103 1 Try.isAgg3 (nt (bo (sr (Kz (.bool (decide (x57.xKind = 1))) (An rfl (jF (dF h104) (sr (Kz (.bool (decide (x57.xKind = 2))) (An rfl (jF (dF h108) (sr (Kz (.bool (decide (x57.xKind = 3))) (Az rfl (WL.nil ?_)))))))))))))))))))))))))
 refine Fin.then (jT (dT h177) (Wp.region (La (SeenD.cells x57) H103 1 Try.isAgg39 Try.sizeOf39 ?_)))
 refine WL.do rfl (Do.call Try.call36 rfl ?_ (fun _ _ k => k))
 refine Calls.body (args := [.pointer (some ⟨g96, 0, none⟩), .agg (SeenD.cells x57).toArray]) Try.func36 rfl rfl rfl ?_
 show Wp _ _ _ [(0, .pointer (some ⟨g96, 0, none⟩)), (1, .agg (SeenD.cells x57).toArray)] _ _
 refine sr ?_
 refine npw (SeenD.cells x57) 39 H103 ?_
 intro g183 w184 H185
 refine An rfl (Wp.seq (Wp.seq ?_))
 have H187 := H185.drew
 refine Wp.drawnX [] (fun W => ∃ L', Own w D W ([blk g183 (SeenD.cells x57) 39, blk g79 [.int .i64 x57.xClient, .int .u64 ((x57.xReq : Nat) : Int)] 75, blk g64 (SeenD.cells x57) 39, blk g25 [.map (some g21), .slice A38 l40.length c39] 57, mapr g21 requestD.key fateD.val d41, sepL (List.flatMap (fun p : requestD × fateD => fateD.own p.2) d41), row A38 l40.length c39 (List.flatMap PairD.cells l40) 32 2, blk g96 [.slice x87.xops.A x87.xops.ls.length x87.xops.c, .bool x87.xdecided, .bool x87.xtold, .slice x87.xresults.A x87.xresults.ls.length x87.xresults.c] 77] ++ L')) (by kernel_rfl) (by kernel_rfl) (NoP.then (NoP.then NoP.base)) ⟨_, H187⟩ ?_
 revert H187
 generalize World.drew w184 = w186
 intro H187
 refine GX.take (v := .pointer (some ⟨g96, 0, none⟩)) (rs := []) 0 rfl (by kernel_rfl) (fun _ _ => Yl.move rfl) (GX.take (v := .pointer (some ⟨g96, 0, none⟩)) (rs := []) 1 rfl (by kernel_rfl) (fun _ _ => yk) (GX.take (v := .pointer (some ⟨g96, 1, none⟩)) (rs := []) 2 rfl (by kernel_rfl) (fun _ _ => yk) (GX.take (v := .bool x87.xdecided) (rs := []) 3 rfl (by kernel_rfl) (fun _ ⟨_, H9⟩ => Yl.load rfl (Lds.one Try.isAgg4 (Cls.of (H9.cls (i := 7) rfl) rfl))) (GX.take (v := .pointer (some ⟨g183, 3, none⟩)) (rs := []) 4 rfl (by kernel_rfl) (fun _ _ => yk) (GX.take (v := .int .i64 x57.xCode) (rs := []) 5 rfl (by kernel_rfl) (fun _ ⟨_, H9⟩ => Yl.load rfl (Lds.one Try.isAgg3 (Cls.of (H9.cls (i := 0) rfl) rfl))) (GX.take (v := .bool (decide (x57.xCode = 1))) (rs := []) 6 rfl (by kernel_rfl) (fun _ _ => yk) (GX.take (v := .bool (decide (¬ (x87.xdecided = (decide (x57.xCode = 1)))))) (rs := []) 7 rfl (by kernel_rfl) (fun _ _ => Yl.bool (e := !(x87.xdecided == decide (x57.xCode = 1))) yk (by first | (rw [Bool.beq_eq_decide_eq]; exact decide_not.symm) | (by_cases q : x87.xdecided = (decide (x57.xCode = 1)) <;> simp [q]))) (GX.done (by kernel_rfl) (Fin.then ?_)))))))))
 by_cases h188 : x87.xdecided = (decide (x57.xCode = 1))
 refine jF (dF (not_not_intro h188)) (sk (Wp.seq (Wp.seq ?_)))
 have H190 := H187.drew
 refine Wp.drawnX [] (fun W => ∃ L', Own w D W ([blk g183 (SeenD.cells x57) 39, blk g79 [.int .i64 x57.xClient, .int .u64 ((x57.xReq : Nat) : Int)] 75, blk g64 (SeenD.cells x57) 39, blk g25 [.map (some g21), .slice A38 l40.length c39] 57, mapr g21 requestD.key fateD.val d41, sepL (List.flatMap (fun p : requestD × fateD => fateD.own p.2) d41), row A38 l40.length c39 (List.flatMap PairD.cells l40) 32 2, blk g96 [.slice x87.xops.A x87.xops.ls.length x87.xops.c, .bool x87.xdecided, .bool x87.xtold, .slice x87.xresults.A x87.xresults.ls.length x87.xresults.c] 77] ++ L')) (by kernel_rfl) (by kernel_rfl) (NoP.then (NoP.then NoP.base)) ⟨_, H190⟩ ?_
 revert H190
 generalize World.drew w186 = w189
 intro H190
 refine GX.take (v := .pointer (some ⟨g183, 5, none⟩)) (rs := []) 0 rfl (by kernel_rfl) (fun _ _ => yk) (GX.take (v := .slice x57.xResults.A x57.xResults.ls.length x57.xResults.c) (rs := []) 1 rfl (by kernel_rfl) (fun _ ⟨_, H9⟩ => Yl.load rfl (Lds.one Try.isAgg37 (Cls.of (H9.cls (i := 0) rfl) rfl))) (GX.take (v := .pointer (some ⟨g96, 0, none⟩)) (rs := []) 2 rfl (by kernel_rfl) (fun _ _ => Yl.move rfl) (GX.take (v := .pointer (some ⟨g96, 0, none⟩)) (rs := []) 3 rfl (by kernel_rfl) (fun _ _ => yk) (GX.take (v := .pointer (some ⟨g96, 3, none⟩)) (rs := []) 4 rfl (by kernel_rfl) (fun _ _ => yk) (GX.take (v := .slice x87.xresults.A x87.xresults.ls.length x87.xresults.c) (rs := []) 5 rfl (by kernel_rfl) (fun _ ⟨_, H9⟩ => Yl.load rfl (Lds.one Try.isAgg37 (Cls.of (H9.cls (i := 7) rfl) rfl))) ?_)))))
 refine GX.do 6 rfl (by kernel_rfl) (Do.call Try.call42 rfl ?_ (fun _ _ k => k))
 refine Calls.body (args := [.slice x57.xResults.A x57.xResults.ls.length x57.xResults.c, .slice x87.xresults.A x87.xresults.ls.length x87.xresults.c, .func (.func 43) #[] #[]]) Try.func42 rfl rfl rfl ?_
 show Wp _ _ _ [(0, .slice x57.xResults.A x57.xResults.ls.length x57.xResults.c), (1, .slice x87.xresults.A x87.xresults.ls.length x87.xresults.c), (2, .func (.func 43) #[] #[])] _ _
 refine sr (An rfl (Wp.seq (sr (Mz rfl (fw (.int .i64 ((List.length (List.map ResultD.abs x57.xResults.ls) : Nat) : Int)) (Yl.int (e := ((x57.xResults.ls.length : Nat) : Int)) yk (by rw [List.length_map])) (Mz rfl (fw (.int .i64 ((List.length (List.map ResultD.abs x87.xresults.ls) : Nat) : Int)) (Yl.int (e := ((x87.xresults.ls.length : Nat) : Int)) yk (by rw [List.length_map])) (fw (.bool (decide (¬ (((List.length (List.map ResultD.abs x57.xResults.ls) : Nat) : Int) = ((List.length (List.map ResultD.abs x87.xresults.ls) : Nat) : Int))))) (Yl.bool (e := !(decide (((List.length (List.map ResultD.abs x57.xResults.ls) : Nat) : Int) = ((List.length (List.map ResultD.abs x87.xresults.ls) : Nat) : Int)))) yk decide_not.symm) (nt ?_)))))))))
 by_cases h191 : ((List.length (List.map ResultD.abs x57.xResults.ls) : Nat) : Int) = ((List.length (List.map ResultD.abs x87.xresults.ls) : Nat) : Int)
 refine jF (dF (not_not_intro h191)) (sk (Wp.seq (sr (Mz rfl (fw (.int .i64 ((List.length (List.map ResultD.abs x57.xResults.ls) : Nat) : Int)) (Yl.int (e := ((x57.xResults.ls.length : Nat) : Int)) yk (by rw [List.length_map])) (Mn rfl (bo ?_)))))))
 have H194 := H190.pk [0, 1, 2, 3, 4, 5, 6, 7]
 obtain ⟨I198, hI199⟩ : ∃ q : Nat → World → Prop, q = fun (i : Nat) w' => Own w D w' [blk g183 (SeenD.cells x57) 39, blk g79 [.int .i64 x57.xClient, .int .u64 ((x57.xReq : Nat) : Int)] 75, blk g64 (SeenD.cells x57) 39, blk g25 [.map (some g21), .slice A38 l40.length c39] 57, mapr g21 requestD.key fateD.val d41, sepL (List.flatMap (fun p : requestD × fateD => fateD.own p.2) d41), row A38 l40.length c39 (List.flatMap PairD.cells l40) 32 2, blk g96 [.slice x87.xops.A x87.xops.ls.length x87.xops.c, .bool x87.xdecided, .bool x87.xtold, .slice x87.xresults.A x87.xresults.ls.length x87.xresults.c] 77] ∧ (i ≤ List.length (List.map ResultD.abs x57.xResults.ls) ∧ judge_Replay_L1 l40 m42 (SeenD.abs x57) (fateD.abs x87) (List.length (List.map ResultD.abs x57.xResults.ls)) 0 = judge_Replay_L1 l40 m42 (SeenD.abs x57) (fateD.abs x87) ((List.length (List.map ResultD.abs x57.xResults.ls)) - i) i) := ⟨_, rfl⟩
 have dm200 : ∀ {k192 : Nat} {w' : World}, I198 k192 w' ↔ Own w D w' [blk g183 (SeenD.cells x57) 39, blk g79 [.int .i64 x57.xClient, .int .u64 ((x57.xReq : Nat) : Int)] 75, blk g64 (SeenD.cells x57) 39, blk g25 [.map (some g21), .slice A38 l40.length c39] 57, mapr g21 requestD.key fateD.val d41, sepL (List.flatMap (fun p : requestD × fateD => fateD.own p.2) d41), row A38 l40.length c39 (List.flatMap PairD.cells l40) 32 2, blk g96 [.slice x87.xops.A x87.xops.ls.length x87.xops.c, .bool x87.xdecided, .bool x87.xtold, .slice x87.xresults.A x87.xresults.ls.length x87.xresults.c] 77] ∧ k192 ≤ List.length (List.map ResultD.abs x57.xResults.ls) ∧ judge_Replay_L1 l40 m42 (SeenD.abs x57) (fateD.abs x87) (List.length (List.map ResultD.abs x57.xResults.ls)) 0 = judge_Replay_L1 l40 m42 (SeenD.abs x57) (fateD.abs x87) ((List.length (List.map ResultD.abs x57.xResults.ls)) - k192) k192 := by intros; subst hI199; exact Iff.rfl
 refine Wp.loop (fun i : Nat => [(6, .bool false), (17, .int .i64 ((i : Nat) : Int)), (16, .int .i64 ((List.length (List.map ResultD.abs x57.xResults.ls) : Nat) : Int)), (15, .slice x57.xResults.A x57.xResults.ls.length x57.xResults.c), (1, .slice x87.xresults.A x87.xresults.ls.length x87.xresults.c), (2, .func (.func 43) #[] #[])]) I198 (fun i => (List.length (List.map ResultD.abs x57.xResults.ls)) - i) 0 ⟨rfl, rfl, rfl, rfl, rfl, rfl, trivial⟩ (dm200.2 ⟨H194, by omega, rfl⟩) ?_
 rintro k192 w195 hf197
 show Wp _ _ _ [(6, .bool false), (17, .int .i64 ((k192 : Nat) : Int)), (16, .int .i64 ((List.length (List.map ResultD.abs x57.xResults.ls) : Nat) : Int)), (15, .slice x57.xResults.A x57.xResults.ls.length x57.xResults.c), (1, .slice x87.xresults.A x87.xresults.ls.length x87.xresults.c), (2, .func (.func 43) #[] #[])] _ _
 obtain ⟨H196, hi202, hq201⟩ := dm200.1 hf197
 refine sr (Kz (.bool (decide (((k192 : Nat) : Int) < ((List.length (List.map ResultD.abs x57.xResults.ls) : Nat) : Int)))) (nt (Wp.seq ?_)))
 by_cases h203 : ((k192 : Nat) : Int) < ((List.length (List.map ResultD.abs x57.xResults.ls) : Nat) : Int)
 refine jT (dT h203) (sk (Wp.seq (bo (sr (Mz rfl ?_)))))
 obtain ⟨x204, hx205⟩ := rds_at (ls := x57.xResults.ls) (i := k192) ResultD.len (by decide) (H196.ro (hm0 _ (List.mem_of_getElem? hx58)).2.2.1) (by first | omega | (simp; done) | (simp; omega))
 have hX206 := abs_at (rfl : List.map ResultD.abs x57.xResults.ls = List.map ResultD.abs x57.xResults.ls) hx205
 have hb207 := ((hm0 _ (List.mem_of_getElem? hx58)).2.2.2.2 _ (List.mem_of_getElem? hx205)).2
 refine fw (.pointer (some ⟨ab x57.xResults.A, ao x57.xResults.A + k192 * 3, none⟩)) (Yl.indexAddr (El37) rfl rfl ((H196.ro (hm0 _ (List.mem_of_getElem? hx58)).2.2.1).addr (i := k192) (by omega)) (by omega)) (fw (.agg (ResultD.cells x204).toArray) (Yl.load rfl (Lds.agg (cs := (ResultD.cells x204)) Try.isAgg84 Try.sizeOf84 ((H196.ro (hm0 _ (List.mem_of_getElem? hx58)).2.2.1).elem ResultD.len hx205 (by decide)))) ?_)
 refine npw [.bool false, .string ⟨List.toArray ([])⟩, .slice none 0 0] 84 H196 ?_
 intro g208 w209 H210
 refine Az rfl ?_
 refine sto (ResultD.cells x204) 0 H210 Try.sizeOf84 ?_
 intro w211 H212
 refine ns (Mz rfl (Mz rfl ?_))
 obtain ⟨x213, hx214⟩ := rds_at (ls := x87.xresults.ls) (i := k192) ResultD.len (by decide) (show Rds _ 3 x87.xresults.A x87.xresults.ls.length (List.flatMap ResultD.cells x87.xresults.ls) from (own_rd H212 (i := 6) rfl (sepL_mem (List.mem_flatMap.2 ⟨(((requestD.mk x57.xClient x57.xReq), x87) : requestD × fateD), List.mem_of_getElem? hj89, .tail _ (.head _)⟩) row_rds))) (by first | omega | (simp; done) | (simp; omega))
 have hX215 := abs_at (rfl : List.map ResultD.abs x87.xresults.ls = List.map ResultD.abs x87.xresults.ls) hx214
 have hb216 : x213.xPairs.ls.length ≤ x213.xPairs.c ∧ x213.xPairs.ls.length ≤ 9223372036854775807 := own_rd H212 (i := 6) rfl (φ := fun _ => _) (sepL_mem (List.mem_flatMap.2 ⟨(((requestD.mk x57.xClient x57.xReq), x87) : requestD × fateD), List.mem_of_getElem? hj89, .tail _ (.tail _ (.head _))⟩) (sepL_mem (List.mem_flatMap.2 ⟨x213, List.mem_of_getElem? hx214, .head _⟩) row_le2))
 refine fw (.pointer (some ⟨ab x87.xresults.A, ao x87.xresults.A + k192 * 3, none⟩)) (Yl.indexAddr (El37) rfl rfl ((show Rds _ 3 x87.xresults.A x87.xresults.ls.length (List.flatMap ResultD.cells x87.xresults.ls) from (own_rd H212 (i := 6) rfl (sepL_mem (List.mem_flatMap.2 ⟨(((requestD.mk x57.xClient x57.xReq), x87) : requestD × fateD), List.mem_of_getElem? hj89, .tail _ (.head _)⟩) row_rds))).addr (i := k192) (by omega)) (by omega)) (fw (.agg (ResultD.cells x213).toArray) (Yl.load rfl (Lds.agg (cs := (ResultD.cells x213)) Try.isAgg84 Try.sizeOf84 ((show Rds _ 3 x87.xresults.A x87.xresults.ls.length (List.flatMap ResultD.cells x87.xresults.ls) from (own_rd H212 (i := 6) rfl (sepL_mem (List.mem_flatMap.2 ⟨(((requestD.mk x57.xClient x57.xReq), x87) : requestD × fateD), List.mem_of_getElem? hj89, .tail _ (.head _)⟩) row_rds))).elem ResultD.len hx214 (by decide)))) ?_)
 refine npw [.bool false, .string ⟨List.toArray ([])⟩, .slice none 0 0] 84 H212 ?_
 intro g217 w218 H219
 refine sto (ResultD.cells x213) 0 H219 Try.sizeOf84 ?_
 intro w220 H221
 refine ns (Mz rfl (La (ResultD.cells x204) H221 1 Try.isAgg84 Try.sizeOf84 (La (ResultD.cells x213) H221 0 Try.isAgg84 Try.sizeOf84 ?_)))
 obtain ⟨r227, hr228⟩ : ∃ q, judge_same (ResultT.mk x204.xFound x204.xValue (Ll.mk x204.xPairs.ls)) (ResultT.mk x213.xFound x213.xValue (Ll.mk x213.xPairs.ls)) = q := ⟨_, rfl⟩
 obtain ⟨D222, HP223, ro224, bk225, rr226⟩ := Own.enter0 H221
 refine WL.do rfl (Do.callV Try.call43 rfl rfl (judge_same_ok _ _ (ResultT.mk x204.xFound x204.xValue (Ll.mk x204.xPairs.ls)) x204.xPairs.A x204.xPairs.ls.length x204.xPairs.c (ResultT.mk x213.xFound x213.xValue (Ll.mk x213.xPairs.ls)) x213.xPairs.A x213.xPairs.ls.length x213.xPairs.c r227 HP223 rfl (ro224 _ ((hm0 _ (List.mem_of_getElem? hx58)).2.2.2.2 _ (List.mem_of_getElem? hx205)).1) (show x204.xPairs.ls.length ≤ x204.xPairs.c ∧ x204.xPairs.ls.length ≤ 9223372036854775807 from by omega) rfl (rr226 _ 7 _ rfl (sepL_mem (List.mem_flatMap.2 ⟨(((requestD.mk x57.xClient x57.xReq), x87) : requestD × fateD), List.mem_of_getElem? hj89, .tail _ (.tail _ (.head _))⟩) (sepL_mem (List.mem_flatMap.2 ⟨x213, List.mem_of_getElem? hx214, .head _⟩) row_rds))) (show x213.xPairs.ls.length ≤ x213.xPairs.c ∧ x213.xPairs.ls.length ≤ 9223372036854775807 from by omega) hr228) ?_)
 rintro _ w229 ⟨rfl, HQ230⟩
 have H231 := bk225 _ _ HQ230
 refine Kz (.bool (!r227)) (nt ?_)
 rcases Bool.eq_false_or_eq_true (r227) with h232 | h232
 refine jF (cn h232) (Wp.skip (bN (Fin.then (Wp.region (fw (.int .i64 ((k192 + 1 : Nat) : Int)) (Yl.int (e := IntKind.i64.wrap (((k192 : Nat) : Int) + 1)) yk (by rw [IntWalk.i64_in _ (by omega)]; omega)) (Mz rfl (WL.nil ?_)))))))
 have H233 := H231.pk [2, 3, 4, 5, 6, 7, 8, 9]
 exact Fin.round (k192 + 1) ⟨rfl, rfl, rfl, rfl, rfl, rfl, trivial⟩ (dm200.2 ⟨H233, by omega, et (hq201) (et (congrArg (fun q => judge_Replay_L1 l40 m42 (SeenD.abs x57) (fateD.abs x87) q k192) (sub_at (n := List.length (List.map ResultD.abs x57.xResults.ls)) (i := k192) (by omega))) (et (bnd_of (getD_of hX206)) (et (bnd_of (getD_of hX215)) (et (bnd_of hr228) (ip h232)))))⟩) (by show (List.length (List.map ResultD.abs x57.xResults.ls)) - (k192 + 1) < (List.length (List.map ResultD.abs x57.xResults.ls)) - k192; omega)
 refine jT (cn h232) (sr (An rfl (rt (bR (tR (tR (bR (tR (rs ?_)))))))))
 have H234 := H231.pk [2, 3, 4, 5, 6, 7, 8, 9, 0, 1]
 refine ⟨.inr ⟨_, H234⟩, ?_⟩
 refine GX.take (v := .bool true) (rs := []) 7 rfl (by kernel_rfl) (fun _ _ => yk) (GX.done (by kernel_rfl) (Fin.then (jt (Wp.seq ?_))))
 have H235 := H234.pk [1, 2, 3, 4, 5, 6, 7]
 refine Wp.region (An rfl (rt (tR (rs (Az rfl (WL.nil (bN (Fin.then (Wp.seq (Wp.seq ?_))))))))))
 have H236 := H235.pk [0, 2, 3, 4, 5, 6]
 refine Wp.region (Mz rfl (Kz (.bool false) (nt (jf (sk (Wp.seq ?_))))))
 have H237 := H236.pk [1, 2, 3, 4]
 refine Wp.region (Mz rfl (An rfl (rt (rs (Ar rfl (Mz rfl (Kz (.bool true) (nt (jt (sr (Mz rfl (Mz rfl (Az rfl (An rfl (rt (bR (tR (tR (bR (tR (Fin.res (res2 rfl rfl rfl) (Mz rfl (Kz (.int .i64 ((k37 : Nat) : Int)) (Kz (.int .i64 11) (Az rfl (An rfl (Wp.seq ?_)))))))))))))))))))))))))))
 refine Wp.region (Mz rfl (Kz (.bool true) (nt (jt (sr (Mz rfl (Az rfl (An rfl (rt (tR (Fin.res (res2 rfl rfl rfl) ?_)))))))))))
 have H238 : Own w D w229 [row none 0 0 (List.flatMap PairD.cells ([])) 32 2, blk g25 [.map (some g21), .slice A38 l40.length c39] 57, mapr g21 requestD.key fateD.val d41, sepL (List.flatMap (fun p : requestD × fateD => fateD.own p.2) d41), row A38 l40.length c39 (List.flatMap PairD.cells l40) 32 2] := H237.free (row_nil 32 2)
 have H239 := H238.pk [0]
 have e : judge_Replay l0 = ([], 11) := lp_r (et (hq51) (et (congrArg (fun q => judge_Replay_L0 q l40 m42) hd63) (et (bnd_of hr73) (et (ip h78) (et (ip h86) (et (bnd_of (getD_some ha91)) (et (iN h104) (et (iN h108) (et (ip h177) (et (ifF h178) (et (ip h188) (et (ip h191) (lpS_r (et (hq201) (et (congrArg (fun q => judge_Replay_L1 l40 m42 (SeenD.abs x57) (fateD.abs x87) q k192) (sub_at (n := List.length (List.map ResultD.abs x57.xResults.ls)) (i := k192) (by omega))) (et (bnd_of (getD_of hX206)) (et (bnd_of (getD_of hX215)) (et (bnd_of hr228) (ifF h232)))))))))))))))))))
 obtain ⟨rfl, rfl⟩ := pj2 (e.symm.trans hr)
 exact ⟨none, 0, rfl, H239⟩
 refine jF (dF h203) (Wp.exit (Fin.thenX ?_))
 have hL240 : judge_Replay_L1 l40 m42 (SeenD.abs x57) (fateD.abs x87) (List.length (List.map ResultD.abs x57.xResults.ls)) 0 = Sum.inl () := et (hq201) (et (congrArg (fun q => judge_Replay_L1 l40 m42 (SeenD.abs x57) (fateD.abs x87) q k192) (sub_end (n := List.length (List.map ResultD.abs x57.xResults.ls)) (i := k192) (by omega))) rfl)
 refine Fin.thenX (Fin.blockX (Fin.then (sr (An rfl (rt (rs ?_))))))
 refine ⟨.inr ⟨_, H196⟩, ?_⟩
 refine GX.take (v := .bool false) (rs := []) 7 rfl (by kernel_rfl) (fun _ _ => yk) (GX.done (by kernel_rfl) (Fin.then (jf (sk (Wp.seq ?_)))))
 have H241 := H196.pk [1, 2, 3, 4, 5, 6, 7]
 refine Wp.region (Mz rfl (Kz (.pointer (some ⟨g96, 0, none⟩)) (Kz (.pointer (some ⟨g96, 2, none⟩)) ?_)))
 have H242 := H241.pk [6, 0, 1, 2, 3, 4, 5]
 refine sto [.bool true] 2 H242 Try.sizeOf4 ?_
 intro w243 H244
 refine ns (An rfl (rt (rs (Az rfl (WL.nil (bN (Fin.then (Wp.seq (Wp.seq ?_)))))))))
 have H245 := H244.pk [0, 1, 3, 4, 5, 6]
 refine Wp.region (Mz rfl (Kz (.bool true) (nt (jt ?_))))
 have H247 := H245.drew
 refine Wp.drawnX [] (fun W => ∃ L', Own w D W ([blk g96 [.slice x87.xops.A x87.xops.ls.length x87.xops.c, .bool x87.xdecided, .bool true, .slice x87.xresults.A x87.xresults.ls.length x87.xresults.c] 77, blk g79 [.int .i64 x57.xClient, .int .u64 ((x57.xReq : Nat) : Int)] 75, blk g25 [.map (some g21), .slice A38 l40.length c39] 57] ++ L')) (by kernel_rfl) (by kernel_rfl) (NoP.then NoP.base) ⟨_, H247⟩ ?_
 revert H247
 generalize World.drew w243 = w246
 intro H247
 refine GX.take (v := .pointer (some ⟨g25, 0, none⟩)) (rs := []) 0 rfl (by kernel_rfl) (fun _ _ => Yl.move rfl) (GX.take (v := .pointer (some ⟨g25, 0, none⟩)) (rs := []) 1 rfl (by kernel_rfl) (fun _ _ => yk) (GX.take (v := .pointer (some ⟨g25, 0, none⟩)) (rs := []) 2 rfl (by kernel_rfl) (fun _ _ => yk) (GX.take (v := .map (some g21)) (rs := []) 3 rfl (by kernel_rfl) (fun _ ⟨_, H9⟩ => Yl.load rfl (Lds.one Try.isAgg55 (Cls.of (H9.cls (i := 2) rfl) rfl))) (GX.take (v := .agg #[.int .i64 x57.xClient, .int .u64 ((x57.xReq : Nat) : Int)]) (rs := []) 4 rfl (by kernel_rfl) (fun _ ⟨_, H9⟩ => Yl.load rfl (Lds.agg (cs := [.int .i64 x57.xClient, .int .u64 ((x57.xReq : Nat) : Int)]) Try.isAgg75 Try.sizeOf75 ((H9.cls (i := 1) rfl).lit (k := 0) (m := 2) rfl))) (GX.take (v := .agg #[.slice x87.xops.A x87.xops.ls.length x87.xops.c, .bool x87.xdecided, .bool true, .slice x87.xresults.A x87.xresults.ls.length x87.xresults.c]) (rs := []) 5 rfl (by kernel_rfl) (fun _ ⟨_, H9⟩ => Yl.load rfl (Lds.agg (cs := [.slice x87.xops.A x87.xops.ls.length x87.xops.c, .bool x87.xdecided, .bool true, .slice x87.xresults.A x87.xresults.ls.length x87.xresults.c]) Try.isAgg77 Try.sizeOf77 ((H9.cls (i := 0) rfl).lit (k := 0) (m := 4) rfl))) ?_)))))
 have H248 := H247.pk [4, 0, 1, 2, 3, 5]
 have H249 : Own w D w246 [row x87.xops.A x87.xops.ls.length x87.xops.c (List.flatMap OpD.cells x87.xops.ls) 53 6, row x87.xresults.A x87.xresults.ls.length x87.xresults.c (List.flatMap ResultD.cells x87.xresults.ls) 84 3, sepL (List.flatMap ResultD.own x87.xresults.ls), sepL (List.flatMap (fun p : requestD × fateD => fateD.own p.2) (List.take j88 d41) ++ List.flatMap (fun p : requestD × fateD => fateD.own p.2) (List.drop (j88 + 1) d41)), blk g96 [.slice x87.xops.A x87.xops.ls.length x87.xops.c, .bool x87.xdecided, .bool true, .slice x87.xresults.A x87.xresults.ls.length x87.xresults.c] 77, blk g79 [.int .i64 x57.xClient, .int .u64 ((x57.xReq : Nat) : Int)] 75, blk g25 [.map (some g21), .slice A38 l40.length c39] 57, mapr g21 requestD.key fateD.val d41, row A38 l40.length c39 (List.flatMap PairD.cells l40) 32 2] := Own.sepOpen (f := (fun p : requestD × fateD => fateD.own p.2)) (i := j88) hj89 H248
 have H250 : Own w D w246 [sepL (List.flatMap (fun p : requestD × fateD => fateD.own p.2) (List.set d41 j88 ((requestD.mk x57.xClient x57.xReq), (fateD.mk (Sv.mk x87.xops.A x87.xops.c x87.xops.ls) x87.xdecided true (Sv.mk x87.xresults.A x87.xresults.c x87.xresults.ls))))), blk g96 [.slice x87.xops.A x87.xops.ls.length x87.xops.c, .bool x87.xdecided, .bool true, .slice x87.xresults.A x87.xresults.ls.length x87.xresults.c] 77, blk g79 [.int .i64 x57.xClient, .int .u64 ((x57.xReq : Nat) : Int)] 75, blk g25 [.map (some g21), .slice A38 l40.length c39] 57, mapr g21 requestD.key fateD.val d41, row A38 l40.length c39 (List.flatMap PairD.cells l40) 32 2] := Own.sepClose (f := (fun p : requestD × fateD => fateD.own p.2)) (y := ((requestD.mk x57.xClient x57.xReq), (fateD.mk (Sv.mk x87.xops.A x87.xops.c x87.xops.ls) x87.xdecided true (Sv.mk x87.xresults.A x87.xresults.c x87.xresults.ls)))) hj89 H249
 have H251 := H250.pk [4, 0, 1, 2, 3, 5]
 have hn253 := H251.mapNodup (i := 0) rfl
 have hb252 : mabs fateD.abs (List.set d41 j88 ((requestD.mk x57.xClient x57.xReq), (fateD.mk (Sv.mk x87.xops.A x87.xops.c x87.xops.ls) x87.xdecided true (Sv.mk x87.xresults.A x87.xresults.c x87.xresults.ls)))) = (mput m42 (requestD.mk x57.xClient x57.xReq) (fateT.mk (Ll.mk x87.xops.ls) x87.xdecided true (Ll.mk (List.map ResultD.abs x87.xresults.ls)))) := mab_set (v := (fateD.mk (Sv.mk x87.xops.A x87.xops.c x87.xops.ls) x87.xdecided true (Sv.mk x87.xresults.A x87.xresults.c x87.xresults.ls))) hi52 hn253 hj89
 refine GX.do0 6 rfl (by kernel_rfl) (Do.mapUpdateG (k := (requestD.mk x57.xClient x57.xReq)) (v := (fateD.mk (Sv.mk x87.xops.A x87.xops.c x87.xops.ls) x87.xdecided true (Sv.mk x87.xresults.A x87.xresults.c x87.xresults.ls))) H251 kg_requestD Try.underlying55 rfl rfl rfl ?_)
 intro w254 H255
 have H256 : Own w D w254 [mapr g21 requestD.key fateD.val (List.set d41 j88 ((requestD.mk x57.xClient x57.xReq), (fateD.mk (Sv.mk x87.xops.A x87.xops.c x87.xops.ls) x87.xdecided true (Sv.mk x87.xresults.A x87.xresults.c x87.xresults.ls)))), sepL (List.flatMap (fun p : requestD × fateD => fateD.own p.2) (List.set d41 j88 ((requestD.mk x57.xClient x57.xReq), (fateD.mk (Sv.mk x87.xops.A x87.xops.c x87.xops.ls) x87.xdecided true (Sv.mk x87.xresults.A x87.xresults.c x87.xresults.ls))))), blk g96 [.slice x87.xops.A x87.xops.ls.length x87.xops.c, .bool x87.xdecided, .bool true, .slice x87.xresults.A x87.xresults.ls.length x87.xresults.c] 77, blk g79 [.int .i64 x57.xClient, .int .u64 ((x57.xReq : Nat) : Int)] 75, blk g25 [.map (some g21), .slice A38 l40.length c39] 57, row A38 l40.length c39 (List.flatMap PairD.cells l40) 32 2] := by have q9 := H255; rw [mput_set (v := (fateD.mk (Sv.mk x87.xops.A x87.xops.c x87.xops.ls) x87.xdecided true (Sv.mk x87.xresults.A x87.xresults.c x87.xresults.ls))) hn253 hj89] at q9; exact q9
 have H257 := H256.pk [2, 3, 4, 0, 1, 5]
 refine ⟨.inr ⟨_, H257⟩, ?_⟩
 refine GX.done (by kernel_rfl) (Fin.then (Wp.seq ?_))
 have H258 := H257.pk [2, 3, 4, 5]
 refine Wp.region (Mz rfl (An rfl (rt (rs (Ar rfl (Mz rfl (Kz (.bool false) (nt (jf (Wp.skip (bN (Fin.then (Wp.region (fw (.int .i64 ((k37 + 1 : Nat) : Int)) (Yl.int (e := IntKind.i64.wrap (((k37 : Nat) : Int) + 1)) yk (by rw [IntWalk.i64_in _ (by omega)]; omega)) (Mz rfl (WL.nil ?_))))))))))))))))
 have H259 := H258.pk [0, 1, 2, 3]
 exact Fin.round (k37 + 1, A38, c39, l40, (List.set d41 j88 ((requestD.mk x57.xClient x57.xReq), (fateD.mk (Sv.mk x87.xops.A x87.xops.c x87.xops.ls) x87.xdecided true (Sv.mk x87.xresults.A x87.xresults.c x87.xresults.ls)))), (mput m42 (requestD.mk x57.xClient x57.xReq) (fateT.mk (Ll.mk x87.xops.ls) x87.xdecided true (Ll.mk (List.map ResultD.abs x87.xresults.ls))))) ⟨rfl, rfl, rfl, rfl, rfl, rfl, trivial⟩ (dm50.2 ⟨H259, by exact hb252, by omega, by omega, by first | assumption | (intro p hp; cases hp) | exact ops_put (by assumption) (by first | omega | (dsimp only; omega)), Eq.trans (hq51) (Eq.trans (congrArg (fun q => judge_Replay_L0 q l40 m42) hd63) (Eq.trans (bnd_of hr73) (Eq.trans (if_pos h78) (Eq.trans (if_pos h86) (Eq.trans (bnd_of (getD_some ha91)) (Eq.trans (if_neg h104) (Eq.trans (if_neg h108) (Eq.trans (if_pos h177) (Eq.trans (ifF h178) (Eq.trans (if_pos h188) (Eq.trans (if_pos h191) (lpS_l hL240))))))))))))⟩) (by show l0.length - (k37 + 1) < l0.length - k37; omega)
 refine jT (dT h191) (sr (An rfl (rt (tR (rs ?_)))))
 refine ⟨.inr ⟨_, H190⟩, ?_⟩
 refine GX.take (v := .bool true) (rs := []) 7 rfl (by kernel_rfl) (fun _ _ => yk) (GX.done (by kernel_rfl) (Fin.then (jt (Wp.seq ?_))))
 have H260 := H190.pk [1, 2, 3, 4, 5, 6, 7]
 refine Wp.region (An rfl (rt (tR (rs (Az rfl (WL.nil (bN (Fin.then (Wp.seq (Wp.seq ?_))))))))))
 have H261 := H260.pk [0, 2, 3, 4, 5, 6]
 refine Wp.region (Mz rfl (Kz (.bool false) (nt (jf (sk (Wp.seq ?_))))))
 have H262 := H261.pk [1, 2, 3, 4]
 refine Wp.region (Mz rfl (An rfl (rt (rs (Ar rfl (Mz rfl (Kz (.bool true) (nt (jt (sr (Mz rfl (Mz rfl (Az rfl (An rfl (rt (bR (tR (tR (bR (tR (Fin.res (res2 rfl rfl rfl) (Mz rfl (Kz (.int .i64 ((k37 : Nat) : Int)) (Kz (.int .i64 11) (Az rfl (An rfl (Wp.seq ?_)))))))))))))))))))))))))))
 refine Wp.region (Mz rfl (Kz (.bool true) (nt (jt (sr (Mz rfl (Az rfl (An rfl (rt (tR (Fin.res (res2 rfl rfl rfl) ?_)))))))))))
 have H263 : Own w D w189 [row none 0 0 (List.flatMap PairD.cells ([])) 32 2, blk g25 [.map (some g21), .slice A38 l40.length c39] 57, mapr g21 requestD.key fateD.val d41, sepL (List.flatMap (fun p : requestD × fateD => fateD.own p.2) d41), row A38 l40.length c39 (List.flatMap PairD.cells l40) 32 2] := H262.free (row_nil 32 2)
 have H264 := H263.pk [0]
 have e : judge_Replay l0 = ([], 11) := lp_r (et (hq51) (et (congrArg (fun q => judge_Replay_L0 q l40 m42) hd63) (et (bnd_of hr73) (et (ip h78) (et (ip h86) (et (bnd_of (getD_some ha91)) (et (iN h104) (et (iN h108) (et (ip h177) (et (ifF h178) (et (ip h188) (iN h191))))))))))))
 obtain ⟨rfl, rfl⟩ := pj2 (e.symm.trans hr)
 exact ⟨none, 0, rfl, H264⟩
 refine jT (dT h188) (sr (An rfl (rt (tR (rs (Az rfl (WL.nil (bN (Fin.then (Wp.seq (Wp.seq ?_)))))))))))
 have H265 := H187.pk [1, 3, 4, 5, 6, 7]
 refine Wp.region (Mz rfl (Kz (.bool false) (nt (jf (sk (Wp.seq ?_))))))
 have H266 := H265.pk [1, 2, 3, 4]
 refine Wp.region (Mz rfl (An rfl (rt (rs (Ar rfl (Mz rfl (Kz (.bool true) (nt (jt (sr (Mz rfl (Mz rfl (Az rfl (An rfl (rt (bR (tR (tR (bR (tR (Fin.res (res2 rfl rfl rfl) (Mz rfl (Kz (.int .i64 ((k37 : Nat) : Int)) (Kz (.int .i64 4) (Az rfl (An rfl (Wp.seq ?_)))))))))))))))))))))))))))
 refine Wp.region (Mz rfl (Kz (.bool true) (nt (jt (sr (Mz rfl (Az rfl (An rfl (rt (tR (Fin.res (res2 rfl rfl rfl) ?_)))))))))))
 have H267 : Own w D w186 [row none 0 0 (List.flatMap PairD.cells ([])) 32 2, blk g25 [.map (some g21), .slice A38 l40.length c39] 57, mapr g21 requestD.key fateD.val d41, sepL (List.flatMap (fun p : requestD × fateD => fateD.own p.2) d41), row A38 l40.length c39 (List.flatMap PairD.cells l40) 32 2] := H266.free (row_nil 32 2)
 have H268 := H267.pk [0]
 have e : judge_Replay l0 = ([], 4) := lp_r (et (hq51) (et (congrArg (fun q => judge_Replay_L0 q l40 m42) hd63) (et (bnd_of hr73) (et (ip h78) (et (ip h86) (et (bnd_of (getD_some ha91)) (et (iN h104) (et (iN h108) (et (ip h177) (et (ifF h178) (iN h188)))))))))))
 obtain ⟨rfl, rfl⟩ := pj2 (e.symm.trans hr)
 exact ⟨none, 0, rfl, H268⟩
 refine Sz (dF h177) (Sz (dF h177) (gw (.bool false) rfl (Yl.pickF rfl (dF h177) rfl) (fw (.bool false) (Yl.pickF rfl rfl rfl) (nt (jf (sk (Wp.seq (sr (Kz (.pointer (some ⟨g64, 0, none⟩)) (Lz (.int .i64 x57.xKind) H103 1 Try.isAgg3 (fw (.bool (decide (¬ (x57.xKind = 1)))) (Yl.bool (e := !(decide (x57.xKind = 1))) yk decide_not.symm) (Mz rfl ?_))))))))))))
 have hb269 : (decide (¬ (x57.xKind = 1))) = true := (dT (by omega))
 refine WL.valG (v := .bool true) rfl rfl hb269 rfl (Yl.move rfl) (Gz (.bool false) hb269 (fw (.bool false) (Yl.pickT rfl hb269 rfl) (nt (jf (sk (sr (An rfl (Wp.seq (sr (Kz (.pointer (some ⟨g64, 0, none⟩)) (Lz (.int .i64 x57.xKind) H103 1 Try.isAgg3 (nt (bo (sr (Kz (.bool (decide (x57.xKind = 1))) (An rfl (jF (dF h104) (sr (Kz (.bool (decide (x57.xKind = 2))) (An rfl (jF (dF h108) (sr (Kz (.bool (decide (x57.xKind = 3))) (Az rfl (WL.nil ?_)))))))))))))))))))))))))
 refine Fin.then (jF (dF h177) (Wp.skip (bN (Fin.then (Wp.seq (Wp.seq ?_))))))
 have H270 := H103.pk [0, 2, 3, 4, 5, 6]
 refine Wp.region (Mz rfl (Kz (.bool true) (nt (jt ?_))))
 have H271 := H270.pk [0, 1, 5, 2, 3, 4]
 have H273 := H271.drew
 refine Wp.drawnX [] (fun W => ∃ L', Own w D W ([blk g79 [.int .i64 x57.xClient, .int .u64 ((x57.xReq : Nat) : Int)] 75, blk g25 [.map (some g21), .slice A38 l40.length c39] 57, blk g96 [.slice x87.xops.A x87.xops.ls.length x87.xops.c, .bool x87.xdecided, .bool x87.xtold, .slice x87.xresults.A x87.xresults.ls.length x87.xresults.c] 77] ++ L')) (by kernel_rfl) (by kernel_rfl) (NoP.then NoP.base) ⟨_, H273⟩ ?_
 revert H273
 generalize World.drew w101 = w272
 intro H273
 refine GX.take (v := .pointer (some ⟨g25, 0, none⟩)) (rs := []) 0 rfl (by kernel_rfl) (fun _ _ => Yl.move rfl) (GX.take (v := .pointer (some ⟨g25, 0, none⟩)) (rs := []) 1 rfl (by kernel_rfl) (fun _ _ => yk) (GX.take (v := .pointer (some ⟨g25, 0, none⟩)) (rs := []) 2 rfl (by kernel_rfl) (fun _ _ => yk) (GX.take (v := .map (some g21)) (rs := []) 3 rfl (by kernel_rfl) (fun _ ⟨_, H9⟩ => Yl.load rfl (Lds.one Try.isAgg55 (Cls.of (H9.cls (i := 1) rfl) rfl))) (GX.take (v := .agg #[.int .i64 x57.xClient, .int .u64 ((x57.xReq : Nat) : Int)]) (rs := []) 4 rfl (by kernel_rfl) (fun _ ⟨_, H9⟩ => Yl.load rfl (Lds.agg (cs := [.int .i64 x57.xClient, .int .u64 ((x57.xReq : Nat) : Int)]) Try.isAgg75 Try.sizeOf75 ((H9.cls (i := 0) rfl).lit (k := 0) (m := 2) rfl))) (GX.take (v := .agg #[.slice x87.xops.A x87.xops.ls.length x87.xops.c, .bool x87.xdecided, .bool x87.xtold, .slice x87.xresults.A x87.xresults.ls.length x87.xresults.c]) (rs := []) 5 rfl (by kernel_rfl) (fun _ ⟨_, H9⟩ => Yl.load rfl (Lds.agg (cs := [.slice x87.xops.A x87.xops.ls.length x87.xops.c, .bool x87.xdecided, .bool x87.xtold, .slice x87.xresults.A x87.xresults.ls.length x87.xresults.c]) Try.isAgg77 Try.sizeOf77 ((H9.cls (i := 2) rfl).lit (k := 0) (m := 4) rfl))) ?_)))))
 have H274 := H273.pk [4, 0, 1, 2, 3, 5]
 have H275 : Own w D w272 [row x87.xops.A x87.xops.ls.length x87.xops.c (List.flatMap OpD.cells x87.xops.ls) 53 6, row x87.xresults.A x87.xresults.ls.length x87.xresults.c (List.flatMap ResultD.cells x87.xresults.ls) 84 3, sepL (List.flatMap ResultD.own x87.xresults.ls), sepL (List.flatMap (fun p : requestD × fateD => fateD.own p.2) (List.take j88 d41) ++ List.flatMap (fun p : requestD × fateD => fateD.own p.2) (List.drop (j88 + 1) d41)), blk g79 [.int .i64 x57.xClient, .int .u64 ((x57.xReq : Nat) : Int)] 75, blk g25 [.map (some g21), .slice A38 l40.length c39] 57, blk g96 [.slice x87.xops.A x87.xops.ls.length x87.xops.c, .bool x87.xdecided, .bool x87.xtold, .slice x87.xresults.A x87.xresults.ls.length x87.xresults.c] 77, mapr g21 requestD.key fateD.val d41, row A38 l40.length c39 (List.flatMap PairD.cells l40) 32 2] := Own.sepOpen (f := (fun p : requestD × fateD => fateD.own p.2)) (i := j88) hj89 H274
 have H276 : Own w D w272 [sepL (List.flatMap (fun p : requestD × fateD => fateD.own p.2) (List.set d41 j88 ((requestD.mk x57.xClient x57.xReq), (fateD.mk (Sv.mk x87.xops.A x87.xops.c x87.xops.ls) x87.xdecided x87.xtold (Sv.mk x87.xresults.A x87.xresults.c x87.xresults.ls))))), blk g79 [.int .i64 x57.xClient, .int .u64 ((x57.xReq : Nat) : Int)] 75, blk g25 [.map (some g21), .slice A38 l40.length c39] 57, blk g96 [.slice x87.xops.A x87.xops.ls.length x87.xops.c, .bool x87.xdecided, .bool x87.xtold, .slice x87.xresults.A x87.xresults.ls.length x87.xresults.c] 77, mapr g21 requestD.key fateD.val d41, row A38 l40.length c39 (List.flatMap PairD.cells l40) 32 2] := Own.sepClose (f := (fun p : requestD × fateD => fateD.own p.2)) (y := ((requestD.mk x57.xClient x57.xReq), (fateD.mk (Sv.mk x87.xops.A x87.xops.c x87.xops.ls) x87.xdecided x87.xtold (Sv.mk x87.xresults.A x87.xresults.c x87.xresults.ls)))) hj89 H275
 have H277 := H276.pk [4, 0, 1, 2, 3, 5]
 have hn279 := H277.mapNodup (i := 0) rfl
 have hb278 : mabs fateD.abs (List.set d41 j88 ((requestD.mk x57.xClient x57.xReq), (fateD.mk (Sv.mk x87.xops.A x87.xops.c x87.xops.ls) x87.xdecided x87.xtold (Sv.mk x87.xresults.A x87.xresults.c x87.xresults.ls)))) = (mput m42 (requestD.mk x57.xClient x57.xReq) (fateT.mk (Ll.mk x87.xops.ls) x87.xdecided x87.xtold (Ll.mk (List.map ResultD.abs x87.xresults.ls)))) := mab_set (v := (fateD.mk (Sv.mk x87.xops.A x87.xops.c x87.xops.ls) x87.xdecided x87.xtold (Sv.mk x87.xresults.A x87.xresults.c x87.xresults.ls))) hi52 hn279 hj89
 refine GX.do0 6 rfl (by kernel_rfl) (Do.mapUpdateG (k := (requestD.mk x57.xClient x57.xReq)) (v := (fateD.mk (Sv.mk x87.xops.A x87.xops.c x87.xops.ls) x87.xdecided x87.xtold (Sv.mk x87.xresults.A x87.xresults.c x87.xresults.ls))) H277 kg_requestD Try.underlying55 rfl rfl rfl ?_)
 intro w280 H281
 have H282 : Own w D w280 [mapr g21 requestD.key fateD.val (List.set d41 j88 ((requestD.mk x57.xClient x57.xReq), (fateD.mk (Sv.mk x87.xops.A x87.xops.c x87.xops.ls) x87.xdecided x87.xtold (Sv.mk x87.xresults.A x87.xresults.c x87.xresults.ls)))), sepL (List.flatMap (fun p : requestD × fateD => fateD.own p.2) (List.set d41 j88 ((requestD.mk x57.xClient x57.xReq), (fateD.mk (Sv.mk x87.xops.A x87.xops.c x87.xops.ls) x87.xdecided x87.xtold (Sv.mk x87.xresults.A x87.xresults.c x87.xresults.ls))))), blk g79 [.int .i64 x57.xClient, .int .u64 ((x57.xReq : Nat) : Int)] 75, blk g25 [.map (some g21), .slice A38 l40.length c39] 57, blk g96 [.slice x87.xops.A x87.xops.ls.length x87.xops.c, .bool x87.xdecided, .bool x87.xtold, .slice x87.xresults.A x87.xresults.ls.length x87.xresults.c] 77, row A38 l40.length c39 (List.flatMap PairD.cells l40) 32 2] := by have q9 := H281; rw [mput_set (v := (fateD.mk (Sv.mk x87.xops.A x87.xops.c x87.xops.ls) x87.xdecided x87.xtold (Sv.mk x87.xresults.A x87.xresults.c x87.xresults.ls))) hn279 hj89] at q9; exact q9
 have H283 := H282.pk [2, 3, 4, 0, 1, 5]
 refine ⟨.inr ⟨_, H283⟩, ?_⟩
 refine GX.done (by kernel_rfl) (Fin.then (Wp.seq ?_))
 have H284 := H283.pk [1, 3, 4, 5]
 refine Wp.region (Mz rfl (An rfl (rt (rs (Ar rfl (Mz rfl (Kz (.bool false) (nt (jf (Wp.skip (bN (Fin.then (Wp.region (fw (.int .i64 ((k37 + 1 : Nat) : Int)) (Yl.int (e := IntKind.i64.wrap (((k37 : Nat) : Int) + 1)) yk (by rw [IntWalk.i64_in _ (by omega)]; omega)) (Mz rfl (WL.nil ?_))))))))))))))))
 have H285 := H284.pk [0, 1, 2, 3]
 exact Fin.round (k37 + 1, A38, c39, l40, (List.set d41 j88 ((requestD.mk x57.xClient x57.xReq), (fateD.mk (Sv.mk x87.xops.A x87.xops.c x87.xops.ls) x87.xdecided x87.xtold (Sv.mk x87.xresults.A x87.xresults.c x87.xresults.ls)))), (mput m42 (requestD.mk x57.xClient x57.xReq) (fateT.mk (Ll.mk x87.xops.ls) x87.xdecided x87.xtold (Ll.mk (List.map ResultD.abs x87.xresults.ls))))) ⟨rfl, rfl, rfl, rfl, rfl, rfl, trivial⟩ (dm50.2 ⟨H285, by exact hb278, by omega, by omega, by first | assumption | (intro p hp; cases hp) | exact ops_put (by assumption) (by first | omega | (dsimp only; omega)), Eq.trans (hq51) (Eq.trans (congrArg (fun q => judge_Replay_L0 q l40 m42) hd63) (Eq.trans (bnd_of hr73) (Eq.trans (if_pos h78) (Eq.trans (if_pos h86) (Eq.trans (bnd_of (getD_some ha91)) (Eq.trans (if_neg h104) (Eq.trans (if_neg h108) (if_neg h177))))))))⟩) (by show l0.length - (k37 + 1) < l0.length - k37; omega)
 obtain ⟨hg286, ha287⟩ := mab_none (k := (requestD.mk x57.xClient x57.xReq)) hi52 (by rw [h86]; exact Bool.false_ne_true)
 refine GX.take (v := .tuple #[.agg #[.slice none 0 0, .bool false, .bool false, .slice none 0 0], .bool false]) (rs := []) 5 rfl (by kernel_rfl) (fun _ ⟨_, H9⟩ => Yl.lookupOkG (k := (requestD.mk x57.xClient x57.xReq)) (d0 := fateD.zero) (i := 3) H9 rfl kg_requestD Try.underlying55 (fun _ => by kernel_rfl) rfl rfl hg286) (GX.take (v := .tuple #[.agg #[.slice none 0 0, .bool false, .bool false, .slice none 0 0], .bool false]) (rs := []) 6 rfl (by kernel_rfl) (fun _ _ => Yl.move rfl) (GX.take (v := .agg #[.slice none 0 0, .bool false, .bool false, .slice none 0 0]) (rs := []) 7 rfl (by kernel_rfl) (fun _ _ => yk) (GX.take (v := .bool false) (rs := []) 8 rfl (by kernel_rfl) (fun _ _ => yk) ?_)))
 refine GX.do 9 rfl (by kernel_rfl) (Do.newP (cs := [.slice none 0 0, .bool false, .bool false, .slice none 0 0]) (t := 77) H85 rfl rfl (fun _ => by kernel_rfl) ?_)
 intro g288 w289 H290
 have H291 := H290.pk [1, 2, 3, 4, 5, 6, 0]
 refine ⟨.inr ⟨_, H291⟩, ?_⟩
 have H292 := H291.pk [6, 0, 1, 2, 3, 4, 5]
 refine GX.do0 10 rfl (by kernel_rfl) (Do.store (vs := [.slice none 0 0, .bool false, .bool false, .slice none 0 0]) (o := 0) H292 rfl rfl Try.sizeOf77 rfl rfl rfl rfl ?_)
 intro w293 H294
 have H295 := H294.pk [1, 2, 3, 4, 5, 6, 0]
 refine ⟨.inr ⟨_, H295⟩, ?_⟩
 refine GX.take (v := .bool false) (rs := []) 11 rfl (by kernel_rfl) (fun _ _ => Yl.assign rfl) (GX.done (by kernel_rfl) (Fin.then (Wp.seq (sr (Kz (.pointer (some ⟨g64, 0, none⟩)) (Lz (.int .i64 x57.xKind) H295 1 Try.isAgg3 (Kz (.bool (decide (x57.xKind = 1))) (Mz rfl ?_))))))))
 by_cases h296 : x57.xKind = 1
 refine gw (.bool false) (dT h296) (Yl.move rfl) (fw (.bool false) (Yl.pickT rfl (dT h296) rfl) (Mz rfl (Gz (.pointer (some ⟨g64, 0, none⟩)) rfl (Gl (.int .i64 x57.xKind) rfl H295 1 Try.isAgg3 (Gz (.bool (decide (x57.xKind = 2))) rfl (gw (.bool (decide (x57.xKind = 2))) rfl (Yl.move rfl) ?_))))))
 have hb297 : (decide (x57.xKind = 2)) = false := (dF (by omega))
 refine Sz hb297 (Sz hb297 (gw (.bool false) rfl (Yl.pickF rfl hb297 rfl) (fw (.bool false) (Yl.pickF rfl rfl rfl) (Mz rfl (Gz (.pointer (some ⟨g64, 0, none⟩)) rfl (Gl (.int .i64 x57.xKind) rfl H295 1 Try.isAgg3 (Gz (.bool (decide (x57.xKind = 3))) rfl (gw (.bool (decide (x57.xKind = 3))) rfl (Yl.move rfl) ?_))))))))
 have hb298 : (decide (x57.xKind = 3)) = false := (dF (by omega))
 refine Sz hb298 (Sz hb298 (gw (.bool false) rfl (Yl.pickF rfl hb298 rfl) (fw (.bool false) (Yl.pickF rfl rfl rfl) (nt (jf (sk (Wp.seq (sr (Kz (.pointer (some ⟨g64, 0, none⟩)) (Lz (.int .i64 x57.xKind) H295 1 Try.isAgg3 (fw (.bool (decide (¬ (x57.xKind = 1)))) (Yl.bool (e := !(decide (x57.xKind = 1))) yk decide_not.symm) (Mz rfl ?_))))))))))))
 have hb299 : (decide (¬ (x57.xKind = 1))) = false := (dF (by omega))
 refine Sz hb299 (Sz hb299 (fw (.bool false) (Yl.pickF rfl hb299 rfl) (nt (jf (sk (sr (An rfl (Wp.seq (sr (Kz (.pointer (some ⟨g64, 0, none⟩)) (Lz (.int .i64 x57.xKind) H295 1 Try.isAgg3 (nt (bo (sr (Kz (.bool (decide (x57.xKind = 1))) (An rfl (jT (dT h296) (Wp.region (Kz (.pointer (some ⟨g64, 4, none⟩)) (Lz (.slice x57.xOps.A x57.xOps.ls.length x57.xOps.c) H295 1 Try.isAgg36 ?_))))))))))))))))))))
 obtain ⟨D300, HP301, ro302, bk303, rr304⟩ := Own.enter0 H295
 refine cl Try.call34 (slices_Clone_api_Op_api_Op_ok _ _ x57.xOps.A x57.xOps.ls.length x57.xOps.c x57.xOps.ls x57.xOps.ls HP301 (ro302 _ (hm0 _ (List.mem_of_getElem? hx58)).1) rfl (by omega) rfl) ?_
 rintro _ w305 ⟨A308, c309, rfl, HQ306⟩
 have H307 := bk303 _ _ HQ306
 have hb310 := H307.rowC (i := 0) rfl
 refine Kz (.pointer (some ⟨g288, 0, none⟩)) ?_
 have H311 := H307.pk [7, 0, 1, 2, 3, 4, 5, 6]
 refine sto [.slice A308 x57.xOps.ls.length c309] 0 H311 Try.sizeOf36 ?_
 intro w312 H313
 refine WL.nil (bN (Fin.then (Wp.seq (Wp.seq ?_))))
 have H314 := H313.pk [0, 1, 2, 4, 5, 6, 7]
 refine Wp.region (Mz rfl (Kz (.bool true) (nt (jt ?_))))
 have H315 := H314.pk [0, 2, 3, 1, 4, 5, 6]
 have H317 := H315.drew
 refine Wp.drawnX [] (fun W => ∃ L', Own w D W ([blk g288 [.slice A308 x57.xOps.ls.length c309, .bool false, .bool false, .slice none 0 0] 77, blk g79 [.int .i64 x57.xClient, .int .u64 ((x57.xReq : Nat) : Int)] 75, blk g25 [.map (some g21), .slice A38 l40.length c39] 57] ++ L')) (by kernel_rfl) (by kernel_rfl) (NoP.then NoP.base) ⟨_, H317⟩ ?_
 revert H317
 generalize World.drew w312 = w316
 intro H317
 refine GX.take (v := .pointer (some ⟨g25, 0, none⟩)) (rs := []) 0 rfl (by kernel_rfl) (fun _ _ => Yl.move rfl) (GX.take (v := .pointer (some ⟨g25, 0, none⟩)) (rs := []) 1 rfl (by kernel_rfl) (fun _ _ => yk) (GX.take (v := .pointer (some ⟨g25, 0, none⟩)) (rs := []) 2 rfl (by kernel_rfl) (fun _ _ => yk) (GX.take (v := .map (some g21)) (rs := []) 3 rfl (by kernel_rfl) (fun _ ⟨_, H9⟩ => Yl.load rfl (Lds.one Try.isAgg55 (Cls.of (H9.cls (i := 2) rfl) rfl))) (GX.take (v := .agg #[.int .i64 x57.xClient, .int .u64 ((x57.xReq : Nat) : Int)]) (rs := []) 4 rfl (by kernel_rfl) (fun _ ⟨_, H9⟩ => Yl.load rfl (Lds.agg (cs := [.int .i64 x57.xClient, .int .u64 ((x57.xReq : Nat) : Int)]) Try.isAgg75 Try.sizeOf75 ((H9.cls (i := 1) rfl).lit (k := 0) (m := 2) rfl))) (GX.take (v := .agg #[.slice A308 x57.xOps.ls.length c309, .bool false, .bool false, .slice none 0 0]) (rs := []) 5 rfl (by kernel_rfl) (fun _ ⟨_, H9⟩ => Yl.load rfl (Lds.agg (cs := [.slice A308 x57.xOps.ls.length c309, .bool false, .bool false, .slice none 0 0]) Try.isAgg77 Try.sizeOf77 ((H9.cls (i := 0) rfl).lit (k := 0) (m := 4) rfl))) ?_)))))
 have H318 : Own w D w316 [sepL (List.flatMap ResultD.own ([])), blk g288 [.slice A308 x57.xOps.ls.length c309, .bool false, .bool false, .slice none 0 0] 77, blk g79 [.int .i64 x57.xClient, .int .u64 ((x57.xReq : Nat) : Int)] 75, blk g25 [.map (some g21), .slice A38 l40.length c39] 57, row A308 x57.xOps.ls.length c309 (List.flatMap OpD.cells x57.xOps.ls) 53 6, mapr g21 requestD.key fateD.val d41, sepL (List.flatMap (fun p : requestD × fateD => fateD.own p.2) d41), row A38 l40.length c39 (List.flatMap PairD.cells l40) 32 2] := H317.sepNil
 have H319 : Own w D w316 [row none 0 0 (List.flatMap ResultD.cells ([])) 84 3, sepL (List.flatMap ResultD.own ([])), blk g288 [.slice A308 x57.xOps.ls.length c309, .bool false, .bool false, .slice none 0 0] 77, blk g79 [.int .i64 x57.xClient, .int .u64 ((x57.xReq : Nat) : Int)] 75, blk g25 [.map (some g21), .slice A38 l40.length c39] 57, row A308 x57.xOps.ls.length c309 (List.flatMap OpD.cells x57.xOps.ls) 53 6, mapr g21 requestD.key fateD.val d41, sepL (List.flatMap (fun p : requestD × fateD => fateD.own p.2) d41), row A38 l40.length c39 (List.flatMap PairD.cells l40) 32 2] := H318.free (row_nil 84 3)
 have H320 := H319.pk [7, 5, 0, 1, 2, 3, 4, 6, 8]
 have H321 : Own w D w316 [sepL (List.flatMap (fun p : requestD × fateD => fateD.own p.2) (d41 ++ [((requestD.mk x57.xClient x57.xReq), (fateD.mk (Sv.mk A308 c309 x57.xOps.ls) false false (Sv.mk none 0 ([]))))])), blk g288 [.slice A308 x57.xOps.ls.length c309, .bool false, .bool false, .slice none 0 0] 77, blk g79 [.int .i64 x57.xClient, .int .u64 ((x57.xReq : Nat) : Int)] 75, blk g25 [.map (some g21), .slice A38 l40.length c39] 57, mapr g21 requestD.key fateD.val d41, row A38 l40.length c39 (List.flatMap PairD.cells l40) 32 2] := H320.sepAdd (L2 := [row A308 x57.xOps.ls.length c309 (List.flatMap OpD.cells x57.xOps.ls) 53 6, row none 0 0 (List.flatMap ResultD.cells ([])) 84 3, sepL (List.flatMap ResultD.own ([]))]) (mown_end (own := fateD.own) (k := (requestD.mk x57.xClient x57.xReq)) (v := (fateD.mk (Sv.mk A308 c309 x57.xOps.ls) false false (Sv.mk none 0 ([])))) (m := d41))
 have H322 := H321.pk [4, 0, 1, 2, 3, 5]
 have hb323 : mabs fateD.abs (d41 ++ [((requestD.mk x57.xClient x57.xReq), (fateD.mk (Sv.mk A308 c309 x57.xOps.ls) false false (Sv.mk none 0 ([]))))]) = (mput m42 (requestD.mk x57.xClient x57.xReq) (fateT.mk (Ll.mk x57.xOps.ls) false false (Ll.mk ([])))) := mab_end (v := (fateD.mk (Sv.mk A308 c309 x57.xOps.ls) false false (Sv.mk none 0 ([])))) hi52 hg286
 refine GX.do0 6 rfl (by kernel_rfl) (Do.mapUpdateG (k := (requestD.mk x57.xClient x57.xReq)) (v := (fateD.mk (Sv.mk A308 c309 x57.xOps.ls) false false (Sv.mk none 0 ([])))) H322 kg_requestD Try.underlying55 rfl rfl rfl ?_)
 intro w324 H325
 have H326 : Own w D w324 [mapr g21 requestD.key fateD.val (d41 ++ [((requestD.mk x57.xClient x57.xReq), (fateD.mk (Sv.mk A308 c309 x57.xOps.ls) false false (Sv.mk none 0 ([]))))]), sepL (List.flatMap (fun p : requestD × fateD => fateD.own p.2) (d41 ++ [((requestD.mk x57.xClient x57.xReq), (fateD.mk (Sv.mk A308 c309 x57.xOps.ls) false false (Sv.mk none 0 ([]))))])), blk g288 [.slice A308 x57.xOps.ls.length c309, .bool false, .bool false, .slice none 0 0] 77, blk g79 [.int .i64 x57.xClient, .int .u64 ((x57.xReq : Nat) : Int)] 75, blk g25 [.map (some g21), .slice A38 l40.length c39] 57, row A38 l40.length c39 (List.flatMap PairD.cells l40) 32 2] := by have q9 := H325; rw [mput_end (v := (fateD.mk (Sv.mk A308 c309 x57.xOps.ls) false false (Sv.mk none 0 ([])))) hg286] at q9; exact q9
 have H327 := H326.pk [2, 3, 4, 0, 1, 5]
 refine ⟨.inr ⟨_, H327⟩, ?_⟩
 refine GX.done (by kernel_rfl) (Fin.then (Wp.seq ?_))
 have H328 := H327.pk [2, 3, 4, 5]
 refine Wp.region (Mz rfl (An rfl (rt (rs (Ar rfl (Mz rfl (Kz (.bool false) (nt (jf (Wp.skip (bN (Fin.then (Wp.region (fw (.int .i64 ((k37 + 1 : Nat) : Int)) (Yl.int (e := IntKind.i64.wrap (((k37 : Nat) : Int) + 1)) yk (by rw [IntWalk.i64_in _ (by omega)]; omega)) (Mz rfl (WL.nil ?_))))))))))))))))
 have H329 := H328.pk [0, 1, 2, 3]
 exact Fin.round (k37 + 1, A38, c39, l40, (d41 ++ [((requestD.mk x57.xClient x57.xReq), (fateD.mk (Sv.mk A308 c309 x57.xOps.ls) false false (Sv.mk none 0 ([]))))]), (mput m42 (requestD.mk x57.xClient x57.xReq) (fateT.mk (Ll.mk x57.xOps.ls) false false (Ll.mk ([]))))) ⟨rfl, rfl, rfl, rfl, rfl, rfl, trivial⟩ (dm50.2 ⟨H329, by exact hb323, by omega, by omega, by first | assumption | (intro p hp; cases hp) | exact ops_put (by assumption) (by first | omega | (dsimp only; omega)), Eq.trans (hq51) (Eq.trans (congrArg (fun q => judge_Replay_L0 q l40 m42) hd63) (Eq.trans (bnd_of hr73) (Eq.trans (if_pos h78) (Eq.trans (ifF h86) (if_pos h296)))))⟩) (by show l0.length - (k37 + 1) < l0.length - k37; omega)
 refine Sz (dF h296) (fw (.bool false) (Yl.pickF rfl (dF h296) rfl) (Mz rfl (Gz (.pointer (some ⟨g64, 0, none⟩)) rfl (Gl (.int .i64 x57.xKind) rfl H295 1 Try.isAgg3 (Gz (.bool (decide (x57.xKind = 2))) rfl (gw (.bool (decide (x57.xKind = 2))) rfl (Yl.move rfl) ?_))))))
 by_cases h330 : x57.xKind = 2
 refine Gz (.pointer (some ⟨g288, 1, none⟩)) (dT h330) (Gl (.bool false) (dT h330) H295 6 Try.isAgg4 (gw (.bool false) rfl (Yl.pickT rfl (dT h330) rfl) (fw (.bool false) (Yl.pickF rfl rfl rfl) (Mz rfl (Gz (.pointer (some ⟨g64, 0, none⟩)) rfl (Gl (.int .i64 x57.xKind) rfl H295 1 Try.isAgg3 (Gz (.bool (decide (x57.xKind = 3))) rfl (gw (.bool (decide (x57.xKind = 3))) rfl (Yl.move rfl) ?_))))))))
 have hb331 : (decide (x57.xKind = 3)) = false := (dF (by omega))
 refine Sz hb331 (Sz hb331 (gw (.bool false) rfl (Yl.pickF rfl hb331 rfl) (fw (.bool false) (Yl.pickF rfl rfl rfl) (nt (jf (sk (Wp.seq (sr (Kz (.pointer (some ⟨g64, 0, none⟩)) (Lz (.int .i64 x57.xKind) H295 1 Try.isAgg3 (fw (.bool (decide (¬ (x57.xKind = 1)))) (Yl.bool (e := !(decide (x57.xKind = 1))) yk decide_not.symm) (Mz rfl ?_))))))))))))
 have hb332 : (decide (¬ (x57.xKind = 1))) = true := (dT (by omega))
 refine WL.valG (v := .bool false) rfl rfl hb332 rfl (Yl.move rfl) (Gz (.bool true) hb332 (fw (.bool true) (Yl.pickT rfl hb332 rfl) (nt (jt (sr (An rfl (rt (tR (rs (An rfl (Wp.seq ?_)))))))))))
 have H333 := H295.pk [2, 3, 4, 5]
 refine Wp.region (Mz rfl (Kz (.bool true) (nt (jt (sr (Mz rfl (Mz rfl (Az rfl (An rfl (rt (bR (tR (tR (bR (tR (Fin.res (res2 rfl rfl rfl) (Mz rfl (Kz (.int .i64 ((k37 : Nat) : Int)) (Kz (.int .i64 5) (Az rfl (Ar rfl (Mz rfl (Kz (.bool true) (nt (jt (sr (Mz rfl (Az rfl (Az rfl ?_)))))))))))))))))))))))))))))
 refine nt (rt (tR (Fin.res (res2 rfl rfl rfl) ?_)))
 have H334 : Own w D w293 [row none 0 0 (List.flatMap PairD.cells ([])) 32 2, blk g25 [.map (some g21), .slice A38 l40.length c39] 57, mapr g21 requestD.key fateD.val d41, sepL (List.flatMap (fun p : requestD × fateD => fateD.own p.2) d41), row A38 l40.length c39 (List.flatMap PairD.cells l40) 32 2] := H333.free (row_nil 32 2)
 have H335 := H334.pk [0]
 have e : judge_Replay l0 = ([], 5) := lp_r (et (hq51) (et (congrArg (fun q => judge_Replay_L0 q l40 m42) hd63) (et (bnd_of hr73) (et (ip h78) (et (ifF h86) (et (iN h296) (ip h330)))))))
 obtain ⟨rfl, rfl⟩ := pj2 (e.symm.trans hr)
 exact ⟨none, 0, rfl, H335⟩
 refine Sz (dF h330) (Sz (dF h330) (gw (.bool false) rfl (Yl.pickF rfl (dF h330) rfl) (fw (.bool false) (Yl.pickF rfl rfl rfl) (Mz rfl (Gz (.pointer (some ⟨g64, 0, none⟩)) rfl (Gl (.int .i64 x57.xKind) rfl H295 1 Try.isAgg3 (Gz (.bool (decide (x57.xKind = 3))) rfl (gw (.bool (decide (x57.xKind = 3))) rfl (Yl.move rfl) ?_))))))))
 by_cases h336 : x57.xKind = 3
 refine Gz (.pointer (some ⟨g288, 2, none⟩)) (dT h336) (Gl (.bool false) (dT h336) H295 6 Try.isAgg4 (gw (.bool false) rfl (Yl.pickT rfl (dT h336) rfl) (fw (.bool false) (Yl.pickF rfl rfl rfl) (nt (jf (sk (Wp.seq (sr (Kz (.pointer (some ⟨g64, 0, none⟩)) (Lz (.int .i64 x57.xKind) H295 1 Try.isAgg3 (fw (.bool (decide (¬ (x57.xKind = 1)))) (Yl.bool (e := !(decide (x57.xKind = 1))) yk decide_not.symm) (Mz rfl ?_))))))))))))
 have hb337 : (decide (¬ (x57.xKind = 1))) = true := (dT (by omega))
 refine WL.valG (v := .bool false) rfl rfl hb337 rfl (Yl.move rfl) (Gz (.bool true) hb337 (fw (.bool true) (Yl.pickT rfl hb337 rfl) (nt (jt (sr (An rfl (rt (tR (rs (An rfl (Wp.seq ?_)))))))))))
 have H338 := H295.pk [2, 3, 4, 5]
 refine Wp.region (Mz rfl (Kz (.bool true) (nt (jt (sr (Mz rfl (Mz rfl (Az rfl (An rfl (rt (bR (tR (tR (bR (tR (Fin.res (res2 rfl rfl rfl) (Mz rfl (Kz (.int .i64 ((k37 : Nat) : Int)) (Kz (.int .i64 5) (Az rfl (Ar rfl (Mz rfl (Kz (.bool true) (nt (jt (sr (Mz rfl (Az rfl (Az rfl ?_)))))))))))))))))))))))))))))
 refine nt (rt (tR (Fin.res (res2 rfl rfl rfl) ?_)))
 have H339 : Own w D w293 [row none 0 0 (List.flatMap PairD.cells ([])) 32 2, blk g25 [.map (some g21), .slice A38 l40.length c39] 57, mapr g21 requestD.key fateD.val d41, sepL (List.flatMap (fun p : requestD × fateD => fateD.own p.2) d41), row A38 l40.length c39 (List.flatMap PairD.cells l40) 32 2] := H338.free (row_nil 32 2)
 have H340 := H339.pk [0]
 have e : judge_Replay l0 = ([], 5) := lp_r (et (hq51) (et (congrArg (fun q => judge_Replay_L0 q l40 m42) hd63) (et (bnd_of hr73) (et (ip h78) (et (ifF h86) (et (iN h296) (et (iN h330) (ip h336))))))))
 obtain ⟨rfl, rfl⟩ := pj2 (e.symm.trans hr)
 exact ⟨none, 0, rfl, H340⟩
 refine Sz (dF h336) (Sz (dF h336) (gw (.bool false) rfl (Yl.pickF rfl (dF h336) rfl) (fw (.bool false) (Yl.pickF rfl rfl rfl) (nt (jf (sk (Wp.seq (sr (Kz (.pointer (some ⟨g64, 0, none⟩)) (Lz (.int .i64 x57.xKind) H295 1 Try.isAgg3 (fw (.bool (decide (¬ (x57.xKind = 1)))) (Yl.bool (e := !(decide (x57.xKind = 1))) yk decide_not.symm) (Mz rfl ?_))))))))))))
 have hb341 : (decide (¬ (x57.xKind = 1))) = true := (dT (by omega))
 refine WL.valG (v := .bool false) rfl rfl hb341 rfl (Yl.move rfl) (Gz (.bool true) hb341 (fw (.bool true) (Yl.pickT rfl hb341 rfl) (nt (jt (sr (An rfl (rt (tR (rs (An rfl (Wp.seq ?_)))))))))))
 have H342 := H295.pk [2, 3, 4, 5]
 refine Wp.region (Mz rfl (Kz (.bool true) (nt (jt (sr (Mz rfl (Mz rfl (Az rfl (An rfl (rt (bR (tR (tR (bR (tR (Fin.res (res2 rfl rfl rfl) (Mz rfl (Kz (.int .i64 ((k37 : Nat) : Int)) (Kz (.int .i64 5) (Az rfl (Ar rfl (Mz rfl (Kz (.bool true) (nt (jt (sr (Mz rfl (Az rfl (Az rfl ?_)))))))))))))))))))))))))))))
 refine nt (rt (tR (Fin.res (res2 rfl rfl rfl) ?_)))
 have H343 : Own w D w293 [row none 0 0 (List.flatMap PairD.cells ([])) 32 2, blk g25 [.map (some g21), .slice A38 l40.length c39] 57, mapr g21 requestD.key fateD.val d41, sepL (List.flatMap (fun p : requestD × fateD => fateD.own p.2) d41), row A38 l40.length c39 (List.flatMap PairD.cells l40) 32 2] := H342.free (row_nil 32 2)
 have H344 := H343.pk [0]
 have e : judge_Replay l0 = ([], 5) := lp_r (et (hq51) (et (congrArg (fun q => judge_Replay_L0 q l40 m42) hd63) (et (bnd_of hr73) (et (ip h78) (et (ifF h86) (et (iN h296) (et (iN h330) (iN h336))))))))
 obtain ⟨rfl, rfl⟩ := pj2 (e.symm.trans hr)
 exact ⟨none, 0, rfl, H344⟩
 refine jT (dT h78) (sr (Mz rfl (An rfl (rt (tR (rs (An rfl (Wp.seq ?_))))))))
 have H345 := H76.pk [1, 2, 3, 4]
 refine Wp.region (Mz rfl (fw (.bool (decide (¬ (r72 = 0)))) (Yl.bool (e := !(decide (r72 = 0))) yk decide_not.symm) (nt (jT (dT h78) (sr (Mz rfl (Mz rfl (Az rfl (An rfl (rt (bR (tR (tR (bR (tR (Fin.res (res2 rfl rfl rfl) (Mz rfl (Kz (.int .i64 ((k37 : Nat) : Int)) (Kz (.int .i64 r72) (Az rfl (Ar rfl (Mz rfl (fw (.bool (decide (¬ (r72 = 0)))) (Yl.bool (e := !(decide (r72 = 0))) yk decide_not.symm) (nt (jT (dT h78) (sr (Mz rfl (Az rfl (Az rfl ?_)))))))))))))))))))))))))))))
 refine nt (rt (tR (Fin.res (res2 rfl rfl rfl) ?_)))
 have H346 : Own w D w74 [row none 0 0 (List.flatMap PairD.cells ([])) 32 2, blk g25 [.map (some g21), .slice A38 l40.length c39] 57, mapr g21 requestD.key fateD.val d41, sepL (List.flatMap (fun p : requestD × fateD => fateD.own p.2) d41), row A38 l40.length c39 (List.flatMap PairD.cells l40) 32 2] := H345.free (row_nil 32 2)
 have H347 := H346.pk [0]
 have e : judge_Replay l0 = ([], r72) := lp_r (et (hq51) (et (congrArg (fun q => judge_Replay_L0 q l40 m42) hd63) (et (bnd_of hr73) (iN h78))))
 obtain ⟨rfl, rfl⟩ := pj2 (e.symm.trans hr)
 exact ⟨none, 0, rfl, H347⟩
 refine jF (dF h56) (Wp.exit (Fin.thenX ?_))
 have hL348 : judge_Replay_L0 l0 ([]) ([]) = Sum.inl l40 := et (hq51) (et (congrArg (fun q => judge_Replay_L0 q l40 m42) (drop_end (ls := l0) (i := k37) (by omega))) rfl)
 refine Fin.thenX (Fin.blockX (Fin.then (sr (Az rfl (An rfl (rt (Fin.res (res2 rfl rfl rfl) (Mz rfl (Kz (.int .i64 (-1)) (Kz (.int .i64 0) (Az rfl (Ar rfl (Mz rfl (Kz (.bool false) (nt (jf (sk (sr (Mz rfl (Kz (.pointer (some ⟨g25, 0, none⟩)) (Kz (.pointer (some ⟨g25, 1, none⟩)) (Lz (.slice A38 l40.length c39) H46 0 Try.isAgg27 ?_))))))))))))))))))))))
 obtain ⟨D349, HP350, ro351, bk352, rr353⟩ := Own.enter0 H46
 refine cl Try.call20 (slices_Clone_api_Pair_api_Pair_ok _ _ A38 l40.length c39 l40 l40 HP350 (rr353 _ 3 _ rfl row_rds) rfl (by omega) rfl) ?_
 rintro _ w354 ⟨A357, c358, rfl, HQ355⟩
 have H356 := bk352 _ _ HQ355
 have hb359 := H356.rowC (i := 0) rfl
 refine Az rfl (An rfl (rt (Fin.res (res2 rfl rfl rfl) ?_)))
 have H360 := H356.pk [0]
 have e : judge_Replay l0 = (l40, 0) := lp_l hL348
 obtain ⟨rfl, rfl⟩ := pj2 (e.symm.trans hr)
 exact ⟨A357, c358, rfl, H360⟩
end Go.Proofs.Ytjcdgofegkngpaa
