/-
 judge: the chapter's examples.
-/
import Derived.Test.YtjcdgofegkngpaaJb
namespace Go.Proofs.Ytjcdgofegkngpaa
open Go.RowKit
set_option linter.unusedVariables false
set_option linter.unusedSectionVars false
set_option linter.unusedSimpArgs false

def w23_live  : Bool :=
 bnd (judge_Judge ([(SeenT.mk 1 1 1 0 (Ll.mk ([(OpD.mk 2 ([97]) ([120]) ([]) ([]) 0)])) (Ll.mk ([]))), (SeenT.mk 2 1 1 0 (Ll.mk ([])) (Ll.mk ([]))), (SeenT.mk 3 1 1 1 (Ll.mk ([])) (Ll.mk ([(ResultT.mk false ([]) (Ll.mk ([])))])))])) fun yr75 => bnd (judge_Replay ([(SeenT.mk 1 1 1 0 (Ll.mk ([(OpD.mk 2 ([97]) ([120]) ([]) ([]) 0)])) (Ll.mk ([]))), (SeenT.mk 2 1 1 0 (Ll.mk ([])) (Ll.mk ([]))), (SeenT.mk 3 1 1 1 (Ll.mk ([])) (Ll.mk ([(ResultT.mk false ([]) (Ll.mk ([])))])))])) fun yr86 => bnd (judge_Judge (List.drop 2 ([(SeenT.mk 1 1 1 0 (Ll.mk ([(OpD.mk 2 ([97]) ([120]) ([]) ([]) 0)])) (Ll.mk ([]))), (SeenT.mk 2 1 1 0 (Ll.mk ([])) (Ll.mk ([]))), (SeenT.mk 3 1 1 1 (Ll.mk ([])) (Ll.mk ([(ResultT.mk false ([]) (Ll.mk ([])))])))]))) fun yr101 => bnd (judge_Judge ([(SeenT.mk 1 1 1 0 (Ll.mk ([(OpD.mk 2 ([97]) ([120]) ([]) ([]) 0)])) (Ll.mk ([]))), (SeenT.mk 1 1 1 0 (Ll.mk ([(OpD.mk 2 ([97]) ([120]) ([]) ([]) 0)])) (Ll.mk ([])))])) fun yr116 => bnd (judge_Judge ([(SeenT.mk 1 1 1 0 (Ll.mk ([(OpD.mk 2 ([97]) ([120]) ([]) ([]) 0)])) (Ll.mk ([]))), (SeenT.mk 2 1 1 0 (Ll.mk ([])) (Ll.mk ([]))), (SeenT.mk 3 1 1 2 (Ll.mk ([])) (Ll.mk ([])))])) fun yr155 => if yr75.1 = (-1) then if yr75.2 = 0 then if ((yr86.1.length : Nat) : Int) = 1 then bnd (List.getD yr86.1 0 default) fun yx165 => if (yx165.xKey = ([97])) ∧ (yx165.xValue = ([120])) then if yr86.2 = 0 then if yr101.1 = 0 then if yr101.2 = 5 then if yr116.1 = 1 then if yr116.2 = 6 then if yr155.1 = 2 then decide (yr155.2 = 4) else false else false else false else false else false else false else false else false else false else false

set_option maxRecDepth 100000 in
theorem w23_live_ok (w : World) (D : Nat → Prop)  (r0 : Bool) (H : Own w D w [])  (hr : w23_live = r0) :
    Calls Try.prog 8 #[] w (Ret fun v w' => v = .bool r0 ∧ Own w D w' []) := by
 refine Calls.body (args := []) Try.func8 rfl rfl rfl ?_
 show Wp _ _ _ [] _ _
 refine sr (Ar rfl ?_)
 refine WL.do rfl (Do.call Try.call17 rfl ?_ (fun _ _ k => k))
 refine Calls.body (args := [.int .i64 1, .int .i64 0, .int .i64 0]) Try.func17 rfl rfl rfl ?_
 show Wp _ _ _ [(0, .int .i64 1), (1, .int .i64 0), (2, .int .i64 0)] _ _
 refine sr ?_
 refine npw [.int .i64 0, .int .i64 0, .int .u64 0, .int .i64 0, .slice none 0 0, .slice none 0 0] 39 H ?_
 intro g21 w22 H23
 refine ns (Mz rfl (Mz rfl (Mz rfl ?_)))
 refine WL.do rfl (Do.makeE (x0 := (ResultD.mk false ([]) (Sv.mk none 0 ([])))) (z := .agg #[.bool false, .string ⟨List.toArray ([])⟩, .slice none 0 0]) (k := 0) (size := 3) (bytes := 48) ResultD.len (by decide) rfl Try.underlying37 (by kernel_rfl) H23 rfl rfl (by omega) (by unfold maxLen; omega) ?_)
 intro A24 w25 H26
 refine Kz (.agg #[.int .i64 1, .int .i64 1, .int .u64 1, .int .i64 0, .slice none 0 0, .slice A24 0 0]) ?_
 have H27 := H26.pk [1, 0]
 refine sto [.int .i64 1, .int .i64 1, .int .u64 1, .int .i64 0, .slice none 0 0, .slice A24 0 0] 0 H27 Try.sizeOf39 ?_
 intro w28 H29
 refine nt (rt (Fin.res (resC rfl rfl (Lds.agg (cs := [.int .i64 1, .int .i64 1, .int .u64 1, .int .i64 0, .slice none 0 0, .slice A24 0 0]) Try.isAgg39 Try.sizeOf39 ((H29.cls (i := 0) rfl).lit (k := 0) (m := 6) rfl))) ?_))
 refine npw [.int .i64 0, .int .i64 0, .int .u64 0, .int .i64 0, .slice none 0 0, .slice none 0 0] 39 H29 ?_
 intro g30 w31 H32
 refine sto [.int .i64 1, .int .i64 1, .int .u64 1, .int .i64 0, .slice none 0 0, .slice A24 0 0] 0 H32 Try.sizeOf39 ?_
 intro w33 H34
 refine nt (Wp.seq ?_)
 have H35 := H34.pk [0, 2]
 refine Wp.region (Kz (.agg #[.int .i64 2, .string ⟨List.toArray ([97])⟩, .string ⟨List.toArray ([120])⟩, .string ⟨List.toArray ([])⟩, .string ⟨List.toArray ([])⟩, .int .i64 0]) ?_)
 refine nrw [.int .i64 2, .string ⟨List.toArray ([97])⟩, .string ⟨List.toArray ([120])⟩, .string ⟨List.toArray ([])⟩, .string ⟨List.toArray ([])⟩, .int .i64 0] 53 6 1 H35 ?_
 intro A36 w37 H38
 replace H38 := Own.reh (y := row A36 1 1 (List.flatMap OpD.cells ([(OpD.mk 2 ([97]) ([120]) ([]) ([]) 0)])) 53 6) rfl H38
 refine Kz (.pointer (some ⟨g30, 4, none⟩)) ?_
 have H39 := H38.pk [1, 0, 2]
 refine sto [.slice A36 1 1] 4 H39 Try.sizeOf36 ?_
 intro w40 H41
 refine nt (Wp.seq ?_)
 have H43 := H41.drew
 refine Wp.drawnX [] (fun W => ∃ L', Own w D W ([blk g30 [.int .i64 1, .int .i64 1, .int .u64 1, .int .i64 0, .slice A36 1 1, .slice A24 0 0] 39, row A36 1 1 (List.flatMap OpD.cells ([(OpD.mk 2 ([97]) ([120]) ([]) ([]) 0)])) 53 6, row A24 0 0 (List.flatMap ResultD.cells ([])) 84 3] ++ L')) (by kernel_rfl) (by kernel_rfl) (NoP.then NoP.base) ⟨_, H43⟩ ?_
 revert H43
 generalize World.drew w40 = w42
 intro H43
 refine GX.take (v := .agg #[.int .i64 1, .int .i64 1, .int .u64 1, .int .i64 0, .slice A36 1 1, .slice A24 0 0]) (rs := []) 0 rfl (by kernel_rfl) (fun _ ⟨_, H9⟩ => Yl.load rfl (Lds.agg (cs := [.int .i64 1, .int .i64 1, .int .u64 1, .int .i64 0, .slice A36 1 1, .slice A24 0 0]) Try.isAgg39 Try.sizeOf39 ((H9.cls (i := 0) rfl).lit (k := 0) (m := 6) rfl))) ?_
 refine GX.do 1 rfl (by kernel_rfl) (Do.call Try.call17 rfl ?_ (fun _ _ k => k))
 refine Calls.body (args := [.int .i64 2, .int .i64 0, .int .i64 0]) Try.func17 rfl rfl rfl ?_
 show Wp _ _ _ [(0, .int .i64 2), (1, .int .i64 0), (2, .int .i64 0)] _ _
 refine sr ?_
 refine npw [.int .i64 0, .int .i64 0, .int .u64 0, .int .i64 0, .slice none 0 0, .slice none 0 0] 39 H43 ?_
 intro g44 w45 H46
 refine ns (Mz rfl (Mz rfl (Mz rfl ?_)))
 refine WL.do rfl (Do.makeE (x0 := (ResultD.mk false ([]) (Sv.mk none 0 ([])))) (z := .agg #[.bool false, .string ⟨List.toArray ([])⟩, .slice none 0 0]) (k := 0) (size := 3) (bytes := 48) ResultD.len (by decide) rfl Try.underlying37 (by kernel_rfl) H46 rfl rfl (by omega) (by unfold maxLen; omega) ?_)
 intro A47 w48 H49
 refine Kz (.agg #[.int .i64 2, .int .i64 1, .int .u64 1, .int .i64 0, .slice none 0 0, .slice A47 0 0]) ?_
 have H50 := H49.pk [1, 0, 2, 3, 4]
 refine sto [.int .i64 2, .int .i64 1, .int .u64 1, .int .i64 0, .slice none 0 0, .slice A47 0 0] 0 H50 Try.sizeOf39 ?_
 intro w51 H52
 refine nt (rt (Fin.res (resC rfl rfl (Lds.agg (cs := [.int .i64 2, .int .i64 1, .int .u64 1, .int .i64 0, .slice none 0 0, .slice A47 0 0]) Try.isAgg39 Try.sizeOf39 ((H52.cls (i := 0) rfl).lit (k := 0) (m := 6) rfl))) ?_))
 have H53 := H52.pk [2, 3, 4, 0, 1]
 refine ⟨.inr ⟨_, H53⟩, ?_⟩
 refine GX.do 2 rfl (by kernel_rfl) (Do.call Try.call17 rfl ?_ (fun _ _ k => k))
 refine Calls.body (args := [.int .i64 3, .int .i64 1, .int .i64 1]) Try.func17 rfl rfl rfl ?_
 show Wp _ _ _ [(0, .int .i64 3), (1, .int .i64 1), (2, .int .i64 1)] _ _
 refine Wp.seq ?_
 have H54 := H53.pk [0, 1, 2, 4]
 refine Wp.region ?_
 refine npw [.int .i64 0, .int .i64 0, .int .u64 0, .int .i64 0, .slice none 0 0, .slice none 0 0] 39 H54 ?_
 intro g55 w56 H57
 refine ns (Mz rfl (Mz rfl (Mz rfl ?_)))
 refine WL.do rfl (Do.makeE (x0 := (ResultD.mk false ([]) (Sv.mk none 0 ([])))) (z := .agg #[.bool false, .string ⟨List.toArray ([])⟩, .slice none 0 0]) (k := 1) (size := 3) (bytes := 48) ResultD.len (by decide) rfl Try.underlying37 (by kernel_rfl) H57 rfl rfl (by omega) (by unfold maxLen; omega) ?_)
 intro A58 w59 H60
 refine Kz (.agg #[.int .i64 3, .int .i64 1, .int .u64 1, .int .i64 1, .slice none 0 0, .slice A58 1 1]) ?_
 have H61 := H60.pk [1, 0, 2, 3, 4, 5]
 refine sto [.int .i64 3, .int .i64 1, .int .u64 1, .int .i64 1, .slice none 0 0, .slice A58 1 1] 0 H61 Try.sizeOf39 ?_
 intro w62 H63
 refine nt (rt (Fin.res (resC rfl rfl (Lds.agg (cs := [.int .i64 3, .int .i64 1, .int .u64 1, .int .i64 1, .slice none 0 0, .slice A58 1 1]) Try.isAgg39 Try.sizeOf39 ((H63.cls (i := 0) rfl).lit (k := 0) (m := 6) rfl))) ?_))
 have H64 := H63.pk [2, 3, 4, 0, 1, 5]
 refine ⟨.inr ⟨_, H64⟩, ?_⟩
 refine GX.do 3 rfl (by kernel_rfl) (Do.newRow (cs := [.int .i64 1, .int .i64 1, .int .u64 1, .int .i64 0, .slice A36 1 1, .slice A24 0 0, .int .i64 2, .int .i64 1, .int .u64 1, .int .i64 0, .slice none 0 0, .slice A47 0 0, .int .i64 3, .int .i64 1, .int .u64 1, .int .i64 1, .slice none 0 0, .slice A58 1 1]) (t := 39) (sz := 6) (m := 3) H64 rfl rfl (fun _ => by kernel_rfl) rfl (by decide) ?_)
 intro A65 w66 H67
 replace H67 := Own.reh (y := row A65 3 3 (List.flatMap SeenD.cells ([(SeenD.mk 1 1 1 0 (Sv.mk A36 1 ([(OpD.mk 2 ([97]) ([120]) ([]) ([]) 0)])) (Sv.mk A24 0 ([]))), (SeenD.mk 2 1 1 0 (Sv.mk none 0 ([])) (Sv.mk A47 0 ([]))), (SeenD.mk 3 1 1 1 (Sv.mk none 0 ([])) (Sv.mk A58 1 ([(ResultD.mk false ([]) (Sv.mk none 0 ([])))])))])) 39 6) rfl H67
 have H68 := H67.pk [1, 2, 3, 0, 4, 5, 6]
 refine ⟨.inr ⟨_, H68⟩, ?_⟩
 refine GX.take (v := .slice A65 3 3) (rs := []) 4 rfl (by kernel_rfl) (fun _ _ => Yl.assign rfl) (GX.done (by kernel_rfl) (Fin.then (Wp.seq ?_)))
 have H69 := H68.pk [0, 1, 2, 3, 5, 6]
 refine Wp.region (Mz rfl ?_)
 obtain ⟨⟨r75, r76⟩, hr77⟩ : ∃ q : Int × Int, judge_Judge ([(SeenT.mk 1 1 1 0 (Ll.mk ([(OpD.mk 2 ([97]) ([120]) ([]) ([]) 0)])) (Ll.mk ([]))), (SeenT.mk 2 1 1 0 (Ll.mk ([])) (Ll.mk ([]))), (SeenT.mk 3 1 1 1 (Ll.mk ([])) (Ll.mk ([(ResultT.mk false ([]) (Ll.mk ([])))])))]) = q := ⟨_, rfl⟩
 obtain ⟨D70, HP71, ro72, bk73, rr74⟩ := Own.enter0 H69
 refine cl Try.call9 (judge_Judge_ok _ _ A65 3 3 ([(SeenD.mk 1 1 1 0 (Sv.mk A36 1 ([(OpD.mk 2 ([97]) ([120]) ([]) ([]) 0)])) (Sv.mk A24 0 ([]))), (SeenD.mk 2 1 1 0 (Sv.mk none 0 ([])) (Sv.mk A47 0 ([]))), (SeenD.mk 3 1 1 1 (Sv.mk none 0 ([])) (Sv.mk A58 1 ([(ResultD.mk false ([]) (Sv.mk none 0 ([])))])))]) ([(SeenT.mk 1 1 1 0 (Ll.mk ([(OpD.mk 2 ([97]) ([120]) ([]) ([]) 0)])) (Ll.mk ([]))), (SeenT.mk 2 1 1 0 (Ll.mk ([])) (Ll.mk ([]))), (SeenT.mk 3 1 1 1 (Ll.mk ([])) (Ll.mk ([(ResultT.mk false ([]) (Ll.mk ([])))])))]) r75 r76 HP71 rfl (rr74 _ 3 _ rfl row_rds) (fun x9 h9 => (by rcases List.mem_cons.1 h9 with rfl | h9; exact ⟨(rr74 _ 1 _ rfl row_rds), (by first | exact ⟨Nat.le_of_ble_eq_true rfl, Nat.le_of_ble_eq_true rfl⟩ | omega), (rr74 _ 2 _ rfl row_rds), (by first | exact ⟨Nat.le_of_ble_eq_true rfl, Nat.le_of_ble_eq_true rfl⟩ | omega), (fun x8 h8 => (absurd h8 List.not_mem_nil))⟩; exact (by rcases List.mem_cons.1 h9 with rfl | h9; exact ⟨(fun _ _ => Rds.nil _ _ _), (by first | exact ⟨Nat.le_of_ble_eq_true rfl, Nat.le_of_ble_eq_true rfl⟩ | omega), (rr74 _ 5 _ rfl row_rds), (by first | exact ⟨Nat.le_of_ble_eq_true rfl, Nat.le_of_ble_eq_true rfl⟩ | omega), (fun x8 h8 => (absurd h8 List.not_mem_nil))⟩; exact (by rcases List.mem_cons.1 h9 with rfl | h9; exact ⟨(fun _ _ => Rds.nil _ _ _), (by first | exact ⟨Nat.le_of_ble_eq_true rfl, Nat.le_of_ble_eq_true rfl⟩ | omega), (rr74 _ 4 _ rfl row_rds), (by first | exact ⟨Nat.le_of_ble_eq_true rfl, Nat.le_of_ble_eq_true rfl⟩ | omega), (fun x8 h8 => (by rcases List.mem_cons.1 h8 with rfl | h8; exact ⟨(fun _ _ => Rds.nil _ _ _), (by first | exact ⟨Nat.le_of_ble_eq_true rfl, Nat.le_of_ble_eq_true rfl⟩ | omega)⟩; exact (absurd h8 List.not_mem_nil)))⟩; exact (absurd h9 List.not_mem_nil))))) rfl (by simp) (by first | omega | exact Nat.le_of_ble_eq_true rfl | (simp only [List.length_take]; omega)) hr77) ?_
 rintro _ w78 ⟨rfl, HQ79⟩
 have H80 := bk73 _ _ HQ79
 refine Mz rfl (Kz (.int .i64 r75) (Kz (.int .i64 r76) (Az rfl (Ar rfl (Mz rfl ?_)))))
 obtain ⟨⟨r86, r87⟩, hr88⟩ : ∃ q : (List PairD) × Int, judge_Replay ([(SeenT.mk 1 1 1 0 (Ll.mk ([(OpD.mk 2 ([97]) ([120]) ([]) ([]) 0)])) (Ll.mk ([]))), (SeenT.mk 2 1 1 0 (Ll.mk ([])) (Ll.mk ([]))), (SeenT.mk 3 1 1 1 (Ll.mk ([])) (Ll.mk ([(ResultT.mk false ([]) (Ll.mk ([])))])))]) = q := ⟨_, rfl⟩
 obtain ⟨D81, HP82, ro83, bk84, rr85⟩ := Own.enter0 H80
 refine cl Try.call11 (judge_Replay_ok _ _ A65 3 3 ([(SeenD.mk 1 1 1 0 (Sv.mk A36 1 ([(OpD.mk 2 ([97]) ([120]) ([]) ([]) 0)])) (Sv.mk A24 0 ([]))), (SeenD.mk 2 1 1 0 (Sv.mk none 0 ([])) (Sv.mk A47 0 ([]))), (SeenD.mk 3 1 1 1 (Sv.mk none 0 ([])) (Sv.mk A58 1 ([(ResultD.mk false ([]) (Sv.mk none 0 ([])))])))]) ([(SeenT.mk 1 1 1 0 (Ll.mk ([(OpD.mk 2 ([97]) ([120]) ([]) ([]) 0)])) (Ll.mk ([]))), (SeenT.mk 2 1 1 0 (Ll.mk ([])) (Ll.mk ([]))), (SeenT.mk 3 1 1 1 (Ll.mk ([])) (Ll.mk ([(ResultT.mk false ([]) (Ll.mk ([])))])))]) r86 r87 HP82 rfl (rr85 _ 3 _ rfl row_rds) (fun x9 h9 => (by rcases List.mem_cons.1 h9 with rfl | h9; exact ⟨(rr85 _ 1 _ rfl row_rds), (by first | exact ⟨Nat.le_of_ble_eq_true rfl, Nat.le_of_ble_eq_true rfl⟩ | omega), (rr85 _ 2 _ rfl row_rds), (by first | exact ⟨Nat.le_of_ble_eq_true rfl, Nat.le_of_ble_eq_true rfl⟩ | omega), (fun x8 h8 => (absurd h8 List.not_mem_nil))⟩; exact (by rcases List.mem_cons.1 h9 with rfl | h9; exact ⟨(fun _ _ => Rds.nil _ _ _), (by first | exact ⟨Nat.le_of_ble_eq_true rfl, Nat.le_of_ble_eq_true rfl⟩ | omega), (rr85 _ 5 _ rfl row_rds), (by first | exact ⟨Nat.le_of_ble_eq_true rfl, Nat.le_of_ble_eq_true rfl⟩ | omega), (fun x8 h8 => (absurd h8 List.not_mem_nil))⟩; exact (by rcases List.mem_cons.1 h9 with rfl | h9; exact ⟨(fun _ _ => Rds.nil _ _ _), (by first | exact ⟨Nat.le_of_ble_eq_true rfl, Nat.le_of_ble_eq_true rfl⟩ | omega), (rr85 _ 4 _ rfl row_rds), (by first | exact ⟨Nat.le_of_ble_eq_true rfl, Nat.le_of_ble_eq_true rfl⟩ | omega), (fun x8 h8 => (by rcases List.mem_cons.1 h8 with rfl | h8; exact ⟨(fun _ _ => Rds.nil _ _ _), (by first | exact ⟨Nat.le_of_ble_eq_true rfl, Nat.le_of_ble_eq_true rfl⟩ | omega)⟩; exact (absurd h8 List.not_mem_nil)))⟩; exact (absurd h9 List.not_mem_nil))))) rfl (by simp) (by first | omega | exact Nat.le_of_ble_eq_true rfl | (simp only [List.length_take]; omega)) hr88) ?_
 rintro _ w89 ⟨A92, c93, rfl, HQ90⟩
 have H91 := bk84 _ _ HQ90
 have hb94 := H91.rowC (i := 0) rfl
 refine Mz rfl (Kz (.slice A92 r86.length c93) (Kz (.int .i64 r87) (Az rfl (Ar rfl (Mz rfl (fw (.slice (cutA A65 2 6 3) (3 - 2) (3 - 2)) (Yl.cutFrom (El22) rfl rfl (by omega)) ?_))))))
 have hz100 : 3 - 2 = List.length (List.drop 2 ([(SeenT.mk 1 1 1 0 (Ll.mk ([(OpD.mk 2 ([97]) ([120]) ([]) ([]) 0)])) (Ll.mk ([]))), (SeenT.mk 2 1 1 0 (Ll.mk ([])) (Ll.mk ([]))), (SeenT.mk 3 1 1 1 (Ll.mk ([])) (Ll.mk ([(ResultT.mk false ([]) (Ll.mk ([])))])))])) := (by first | rfl | omega | (simp only [List.length_append, List.length_cons, List.length_nil, List.length_take, List.length_drop, List.length_set, List.length_replicate, List.length_map] <;> omega))
 obtain ⟨⟨r101, r102⟩, hr103⟩ : ∃ q : Int × Int, judge_Judge (List.drop 2 ([(SeenT.mk 1 1 1 0 (Ll.mk ([(OpD.mk 2 ([97]) ([120]) ([]) ([]) 0)])) (Ll.mk ([]))), (SeenT.mk 2 1 1 0 (Ll.mk ([])) (Ll.mk ([]))), (SeenT.mk 3 1 1 1 (Ll.mk ([])) (Ll.mk ([(ResultT.mk false ([]) (Ll.mk ([])))])))])) = q := ⟨_, rfl⟩
 obtain ⟨D95, HP96, ro97, bk98, rr99⟩ := Own.enter0 H91
 refine cl Try.call9 (judge_Judge_ok _ _ (cutA A65 2 6 3) (3 - 2) (3 - 2) (List.drop 2 ([(SeenD.mk 1 1 1 0 (Sv.mk A36 1 ([(OpD.mk 2 ([97]) ([120]) ([]) ([]) 0)])) (Sv.mk A24 0 ([]))), (SeenD.mk 2 1 1 0 (Sv.mk none 0 ([])) (Sv.mk A47 0 ([]))), (SeenD.mk 3 1 1 1 (Sv.mk none 0 ([])) (Sv.mk A58 1 ([(ResultD.mk false ([]) (Sv.mk none 0 ([])))])))])) (List.drop 2 ([(SeenT.mk 1 1 1 0 (Ll.mk ([(OpD.mk 2 ([97]) ([120]) ([]) ([]) 0)])) (Ll.mk ([]))), (SeenT.mk 2 1 1 0 (Ll.mk ([])) (Ll.mk ([]))), (SeenT.mk 3 1 1 1 (Ll.mk ([])) (Ll.mk ([(ResultT.mk false ([]) (Ll.mk ([])))])))])) r101 r102 HP96 (by rw [List.map_drop]; rfl) (fun w9 h9 => Rds.fromE (lo := 2) SeenD.len ((rr99 _ 4 _ rfl row_rds) w9 h9) (by omega) (by omega) (by decide)) (fun x9 h9 => (fun h9 => (by rcases List.mem_cons.1 h9 with rfl | h9; exact ⟨(rr99 _ 2 _ rfl row_rds), (by first | exact ⟨Nat.le_of_ble_eq_true rfl, Nat.le_of_ble_eq_true rfl⟩ | omega), (rr99 _ 3 _ rfl row_rds), (by first | exact ⟨Nat.le_of_ble_eq_true rfl, Nat.le_of_ble_eq_true rfl⟩ | omega), (fun x8 h8 => (absurd h8 List.not_mem_nil))⟩; exact (by rcases List.mem_cons.1 h9 with rfl | h9; exact ⟨(fun _ _ => Rds.nil _ _ _), (by first | exact ⟨Nat.le_of_ble_eq_true rfl, Nat.le_of_ble_eq_true rfl⟩ | omega), (rr99 _ 6 _ rfl row_rds), (by first | exact ⟨Nat.le_of_ble_eq_true rfl, Nat.le_of_ble_eq_true rfl⟩ | omega), (fun x8 h8 => (absurd h8 List.not_mem_nil))⟩; exact (by rcases List.mem_cons.1 h9 with rfl | h9; exact ⟨(fun _ _ => Rds.nil _ _ _), (by first | exact ⟨Nat.le_of_ble_eq_true rfl, Nat.le_of_ble_eq_true rfl⟩ | omega), (rr99 _ 5 _ rfl row_rds), (by first | exact ⟨Nat.le_of_ble_eq_true rfl, Nat.le_of_ble_eq_true rfl⟩ | omega), (fun x8 h8 => (by rcases List.mem_cons.1 h8 with rfl | h8; exact ⟨(fun _ _ => Rds.nil _ _ _), (by first | exact ⟨Nat.le_of_ble_eq_true rfl, Nat.le_of_ble_eq_true rfl⟩ | omega)⟩; exact (absurd h8 List.not_mem_nil)))⟩; exact (absurd h9 List.not_mem_nil))))) (List.mem_of_mem_drop h9)) (by first | rfl | omega | (simp only [List.length_append, List.length_cons, List.length_nil, List.length_take, List.length_drop, List.length_set, List.length_replicate, List.length_map] <;> omega)) (by first | omega | (simp only [List.length_append, List.length_cons, List.length_nil, List.length_take, List.length_drop, List.length_set]; omega)) (by first | omega | exact Nat.le_of_ble_eq_true rfl | (simp only [List.length_take]; omega)) hr103) ?_
 rintro _ w104 ⟨rfl, HQ105⟩
 have H106 := bk98 _ _ HQ105
 refine Mz rfl (Kz (.int .i64 r101) (Kz (.int .i64 r102) (Az rfl (An rfl (Wp.seq ?_)))))
 have H107 := H106.pk [0, 1, 2, 3]
 refine Wp.region (La ([.int .i64 1, .int .i64 1, .int .u64 1, .int .i64 0, .slice A36 1 1, .slice A24 0 0]) H107 1 Try.isAgg39 Try.sizeOf39 (La ([.int .i64 1, .int .i64 1, .int .u64 1, .int .i64 0, .slice A36 1 1, .slice A24 0 0]) H107 1 Try.isAgg39 Try.sizeOf39 ?_))
 refine nrw [.int .i64 1, .int .i64 1, .int .u64 1, .int .i64 0, .slice A36 1 1, .slice A24 0 0, .int .i64 1, .int .i64 1, .int .u64 1, .int .i64 0, .slice A36 1 1, .slice A24 0 0] 39 6 2 H107 ?_
 intro A108 w109 H110
 replace H110 := Own.reh (y := row A108 2 2 (List.flatMap SeenD.cells ([(SeenD.mk 1 1 1 0 (Sv.mk A36 1 ([(OpD.mk 2 ([97]) ([120]) ([]) ([]) 0)])) (Sv.mk A24 0 ([]))), (SeenD.mk 1 1 1 0 (Sv.mk A36 1 ([(OpD.mk 2 ([97]) ([120]) ([]) ([]) 0)])) (Sv.mk A24 0 ([])))])) 39 6) rfl H110
 obtain ⟨⟨r116, r117⟩, hr118⟩ : ∃ q : Int × Int, judge_Judge ([(SeenT.mk 1 1 1 0 (Ll.mk ([(OpD.mk 2 ([97]) ([120]) ([]) ([]) 0)])) (Ll.mk ([]))), (SeenT.mk 1 1 1 0 (Ll.mk ([(OpD.mk 2 ([97]) ([120]) ([]) ([]) 0)])) (Ll.mk ([])))]) = q := ⟨_, rfl⟩
 obtain ⟨D111, HP112, ro113, bk114, rr115⟩ := Own.enter0 H110
 refine cl Try.call9 (judge_Judge_ok _ _ A108 2 2 ([(SeenD.mk 1 1 1 0 (Sv.mk A36 1 ([(OpD.mk 2 ([97]) ([120]) ([]) ([]) 0)])) (Sv.mk A24 0 ([]))), (SeenD.mk 1 1 1 0 (Sv.mk A36 1 ([(OpD.mk 2 ([97]) ([120]) ([]) ([]) 0)])) (Sv.mk A24 0 ([])))]) ([(SeenT.mk 1 1 1 0 (Ll.mk ([(OpD.mk 2 ([97]) ([120]) ([]) ([]) 0)])) (Ll.mk ([]))), (SeenT.mk 1 1 1 0 (Ll.mk ([(OpD.mk 2 ([97]) ([120]) ([]) ([]) 0)])) (Ll.mk ([])))]) r116 r117 HP112 rfl (rr115 _ 0 _ rfl row_rds) (fun x9 h9 => (by rcases List.mem_cons.1 h9 with rfl | h9; exact ⟨(rr115 _ 3 _ rfl row_rds), (by first | exact ⟨Nat.le_of_ble_eq_true rfl, Nat.le_of_ble_eq_true rfl⟩ | omega), (rr115 _ 4 _ rfl row_rds), (by first | exact ⟨Nat.le_of_ble_eq_true rfl, Nat.le_of_ble_eq_true rfl⟩ | omega), (fun x8 h8 => (absurd h8 List.not_mem_nil))⟩; exact (by rcases List.mem_cons.1 h9 with rfl | h9; exact ⟨(rr115 _ 3 _ rfl row_rds), (by first | exact ⟨Nat.le_of_ble_eq_true rfl, Nat.le_of_ble_eq_true rfl⟩ | omega), (rr115 _ 4 _ rfl row_rds), (by first | exact ⟨Nat.le_of_ble_eq_true rfl, Nat.le_of_ble_eq_true rfl⟩ | omega), (fun x8 h8 => (absurd h8 List.not_mem_nil))⟩; exact (absurd h9 List.not_mem_nil)))) rfl (by simp) (by first | omega | exact Nat.le_of_ble_eq_true rfl | (simp only [List.length_take]; omega)) hr118) ?_
 rintro _ w119 ⟨rfl, HQ120⟩
 have H121 := bk114 _ _ HQ120
 refine Mz rfl (Kz (.int .i64 r116) (Kz (.int .i64 r117) (Az rfl (An rfl (Wp.seq ?_)))))
 have H122 := H121.pk [1, 2, 3, 4]
 have H124 := H122.drew
 refine Wp.drawnX [] (fun W => ∃ L', Own w D W ([row A92 r86.length c93 (List.flatMap PairD.cells r86) 32 2, blk g30 [.int .i64 1, .int .i64 1, .int .u64 1, .int .i64 0, .slice A36 1 1, .slice A24 0 0] 39, row A36 1 1 (List.flatMap OpD.cells ([(OpD.mk 2 ([97]) ([120]) ([]) ([]) 0)])) 53 6, row A24 0 0 (List.flatMap ResultD.cells ([])) 84 3] ++ L')) (by kernel_rfl) (by kernel_rfl) (NoP.then NoP.base) ⟨_, H124⟩ ?_
 revert H124
 generalize World.drew w119 = w123
 intro H124
 refine GX.take (v := .agg #[.int .i64 1, .int .i64 1, .int .u64 1, .int .i64 0, .slice A36 1 1, .slice A24 0 0]) (rs := []) 0 rfl (by kernel_rfl) (fun _ ⟨_, H9⟩ => Yl.load rfl (Lds.agg (cs := [.int .i64 1, .int .i64 1, .int .u64 1, .int .i64 0, .slice A36 1 1, .slice A24 0 0]) Try.isAgg39 Try.sizeOf39 ((H9.cls (i := 1) rfl).lit (k := 0) (m := 6) rfl))) ?_
 refine GX.do 1 rfl (by kernel_rfl) (Do.call Try.call17 rfl ?_ (fun _ _ k => k))
 refine Calls.body (args := [.int .i64 2, .int .i64 0, .int .i64 0]) Try.func17 rfl rfl rfl ?_
 show Wp _ _ _ [(0, .int .i64 2), (1, .int .i64 0), (2, .int .i64 0)] _ _
 refine sr ?_
 refine npw [.int .i64 0, .int .i64 0, .int .u64 0, .int .i64 0, .slice none 0 0, .slice none 0 0] 39 H124 ?_
 intro g125 w126 H127
 refine ns (Mz rfl (Mz rfl (Mz rfl ?_)))
 refine WL.do rfl (Do.makeE (x0 := (ResultD.mk false ([]) (Sv.mk none 0 ([])))) (z := .agg #[.bool false, .string ⟨List.toArray ([])⟩, .slice none 0 0]) (k := 0) (size := 3) (bytes := 48) ResultD.len (by decide) rfl Try.underlying37 (by kernel_rfl) H127 rfl rfl (by omega) (by unfold maxLen; omega) ?_)
 intro A128 w129 H130
 refine Kz (.agg #[.int .i64 2, .int .i64 1, .int .u64 1, .int .i64 0, .slice none 0 0, .slice A128 0 0]) ?_
 have H131 := H130.pk [1, 0, 2, 3, 4, 5]
 refine sto [.int .i64 2, .int .i64 1, .int .u64 1, .int .i64 0, .slice none 0 0, .slice A128 0 0] 0 H131 Try.sizeOf39 ?_
 intro w132 H133
 refine nt (rt (Fin.res (resC rfl rfl (Lds.agg (cs := [.int .i64 2, .int .i64 1, .int .u64 1, .int .i64 0, .slice none 0 0, .slice A128 0 0]) Try.isAgg39 Try.sizeOf39 ((H133.cls (i := 0) rfl).lit (k := 0) (m := 6) rfl))) ?_))
 have H134 := H133.pk [2, 3, 4, 5, 0, 1]
 refine ⟨.inr ⟨_, H134⟩, ?_⟩
 refine GX.do 2 rfl (by kernel_rfl) (Do.call Try.call17 rfl ?_ (fun _ _ k => k))
 refine Calls.body (args := [.int .i64 3, .int .i64 2, .int .i64 0]) Try.func17 rfl rfl rfl ?_
 show Wp _ _ _ [(0, .int .i64 3), (1, .int .i64 2), (2, .int .i64 0)] _ _
 refine Wp.seq ?_
 have H135 := H134.pk [0, 1, 2, 3, 5]
 refine Wp.region ?_
 refine npw [.int .i64 0, .int .i64 0, .int .u64 0, .int .i64 0, .slice none 0 0, .slice none 0 0] 39 H135 ?_
 intro g136 w137 H138
 refine ns (Mz rfl (Mz rfl (Mz rfl ?_)))
 refine WL.do rfl (Do.makeE (x0 := (ResultD.mk false ([]) (Sv.mk none 0 ([])))) (z := .agg #[.bool false, .string ⟨List.toArray ([])⟩, .slice none 0 0]) (k := 0) (size := 3) (bytes := 48) ResultD.len (by decide) rfl Try.underlying37 (by kernel_rfl) H138 rfl rfl (by omega) (by unfold maxLen; omega) ?_)
 intro A139 w140 H141
 refine Kz (.agg #[.int .i64 3, .int .i64 1, .int .u64 1, .int .i64 2, .slice none 0 0, .slice A139 0 0]) ?_
 have H142 := H141.pk [1, 0, 2, 3, 4, 5, 6]
 refine sto [.int .i64 3, .int .i64 1, .int .u64 1, .int .i64 2, .slice none 0 0, .slice A139 0 0] 0 H142 Try.sizeOf39 ?_
 intro w143 H144
 refine nt (rt (Fin.res (resC rfl rfl (Lds.agg (cs := [.int .i64 3, .int .i64 1, .int .u64 1, .int .i64 2, .slice none 0 0, .slice A139 0 0]) Try.isAgg39 Try.sizeOf39 ((H144.cls (i := 0) rfl).lit (k := 0) (m := 6) rfl))) ?_))
 have H145 := H144.pk [2, 3, 4, 5, 0, 1, 6]
 refine ⟨.inr ⟨_, H145⟩, ?_⟩
 refine GX.do 3 rfl (by kernel_rfl) (Do.newRow (cs := [.int .i64 1, .int .i64 1, .int .u64 1, .int .i64 0, .slice A36 1 1, .slice A24 0 0, .int .i64 2, .int .i64 1, .int .u64 1, .int .i64 0, .slice none 0 0, .slice A128 0 0, .int .i64 3, .int .i64 1, .int .u64 1, .int .i64 2, .slice none 0 0, .slice A139 0 0]) (t := 39) (sz := 6) (m := 3) H145 rfl rfl (fun _ => by kernel_rfl) rfl (by decide) ?_)
 intro A146 w147 H148
 replace H148 := Own.reh (y := row A146 3 3 (List.flatMap SeenD.cells ([(SeenD.mk 1 1 1 0 (Sv.mk A36 1 ([(OpD.mk 2 ([97]) ([120]) ([]) ([]) 0)])) (Sv.mk A24 0 ([]))), (SeenD.mk 2 1 1 0 (Sv.mk none 0 ([])) (Sv.mk A128 0 ([]))), (SeenD.mk 3 1 1 2 (Sv.mk none 0 ([])) (Sv.mk A139 0 ([])))])) 39 6) rfl H148
 have H149 := H148.pk [1, 2, 3, 4, 0, 5, 6, 7]
 refine ⟨.inr ⟨_, H149⟩, ?_⟩
 obtain ⟨⟨r155, r156⟩, hr157⟩ : ∃ q : Int × Int, judge_Judge ([(SeenT.mk 1 1 1 0 (Ll.mk ([(OpD.mk 2 ([97]) ([120]) ([]) ([]) 0)])) (Ll.mk ([]))), (SeenT.mk 2 1 1 0 (Ll.mk ([])) (Ll.mk ([]))), (SeenT.mk 3 1 1 2 (Ll.mk ([])) (Ll.mk ([])))]) = q := ⟨_, rfl⟩
 obtain ⟨D150, HP151, ro152, bk153, rr154⟩ := Own.enter0 H149
 refine GX.do 4 rfl (by kernel_rfl) (Do.call Try.call9 rfl (judge_Judge_ok _ _ A146 3 3 ([(SeenD.mk 1 1 1 0 (Sv.mk A36 1 ([(OpD.mk 2 ([97]) ([120]) ([]) ([]) 0)])) (Sv.mk A24 0 ([]))), (SeenD.mk 2 1 1 0 (Sv.mk none 0 ([])) (Sv.mk A128 0 ([]))), (SeenD.mk 3 1 1 2 (Sv.mk none 0 ([])) (Sv.mk A139 0 ([])))]) ([(SeenT.mk 1 1 1 0 (Ll.mk ([(OpD.mk 2 ([97]) ([120]) ([]) ([]) 0)])) (Ll.mk ([]))), (SeenT.mk 2 1 1 0 (Ll.mk ([])) (Ll.mk ([]))), (SeenT.mk 3 1 1 2 (Ll.mk ([])) (Ll.mk ([])))]) r155 r156 HP151 rfl (rr154 _ 4 _ rfl row_rds) (fun x9 h9 => (by rcases List.mem_cons.1 h9 with rfl | h9; exact ⟨(rr154 _ 2 _ rfl row_rds), (by first | exact ⟨Nat.le_of_ble_eq_true rfl, Nat.le_of_ble_eq_true rfl⟩ | omega), (rr154 _ 3 _ rfl row_rds), (by first | exact ⟨Nat.le_of_ble_eq_true rfl, Nat.le_of_ble_eq_true rfl⟩ | omega), (fun x8 h8 => (absurd h8 List.not_mem_nil))⟩; exact (by rcases List.mem_cons.1 h9 with rfl | h9; exact ⟨(fun _ _ => Rds.nil _ _ _), (by first | exact ⟨Nat.le_of_ble_eq_true rfl, Nat.le_of_ble_eq_true rfl⟩ | omega), (rr154 _ 7 _ rfl row_rds), (by first | exact ⟨Nat.le_of_ble_eq_true rfl, Nat.le_of_ble_eq_true rfl⟩ | omega), (fun x8 h8 => (absurd h8 List.not_mem_nil))⟩; exact (by rcases List.mem_cons.1 h9 with rfl | h9; exact ⟨(fun _ _ => Rds.nil _ _ _), (by first | exact ⟨Nat.le_of_ble_eq_true rfl, Nat.le_of_ble_eq_true rfl⟩ | omega), (rr154 _ 6 _ rfl row_rds), (by first | exact ⟨Nat.le_of_ble_eq_true rfl, Nat.le_of_ble_eq_true rfl⟩ | omega), (fun x8 h8 => (absurd h8 List.not_mem_nil))⟩; exact (absurd h9 List.not_mem_nil))))) rfl (by simp) (by first | omega | exact Nat.le_of_ble_eq_true rfl | (simp only [List.length_take]; omega)) hr157) ?_)
 rintro _ w158 ⟨rfl, HQ159⟩
 have H160 := bk153 _ _ HQ159
 refine ⟨.inr ⟨_, H160⟩, ?_⟩
 refine GX.take (v := .tuple #[.int .i64 r155, .int .i64 r156]) (rs := []) 5 rfl (by kernel_rfl) (fun _ _ => Yl.move rfl) (GX.take (v := .int .i64 r155) (rs := []) 6 rfl (by kernel_rfl) (fun _ _ => yk) (GX.take (v := .int .i64 r156) (rs := []) 7 rfl (by kernel_rfl) (fun _ _ => yk) (GX.take (v := .int .i64 r155) (rs := []) 8 rfl (by kernel_rfl) (fun _ _ => Yl.assign rfl) (GX.take (v := .int .i64 r156) (rs := []) 9 rfl (by kernel_rfl) (fun _ _ => Yl.assign rfl) (GX.done (by kernel_rfl) (Fin.then (Wp.seq ?_)))))))
 have H161 := H160.pk [0]
 refine Wp.region (Mz rfl (Kz (.bool (decide (r75 = (-1)))) (Mz rfl ?_)))
 by_cases h162 : r75 = (-1)
 refine gw (.int .i64 r76) (dT h162) (Yl.move rfl) (Gz (.bool (decide (r76 = 0))) (dT h162) (fw (.bool (decide (r76 = 0))) (Yl.pickT rfl (dT h162) rfl) (Mz rfl ?_)))
 by_cases h163 : r76 = 0
 refine gw (.slice A92 r86.length c93) (dT h163) (Yl.move rfl) (Gz (.int .i64 ((r86.length : Nat) : Int)) (dT h163) (Gz (.bool (decide (((r86.length : Nat) : Int) = 1))) (dT h163) (fw (.bool (decide (((r86.length : Nat) : Int) = 1))) (Yl.pickT rfl (dT h163) rfl) (Mz rfl ?_))))
 by_cases h164 : ((r86.length : Nat) : Int) = 1
 refine gw (.slice A92 r86.length c93) (dT h164) (Yl.move rfl) ?_
 obtain ⟨x165, hx166⟩ := rds_at (ls := r86) (i := 0) PairD.len (by decide) (H161.rds (i := 0) rfl) (by first | omega | (simp; done) | (simp; omega))
 refine gw (.pointer (some ⟨ab A92, ao A92 + 0 * 2, none⟩)) (dT h164) (Yl.indexAddr (El27) rfl rfl ((H161.rds (i := 0) rfl).addr (i := 0) (by omega)) (by omega)) (gw (.agg (PairD.cells x165).toArray) (dT h164) (Yl.load rfl (Lds.agg (cs := (PairD.cells x165)) Try.isAgg32 Try.sizeOf32 ((H161.rds (i := 0) rfl).elem PairD.len hx166 (by decide)))) (Gz (.agg #[.string ⟨List.toArray ([97])⟩, .string ⟨List.toArray ([120])⟩]) (dT h164) (gw (.bool (decide ((x165.xKey = ([97])) ∧ (x165.xValue = ([120]))))) (dT h164) (Yl.eqAgg rfl rfl (by kernel_rfl) rfl (Eqv.struct Try.underlying32 (by kernel_rfl) (EqF.dec (EqF.cons (u := .string ⟨List.toArray x165.xKey⟩) (v := .string ⟨List.toArray ([97])⟩) (by decide) (fun _ => by kernel_rfl) (fun _ => by kernel_rfl) (Eqv.string Try.underlying9) (EqF.cons (u := .string ⟨List.toArray x165.xValue⟩) (v := .string ⟨List.toArray ([120])⟩) (by decide) (fun _ => by kernel_rfl) (fun _ => by kernel_rfl) (Eqv.string Try.underlying9) (EqF.nil.up (Nat.zero_le _)))) ((congrArg (decide (x165.xKey = ([97])) && ·) and_dec1).trans and_dec)))) (fw (.bool (decide ((x165.xKey = ([97])) ∧ (x165.xValue = ([120]))))) (Yl.pickT rfl (dT h164) rfl) (Mz rfl ?_)))))
 by_cases h167 : (x165.xKey = ([97])) ∧ (x165.xValue = ([120]))
 refine gw (.int .i64 r87) (dT h167) (Yl.move rfl) (Gz (.bool (decide (r87 = 0))) (dT h167) (fw (.bool (decide (r87 = 0))) (Yl.pickT rfl (dT h167) rfl) (Mz rfl ?_)))
 by_cases h168 : r87 = 0
 refine gw (.int .i64 r101) (dT h168) (Yl.move rfl) (Gz (.bool (decide (r101 = 0))) (dT h168) (fw (.bool (decide (r101 = 0))) (Yl.pickT rfl (dT h168) rfl) (Mz rfl ?_)))
 by_cases h169 : r101 = 0
 refine gw (.int .i64 r102) (dT h169) (Yl.move rfl) (Gz (.bool (decide (r102 = 5))) (dT h169) (fw (.bool (decide (r102 = 5))) (Yl.pickT rfl (dT h169) rfl) (Mz rfl ?_)))
 by_cases h170 : r102 = 5
 refine gw (.int .i64 r116) (dT h170) (Yl.move rfl) (Gz (.bool (decide (r116 = 1))) (dT h170) (fw (.bool (decide (r116 = 1))) (Yl.pickT rfl (dT h170) rfl) (Mz rfl ?_)))
 by_cases h171 : r116 = 1
 refine gw (.int .i64 r117) (dT h171) (Yl.move rfl) (Gz (.bool (decide (r117 = 6))) (dT h171) (fw (.bool (decide (r117 = 6))) (Yl.pickT rfl (dT h171) rfl) (Mz rfl ?_)))
 by_cases h172 : r117 = 6
 refine gw (.int .i64 r155) (dT h172) (Yl.move rfl) (Gz (.bool (decide (r155 = 2))) (dT h172) (fw (.bool (decide (r155 = 2))) (Yl.pickT rfl (dT h172) rfl) (Mz rfl ?_)))
 by_cases h173 : r155 = 2
 refine gw (.int .i64 r156) (dT h173) (Yl.move rfl) (Gz (.bool (decide (r156 = 4))) (dT h173) (fw (.bool (decide (r156 = 4))) (Yl.pickT rfl (dT h173) rfl) (An rfl (rt (rs ?_)))))
 have H174 := H161.pk []
 obtain rfl : _ = decide (r156 = 4) := hr.symm.trans (et (bnd_of hr77) (et (bnd_of hr88) (et (bnd_of hr103) (et (bnd_of hr118) (et (bnd_of hr157) (et (ip h162) (et (ip h163) (et (ip h164) (et (bnd_of (getD_of hx166)) (et (ip h167) (et (ip h168) (et (ip h169) (et (ip h170) (et (ip h171) (et (ip h172) (ip h173))))))))))))))))
 exact ⟨rfl, H174⟩
 refine Sz (dF h173) (Sz (dF h173) (fw (.bool false) (Yl.pickF rfl (dF h173) rfl) (An rfl (rt (rs ?_)))))
 have H175 := H161.pk []
 obtain rfl : _ = false := hr.symm.trans (et (bnd_of hr77) (et (bnd_of hr88) (et (bnd_of hr103) (et (bnd_of hr118) (et (bnd_of hr157) (et (ip h162) (et (ip h163) (et (ip h164) (et (bnd_of (getD_of hx166)) (et (ip h167) (et (ip h168) (et (ip h169) (et (ip h170) (et (ip h171) (et (ip h172) (iN h173))))))))))))))))
 exact ⟨rfl, H175⟩
 refine Sz (dF h172) (Sz (dF h172) (fw (.bool false) (Yl.pickF rfl (dF h172) rfl) (Mz rfl (Sz rfl (Sz rfl (fw (.bool false) (Yl.pickF rfl rfl rfl) (An rfl (rt (rs ?_)))))))))
 have H176 := H161.pk []
 obtain rfl : _ = false := hr.symm.trans (et (bnd_of hr77) (et (bnd_of hr88) (et (bnd_of hr103) (et (bnd_of hr118) (et (bnd_of hr157) (et (ip h162) (et (ip h163) (et (ip h164) (et (bnd_of (getD_of hx166)) (et (ip h167) (et (ip h168) (et (ip h169) (et (ip h170) (et (ip h171) (iN h172)))))))))))))))
 exact ⟨rfl, H176⟩
 refine Sz (dF h171) (Sz (dF h171) (fw (.bool false) (Yl.pickF rfl (dF h171) rfl) (Mz rfl (Sz rfl (Sz rfl (fw (.bool false) (Yl.pickF rfl rfl rfl) (Mz rfl (Sz rfl (Sz rfl (fw (.bool false) (Yl.pickF rfl rfl rfl) (An rfl (rt (rs ?_)))))))))))))
 have H177 := H161.pk []
 obtain rfl : _ = false := hr.symm.trans (et (bnd_of hr77) (et (bnd_of hr88) (et (bnd_of hr103) (et (bnd_of hr118) (et (bnd_of hr157) (et (ip h162) (et (ip h163) (et (ip h164) (et (bnd_of (getD_of hx166)) (et (ip h167) (et (ip h168) (et (ip h169) (et (ip h170) (iN h171))))))))))))))
 exact ⟨rfl, H177⟩
 refine Sz (dF h170) (Sz (dF h170) (fw (.bool false) (Yl.pickF rfl (dF h170) rfl) (Mz rfl (Sz rfl (Sz rfl (fw (.bool false) (Yl.pickF rfl rfl rfl) (Mz rfl (Sz rfl (Sz rfl (fw (.bool false) (Yl.pickF rfl rfl rfl) (Mz rfl (Sz rfl (Sz rfl (fw (.bool false) (Yl.pickF rfl rfl rfl) (An rfl (rt (rs ?_)))))))))))))))))
 have H178 := H161.pk []
 obtain rfl : _ = false := hr.symm.trans (et (bnd_of hr77) (et (bnd_of hr88) (et (bnd_of hr103) (et (bnd_of hr118) (et (bnd_of hr157) (et (ip h162) (et (ip h163) (et (ip h164) (et (bnd_of (getD_of hx166)) (et (ip h167) (et (ip h168) (et (ip h169) (iN h170)))))))))))))
 exact ⟨rfl, H178⟩
 refine Sz (dF h169) (Sz (dF h169) (fw (.bool false) (Yl.pickF rfl (dF h169) rfl) (Mz rfl (Sz rfl (Sz rfl (fw (.bool false) (Yl.pickF rfl rfl rfl) (Mz rfl (Sz rfl (Sz rfl (fw (.bool false) (Yl.pickF rfl rfl rfl) (Mz rfl (Sz rfl (Sz rfl (fw (.bool false) (Yl.pickF rfl rfl rfl) (Mz rfl (Sz rfl (Sz rfl (fw (.bool false) (Yl.pickF rfl rfl rfl) (An rfl (rt (rs ?_)))))))))))))))))))))
 have H179 := H161.pk []
 obtain rfl : _ = false := hr.symm.trans (et (bnd_of hr77) (et (bnd_of hr88) (et (bnd_of hr103) (et (bnd_of hr118) (et (bnd_of hr157) (et (ip h162) (et (ip h163) (et (ip h164) (et (bnd_of (getD_of hx166)) (et (ip h167) (et (ip h168) (iN h169))))))))))))
 exact ⟨rfl, H179⟩
 refine Sz (dF h168) (Sz (dF h168) (fw (.bool false) (Yl.pickF rfl (dF h168) rfl) (Mz rfl (Sz rfl (Sz rfl (fw (.bool false) (Yl.pickF rfl rfl rfl) (Mz rfl (Sz rfl (Sz rfl (fw (.bool false) (Yl.pickF rfl rfl rfl) (Mz rfl (Sz rfl (Sz rfl (fw (.bool false) (Yl.pickF rfl rfl rfl) (Mz rfl (Sz rfl (Sz rfl (fw (.bool false) (Yl.pickF rfl rfl rfl) (Mz rfl (Sz rfl (Sz rfl (fw (.bool false) (Yl.pickF rfl rfl rfl) (An rfl (rt (rs ?_)))))))))))))))))))))))))
 have H180 := H161.pk []
 obtain rfl : _ = false := hr.symm.trans (et (bnd_of hr77) (et (bnd_of hr88) (et (bnd_of hr103) (et (bnd_of hr118) (et (bnd_of hr157) (et (ip h162) (et (ip h163) (et (ip h164) (et (bnd_of (getD_of hx166)) (et (ip h167) (iN h168)))))))))))
 exact ⟨rfl, H180⟩
 refine Sz (dF h167) (Sz (dF h167) (fw (.bool false) (Yl.pickF rfl (dF h167) rfl) (Mz rfl (Sz rfl (Sz rfl (fw (.bool false) (Yl.pickF rfl rfl rfl) (Mz rfl (Sz rfl (Sz rfl (fw (.bool false) (Yl.pickF rfl rfl rfl) (Mz rfl (Sz rfl (Sz rfl (fw (.bool false) (Yl.pickF rfl rfl rfl) (Mz rfl (Sz rfl (Sz rfl (fw (.bool false) (Yl.pickF rfl rfl rfl) (Mz rfl (Sz rfl (Sz rfl (fw (.bool false) (Yl.pickF rfl rfl rfl) (Mz rfl (Sz rfl (Sz rfl (fw (.bool false) (Yl.pickF rfl rfl rfl) (An rfl (rt (rs ?_)))))))))))))))))))))))))))))
 have H181 := H161.pk []
 obtain rfl : _ = false := hr.symm.trans (et (bnd_of hr77) (et (bnd_of hr88) (et (bnd_of hr103) (et (bnd_of hr118) (et (bnd_of hr157) (et (ip h162) (et (ip h163) (et (ip h164) (et (bnd_of (getD_of hx166)) (iN h167))))))))))
 exact ⟨rfl, H181⟩
 refine Sz (dF h164) (Sz (dF h164) (Sz (dF h164) (Sz (dF h164) (Sz (dF h164) (fw (.bool false) (Yl.pickF rfl (dF h164) rfl) (Mz rfl (Sz rfl (Sz rfl (fw (.bool false) (Yl.pickF rfl rfl rfl) (Mz rfl (Sz rfl (Sz rfl (fw (.bool false) (Yl.pickF rfl rfl rfl) (Mz rfl (Sz rfl (Sz rfl (fw (.bool false) (Yl.pickF rfl rfl rfl) (Mz rfl (Sz rfl (Sz rfl (fw (.bool false) (Yl.pickF rfl rfl rfl) (Mz rfl (Sz rfl (Sz rfl (fw (.bool false) (Yl.pickF rfl rfl rfl) (Mz rfl (Sz rfl (Sz rfl (fw (.bool false) (Yl.pickF rfl rfl rfl) (Mz rfl (Sz rfl (Sz rfl (fw (.bool false) (Yl.pickF rfl rfl rfl) (An rfl (rt (rs ?_))))))))))))))))))))))))))))))))))))
 have H182 := H161.pk []
 obtain rfl : _ = false := hr.symm.trans (et (bnd_of hr77) (et (bnd_of hr88) (et (bnd_of hr103) (et (bnd_of hr118) (et (bnd_of hr157) (et (ip h162) (et (ip h163) (iN h164))))))))
 exact ⟨rfl, H182⟩
 refine Sz (dF h163) (Sz (dF h163) (Sz (dF h163) (fw (.bool false) (Yl.pickF rfl (dF h163) rfl) (Mz rfl (Sz rfl (Sz rfl (Sz rfl (Sz rfl (Sz rfl (fw (.bool false) (Yl.pickF rfl rfl rfl) (Mz rfl (Sz rfl (Sz rfl (fw (.bool false) (Yl.pickF rfl rfl rfl) (Mz rfl (Sz rfl (Sz rfl (fw (.bool false) (Yl.pickF rfl rfl rfl) (Mz rfl (Sz rfl (Sz rfl (fw (.bool false) (Yl.pickF rfl rfl rfl) (Mz rfl (Sz rfl (Sz rfl (fw (.bool false) (Yl.pickF rfl rfl rfl) (Mz rfl (Sz rfl (Sz rfl (fw (.bool false) (Yl.pickF rfl rfl rfl) (Mz rfl (Sz rfl (Sz rfl (fw (.bool false) (Yl.pickF rfl rfl rfl) (Mz rfl (Sz rfl (Sz rfl (fw (.bool false) (Yl.pickF rfl rfl rfl) (Az rfl ?_)))))))))))))))))))))))))))))))))))))))
 refine nt (rt (rs ?_))
 have H183 := H161.pk []
 obtain rfl : _ = false := hr.symm.trans (et (bnd_of hr77) (et (bnd_of hr88) (et (bnd_of hr103) (et (bnd_of hr118) (et (bnd_of hr157) (et (ip h162) (iN h163)))))))
 exact ⟨rfl, H183⟩
 refine Sz (dF h162) (Sz (dF h162) (fw (.bool false) (Yl.pickF rfl (dF h162) rfl) (Mz rfl (Sz rfl (Sz rfl (Sz rfl (fw (.bool false) (Yl.pickF rfl rfl rfl) (Mz rfl (Sz rfl (Sz rfl (Sz rfl (Sz rfl (Sz rfl (fw (.bool false) (Yl.pickF rfl rfl rfl) (Mz rfl (Sz rfl (Sz rfl (fw (.bool false) (Yl.pickF rfl rfl rfl) (Mz rfl (Sz rfl (Sz rfl (fw (.bool false) (Yl.pickF rfl rfl rfl) (Mz rfl (Sz rfl (Sz rfl (fw (.bool false) (Yl.pickF rfl rfl rfl) (Mz rfl (Sz rfl (Sz rfl (fw (.bool false) (Yl.pickF rfl rfl rfl) (Mz rfl (Sz rfl (Sz rfl (fw (.bool false) (Yl.pickF rfl rfl rfl) (Mz rfl (Sz rfl (Sz rfl (fw (.bool false) (Yl.pickF rfl rfl rfl) (Mz rfl ?_)))))))))))))))))))))))))))))))))))))))
 refine Sz rfl (Sz rfl (fw (.bool false) (Yl.pickF rfl rfl rfl) (An rfl (rt (rs ?_)))))
 have H184 := H161.pk []
 obtain rfl : _ = false := hr.symm.trans (et (bnd_of hr77) (et (bnd_of hr88) (et (bnd_of hr103) (et (bnd_of hr118) (et (bnd_of hr157) (iN h162))))))
 exact ⟨rfl, H184⟩
end Go.Proofs.Ytjcdgofegkngpaa
