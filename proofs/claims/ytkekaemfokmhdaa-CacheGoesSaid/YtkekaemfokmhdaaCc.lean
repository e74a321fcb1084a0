/-
 cache: the chapter's examples.
-/
import Derived.Test.YtkekaemfokmhdaaCb
namespace Go.Proofs.Ytkekaemfokmhdaa
open Go.RowKit
set_option linter.unusedVariables false
set_option linter.unusedSectionVars false
set_option linter.unusedSimpArgs false

def w10_live  : Bool :=
 bnd (r10_NewBack 5 (-1)) fun yr26 => bnd (cache_Cache_Pin (CacheT.mk (Ll.mk (List.replicate 2 (placeT.mk false 0 (Ll.mk ([])) 0 false false 0))) 0) 1 yr26) fun yr50 => bnd (cache_Cache_Pin yr50.2.2.1 2 yr50.2.2.2) fun yr77 => bnd (cache_Cache_Pin yr77.2.2.1 3 yr77.2.2.2) fun yr104 => bnd (cache_Cache_Unpin yr104.2.2.1 1 yr104.2.2.2) fun yr131 => bnd (cache_Cache_Unpin yr131.2.1 2 yr131.2.2) fun yr153 => bnd (cache_Cache_Put yr153.2.1 1 ([]) 0 yr153.2.2) fun yr175 => bnd (cache_Cache_Pin yr175.2.1 3 yr175.2.2) fun yr197 => if yr50.1 = ([98]) then if yr50.2.1 = 0 then if yr104.2.1 = 100 then if yr175.1 = 5 then if yr197.1 = ([100]) then if yr197.2.1 = 0 then bnd (cache_Cache_Has yr197.2.2.1 1 yr197.2.2.2) fun yr231 => if yr231 = true then false else bnd (cache_Cache_Has yr197.2.2.1 2 yr197.2.2.2) fun yr244 => if yr244 = true then bnd (cache_Cache_Has yr197.2.2.1 3 yr197.2.2.2) fun yr256 => yr256 else false else false else false else false else false else false else false

set_option maxRecDepth 100000 in
theorem w10_live_ok (w : World) (D : Nat → Prop)  (r0 : Bool) (H : Own w D w [])  (hr : w10_live = r0) :
    Calls Try.prog 6 #[] w (Ret fun v w' => v = .bool r0 ∧ Own w D w' []) := by
 refine Calls.body (args := []) Try.func6 rfl rfl rfl ?_
 show Wp _ _ _ [] _ _
 refine sr (Ar rfl ?_)
 obtain ⟨r26, hr27⟩ : ∃ q, r10_NewBack 5 (-1) = q := ⟨_, rfl⟩
 obtain ⟨D21, HP22, ro23, bk24, rr25⟩ := Own.enter0 H
 refine cl Try.call7 (r10_NewBack_ok _ _ 5 (-1) r26 HP22 (by omega) hr27) ?_
 rintro _ w28 ⟨g31, rfl, HQ29, hk32⟩
 have H30 := bk24 _ _ HQ29
 replace hk32 : r26.xCalls.length = 0 := hk32
 refine Ar rfl (Mz rfl (Kz (.iface 24 (.pointer (some ⟨g31, 0, none⟩))) ?_))
 refine WL.do rfl (Do.call Try.call8 rfl ?_ (fun _ _ k => k))
 refine Calls.body (args := [.int .i64 2, .iface 24 (.pointer (some ⟨g31, 0, none⟩))]) Try.func8 rfl rfl rfl ?_
 show Wp _ _ _ [(0, .int .i64 2), (1, .iface 24 (.pointer (some ⟨g31, 0, none⟩)))] _ _
 refine sr (Az rfl (An rfl (Wp.seq (sr (Mz rfl (Kz (.bool false) (Mz rfl (gw (.int .i64 2) rfl (Yl.move rfl) (Gz (.bool false) rfl (fw (.bool false) (Yl.pickF rfl rfl rfl) (Mz rfl (gw (.iface 24 (.pointer (some ⟨g31, 0, none⟩))) rfl (Yl.move rfl) (Gz (.bool false) rfl (fw (.bool false) (Yl.pickF rfl rfl rfl) (nt (jf (sk (sr (Mz rfl (Mz rfl ?_))))))))))))))))))))
 refine WL.do rfl (Do.makeE (x0 := (placeD.mk false 0 (Sv.mk none 0 ([])) 0 false false 0)) (z := .agg #[.bool false, .int .i64 0, .slice none 0 0, .int .i64 0, .bool false, .bool false, .int .u64 0]) (k := 2) (size := 7) (bytes := 64) placeD.len (by decide) rfl Try.underlying65 (by kernel_rfl) H30 rfl rfl (by omega) (by unfold maxLen; omega) ?_)
 intro A33 w34 H35
 have H36 : Own w D w34 [sepL (List.flatMap placeD.own (List.replicate 2 (placeD.mk false 0 (Sv.mk none 0 ([])) 0 false false 0))), row A33 2 2 (List.flatMap placeD.cells (List.replicate 2 (placeD.mk false 0 (Sv.mk none 0 ([])) 0 false false 0))) 75 7, BackO g31 r26] := H35.free (free_rep (free_one (row_nil 5 1)))
 have hl37 : List.length (List.replicate 2 (placeD.mk false 0 (Sv.mk none 0 ([])) 0 false false 0)) = 2 := List.length_replicate
 have hl38 : List.length (List.replicate 2 (placeT.mk false 0 (Ll.mk ([])) 0 false false 0)) = 2 := List.length_replicate
 refine Kz (.agg #[.iface 24 (.pointer (some ⟨g31, 0, none⟩)), .slice A33 2 2, .int .i64 0]) ?_
 refine npw [.iface 24 (.pointer (some ⟨g31, 0, none⟩)), .slice A33 2 2, .int .i64 0] 67 H36 ?_
 intro g39 w40 H41
 refine Az rfl (An rfl (rt (Fin.res (res2 rfl rfl rfl) (Mz rfl (Kz (.pointer (some ⟨g39, 0, none⟩)) (Kz (.int .i64 0) (Az rfl (An rfl (Wp.seq (sr (Mz rfl (Kz (.bool false) (Mz rfl (gw (.int .i64 0) rfl (Yl.move rfl) (Gz (.bool false) rfl (fw (.bool false) (Yl.pickF rfl rfl rfl) (nt (jf (sk (sr (Mz rfl ?_)))))))))))))))))))))
 have hn42 : 2 = List.length (List.replicate 2 (placeT.mk false 0 (Ll.mk ([])) 0 false false 0)) := by first | omega | (simp only [List.length_set]; done) | (simp only [List.length_set, List.length_append, List.length_cons, List.length_nil, List.length_take, List.length_drop, List.length_replicate]; omega)
 have H43 : Own w D w40 [blk g39 [.iface 24 (.pointer (some ⟨g31, 0, none⟩)), .slice A33 (List.length (List.replicate 2 (placeT.mk false 0 (Ll.mk ([])) 0 false false 0))) 2, .int .i64 0] 67, sepL (List.flatMap placeD.own (List.replicate 2 (placeD.mk false 0 (Sv.mk none 0 ([])) 0 false false 0))), row A33 (List.length (List.replicate 2 (placeT.mk false 0 (Ll.mk ([])) 0 false false 0))) 2 (List.flatMap placeD.cells (List.replicate 2 (placeD.mk false 0 (Sv.mk none 0 ([])) 0 false false 0))) 75 7, BackO g31 r26] := by rw [← hn42]; exact H41
 have H44 := H43.pk [0, 2, 1, 3]
 obtain ⟨⟨r50, r51, r52, r53⟩, hr54⟩ : ∃ q : (List UInt8) × Int × CacheT × BackT, cache_Cache_Pin (CacheT.mk (Ll.mk (List.replicate 2 (placeT.mk false 0 (Ll.mk ([])) 0 false false 0))) 0) 1 r26 = q := ⟨_, rfl⟩
 obtain ⟨D45, HP46, ro47, bk48, rr49⟩ := Own.enter (L1 := [blk g39 [.iface 24 (.pointer (some ⟨g31, 0, none⟩)), .slice A33 (List.length (List.replicate 2 (placeT.mk false 0 (Ll.mk ([])) 0 false false 0))) 2, .int .i64 0] 67, row A33 (List.length (List.replicate 2 (placeT.mk false 0 (Ll.mk ([])) 0 false false 0))) 2 (List.flatMap placeD.cells (List.replicate 2 (placeD.mk false 0 (Sv.mk none 0 ([])) 0 false false 0))) 75 7, sepL (List.flatMap placeD.own (List.replicate 2 (placeD.mk false 0 (Sv.mk none 0 ([])) 0 false false 0))), BackO g31 r26]) (L2 := []) H44
 refine cl Try.call10 (cache_Cache_Pin_ok _ _ g39 (CacheT.mk (Ll.mk (List.replicate 2 (placeT.mk false 0 (Ll.mk ([])) 0 false false 0))) 0) A33 2 (List.replicate 2 (placeD.mk false 0 (Sv.mk none 0 ([])) 0 false false 0)) 1 g31 r26 r50 r51 r52 r53 HP46 (List.map_replicate (f := placeD.abs)) (by first | omega | (dsimp only; omega) | (simp only [List.length_set] <;> omega)) (by first | omega | (dsimp only; omega) | (simp only [List.length_set] <;> omega)) (by first | assumption | exact bs_rep (Nat.zero_le _)) (by first | omega | (dsimp only; omega)) hr54) ?_
 rintro _ w55 ⟨A58, c59, A60, c61, d62, rfl, HQ56, hd63, hk64, hk65, hk66, hk67⟩
 have H57 := bk48 _ _ HQ56
 have hl68 := abs_len hd63
 have hb69 := H57.rowC (i := 0) rfl
 have hb70 := H57.rowC (i := 2) rfl
 replace hk64 : r52.xplaces.ls.length = List.length (List.replicate 2 (placeT.mk false 0 (Ll.mk ([])) 0 false false 0)) := hk64
 replace hk65 : BsOk r52.xplaces.ls := hk65
 replace hk66 : r53.xCalls.length ≤ r26.xCalls.length + 3 := hk66
 replace hk67 : 0 ≤ r52.xhand ∧ r52.xhand < ((r52.xplaces.ls.length : Nat) : Int) := hk67
 refine Mz rfl (Kz (.slice A58 r50.length c59) (Kz (.int .i64 r51) (Az rfl (Ar rfl (Mz rfl ?_)))))
 have H71 := H57.pk [1, 2, 3, 4, 0]
 obtain ⟨⟨r77, r78, r79, r80⟩, hr81⟩ : ∃ q : (List UInt8) × Int × CacheT × BackT, cache_Cache_Pin r52 2 r53 = q := ⟨_, rfl⟩
 obtain ⟨D72, HP73, ro74, bk75, rr76⟩ := Own.enter (L1 := [blk g39 [.iface 24 (.pointer (some ⟨g31, 0, none⟩)), .slice A60 r52.xplaces.ls.length c61, .int .i64 r52.xhand] 67, row A60 r52.xplaces.ls.length c61 (List.flatMap placeD.cells d62) 75 7, sepL (List.flatMap placeD.own d62), BackO g31 r53]) (L2 := [row A58 r50.length c59 (List.flatMap eB r50) 5 1]) H71
 refine cl Try.call10 (cache_Cache_Pin_ok _ _ g39 r52 A60 c61 d62 2 g31 r53 r77 r78 r79 r80 HP73 hd63 (by first | omega | (dsimp only; omega) | (simp only [List.length_set] <;> omega)) (by first | omega | (dsimp only; omega) | (simp only [List.length_set] <;> omega)) (by first | assumption | exact bs_rep (Nat.zero_le _)) (by first | omega | (dsimp only; omega)) hr81) ?_
 rintro _ w82 ⟨A85, c86, A87, c88, d89, rfl, HQ83, hd90, hk91, hk92, hk93, hk94⟩
 have H84 := bk75 _ _ HQ83
 have hl95 := abs_len hd90
 have hb96 := H84.rowC (i := 0) rfl
 have hb97 := H84.rowC (i := 2) rfl
 replace hk91 : r79.xplaces.ls.length = r52.xplaces.ls.length := hk91
 replace hk92 : BsOk r79.xplaces.ls := hk92
 replace hk93 : r80.xCalls.length ≤ r53.xCalls.length + 3 := hk93
 replace hk94 : 0 ≤ r79.xhand ∧ r79.xhand < ((r79.xplaces.ls.length : Nat) : Int) := hk94
 refine nt (Wp.seq ?_)
 have H98 := H84.pk [1, 2, 3, 4, 5]
 refine Wp.region (Mz rfl ?_)
 obtain ⟨⟨r104, r105, r106, r107⟩, hr108⟩ : ∃ q : (List UInt8) × Int × CacheT × BackT, cache_Cache_Pin r79 3 r80 = q := ⟨_, rfl⟩
 obtain ⟨D99, HP100, ro101, bk102, rr103⟩ := Own.enter (L1 := [blk g39 [.iface 24 (.pointer (some ⟨g31, 0, none⟩)), .slice A87 r79.xplaces.ls.length c88, .int .i64 r79.xhand] 67, row A87 r79.xplaces.ls.length c88 (List.flatMap placeD.cells d89) 75 7, sepL (List.flatMap placeD.own d89), BackO g31 r80]) (L2 := [row A58 r50.length c59 (List.flatMap eB r50) 5 1]) H98
 refine cl Try.call10 (cache_Cache_Pin_ok _ _ g39 r79 A87 c88 d89 3 g31 r80 r104 r105 r106 r107 HP100 hd90 (by first | omega | (dsimp only; omega) | (simp only [List.length_set] <;> omega)) (by first | omega | (dsimp only; omega) | (simp only [List.length_set] <;> omega)) (by first | assumption | exact bs_rep (Nat.zero_le _)) (by first | omega | (dsimp only; omega)) hr108) ?_
 rintro _ w109 ⟨A112, c113, A114, c115, d116, rfl, HQ110, hd117, hk118, hk119, hk120, hk121⟩
 have H111 := bk102 _ _ HQ110
 have hl122 := abs_len hd117
 have hb123 := H111.rowC (i := 0) rfl
 have hb124 := H111.rowC (i := 2) rfl
 replace hk118 : r106.xplaces.ls.length = r79.xplaces.ls.length := hk118
 replace hk119 : BsOk r106.xplaces.ls := hk119
 replace hk120 : r107.xCalls.length ≤ r80.xCalls.length + 3 := hk120
 replace hk121 : 0 ≤ r106.xhand ∧ r106.xhand < ((r106.xplaces.ls.length : Nat) : Int) := hk121
 refine Mz rfl (Kz (.slice A112 r104.length c113) (Kz (.int .i64 r105) (Az rfl (An rfl (Wp.seq ?_)))))
 have H125 := H111.pk [1, 2, 3, 4, 5]
 refine Wp.region (Mz rfl ?_)
 obtain ⟨⟨r131, r132, r133⟩, hr134⟩ : ∃ q : Int × CacheT × BackT, cache_Cache_Unpin r106 1 r107 = q := ⟨_, rfl⟩
 obtain ⟨D126, HP127, ro128, bk129, rr130⟩ := Own.enter (L1 := [blk g39 [.iface 24 (.pointer (some ⟨g31, 0, none⟩)), .slice A114 r106.xplaces.ls.length c115, .int .i64 r106.xhand] 67, row A114 r106.xplaces.ls.length c115 (List.flatMap placeD.cells d116) 75 7, sepL (List.flatMap placeD.own d116), BackO g31 r107]) (L2 := [row A58 r50.length c59 (List.flatMap eB r50) 5 1]) H125
 refine cl Try.call12 (cache_Cache_Unpin_ok _ _ g39 r106 A114 c115 d116 1 g31 r107 r131 r132 r133 HP127 hd117 (by first | omega | (dsimp only; omega) | (simp only [List.length_set] <;> omega)) (by first | omega | (dsimp only; omega) | (simp only [List.length_set] <;> omega)) (by first | assumption | exact bs_rep (Nat.zero_le _)) (by first | omega | (dsimp only; omega)) hr134) ?_
 rintro _ w135 ⟨A138, c139, d140, rfl, HQ136, hd141, hk142, hk143, hk144, hk145⟩
 have H137 := bk129 _ _ HQ136
 have hl146 := abs_len hd141
 have hb147 := H137.rowC (i := 1) rfl
 replace hk142 : r132.xplaces.ls.length = r106.xplaces.ls.length := hk142
 replace hk143 : BsOk r132.xplaces.ls := hk143
 replace hk144 : r133.xCalls.length ≤ r107.xCalls.length + 0 := hk144
 replace hk145 : 0 ≤ r132.xhand ∧ r132.xhand < ((r132.xplaces.ls.length : Nat) : Int) := hk145
 refine ns (Mz rfl ?_)
 obtain ⟨⟨r153, r154, r155⟩, hr156⟩ : ∃ q : Int × CacheT × BackT, cache_Cache_Unpin r132 2 r133 = q := ⟨_, rfl⟩
 obtain ⟨D148, HP149, ro150, bk151, rr152⟩ := Own.enter (L1 := [blk g39 [.iface 24 (.pointer (some ⟨g31, 0, none⟩)), .slice A138 r132.xplaces.ls.length c139, .int .i64 r132.xhand] 67, row A138 r132.xplaces.ls.length c139 (List.flatMap placeD.cells d140) 75 7, sepL (List.flatMap placeD.own d140), BackO g31 r133]) (L2 := [row A58 r50.length c59 (List.flatMap eB r50) 5 1]) H137
 refine cl Try.call12 (cache_Cache_Unpin_ok _ _ g39 r132 A138 c139 d140 2 g31 r133 r153 r154 r155 HP149 hd141 (by first | omega | (dsimp only; omega) | (simp only [List.length_set] <;> omega)) (by first | omega | (dsimp only; omega) | (simp only [List.length_set] <;> omega)) (by first | assumption | exact bs_rep (Nat.zero_le _)) (by first | omega | (dsimp only; omega)) hr156) ?_
 rintro _ w157 ⟨A160, c161, d162, rfl, HQ158, hd163, hk164, hk165, hk166, hk167⟩
 have H159 := bk151 _ _ HQ158
 have hl168 := abs_len hd163
 have hb169 := H159.rowC (i := 1) rfl
 replace hk164 : r154.xplaces.ls.length = r132.xplaces.ls.length := hk164
 replace hk165 : BsOk r154.xplaces.ls := hk165
 replace hk166 : r155.xCalls.length ≤ r133.xCalls.length + 0 := hk166
 replace hk167 : 0 ≤ r154.xhand ∧ r154.xhand < ((r154.xplaces.ls.length : Nat) : Int) := hk167
 refine ns (Mz rfl ?_)
 obtain ⟨⟨r175, r176, r177⟩, hr178⟩ : ∃ q : Int × CacheT × BackT, cache_Cache_Put r154 1 ([]) 0 r155 = q := ⟨_, rfl⟩
 obtain ⟨D170, HP171, ro172, bk173, rr174⟩ := Own.enter (L1 := [blk g39 [.iface 24 (.pointer (some ⟨g31, 0, none⟩)), .slice A160 r154.xplaces.ls.length c161, .int .i64 r154.xhand] 67, row A160 r154.xplaces.ls.length c161 (List.flatMap placeD.cells d162) 75 7, sepL (List.flatMap placeD.own d162), BackO g31 r155]) (L2 := [row A58 r50.length c59 (List.flatMap eB r50) 5 1]) H159
 refine cl Try.call14 (cache_Cache_Put_ok _ _ g39 r154 A160 c161 d162 1 none 0 0 ([]) 0 g31 r155 r175 r176 r177 HP171 hd163 (fun _ _ => Rds.nil _ _ _) rfl (by simp) (by first | omega | (dsimp only; omega) | (simp only [List.length_set] <;> omega)) (by first | omega | (dsimp only; omega) | (simp only [List.length_set] <;> omega)) (by first | assumption | exact bs_rep (Nat.zero_le _)) (by first | omega | (dsimp only; omega)) (by first | omega | assumption | exact Nat.zero_le _) hr178) ?_
 rintro _ w179 ⟨A182, c183, d184, rfl, HQ180, hd185, hk186, hk187, hk188, hk189⟩
 have H181 := bk173 _ _ HQ180
 have hl190 := abs_len hd185
 have hb191 := H181.rowC (i := 1) rfl
 replace hk186 : r176.xplaces.ls.length = r154.xplaces.ls.length := hk186
 replace hk187 : BsOk r176.xplaces.ls := hk187
 replace hk188 : r177.xCalls.length ≤ r155.xCalls.length + 0 := hk188
 replace hk189 : 0 ≤ r176.xhand ∧ r176.xhand < ((r176.xplaces.ls.length : Nat) : Int) := hk189
 refine Ar rfl (Mz rfl ?_)
 obtain ⟨⟨r197, r198, r199, r200⟩, hr201⟩ : ∃ q : (List UInt8) × Int × CacheT × BackT, cache_Cache_Pin r176 3 r177 = q := ⟨_, rfl⟩
 obtain ⟨D192, HP193, ro194, bk195, rr196⟩ := Own.enter (L1 := [blk g39 [.iface 24 (.pointer (some ⟨g31, 0, none⟩)), .slice A182 r176.xplaces.ls.length c183, .int .i64 r176.xhand] 67, row A182 r176.xplaces.ls.length c183 (List.flatMap placeD.cells d184) 75 7, sepL (List.flatMap placeD.own d184), BackO g31 r177]) (L2 := [row A58 r50.length c59 (List.flatMap eB r50) 5 1]) H181
 refine cl Try.call10 (cache_Cache_Pin_ok _ _ g39 r176 A182 c183 d184 3 g31 r177 r197 r198 r199 r200 HP193 hd185 (by first | omega | (dsimp only; omega) | (simp only [List.length_set] <;> omega)) (by first | omega | (dsimp only; omega) | (simp only [List.length_set] <;> omega)) (by first | assumption | exact bs_rep (Nat.zero_le _)) (by first | omega | (dsimp only; omega)) hr201) ?_
 rintro _ w202 ⟨A205, c206, A207, c208, d209, rfl, HQ203, hd210, hk211, hk212, hk213, hk214⟩
 have H204 := bk195 _ _ HQ203
 have hl215 := abs_len hd210
 have hb216 := H204.rowC (i := 0) rfl
 have hb217 := H204.rowC (i := 2) rfl
 replace hk211 : r199.xplaces.ls.length = r176.xplaces.ls.length := hk211
 replace hk212 : BsOk r199.xplaces.ls := hk212
 replace hk213 : r200.xCalls.length ≤ r177.xCalls.length + 3 := hk213
 replace hk214 : 0 ≤ r199.xhand ∧ r199.xhand < ((r199.xplaces.ls.length : Nat) : Int) := hk214
 refine Mz rfl (Kz (.slice A205 r197.length c206) (Kz (.int .i64 r198) (Az rfl (Ar rfl (Mz rfl (fw (.string ⟨List.toArray r50⟩) (Yl.toStringE (l := r50) Try.underlying36 Try.underlying5 Try.underlying9 (H204.rds (i := 5) rfl) rfl) (fw (.bool (decide (r50 = ([98])))) (Yl.strEq rfl rfl) (Mz rfl ?_))))))))
 by_cases h218 : r50 = ([98])
 refine gw (.int .i64 r51) (dT h218) (Yl.move rfl) (Gz (.bool (decide (r51 = 0))) (dT h218) (fw (.bool (decide (r51 = 0))) (Yl.pickT rfl (dT h218) rfl) (Mz rfl ?_)))
 by_cases h219 : r51 = 0
 refine gw (.int .i64 r105) (dT h219) (Yl.move rfl) (Gz (.bool (decide (r105 = 100))) (dT h219) (fw (.bool (decide (r105 = 100))) (Yl.pickT rfl (dT h219) rfl) (Mz rfl ?_)))
 by_cases h220 : r105 = 100
 refine gw (.int .i64 r175) (dT h220) (Yl.move rfl) (Gz (.bool (decide (r175 = 5))) (dT h220) (fw (.bool (decide (r175 = 5))) (Yl.pickT rfl (dT h220) rfl) (Mz rfl ?_)))
 by_cases h221 : r175 = 5
 refine gw (.slice A205 r197.length c206) (dT h221) (Yl.move rfl) (gw (.string ⟨List.toArray r197⟩) (dT h221) (Yl.toStringE (l := r197) Try.underlying36 Try.underlying5 Try.underlying9 (H204.rds (i := 0) rfl) rfl) (gw (.bool (decide (r197 = ([100])))) (dT h221) (Yl.strEq rfl rfl) (fw (.bool (decide (r197 = ([100])))) (Yl.pickT rfl (dT h221) rfl) (Mz rfl ?_))))
 by_cases h222 : r197 = ([100])
 refine gw (.int .i64 r198) (dT h222) (Yl.move rfl) (Gz (.bool (decide (r198 = 0))) (dT h222) (fw (.bool (decide (r198 = 0))) (Yl.pickT rfl (dT h222) rfl) (Mz rfl ?_)))
 by_cases h223 : r198 = 0
 refine gw (.pointer (some ⟨g39, 0, none⟩)) (dT h223) (Yl.move rfl) ?_
 have H224 := H204.pk [1, 4, 0, 2, 3, 5]
 have hb230 := H224.rowC (i := 3) rfl
 obtain ⟨r231, hr232⟩ : ∃ q, cache_Cache_Has r199 1 r200 = q := ⟨_, rfl⟩
 obtain ⟨D225, HP226, ro227, bk228, rr229⟩ := Own.enter2 H224
 refine clG (decide_eq_true h223) Try.call20 (cache_Cache_Has_ok _ _ g39 r199 A207 c208 d209 1 g31 r200 r231 HP226 hd210 (rr229 _ 1 _ rfl row_rds) (show r199.xplaces.ls.length ≤ c208 ∧ r199.xplaces.ls.length ≤ 9223372036854775807 from by omega) (fun x9 h9 => ⟨rr229 _ 2 _ rfl (sepL_mem (List.mem_flatMap.2 ⟨x9, h9, .head _⟩) row_rds), own_rd (φ := fun _ => _) H224 (i := 4) rfl (sepL_mem (List.mem_flatMap.2 ⟨x9, h9, .head _⟩) row_le2)⟩) (by first | omega | (dsimp only; omega) | (simp only [List.length_set] <;> omega)) hr232) ?_
 rintro _ w233 ⟨rfl, HQ234⟩
 have H235 := bk228 _ _ HQ234
 refine Gz (.bool (!r231)) (dT h223) (fw (.bool (!r231)) (Yl.pickT rfl (dT h223) rfl) (Mz rfl ?_))
 rcases Bool.eq_false_or_eq_true (r231) with h236 | h236
 refine Sz (cn h236) (Sz (cn h236) (fw (.bool false) (Yl.pickF rfl (cn h236) rfl) (Mz rfl (Sz rfl (Sz rfl (fw (.bool false) (Yl.pickF rfl rfl rfl) (An rfl (rt (rs ?_)))))))))
 have H237 := H235.pk []
 obtain rfl : _ = false := hr.symm.trans (et (bnd_of hr27) (et (bnd_of hr54) (et (bnd_of hr81) (et (bnd_of hr108) (et (bnd_of hr134) (et (bnd_of hr156) (et (bnd_of hr178) (et (bnd_of hr201) (et (ip h218) (et (ip h219) (et (ip h220) (et (ip h221) (et (ip h222) (et (ip h223) (et (bnd_of hr232) (ip h236))))))))))))))))
 exact ⟨(by first | rfl | (rw [← hn42]; done) | (rw [← hn42]; rfl)), H237⟩
 refine gw (.pointer (some ⟨g39, 0, none⟩)) (cn h236) (Yl.move rfl) ?_
 have hb243 := H235.rowC (i := 3) rfl
 obtain ⟨r244, hr245⟩ : ∃ q, cache_Cache_Has r199 2 r200 = q := ⟨_, rfl⟩
 obtain ⟨D238, HP239, ro240, bk241, rr242⟩ := Own.enter2 H235
 refine clG (cn h236) Try.call20 (cache_Cache_Has_ok _ _ g39 r199 A207 c208 d209 2 g31 r200 r244 HP239 hd210 (rr242 _ 1 _ rfl row_rds) (show r199.xplaces.ls.length ≤ c208 ∧ r199.xplaces.ls.length ≤ 9223372036854775807 from by omega) (fun x9 h9 => ⟨rr242 _ 2 _ rfl (sepL_mem (List.mem_flatMap.2 ⟨x9, h9, .head _⟩) row_rds), own_rd (φ := fun _ => _) H235 (i := 4) rfl (sepL_mem (List.mem_flatMap.2 ⟨x9, h9, .head _⟩) row_le2)⟩) (by first | omega | (dsimp only; omega) | (simp only [List.length_set] <;> omega)) hr245) ?_
 rintro _ w246 ⟨rfl, HQ247⟩
 have H248 := bk241 _ _ HQ247
 refine fw (.bool r244) (Yl.pickT rfl (cn h236) rfl) (Mz rfl ?_)
 rcases Bool.eq_false_or_eq_true (r244) with h249 | h249
 refine WL.valG (v := .pointer (some ⟨g39, 0, none⟩)) rfl rfl h249 rfl (Yl.move rfl) ?_
 have hb255 := H248.rowC (i := 3) rfl
 obtain ⟨r256, hr257⟩ : ∃ q, cache_Cache_Has r199 3 r200 = q := ⟨_, rfl⟩
 obtain ⟨D250, HP251, ro252, bk253, rr254⟩ := Own.enter2 H248
 refine WL.doG rfl rfl h249 rfl (Do.call Try.call20 rfl (cache_Cache_Has_ok _ _ g39 r199 A207 c208 d209 3 g31 r200 r256 HP251 hd210 (rr254 _ 1 _ rfl row_rds) (show r199.xplaces.ls.length ≤ c208 ∧ r199.xplaces.ls.length ≤ 9223372036854775807 from by omega) (fun x9 h9 => ⟨rr254 _ 2 _ rfl (sepL_mem (List.mem_flatMap.2 ⟨x9, h9, .head _⟩) row_rds), own_rd (φ := fun _ => _) H248 (i := 4) rfl (sepL_mem (List.mem_flatMap.2 ⟨x9, h9, .head _⟩) row_le2)⟩) (by first | omega | (dsimp only; omega) | (simp only [List.length_set] <;> omega)) hr257) ?_)
 rintro _ w258 ⟨rfl, HQ259⟩
 have H260 := bk253 _ _ HQ259
 refine fw (.bool r256) (Yl.pickT rfl h249 rfl) (An rfl (rt (rs ?_)))
 have H261 := H260.pk []
 obtain rfl : _ = r256 := hr.symm.trans (et (bnd_of hr27) (et (bnd_of hr54) (et (bnd_of hr81) (et (bnd_of hr108) (et (bnd_of hr134) (et (bnd_of hr156) (et (bnd_of hr178) (et (bnd_of hr201) (et (ip h218) (et (ip h219) (et (ip h220) (et (ip h221) (et (ip h222) (et (ip h223) (et (bnd_of hr232) (et (ifF h236) (et (bnd_of hr245) (et (ip h249) (bnd_of hr257)))))))))))))))))))
 exact ⟨(by first | rfl | (rw [← hn42]; done) | (rw [← hn42]; rfl)), H261⟩
 refine Sz h249 (Sz h249 (fw (.bool false) (Yl.pickF rfl h249 rfl) (An rfl (rt (rs ?_)))))
 have H262 := H248.pk []
 obtain rfl : _ = false := hr.symm.trans (et (bnd_of hr27) (et (bnd_of hr54) (et (bnd_of hr81) (et (bnd_of hr108) (et (bnd_of hr134) (et (bnd_of hr156) (et (bnd_of hr178) (et (bnd_of hr201) (et (ip h218) (et (ip h219) (et (ip h220) (et (ip h221) (et (ip h222) (et (ip h223) (et (bnd_of hr232) (et (ifF h236) (et (bnd_of hr245) (ifF h249))))))))))))))))))
 exact ⟨(by first | rfl | (rw [← hn42]; done) | (rw [← hn42]; rfl)), H262⟩
 refine Sz (dF h223) (Sz (dF h223) (Sz (dF h223) (fw (.bool false) (Yl.pickF rfl (dF h223) rfl) (Mz rfl (Sz rfl (Sz rfl (fw (.bool false) (Yl.pickF rfl rfl rfl) (Mz rfl (Sz rfl (Sz rfl (fw (.bool false) (Yl.pickF rfl rfl rfl) (An rfl (rt (rs ?_))))))))))))))
 have H263 := H204.pk []
 obtain rfl : _ = false := hr.symm.trans (et (bnd_of hr27) (et (bnd_of hr54) (et (bnd_of hr81) (et (bnd_of hr108) (et (bnd_of hr134) (et (bnd_of hr156) (et (bnd_of hr178) (et (bnd_of hr201) (et (ip h218) (et (ip h219) (et (ip h220) (et (ip h221) (et (ip h222) (iN h223))))))))))))))
 exact ⟨(by first | rfl | (rw [← hn42]; done) | (rw [← hn42]; rfl)), H263⟩
 refine Sz (dF h222) (Sz (dF h222) (fw (.bool false) (Yl.pickF rfl (dF h222) rfl) (Mz rfl (Sz rfl (Sz rfl (Sz rfl (fw (.bool false) (Yl.pickF rfl rfl rfl) (Mz rfl (Sz rfl (Sz rfl (fw (.bool false) (Yl.pickF rfl rfl rfl) (Mz rfl (Sz rfl (Sz rfl (fw (.bool false) (Yl.pickF rfl rfl rfl) (An rfl (rt (rs ?_))))))))))))))))))
 have H264 := H204.pk []
 obtain rfl : _ = false := hr.symm.trans (et (bnd_of hr27) (et (bnd_of hr54) (et (bnd_of hr81) (et (bnd_of hr108) (et (bnd_of hr134) (et (bnd_of hr156) (et (bnd_of hr178) (et (bnd_of hr201) (et (ip h218) (et (ip h219) (et (ip h220) (et (ip h221) (iN h222)))))))))))))
 exact ⟨(by first | rfl | (rw [← hn42]; done) | (rw [← hn42]; rfl)), H264⟩
 refine Sz (dF h221) (Sz (dF h221) (Sz (dF h221) (fw (.bool false) (Yl.pickF rfl (dF h221) rfl) (Mz rfl (Sz rfl (Sz rfl (fw (.bool false) (Yl.pickF rfl rfl rfl) (Mz rfl (Sz rfl (Sz rfl (Sz rfl (fw (.bool false) (Yl.pickF rfl rfl rfl) (Mz rfl (Sz rfl (Sz rfl (fw (.bool false) (Yl.pickF rfl rfl rfl) (Mz rfl (Sz rfl (Sz rfl (fw (.bool false) (Yl.pickF rfl rfl rfl) (An rfl (rt (rs ?_)))))))))))))))))))))))
 have H265 := H204.pk []
 obtain rfl : _ = false := hr.symm.trans (et (bnd_of hr27) (et (bnd_of hr54) (et (bnd_of hr81) (et (bnd_of hr108) (et (bnd_of hr134) (et (bnd_of hr156) (et (bnd_of hr178) (et (bnd_of hr201) (et (ip h218) (et (ip h219) (et (ip h220) (iN h221))))))))))))
 exact ⟨(by first | rfl | (rw [← hn42]; done) | (rw [← hn42]; rfl)), H265⟩
 refine Sz (dF h220) (Sz (dF h220) (fw (.bool false) (Yl.pickF rfl (dF h220) rfl) (Mz rfl (Sz rfl (Sz rfl (Sz rfl (fw (.bool false) (Yl.pickF rfl rfl rfl) (Mz rfl (Sz rfl (Sz rfl (fw (.bool false) (Yl.pickF rfl rfl rfl) (Mz rfl (Sz rfl (Sz rfl (Sz rfl (fw (.bool false) (Yl.pickF rfl rfl rfl) (Mz rfl (Sz rfl (Sz rfl (fw (.bool false) (Yl.pickF rfl rfl rfl) (Mz rfl (Sz rfl (Sz rfl (fw (.bool false) (Yl.pickF rfl rfl rfl) (An rfl (rt (rs ?_)))))))))))))))))))))))))))
 have H266 := H204.pk []
 obtain rfl : _ = false := hr.symm.trans (et (bnd_of hr27) (et (bnd_of hr54) (et (bnd_of hr81) (et (bnd_of hr108) (et (bnd_of hr134) (et (bnd_of hr156) (et (bnd_of hr178) (et (bnd_of hr201) (et (ip h218) (et (ip h219) (iN h220)))))))))))
 exact ⟨(by first | rfl | (rw [← hn42]; done) | (rw [← hn42]; rfl)), H266⟩
 refine Sz (dF h219) (Sz (dF h219) (fw (.bool false) (Yl.pickF rfl (dF h219) rfl) (Mz rfl (Sz rfl (Sz rfl (fw (.bool false) (Yl.pickF rfl rfl rfl) (Mz rfl (Sz rfl (Sz rfl (Sz rfl (fw (.bool false) (Yl.pickF rfl rfl rfl) (Mz rfl (Sz rfl (Sz rfl (fw (.bool false) (Yl.pickF rfl rfl rfl) (Mz rfl (Sz rfl (Sz rfl (Sz rfl (fw (.bool false) (Yl.pickF rfl rfl rfl) (Mz rfl (Sz rfl (Sz rfl (fw (.bool false) (Yl.pickF rfl rfl rfl) (Mz rfl (Sz rfl (Sz rfl (fw (.bool false) (Yl.pickF rfl rfl rfl) (An rfl (rt (rs ?_)))))))))))))))))))))))))))))))
 have H267 := H204.pk []
 obtain rfl : _ = false := hr.symm.trans (et (bnd_of hr27) (et (bnd_of hr54) (et (bnd_of hr81) (et (bnd_of hr108) (et (bnd_of hr134) (et (bnd_of hr156) (et (bnd_of hr178) (et (bnd_of hr201) (et (ip h218) (iN h219))))))))))
 exact ⟨(by first | rfl | (rw [← hn42]; done) | (rw [← hn42]; rfl)), H267⟩
 refine Sz (dF h218) (Sz (dF h218) (fw (.bool false) (Yl.pickF rfl (dF h218) rfl) (Mz rfl (Sz rfl (Sz rfl (fw (.bool false) (Yl.pickF rfl rfl rfl) (Mz rfl (Sz rfl (Sz rfl (fw (.bool false) (Yl.pickF rfl rfl rfl) (Mz rfl (Sz rfl (Sz rfl (Sz rfl (fw (.bool false) (Yl.pickF rfl rfl rfl) (Mz rfl (Sz rfl (Sz rfl (fw (.bool false) (Yl.pickF rfl rfl rfl) (Mz rfl (Sz rfl (Sz rfl (Sz rfl (fw (.bool false) (Yl.pickF rfl rfl rfl) (Mz rfl (Sz rfl (Sz rfl (fw (.bool false) (Yl.pickF rfl rfl rfl) (Mz rfl (Sz rfl (Sz rfl (fw (.bool false) (Yl.pickF rfl rfl rfl) (An rfl (rt (rs ?_)))))))))))))))))))))))))))))))))))
 have H268 := H204.pk []
 obtain rfl : _ = false := hr.symm.trans (et (bnd_of hr27) (et (bnd_of hr54) (et (bnd_of hr81) (et (bnd_of hr108) (et (bnd_of hr134) (et (bnd_of hr156) (et (bnd_of hr178) (et (bnd_of hr201) (iN h218)))))))))
 exact ⟨(by first | rfl | (rw [← hn42]; done) | (rw [← hn42]; rfl)), H268⟩
end Go.Proofs.Ytkekaemfokmhdaa
