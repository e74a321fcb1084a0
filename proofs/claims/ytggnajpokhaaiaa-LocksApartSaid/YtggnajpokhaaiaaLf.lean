/-
 locks: the chapter's examples; what is sound.
-/
import Derived.Test.YtggnajpokhaaiaaLkR
namespace Go.Proofs.Ytggnajpokhaaiaa
open Go.RowKit
set_option linter.unusedVariables false
set_option linter.unusedSectionVars false
set_option linter.unusedSimpArgs false

def w16_inWay (p0 : LockD) (p1 : LockD) : Bool :=
 bnd (span_Meet p0.xRange p1.xRange) fun yr32 => if yr32.2 = true then if p0.xWrite = true then true else p1.xWrite else false

set_option maxRecDepth 100000 in
theorem w16_inWay_ok (w : World) (D : Nat → Prop) (p0 : LockD) (p1 : LockD) (r0 : Bool) (H : Own w D w [])  (hr : w16_inWay p0 p1 = r0) :
    Calls Try.prog 44 #[.agg (LockD.cells p0).toArray, .agg (LockD.cells p1).toArray] w (Ret fun v w' => v = .bool r0 ∧ Own w D w' []) := by
 refine Calls.body (args := [.agg (LockD.cells p0).toArray, .agg (LockD.cells p1).toArray]) Try.func44 rfl rfl rfl ?_
 show Wp _ _ _ [(0, .agg (LockD.cells p0).toArray), (1, .agg (LockD.cells p1).toArray)] _ _
 refine sr ?_
 refine npw (LockD.cells p0) 34 H ?_
 intro g21 w22 H23
 refine npw (LockD.cells p1) 34 H23 ?_
 intro g24 w25 H26
 refine Ar rfl (Kz (.pointer (some ⟨g21, 0, none⟩)) (La (RangeD.cells p0.xRange) H26 1 Try.isAgg32 Try.sizeOf32 (Kz (.pointer (some ⟨g24, 0, none⟩)) (La (RangeD.cells p1.xRange) H26 0 Try.isAgg32 Try.sizeOf32 ?_))))
 obtain ⟨⟨r32, r33⟩, hr34⟩ : ∃ q : RangeD × Bool, span_Meet p0.xRange p1.xRange = q := ⟨_, rfl⟩
 obtain ⟨D27, HP28, ro29, bk30, rr31⟩ := Own.enter0 H26
 refine cl Try.call62 (span_Meet_ok _ _ p0.xRange p1.xRange r32 r33 HP28 hr34) ?_
 rintro _ w35 ⟨rfl, HQ36⟩
 have H37 := bk30 _ _ HQ36
 refine Mz rfl (Kz (.agg (RangeD.cells r32).toArray) (Kz (.bool r33) ?_))
 refine npw [.string ⟨List.toArray ([])⟩, .string ⟨List.toArray ([])⟩] 32 H37 ?_
 intro g38 w39 H40
 refine sto (RangeD.cells r32) 0 H40 Try.sizeOf32 ?_
 intro w41 H42
 refine An rfl (Wp.seq ?_)
 have H43 := H42.pk [1, 2]
 refine Wp.region (Mz rfl (Mz rfl ?_))
 rcases Bool.eq_false_or_eq_true (r33) with h44 | h44
 refine Gz (.pointer (some ⟨g21, 2, none⟩)) h44 (Gl (.bool p0.xWrite) h44 H43 1 Try.isAgg4 (WL.valG (v := .bool p0.xWrite) rfl rfl h44 rfl (Yl.move rfl) ?_))
 rcases Bool.eq_false_or_eq_true (p0.xWrite) with h45 | h45
 refine Sz h45 (Sz h45 (WL.valG (v := .bool true) rfl rfl h44 rfl (Yl.pickT rfl h45 rfl) (fw (.bool true) (Yl.pickT rfl h44 rfl) (An rfl (rt (rs ?_))))))
 have H46 := H43.pk []
 obtain rfl : _ = true := hr.symm.trans (et (bnd_of hr34) (et (ip h44) (ip h45)))
 exact ⟨rfl, H46⟩
 refine Gz (.pointer (some ⟨g24, 2, none⟩)) h45 (Gl (.bool p1.xWrite) h45 H43 0 Try.isAgg4 (WL.valG (v := .bool p1.xWrite) rfl rfl h44 rfl (Yl.pickF rfl h45 rfl) (fw (.bool p1.xWrite) (Yl.pickT rfl h44 rfl) (An rfl (rt (rs ?_))))))
 have H47 := H43.pk []
 obtain rfl : _ = p1.xWrite := hr.symm.trans (et (bnd_of hr34) (et (ip h44) (ifF h45)))
 exact ⟨rfl, H47⟩
 refine Sz h44 (Sz h44 (Sz h44 (WL.skipU rfl rfl rfl (WL.skipU rfl rfl rfl (Sz h44 (fw (.bool false) (Yl.pickF rfl h44 rfl) (An rfl (rt (rs ?_)))))))))
 have H48 := H43.pk []
 obtain rfl : _ = false := hr.symm.trans (et (bnd_of hr34) (ifF h44))
 exact ⟨rfl, H48⟩

def w16_live  : Bool :=
 bnd (locks_Table_Ask (TableT.mk (Ll.mk ([]))) 2 (LockD.mk (RangeD.mk ([97]) ([97, 0])) true)) fun yr44 => bnd (locks_Table_Ask yr44.2.2.2.2 3 (LockD.mk (RangeD.mk ([97]) ([97, 0])) false)) fun yr75 => bnd (locks_Table_Ask yr75.2.2.2.2 1 (LockD.mk (RangeD.mk ([97]) ([97, 0])) false)) fun yr106 => bnd (locks_Table_Ask yr106.2.2.2.2 1 (LockD.mk (RangeD.mk ([97]) ([97, 0])) false)) fun yr137 => bnd (locks_Table_Release yr137.2.2.2.2 2) fun yr168 => if yr44.1 = 1 then if yr44.2.2.2.1 = 0 then if yr75.1 = 3 then if yr75.2.2.2.1 = 0 then if yr106.1 = 2 then if yr106.2.2.2.1 = 0 then if yr137.2.2.2.1 = 4 then if ((yr168.1.length : Nat) : Int) = 1 then bnd (List.getD yr168.1 0 default) fun yx200 => if ((yx200 : Nat) : Int) = 1 then if ((yr168.2.1.length : Nat) : Int) = 0 then true else false else false else false else false else false else false else false else false else false else false

set_option maxRecDepth 100000 in
theorem w16_live_ok (w : World) (D : Nat → Prop)  (r0 : Bool) (H : Own w D w [])  (hr : w16_live = r0) :
    Calls Try.prog 8 #[] w (Ret fun v w' => v = .bool r0 ∧ Own w D w' []) := by
 refine Calls.body (args := []) Try.func8 rfl rfl rfl ?_
 show Wp _ _ _ [] _ _
 refine sr (Ar rfl ?_)
 refine WL.do rfl (Do.call Try.call9 rfl ?_ (fun _ _ k => k))
 refine Calls.body (args := []) Try.func9 rfl rfl rfl ?_
 show Wp _ _ _ [] _ _
 refine sr (Ar rfl (Kz (.agg #[.slice none 0 0]) ?_))
 refine npw [.slice none 0 0] 59 H ?_
 intro g21 w22 H23
 refine An rfl (rt (rs (An rfl (Wp.seq (sr (Mz rfl (Kz (.bool false) (nt (jf (sk (sr (Kz (.agg #[.string ⟨List.toArray ([97])⟩, .string ⟨List.toArray ([97, 0])⟩]) (Kz (.agg #[.string ⟨List.toArray ([97])⟩, .string ⟨List.toArray ([97, 0])⟩, .bool false]) ?_)))))))))))))
 refine npw [.string ⟨List.toArray ([])⟩, .string ⟨List.toArray ([])⟩, .bool false] 34 H23 ?_
 intro g24 w25 H26
 refine sto [.string ⟨List.toArray ([97])⟩, .string ⟨List.toArray ([97, 0])⟩, .bool false] 0 H26 Try.sizeOf34 ?_
 intro w27 H28
 refine ns (La ([.string ⟨List.toArray ([97])⟩, .string ⟨List.toArray ([97, 0])⟩, .bool false]) H28 0 Try.isAgg34 Try.sizeOf34 ?_)
 refine npw [.string ⟨List.toArray ([])⟩, .string ⟨List.toArray ([])⟩, .bool false] 34 H28 ?_
 intro g29 w30 H31
 refine sto [.string ⟨List.toArray ([97])⟩, .string ⟨List.toArray ([97, 0])⟩, .bool false] 0 H31 Try.sizeOf34 ?_
 intro w32 H33
 refine ns (Kz (.pointer (some ⟨g29, 2, none⟩)) ?_)
 refine sto [.bool true] 2 H33 Try.sizeOf4 ?_
 intro w34 H35
 refine ns (Mz rfl (La ([.string ⟨List.toArray ([97])⟩, .string ⟨List.toArray ([97, 0])⟩, .bool true]) H35 0 Try.isAgg34 Try.sizeOf34 ?_))
 have H36 : Own w D w34 [sepL (List.flatMap rowD.own ([])), blk g29 [.string ⟨List.toArray ([97])⟩, .string ⟨List.toArray ([97, 0])⟩, .bool true] 34, blk g24 [.string ⟨List.toArray ([97])⟩, .string ⟨List.toArray ([97, 0])⟩, .bool false] 34, blk g21 [.slice none 0 0] 59] := H35.sepNil
 have H37 : Own w D w34 [row none 0 0 (List.flatMap rowD.cells ([])) 72 6, sepL (List.flatMap rowD.own ([])), blk g29 [.string ⟨List.toArray ([97])⟩, .string ⟨List.toArray ([97, 0])⟩, .bool true] 34, blk g24 [.string ⟨List.toArray ([97])⟩, .string ⟨List.toArray ([97, 0])⟩, .bool false] 34, blk g21 [.slice none 0 0] 59] := H36.free (row_nil 72 6)
 have H38 := H37.pk [4, 0, 1, 2, 3]
 obtain ⟨⟨r44, r45, r46, r47, r48⟩, hr49⟩ : ∃ q : Int × (List Nat) × (List Nat) × Int × TableT, locks_Table_Ask (TableT.mk (Ll.mk ([]))) 2 (LockD.mk (RangeD.mk ([97]) ([97, 0])) true) = q := ⟨_, rfl⟩
 obtain ⟨D39, HP40, ro41, bk42, rr43⟩ := Own.enter3 H38
 refine cl Try.call10 (locks_Table_Ask_ok _ _ g21 (TableT.mk (Ll.mk ([]))) none 0 ([]) 2 (LockD.mk (RangeD.mk ([97]) ([97, 0])) true) r44 r45 r46 r47 r48 HP40 rfl (by first | omega | (dsimp only; omega) | exact Sound.len (by assumption) | exact Nat.zero_le _) (by first | assumption | exact Sound.hd (by assumption) | exact Sound.hd sound_nil) (by first | assumption | exact sound_nil) hr49) ?_
 rintro _ w50 ⟨A53, c54, A55, c56, A57, c58, d59, rfl, HQ51, hd60⟩
 have H52 := bk42 _ _ HQ51
 have hl61 := abs_len hd60
 have hb62 := H52.rowC (i := 0) rfl
 have hb63 := H52.rowC (i := 1) rfl
 have hb64 := H52.rowC (i := 3) rfl
 have hz65 := ask_sound (m := ([])) (by first | assumption | exact sound_nil) hr49
 replace hz65 : Sound r48.xrows.ls := hz65
 have hl66 : r48.xrows.ls.length ≤ 192 := hz65.len
 obtain ⟨hl67, hl68⟩ := ask_lens (m := ([])) (by first | assumption | exact sound_nil) hr49
 replace hl67 : r45.length ≤ 400 := hl67
 replace hl68 : r46.length ≤ 400 := hl68
 refine Mz rfl (Kz (.int .i64 r44) (Kz (.slice A53 r45.length c54) (Kz (.slice A55 r46.length c56) (Kz (.int .i64 r47) (Az rfl (Az rfl (Az rfl (An rfl (Wp.seq ?_)))))))))
 have H69 := H52.pk [2, 3, 4, 6]
 refine Wp.region (Mz rfl (La ([.string ⟨List.toArray ([97])⟩, .string ⟨List.toArray ([97, 0])⟩, .bool false]) H69 3 Try.isAgg34 Try.sizeOf34 ?_))
 obtain ⟨⟨r75, r76, r77, r78, r79⟩, hr80⟩ : ∃ q : Int × (List Nat) × (List Nat) × Int × TableT, locks_Table_Ask r48 3 (LockD.mk (RangeD.mk ([97]) ([97, 0])) false) = q := ⟨_, rfl⟩
 obtain ⟨D70, HP71, ro72, bk73, rr74⟩ := Own.enter3 H69
 refine cl Try.call10 (locks_Table_Ask_ok _ _ g21 r48 A57 c58 d59 3 (LockD.mk (RangeD.mk ([97]) ([97, 0])) false) r75 r76 r77 r78 r79 HP71 hd60 (by first | omega | (dsimp only; omega) | exact Sound.len (by assumption) | exact Nat.zero_le _) (by first | assumption | exact Sound.hd (by assumption) | exact Sound.hd sound_nil) (by first | assumption | exact sound_nil) hr80) ?_
 rintro _ w81 ⟨A84, c85, A86, c87, A88, c89, d90, rfl, HQ82, hd91⟩
 have H83 := bk73 _ _ HQ82
 have hl92 := abs_len hd91
 have hb93 := H83.rowC (i := 0) rfl
 have hb94 := H83.rowC (i := 1) rfl
 have hb95 := H83.rowC (i := 3) rfl
 have hz96 := ask_sound (m := r48.xrows.ls) (by first | assumption | exact sound_nil) hr80
 replace hz96 : Sound r79.xrows.ls := hz96
 have hl97 : r79.xrows.ls.length ≤ 192 := hz96.len
 obtain ⟨hl98, hl99⟩ := ask_lens (m := r48.xrows.ls) (by first | assumption | exact sound_nil) hr80
 replace hl98 : r76.length ≤ 400 := hl98
 replace hl99 : r77.length ≤ 400 := hl99
 refine Mz rfl (Kz (.int .i64 r75) (Kz (.slice A84 r76.length c85) (Kz (.slice A86 r77.length c87) (Kz (.int .i64 r78) (Az rfl (Az rfl (Az rfl (An rfl (Wp.seq ?_)))))))))
 have H100 := H83.pk [2, 3, 4, 5]
 refine Wp.region (Mz rfl (La ([.string ⟨List.toArray ([97])⟩, .string ⟨List.toArray ([97, 0])⟩, .bool false]) H100 3 Try.isAgg34 Try.sizeOf34 ?_))
 obtain ⟨⟨r106, r107, r108, r109, r110⟩, hr111⟩ : ∃ q : Int × (List Nat) × (List Nat) × Int × TableT, locks_Table_Ask r79 1 (LockD.mk (RangeD.mk ([97]) ([97, 0])) false) = q := ⟨_, rfl⟩
 obtain ⟨D101, HP102, ro103, bk104, rr105⟩ := Own.enter3 H100
 refine cl Try.call10 (locks_Table_Ask_ok _ _ g21 r79 A88 c89 d90 1 (LockD.mk (RangeD.mk ([97]) ([97, 0])) false) r106 r107 r108 r109 r110 HP102 hd91 (by first | omega | (dsimp only; omega) | exact Sound.len (by assumption) | exact Nat.zero_le _) (by first | assumption | exact Sound.hd (by assumption) | exact Sound.hd sound_nil) (by first | assumption | exact sound_nil) hr111) ?_
 rintro _ w112 ⟨A115, c116, A117, c118, A119, c120, d121, rfl, HQ113, hd122⟩
 have H114 := bk104 _ _ HQ113
 have hl123 := abs_len hd122
 have hb124 := H114.rowC (i := 0) rfl
 have hb125 := H114.rowC (i := 1) rfl
 have hb126 := H114.rowC (i := 3) rfl
 have hz127 := ask_sound (m := r79.xrows.ls) (by first | assumption | exact sound_nil) hr111
 replace hz127 : Sound r110.xrows.ls := hz127
 have hl128 : r110.xrows.ls.length ≤ 192 := hz127.len
 obtain ⟨hl129, hl130⟩ := ask_lens (m := r79.xrows.ls) (by first | assumption | exact sound_nil) hr111
 replace hl129 : r107.length ≤ 400 := hl129
 replace hl130 : r108.length ≤ 400 := hl130
 refine Mz rfl (Kz (.int .i64 r106) (Kz (.slice A115 r107.length c116) (Kz (.slice A117 r108.length c118) (Kz (.int .i64 r109) (Az rfl (Az rfl (Az rfl (An rfl (Wp.seq ?_)))))))))
 have H131 := H114.pk [2, 3, 4, 5]
 refine Wp.region (Mz rfl (La ([.string ⟨List.toArray ([97])⟩, .string ⟨List.toArray ([97, 0])⟩, .bool false]) H131 3 Try.isAgg34 Try.sizeOf34 ?_))
 obtain ⟨⟨r137, r138, r139, r140, r141⟩, hr142⟩ : ∃ q : Int × (List Nat) × (List Nat) × Int × TableT, locks_Table_Ask r110 1 (LockD.mk (RangeD.mk ([97]) ([97, 0])) false) = q := ⟨_, rfl⟩
 obtain ⟨D132, HP133, ro134, bk135, rr136⟩ := Own.enter3 H131
 refine cl Try.call10 (locks_Table_Ask_ok _ _ g21 r110 A119 c120 d121 1 (LockD.mk (RangeD.mk ([97]) ([97, 0])) false) r137 r138 r139 r140 r141 HP133 hd122 (by first | omega | (dsimp only; omega) | exact Sound.len (by assumption) | exact Nat.zero_le _) (by first | assumption | exact Sound.hd (by assumption) | exact Sound.hd sound_nil) (by first | assumption | exact sound_nil) hr142) ?_
 rintro _ w143 ⟨A146, c147, A148, c149, A150, c151, d152, rfl, HQ144, hd153⟩
 have H145 := bk135 _ _ HQ144
 have hl154 := abs_len hd153
 have hb155 := H145.rowC (i := 0) rfl
 have hb156 := H145.rowC (i := 1) rfl
 have hb157 := H145.rowC (i := 3) rfl
 have hz158 := ask_sound (m := r110.xrows.ls) (by first | assumption | exact sound_nil) hr142
 replace hz158 : Sound r141.xrows.ls := hz158
 have hl159 : r141.xrows.ls.length ≤ 192 := hz158.len
 obtain ⟨hl160, hl161⟩ := ask_lens (m := r110.xrows.ls) (by first | assumption | exact sound_nil) hr142
 replace hl160 : r138.length ≤ 400 := hl160
 replace hl161 : r139.length ≤ 400 := hl161
 refine Mz rfl (Kz (.int .i64 r137) (Kz (.slice A146 r138.length c147) (Kz (.slice A148 r139.length c149) (Kz (.int .i64 r140) (Az rfl (Az rfl (Az rfl (An rfl (Wp.seq ?_)))))))))
 have H162 := H145.pk [2, 3, 4]
 refine Wp.region (Mz rfl ?_)
 obtain ⟨⟨r168, r169, r170⟩, hr171⟩ : ∃ q : (List Nat) × (List Nat) × TableT, locks_Table_Release r141 2 = q := ⟨_, rfl⟩
 obtain ⟨D163, HP164, ro165, bk166, rr167⟩ := Own.enter3 H162
 refine cl Try.call13 (locks_Table_Release_ok _ _ g21 r141 A150 c151 d152 2 r168 r169 r170 HP164 hd153 (by first | omega | (dsimp only; omega) | exact Sound.len (by assumption) | exact Nat.zero_le _) (by first | assumption | exact Sound.hd (by assumption) | exact Sound.hd sound_nil) (by first | assumption | exact sound_nil) hr171) ?_
 rintro _ w172 ⟨A175, c176, A177, c178, A179, c180, d181, rfl, HQ173, hd182⟩
 have H174 := bk166 _ _ HQ173
 have hl183 := abs_len hd182
 have hb184 := H174.rowC (i := 0) rfl
 have hb185 := H174.rowC (i := 1) rfl
 have hb186 := H174.rowC (i := 3) rfl
 have hz187 := release_sound (m := r141.xrows.ls) (by first | assumption | exact sound_nil) hr171
 replace hz187 : Sound r170.xrows.ls := hz187
 have hl188 : r170.xrows.ls.length ≤ 192 := hz187.len
 obtain ⟨hl189, hl190⟩ := release_lens (m := r141.xrows.ls) (by first | assumption | exact sound_nil) hr171
 replace hl189 : r168.length ≤ 400 := hl189
 replace hl190 : r169.length ≤ 400 := hl190
 refine Mz rfl (Kz (.slice A175 r168.length c176) (Kz (.slice A177 r169.length c178) (Az rfl (An rfl (Wp.seq ?_)))))
 have H191 := H174.pk [0, 1]
 refine Wp.region (Mz rfl (Kz (.bool (decide (r44 = 1))) (Mz rfl ?_)))
 by_cases h192 : r44 = 1
 refine gw (.int .i64 r47) (dT h192) (Yl.move rfl) (Gz (.bool (decide (r47 = 0))) (dT h192) (fw (.bool (decide (r47 = 0))) (Yl.pickT rfl (dT h192) rfl) (Mz rfl ?_)))
 by_cases h193 : r47 = 0
 refine gw (.int .i64 r75) (dT h193) (Yl.move rfl) (Gz (.bool (decide (r75 = 3))) (dT h193) (fw (.bool (decide (r75 = 3))) (Yl.pickT rfl (dT h193) rfl) (Mz rfl ?_)))
 by_cases h194 : r75 = 3
 refine gw (.int .i64 r78) (dT h194) (Yl.move rfl) (Gz (.bool (decide (r78 = 0))) (dT h194) (fw (.bool (decide (r78 = 0))) (Yl.pickT rfl (dT h194) rfl) (Mz rfl ?_)))
 by_cases h195 : r78 = 0
 refine gw (.int .i64 r106) (dT h195) (Yl.move rfl) (Gz (.bool (decide (r106 = 2))) (dT h195) (fw (.bool (decide (r106 = 2))) (Yl.pickT rfl (dT h195) rfl) (Mz rfl ?_)))
 by_cases h196 : r106 = 2
 refine gw (.int .i64 r109) (dT h196) (Yl.move rfl) (Gz (.bool (decide (r109 = 0))) (dT h196) (fw (.bool (decide (r109 = 0))) (Yl.pickT rfl (dT h196) rfl) (Mz rfl ?_)))
 by_cases h197 : r109 = 0
 refine gw (.int .i64 r140) (dT h197) (Yl.move rfl) (Gz (.bool (decide (r140 = 4))) (dT h197) (fw (.bool (decide (r140 = 4))) (Yl.pickT rfl (dT h197) rfl) (Mz rfl ?_)))
 by_cases h198 : r140 = 4
 refine gw (.slice A175 r168.length c176) (dT h198) (Yl.move rfl) (Gz (.int .i64 ((r168.length : Nat) : Int)) (dT h198) (Gz (.bool (decide (((r168.length : Nat) : Int) = 1))) (dT h198) (fw (.bool (decide (((r168.length : Nat) : Int) = 1))) (Yl.pickT rfl (dT h198) rfl) (Mz rfl ?_))))
 by_cases h199 : ((r168.length : Nat) : Int) = 1
 refine gw (.slice A175 r168.length c176) (dT h199) (Yl.move rfl) ?_
 obtain ⟨x200, hx201⟩ := rds_at (ls := r168) (i := 0) eN_len (by decide) (H191.rds (i := 0) rfl) (by first | omega | (simp; done) | (simp; omega))
 refine gw (.pointer (some ⟨ab A175, ao A175 + 0 * 1, none⟩)) (dT h199) (Yl.indexAddr (El37) rfl rfl ((H191.rds (i := 0) rfl).addr (i := 0) (by omega)) (by omega)) (gw (.int .u64 ((x200 : Nat) : Int)) (dT h199) (Yl.load rfl (Lds.one Try.isAgg30 (((H191.rds (i := 0) rfl).elem eN_len hx201 (by decide)).at_ (k := 0) rfl))) (Gz (.bool (decide (((x200 : Nat) : Int) = 1))) (dT h199) (fw (.bool (decide (((x200 : Nat) : Int) = 1))) (Yl.pickT rfl (dT h199) rfl) (Mz rfl ?_))))
 by_cases h202 : ((x200 : Nat) : Int) = 1
 refine gw (.slice A177 r169.length c178) (dT h202) (Yl.move rfl) (Gz (.int .i64 ((r169.length : Nat) : Int)) (dT h202) (Gz (.bool (decide (((r169.length : Nat) : Int) = 0))) (dT h202) (fw (.bool (decide (((r169.length : Nat) : Int) = 0))) (Yl.pickT rfl (dT h202) rfl) (Mz rfl ?_))))
 by_cases h203 : ((r169.length : Nat) : Int) = 0
 refine fw (.bool true) (Yl.pickT rfl (dT h203) rfl) (Mz rfl (fw (.bool true) (Yl.pickT rfl rfl rfl) (Mz rfl (fw (.bool true) (Yl.pickT rfl rfl rfl) (An rfl (rt (rs ?_)))))))
 have H204 := H191.pk []
 obtain rfl : _ = true := hr.symm.trans (et (bnd_of hr49) (et (bnd_of hr80) (et (bnd_of hr111) (et (bnd_of hr142) (et (bnd_of hr171) (et (ip h192) (et (ip h193) (et (ip h194) (et (ip h195) (et (ip h196) (et (ip h197) (et (ip h198) (et (ip h199) (et (bnd_of (getD_of hx201)) (et (ip h202) (ip h203))))))))))))))))
 exact ⟨rfl, H204⟩
 refine fw (.bool false) (Yl.pickF rfl (dF h203) rfl) (Mz rfl (fw (.bool false) (Yl.pickF rfl rfl rfl) (Mz rfl (fw (.bool false) (Yl.pickF rfl rfl rfl) (An rfl (rt (rs ?_)))))))
 have H205 := H191.pk []
 obtain rfl : _ = false := hr.symm.trans (et (bnd_of hr49) (et (bnd_of hr80) (et (bnd_of hr111) (et (bnd_of hr142) (et (bnd_of hr171) (et (ip h192) (et (ip h193) (et (ip h194) (et (ip h195) (et (ip h196) (et (ip h197) (et (ip h198) (et (ip h199) (et (bnd_of (getD_of hx201)) (et (ip h202) (iN h203))))))))))))))))
 exact ⟨rfl, H205⟩
 refine Sz (dF h202) (Sz (dF h202) (Sz (dF h202) (fw (.bool false) (Yl.pickF rfl (dF h202) rfl) (Mz rfl (fw (.bool false) (Yl.pickF rfl rfl rfl) (Mz rfl (fw (.bool false) (Yl.pickF rfl rfl rfl) (Mz rfl (fw (.bool false) (Yl.pickF rfl rfl rfl) (An rfl (rt (rs ?_))))))))))))
 have H206 := H191.pk []
 obtain rfl : _ = false := hr.symm.trans (et (bnd_of hr49) (et (bnd_of hr80) (et (bnd_of hr111) (et (bnd_of hr142) (et (bnd_of hr171) (et (ip h192) (et (ip h193) (et (ip h194) (et (ip h195) (et (ip h196) (et (ip h197) (et (ip h198) (et (ip h199) (et (bnd_of (getD_of hx201)) (iN h202)))))))))))))))
 exact ⟨rfl, H206⟩
 refine Sz (dF h199) (Sz (dF h199) (Sz (dF h199) (Sz (dF h199) (fw (.bool false) (Yl.pickF rfl (dF h199) rfl) (Mz rfl (Sz rfl (Sz rfl (Sz rfl (fw (.bool false) (Yl.pickF rfl rfl rfl) (Mz rfl (fw (.bool false) (Yl.pickF rfl rfl rfl) (Mz rfl (fw (.bool false) (Yl.pickF rfl rfl rfl) (Mz rfl (fw (.bool false) (Yl.pickF rfl rfl rfl) (An rfl (rt (rs ?_))))))))))))))))))
 have H207 := H191.pk []
 obtain rfl : _ = false := hr.symm.trans (et (bnd_of hr49) (et (bnd_of hr80) (et (bnd_of hr111) (et (bnd_of hr142) (et (bnd_of hr171) (et (ip h192) (et (ip h193) (et (ip h194) (et (ip h195) (et (ip h196) (et (ip h197) (et (ip h198) (iN h199)))))))))))))
 exact ⟨rfl, H207⟩
 refine Sz (dF h198) (Sz (dF h198) (Sz (dF h198) (fw (.bool false) (Yl.pickF rfl (dF h198) rfl) (Mz rfl (Sz rfl (Sz rfl (Sz rfl (Sz rfl (fw (.bool false) (Yl.pickF rfl rfl rfl) (Mz rfl (Sz rfl (Sz rfl (Sz rfl (fw (.bool false) (Yl.pickF rfl rfl rfl) (Mz rfl (fw (.bool false) (Yl.pickF rfl rfl rfl) (Mz rfl (fw (.bool false) (Yl.pickF rfl rfl rfl) (Mz rfl (fw (.bool false) (Yl.pickF rfl rfl rfl) (An rfl (rt (rs ?_)))))))))))))))))))))))
 have H208 := H191.pk []
 obtain rfl : _ = false := hr.symm.trans (et (bnd_of hr49) (et (bnd_of hr80) (et (bnd_of hr111) (et (bnd_of hr142) (et (bnd_of hr171) (et (ip h192) (et (ip h193) (et (ip h194) (et (ip h195) (et (ip h196) (et (ip h197) (iN h198))))))))))))
 exact ⟨rfl, H208⟩
 refine Sz (dF h197) (Sz (dF h197) (fw (.bool false) (Yl.pickF rfl (dF h197) rfl) (Mz rfl (Sz rfl (Sz rfl (Sz rfl (fw (.bool false) (Yl.pickF rfl rfl rfl) (Mz rfl (Sz rfl (Sz rfl (Sz rfl (Sz rfl (fw (.bool false) (Yl.pickF rfl rfl rfl) (Mz rfl (Sz rfl (Sz rfl (Sz rfl (fw (.bool false) (Yl.pickF rfl rfl rfl) (Mz rfl (fw (.bool false) (Yl.pickF rfl rfl rfl) (Mz rfl (fw (.bool false) (Yl.pickF rfl rfl rfl) (Mz rfl (fw (.bool false) (Yl.pickF rfl rfl rfl) (An rfl (rt (rs ?_)))))))))))))))))))))))))))
 have H209 := H191.pk []
 obtain rfl : _ = false := hr.symm.trans (et (bnd_of hr49) (et (bnd_of hr80) (et (bnd_of hr111) (et (bnd_of hr142) (et (bnd_of hr171) (et (ip h192) (et (ip h193) (et (ip h194) (et (ip h195) (et (ip h196) (iN h197)))))))))))
 exact ⟨rfl, H209⟩
 refine Sz (dF h196) (Sz (dF h196) (fw (.bool false) (Yl.pickF rfl (dF h196) rfl) (Mz rfl (Sz rfl (Sz rfl (fw (.bool false) (Yl.pickF rfl rfl rfl) (Mz rfl (Sz rfl (Sz rfl (Sz rfl (fw (.bool false) (Yl.pickF rfl rfl rfl) (Mz rfl (Sz rfl (Sz rfl (Sz rfl (Sz rfl (fw (.bool false) (Yl.pickF rfl rfl rfl) (Mz rfl (Sz rfl (Sz rfl (Sz rfl (fw (.bool false) (Yl.pickF rfl rfl rfl) (Mz rfl (fw (.bool false) (Yl.pickF rfl rfl rfl) (Mz rfl (fw (.bool false) (Yl.pickF rfl rfl rfl) (Mz rfl (fw (.bool false) (Yl.pickF rfl rfl rfl) (An rfl (rt (rs ?_)))))))))))))))))))))))))))))))
 have H210 := H191.pk []
 obtain rfl : _ = false := hr.symm.trans (et (bnd_of hr49) (et (bnd_of hr80) (et (bnd_of hr111) (et (bnd_of hr142) (et (bnd_of hr171) (et (ip h192) (et (ip h193) (et (ip h194) (et (ip h195) (iN h196))))))))))
 exact ⟨rfl, H210⟩
 refine Sz (dF h195) (Sz (dF h195) (fw (.bool false) (Yl.pickF rfl (dF h195) rfl) (Mz rfl (Sz rfl (Sz rfl (fw (.bool false) (Yl.pickF rfl rfl rfl) (Mz rfl (Sz rfl (Sz rfl (fw (.bool false) (Yl.pickF rfl rfl rfl) (Mz rfl (Sz rfl (Sz rfl (Sz rfl (fw (.bool false) (Yl.pickF rfl rfl rfl) (Mz rfl (Sz rfl (Sz rfl (Sz rfl (Sz rfl (fw (.bool false) (Yl.pickF rfl rfl rfl) (Mz rfl (Sz rfl (Sz rfl (Sz rfl (fw (.bool false) (Yl.pickF rfl rfl rfl) (Mz rfl (fw (.bool false) (Yl.pickF rfl rfl rfl) (Mz rfl (fw (.bool false) (Yl.pickF rfl rfl rfl) (Mz rfl (fw (.bool false) (Yl.pickF rfl rfl rfl) (An rfl (rt (rs ?_)))))))))))))))))))))))))))))))))))
 have H211 := H191.pk []
 obtain rfl : _ = false := hr.symm.trans (et (bnd_of hr49) (et (bnd_of hr80) (et (bnd_of hr111) (et (bnd_of hr142) (et (bnd_of hr171) (et (ip h192) (et (ip h193) (et (ip h194) (iN h195)))))))))
 exact ⟨rfl, H211⟩
 refine Sz (dF h194) (Sz (dF h194) (fw (.bool false) (Yl.pickF rfl (dF h194) rfl) (Mz rfl (Sz rfl (Sz rfl (fw (.bool false) (Yl.pickF rfl rfl rfl) (Mz rfl (Sz rfl (Sz rfl (fw (.bool false) (Yl.pickF rfl rfl rfl) (Mz rfl (Sz rfl (Sz rfl (fw (.bool false) (Yl.pickF rfl rfl rfl) (Mz rfl (Sz rfl (Sz rfl (Sz rfl (fw (.bool false) (Yl.pickF rfl rfl rfl) (Mz rfl (Sz rfl (Sz rfl (Sz rfl (Sz rfl (fw (.bool false) (Yl.pickF rfl rfl rfl) (Mz rfl (Sz rfl (Sz rfl (Sz rfl (fw (.bool false) (Yl.pickF rfl rfl rfl) (Mz rfl (fw (.bool false) (Yl.pickF rfl rfl rfl) (Mz rfl (fw (.bool false) (Yl.pickF rfl rfl rfl) (Mz rfl (fw (.bool false) (Yl.pickF rfl rfl rfl) (An rfl ?_)))))))))))))))))))))))))))))))))))))
 refine rt (rs ?_)
 have H212 := H191.pk []
 obtain rfl : _ = false := hr.symm.trans (et (bnd_of hr49) (et (bnd_of hr80) (et (bnd_of hr111) (et (bnd_of hr142) (et (bnd_of hr171) (et (ip h192) (et (ip h193) (iN h194))))))))
 exact ⟨rfl, H212⟩
 refine Sz (dF h193) (Sz (dF h193) (fw (.bool false) (Yl.pickF rfl (dF h193) rfl) (Mz rfl (Sz rfl (Sz rfl (fw (.bool false) (Yl.pickF rfl rfl rfl) (Mz rfl (Sz rfl (Sz rfl (fw (.bool false) (Yl.pickF rfl rfl rfl) (Mz rfl (Sz rfl (Sz rfl (fw (.bool false) (Yl.pickF rfl rfl rfl) (Mz rfl (Sz rfl (Sz rfl (fw (.bool false) (Yl.pickF rfl rfl rfl) (Mz rfl (Sz rfl (Sz rfl (Sz rfl (fw (.bool false) (Yl.pickF rfl rfl rfl) (Mz rfl (Sz rfl (Sz rfl (Sz rfl (Sz rfl (fw (.bool false) (Yl.pickF rfl rfl rfl) (Mz rfl (Sz rfl (Sz rfl (Sz rfl (fw (.bool false) (Yl.pickF rfl rfl rfl) (Mz rfl (fw (.bool false) (Yl.pickF rfl rfl rfl) (Mz rfl (fw (.bool false) (Yl.pickF rfl rfl rfl) (Mz rfl ?_)))))))))))))))))))))))))))))))))))))))
 refine fw (.bool false) (Yl.pickF rfl rfl rfl) (An rfl (rt (rs ?_)))
 have H213 := H191.pk []
 obtain rfl : _ = false := hr.symm.trans (et (bnd_of hr49) (et (bnd_of hr80) (et (bnd_of hr111) (et (bnd_of hr142) (et (bnd_of hr171) (et (ip h192) (iN h193)))))))
 exact ⟨rfl, H213⟩
 refine Sz (dF h192) (Sz (dF h192) (fw (.bool false) (Yl.pickF rfl (dF h192) rfl) (Mz rfl (Sz rfl (Sz rfl (fw (.bool false) (Yl.pickF rfl rfl rfl) (Mz rfl (Sz rfl (Sz rfl (fw (.bool false) (Yl.pickF rfl rfl rfl) (Mz rfl (Sz rfl (Sz rfl (fw (.bool false) (Yl.pickF rfl rfl rfl) (Mz rfl (Sz rfl (Sz rfl (fw (.bool false) (Yl.pickF rfl rfl rfl) (Mz rfl (Sz rfl (Sz rfl (fw (.bool false) (Yl.pickF rfl rfl rfl) (Mz rfl (Sz rfl (Sz rfl (Sz rfl (fw (.bool false) (Yl.pickF rfl rfl rfl) (Mz rfl (Sz rfl (Sz rfl (Sz rfl (Sz rfl (fw (.bool false) (Yl.pickF rfl rfl rfl) (Mz rfl (Sz rfl (Sz rfl (Sz rfl (fw (.bool false) (Yl.pickF rfl rfl rfl) (Mz rfl ?_)))))))))))))))))))))))))))))))))))))))
 refine fw (.bool false) (Yl.pickF rfl rfl rfl) (Mz rfl (fw (.bool false) (Yl.pickF rfl rfl rfl) (Mz rfl (fw (.bool false) (Yl.pickF rfl rfl rfl) (An rfl (rt (rs ?_)))))))
 have H214 := H191.pk []
 obtain rfl : _ = false := hr.symm.trans (et (bnd_of hr49) (et (bnd_of hr80) (et (bnd_of hr111) (et (bnd_of hr142) (et (bnd_of hr171) (iN h192))))))
 exact ⟨rfl, H214⟩

def w16_sound_L3 (x62 : Nat) (x47 : Nat) (x91 : LockD) : List LockD → Unit ⊕ Bool
  | [] => Sum.inl ()
  | x125 :: q114 => if ((x47 : Nat) : Int) = ((x62 : Nat) : Int) then w16_sound_L3 x62 x47 x91 q114 else bnd (w16_inWay x91 x125) fun yr141 => if yr141 = true then Sum.inr (false) else w16_sound_L3 x62 x47 x91 q114

def w16_sound_L2 (p0 : TableT) (x62 : Nat) (x47 : Nat) : List LockD → Unit ⊕ Bool
  | [] => Sum.inl ()
  | x91 :: q80 => bnd (locks_Table_Holds p0 x62) fun yr105 => lpS (w16_sound_L3 x62 x47 x91 yr105) fun _ => w16_sound_L2 p0 x62 x47 q80

def w16_sound_L1 (p0 : TableT) (x47 : Nat) : List Nat → Unit ⊕ Bool
  | [] => Sum.inl ()
  | x62 :: q51 => bnd (locks_Table_Holds p0 x47) fun yr71 => lpS (w16_sound_L2 p0 x62 x47 yr71) fun _ => w16_sound_L1 p0 x47 q51

def w16_sound_L0 (p0 : TableT) (r26 : List Nat) : List Nat → Unit ⊕ Bool
  | [] => Sum.inl ()
  | x47 :: q36 => lpS (w16_sound_L1 p0 x47 r26) fun _ => w16_sound_L0 p0 r26 q36

def w16_sound_L6 (x186 : AskD) (x207 : Nat) : List LockD → Bool → Bool ⊕ Bool
  | [], b224 => Sum.inl b224
  | x237 :: q226, b224 => if ((x207 : Nat) : Int) = ((x186.xTxn : Nat) : Int) then w16_sound_L6 x186 x207 q226 b224 else bnd (w16_inWay x186.xLock x237) fun yr253 => if yr253 = true then if ((x207 : Nat) : Int) ≤ ((x186.xTxn : Nat) : Int) then Sum.inr (false) else w16_sound_L6 x186 x207 q226 true else w16_sound_L6 x186 x207 q226 b224

def w16_sound_L5 (p0 : TableT) (x186 : AskD) : List Nat → Bool → Bool ⊕ Bool
  | [], b194 => Sum.inl b194
  | x207 :: q196, b194 => bnd (locks_Table_Holds p0 x207) fun yr216 => lpS (w16_sound_L6 x186 x207 yr216 b194) fun sLrbLabLsLsbL => w16_sound_L5 p0 x186 q196 sLrbLabLsLsbL

def w16_sound_L4 (p0 : TableT) (r26 : List Nat) : List AskD → Unit ⊕ Bool
  | [] => Sum.inl ()
  | x186 :: q175 => lpS (w16_sound_L5 p0 x186 r26 false) fun sLrbLabLsL => if sLrbLabLsL = true then w16_sound_L4 p0 r26 q175 else Sum.inr (false)

def w16_sound (p0 : TableT) : Bool :=
 bnd (locks_Table_Txns p0) fun yr26 => lp (w16_sound_L0 p0 yr26 yr26) fun _ => bnd (locks_Table_Waiting p0) fun yr166 => lp (w16_sound_L4 p0 yr26 yr166) fun _ => true

set_option maxRecDepth 100000 in
theorem w16_sound_ok (w : World) (D : Nat → Prop) (g0 : Nat) (p0 : TableT) (A0x0 : Option Addr) (c0x0 : Nat) (d0x0 : List rowD) (r0 : Bool) (H : Own w D w [blk g0 [.slice A0x0 p0.xrows.ls.length c0x0] 59]) (hd0x0 : List.map rowD.abs d0x0 = p0.xrows.ls) (hx0x0 : Ro w D fun w' => Rds w' 6 A0x0 p0.xrows.ls.length (List.flatMap rowD.cells d0x0)) (hb0x0 : p0.xrows.ls.length ≤ c0x0 ∧ p0.xrows.ls.length ≤ 9223372036854775807) (hm0x0 : ∀ x ∈ d0x0, Ro w D (fun w' => Rds w' 3 x.xheld.A x.xheld.ls.length (List.flatMap LockD.cells x.xheld.ls)) ∧ (x.xheld.ls.length ≤ x.xheld.c ∧ x.xheld.ls.length ≤ 9223372036854775807)) (hh0 : p0.xrows.ls.length ≤ 192) (hh1 : Hd p0.xrows.ls) (hh2 : Sound p0.xrows.ls) (hr : w16_sound p0 = r0) :
    Calls Try.prog 19 #[.pointer (some ⟨g0, 0, none⟩)] w (Ret fun v w' => v = .bool r0 ∧ Own w D w' [blk g0 [.slice A0x0 p0.xrows.ls.length c0x0] 59]) := by
 have hdl0x0 := abs_len hd0x0
 refine Calls.body (args := [.pointer (some ⟨g0, 0, none⟩)]) Try.func19 rfl rfl rfl ?_
 show Wp _ _ _ [(0, .pointer (some ⟨g0, 0, none⟩))] _ _
 refine sr (Ar rfl (Mz rfl ?_))
 obtain ⟨r26, hr27⟩ : ∃ q, locks_Table_Txns p0 = q := ⟨_, rfl⟩
 obtain ⟨D21, HP22, ro23, bk24, rr25⟩ := Own.enter1 H
 refine cl Try.call20 (locks_Table_Txns_ok _ _ g0 p0 A0x0 c0x0 d0x0 r26 HP22 hd0x0 (ro23 _ hx0x0) (show p0.xrows.ls.length ≤ c0x0 ∧ p0.xrows.ls.length ≤ 9223372036854775807 from by omega) (fun x9 h9 => ⟨ro23 _ (hm0x0 x9 h9).1, (hm0x0 x9 h9).2⟩) (by first | omega | (dsimp only; omega)) hr27) ?_
 rintro _ w28 ⟨A31, c32, rfl, HQ29, hk33⟩
 have H30 := bk24 _ _ HQ29
 have hb34 := H30.rowC (i := 0) rfl
 replace hk33 : r26.length = p0.xrows.ls.length := hk33
 refine An rfl (Wp.seq (sr (Mz rfl (Kz (.int .i64 ((r26.length : Nat) : Int)) (Mn rfl (bo ?_))))))
 have H37 := H30.pk [0, 1]
 obtain ⟨I41, hI42⟩ : ∃ q : Nat → World → Prop, q = fun (i : Nat) w' => Own w D w' [row A31 r26.length c32 (List.flatMap (eN .u64) r26) 30 1, blk g0 [.slice A0x0 p0.xrows.ls.length c0x0] 59] ∧ (i ≤ r26.length ∧ w16_sound_L0 p0 r26 r26 = w16_sound_L0 p0 r26 (List.drop i r26)) := ⟨_, rfl⟩
 have dm43 : ∀ {k35 : Nat} {w' : World}, I41 k35 w' ↔ Own w D w' [row A31 r26.length c32 (List.flatMap (eN .u64) r26) 30 1, blk g0 [.slice A0x0 p0.xrows.ls.length c0x0] 59] ∧ k35 ≤ r26.length ∧ w16_sound_L0 p0 r26 r26 = w16_sound_L0 p0 r26 (List.drop k35 r26) := by intros; subst hI42; exact Iff.rfl
 refine Wp.loop (fun i : Nat => [(2, .bool false), (23, .int .i64 ((i : Nat) : Int)), (22, .int .i64 ((r26.length : Nat) : Int)), (21, .slice A31 r26.length c32), (3, .slice A31 r26.length c32), (0, .pointer (some ⟨g0, 0, none⟩))]) I41 (fun i => r26.length - i) 0 ⟨rfl, rfl, rfl, rfl, rfl, rfl, trivial⟩ (dm43.2 ⟨H37, by omega, rfl⟩) ?_
 rintro k35 w38 hf40
 show Wp _ _ _ [(2, .bool false), (23, .int .i64 ((k35 : Nat) : Int)), (22, .int .i64 ((r26.length : Nat) : Int)), (21, .slice A31 r26.length c32), (3, .slice A31 r26.length c32), (0, .pointer (some ⟨g0, 0, none⟩))] _ _
 obtain ⟨H39, hi45, hq44⟩ := dm43.1 hf40
 refine sr (Kz (.bool (decide (((k35 : Nat) : Int) < ((r26.length : Nat) : Int)))) (nt (Wp.seq ?_)))
 by_cases h46 : ((k35 : Nat) : Int) < ((r26.length : Nat) : Int)
 obtain ⟨x47, hx48⟩ := rds_at (ls := r26) (i := k35) eN_len (by decide) (H39.rds (i := 0) rfl) (by first | omega | (simp; done) | (simp; omega))
 have hd49 := drop_at hx48
 refine jT (dT h46) (sk (Wp.seq (bo (sr (fw (.pointer (some ⟨ab A31, ao A31 + k35 * 1, none⟩)) (Yl.indexAddr (El37) rfl rfl ((H39.rds (i := 0) rfl).addr (i := k35) (by omega)) (by omega)) (fw (.int .u64 ((x47 : Nat) : Int)) (Yl.load rfl (Lds.one Try.isAgg30 (((H39.rds (i := 0) rfl).elem eN_len hx48 (by decide)).at_ (k := 0) rfl))) (Ar rfl (Mz rfl (Kz (.int .i64 ((r26.length : Nat) : Int)) (Mn rfl (bo ?_)))))))))))
 have H52 := H39.pk [0, 1]
 obtain ⟨I56, hI57⟩ : ∃ q : Nat → World → Prop, q = fun (i : Nat) w' => Own w D w' [row A31 r26.length c32 (List.flatMap (eN .u64) r26) 30 1, blk g0 [.slice A0x0 p0.xrows.ls.length c0x0] 59] ∧ (i ≤ r26.length ∧ w16_sound_L1 p0 x47 r26 = w16_sound_L1 p0 x47 (List.drop i r26)) := ⟨_, rfl⟩
 have dm58 : ∀ {k50 : Nat} {w' : World}, I56 k50 w' ↔ Own w D w' [row A31 r26.length c32 (List.flatMap (eN .u64) r26) 30 1, blk g0 [.slice A0x0 p0.xrows.ls.length c0x0] 59] ∧ k50 ≤ r26.length ∧ w16_sound_L1 p0 x47 r26 = w16_sound_L1 p0 x47 (List.drop k50 r26) := by intros; subst hI57; exact Iff.rfl
 refine Wp.loop (fun i : Nat => [(2, .bool false), (29, .int .i64 ((i : Nat) : Int)), (28, .int .i64 ((r26.length : Nat) : Int)), (27, .slice A31 r26.length c32), (5, .int .u64 ((x47 : Nat) : Int)), (23, .int .i64 ((k35 : Nat) : Int)), (22, .int .i64 ((r26.length : Nat) : Int)), (21, .slice A31 r26.length c32), (3, .slice A31 r26.length c32), (0, .pointer (some ⟨g0, 0, none⟩))]) I56 (fun i => r26.length - i) 0 ⟨rfl, rfl, rfl, rfl, rfl, rfl, rfl, rfl, rfl, rfl, trivial⟩ (dm58.2 ⟨H52, by omega, rfl⟩) ?_
 rintro k50 w53 hf55
 show Wp _ _ _ [(2, .bool false), (29, .int .i64 ((k50 : Nat) : Int)), (28, .int .i64 ((r26.length : Nat) : Int)), (27, .slice A31 r26.length c32), (5, .int .u64 ((x47 : Nat) : Int)), (23, .int .i64 ((k35 : Nat) : Int)), (22, .int .i64 ((r26.length : Nat) : Int)), (21, .slice A31 r26.length c32), (3, .slice A31 r26.length c32), (0, .pointer (some ⟨g0, 0, none⟩))] _ _
 obtain ⟨H54, hi60, hq59⟩ := dm58.1 hf55
 refine sr (Kz (.bool (decide (((k50 : Nat) : Int) < ((r26.length : Nat) : Int)))) (nt (Wp.seq ?_)))
 by_cases h61 : ((k50 : Nat) : Int) < ((r26.length : Nat) : Int)
 obtain ⟨x62, hx63⟩ := rds_at (ls := r26) (i := k50) eN_len (by decide) (H54.rds (i := 0) rfl) (by first | omega | (simp; done) | (simp; omega))
 have hd64 := drop_at hx63
 refine jT (dT h61) (sk (Wp.seq (bo (sr (fw (.pointer (some ⟨ab A31, ao A31 + k50 * 1, none⟩)) (Yl.indexAddr (El37) rfl rfl ((H54.rds (i := 0) rfl).addr (i := k50) (by omega)) (by omega)) (fw (.int .u64 ((x62 : Nat) : Int)) (Yl.load rfl (Lds.one Try.isAgg30 (((H54.rds (i := 0) rfl).elem eN_len hx63 (by decide)).at_ (k := 0) rfl))) (Ar rfl (Mz rfl (Mz rfl ?_)))))))))
 have H65 := H54.pk [1, 0]
 obtain ⟨r71, hr72⟩ : ∃ q, locks_Table_Holds p0 x47 = q := ⟨_, rfl⟩
 obtain ⟨D66, HP67, ro68, bk69, rr70⟩ := Own.enter1 H65
 refine cl Try.call17 (locks_Table_Holds_ok _ _ g0 p0 A0x0 c0x0 d0x0 x47 r71 HP67 hd0x0 (ro68 _ hx0x0) (show p0.xrows.ls.length ≤ c0x0 ∧ p0.xrows.ls.length ≤ 9223372036854775807 from by omega) (fun x9 h9 => ⟨ro68 _ (hm0x0 x9 h9).1, (hm0x0 x9 h9).2⟩) (by first | omega | (dsimp only; omega)) (by first | assumption | exact Sound.hd (by assumption)) hr72) ?_
 rintro _ w73 ⟨A76, c77, rfl, HQ74⟩
 have H75 := bk69 _ _ HQ74
 have hb78 := H75.rowC (i := 0) rfl
 refine Kz (.int .i64 ((r71.length : Nat) : Int)) (Mn rfl (bo ?_))
 have H81 := H75.pk [0, 1, 2]
 obtain ⟨I85, hI86⟩ : ∃ q : Nat → World → Prop, q = fun (i : Nat) w' => Own w D w' [row A76 r71.length c77 (List.flatMap LockD.cells r71) 34 3, blk g0 [.slice A0x0 p0.xrows.ls.length c0x0] 59, row A31 r26.length c32 (List.flatMap (eN .u64) r26) 30 1] ∧ (i ≤ r71.length ∧ w16_sound_L2 p0 x62 x47 r71 = w16_sound_L2 p0 x62 x47 (List.drop i r71)) := ⟨_, rfl⟩
 have dm87 : ∀ {k79 : Nat} {w' : World}, I85 k79 w' ↔ Own w D w' [row A76 r71.length c77 (List.flatMap LockD.cells r71) 34 3, blk g0 [.slice A0x0 p0.xrows.ls.length c0x0] 59, row A31 r26.length c32 (List.flatMap (eN .u64) r26) 30 1] ∧ k79 ≤ r71.length ∧ w16_sound_L2 p0 x62 x47 r71 = w16_sound_L2 p0 x62 x47 (List.drop k79 r71) := by intros; subst hI86; exact Iff.rfl
 refine Wp.loop (fun i : Nat => [(2, .bool false), (37, .int .i64 ((i : Nat) : Int)), (36, .int .i64 ((r71.length : Nat) : Int)), (35, .slice A76 r71.length c77), (7, .int .u64 ((x62 : Nat) : Int)), (29, .int .i64 ((k50 : Nat) : Int)), (28, .int .i64 ((r26.length : Nat) : Int)), (27, .slice A31 r26.length c32), (5, .int .u64 ((x47 : Nat) : Int)), (23, .int .i64 ((k35 : Nat) : Int)), (22, .int .i64 ((r26.length : Nat) : Int)), (21, .slice A31 r26.length c32), (3, .slice A31 r26.length c32), (0, .pointer (some ⟨g0, 0, none⟩))]) I85 (fun i => r71.length - i) 0 ⟨rfl, rfl, rfl, rfl, rfl, rfl, rfl, rfl, rfl, rfl, rfl, rfl, rfl, rfl, trivial⟩ (dm87.2 ⟨H81, by omega, rfl⟩) ?_
 rintro k79 w82 hf84
 show Wp _ _ _ [(2, .bool false), (37, .int .i64 ((k79 : Nat) : Int)), (36, .int .i64 ((r71.length : Nat) : Int)), (35, .slice A76 r71.length c77), (7, .int .u64 ((x62 : Nat) : Int)), (29, .int .i64 ((k50 : Nat) : Int)), (28, .int .i64 ((r26.length : Nat) : Int)), (27, .slice A31 r26.length c32), (5, .int .u64 ((x47 : Nat) : Int)), (23, .int .i64 ((k35 : Nat) : Int)), (22, .int .i64 ((r26.length : Nat) : Int)), (21, .slice A31 r26.length c32), (3, .slice A31 r26.length c32), (0, .pointer (some ⟨g0, 0, none⟩))] _ _
 obtain ⟨H83, hi89, hq88⟩ := dm87.1 hf84
 refine sr (Kz (.bool (decide (((k79 : Nat) : Int) < ((r71.length : Nat) : Int)))) (nt (Wp.seq ?_)))
 by_cases h90 : ((k79 : Nat) : Int) < ((r71.length : Nat) : Int)
 obtain ⟨x91, hx92⟩ := rds_at (ls := r71) (i := k79) LockD.len (by decide) (H83.rds (i := 0) rfl) (by first | omega | (simp; done) | (simp; omega))
 have hd93 := drop_at hx92
 refine jT (dT h90) (sk (Wp.seq (bo (sr (fw (.pointer (some ⟨ab A76, ao A76 + k79 * 3, none⟩)) (Yl.indexAddr (El46) rfl rfl ((H83.rds (i := 0) rfl).addr (i := k79) (by omega)) (by omega)) (fw (.agg (LockD.cells x91).toArray) (Yl.load rfl (Lds.agg (cs := (LockD.cells x91)) Try.isAgg34 Try.sizeOf34 ((H83.rds (i := 0) rfl).elem LockD.len hx92 (by decide)))) ?_))))))
 refine npw [.string ⟨List.toArray ([])⟩, .string ⟨List.toArray ([])⟩, .bool false] 34 H83 ?_
 intro g94 w95 H96
 refine sto (LockD.cells x91) 0 H96 Try.sizeOf34 ?_
 intro w97 H98
 refine ns (Mz rfl (Mz rfl ?_))
 have H99 := H98.pk [2, 0, 1, 3]
 obtain ⟨r105, hr106⟩ : ∃ q, locks_Table_Holds p0 x62 = q := ⟨_, rfl⟩
 obtain ⟨D100, HP101, ro102, bk103, rr104⟩ := Own.enter1 H99
 refine cl Try.call17 (locks_Table_Holds_ok _ _ g0 p0 A0x0 c0x0 d0x0 x62 r105 HP101 hd0x0 (ro102 _ hx0x0) (show p0.xrows.ls.length ≤ c0x0 ∧ p0.xrows.ls.length ≤ 9223372036854775807 from by omega) (fun x9 h9 => ⟨ro102 _ (hm0x0 x9 h9).1, (hm0x0 x9 h9).2⟩) (by first | omega | (dsimp only; omega)) (by first | assumption | exact Sound.hd (by assumption)) hr106) ?_
 rintro _ w107 ⟨A110, c111, rfl, HQ108⟩
 have H109 := bk103 _ _ HQ108
 have hb112 := H109.rowC (i := 0) rfl
 refine Kz (.int .i64 ((r105.length : Nat) : Int)) (Mn rfl (bo ?_))
 have H115 := H109.pk [0, 1, 2, 3, 4]
 obtain ⟨I119, hI120⟩ : ∃ q : Nat → World → Prop, q = fun (i : Nat) w' => Own w D w' [row A110 r105.length c111 (List.flatMap LockD.cells r105) 34 3, blk g0 [.slice A0x0 p0.xrows.ls.length c0x0] 59, blk g94 (LockD.cells x91) 34, row A76 r71.length c77 (List.flatMap LockD.cells r71) 34 3, row A31 r26.length c32 (List.flatMap (eN .u64) r26) 30 1] ∧ (i ≤ r105.length ∧ w16_sound_L3 x62 x47 x91 r105 = w16_sound_L3 x62 x47 x91 (List.drop i r105)) := ⟨_, rfl⟩
 have dm121 : ∀ {k113 : Nat} {w' : World}, I119 k113 w' ↔ Own w D w' [row A110 r105.length c111 (List.flatMap LockD.cells r105) 34 3, blk g0 [.slice A0x0 p0.xrows.ls.length c0x0] 59, blk g94 (LockD.cells x91) 34, row A76 r71.length c77 (List.flatMap LockD.cells r71) 34 3, row A31 r26.length c32 (List.flatMap (eN .u64) r26) 30 1] ∧ k113 ≤ r105.length ∧ w16_sound_L3 x62 x47 x91 r105 = w16_sound_L3 x62 x47 x91 (List.drop k113 r105) := by intros; subst hI120; exact Iff.rfl
 refine Wp.loop (fun i : Nat => [(2, .bool false), (45, .int .i64 ((i : Nat) : Int)), (44, .int .i64 ((r105.length : Nat) : Int)), (43, .slice A110 r105.length c111), (9, .pointer (some ⟨g94, 0, none⟩)), (37, .int .i64 ((k79 : Nat) : Int)), (36, .int .i64 ((r71.length : Nat) : Int)), (35, .slice A76 r71.length c77), (7, .int .u64 ((x62 : Nat) : Int)), (29, .int .i64 ((k50 : Nat) : Int)), (28, .int .i64 ((r26.length : Nat) : Int)), (27, .slice A31 r26.length c32), (5, .int .u64 ((x47 : Nat) : Int)), (23, .int .i64 ((k35 : Nat) : Int)), (22, .int .i64 ((r26.length : Nat) : Int)), (21, .slice A31 r26.length c32), (3, .slice A31 r26.length c32), (0, .pointer (some ⟨g0, 0, none⟩))]) I119 (fun i => r105.length - i) 0 ⟨rfl, rfl, rfl, rfl, rfl, rfl, rfl, rfl, rfl, rfl, rfl, rfl, rfl, rfl, rfl, rfl, rfl, rfl, trivial⟩ (dm121.2 ⟨H115, by omega, rfl⟩) ?_
 rintro k113 w116 hf118
 show Wp _ _ _ [(2, .bool false), (45, .int .i64 ((k113 : Nat) : Int)), (44, .int .i64 ((r105.length : Nat) : Int)), (43, .slice A110 r105.length c111), (9, .pointer (some ⟨g94, 0, none⟩)), (37, .int .i64 ((k79 : Nat) : Int)), (36, .int .i64 ((r71.length : Nat) : Int)), (35, .slice A76 r71.length c77), (7, .int .u64 ((x62 : Nat) : Int)), (29, .int .i64 ((k50 : Nat) : Int)), (28, .int .i64 ((r26.length : Nat) : Int)), (27, .slice A31 r26.length c32), (5, .int .u64 ((x47 : Nat) : Int)), (23, .int .i64 ((k35 : Nat) : Int)), (22, .int .i64 ((r26.length : Nat) : Int)), (21, .slice A31 r26.length c32), (3, .slice A31 r26.length c32), (0, .pointer (some ⟨g0, 0, none⟩))] _ _
 obtain ⟨H117, hi123, hq122⟩ := dm121.1 hf118
 refine sr (Kz (.bool (decide (((k113 : Nat) : Int) < ((r105.length : Nat) : Int)))) (nt (Wp.seq ?_)))
 by_cases h124 : ((k113 : Nat) : Int) < ((r105.length : Nat) : Int)
 obtain ⟨x125, hx126⟩ := rds_at (ls := r105) (i := k113) LockD.len (by decide) (H117.rds (i := 0) rfl) (by first | omega | (simp; done) | (simp; omega))
 have hd127 := drop_at hx126
 refine jT (dT h124) (sk (Wp.seq (bo (sr (fw (.pointer (some ⟨ab A110, ao A110 + k113 * 3, none⟩)) (Yl.indexAddr (El46) rfl rfl ((H117.rds (i := 0) rfl).addr (i := k113) (by omega)) (by omega)) (fw (.agg (LockD.cells x125).toArray) (Yl.load rfl (Lds.agg (cs := (LockD.cells x125)) Try.isAgg34 Try.sizeOf34 ((H117.rds (i := 0) rfl).elem LockD.len hx126 (by decide)))) ?_))))))
 refine npw [.string ⟨List.toArray ([])⟩, .string ⟨List.toArray ([])⟩, .bool false] 34 H117 ?_
 intro g128 w129 H130
 refine sto (LockD.cells x125) 0 H130 Try.sizeOf34 ?_
 intro w131 H132
 refine ns (Mz rfl (Mz rfl (fw (.bool (decide (¬ (((x47 : Nat) : Int) = ((x62 : Nat) : Int))))) (Yl.bool (e := !(decide (((x47 : Nat) : Int) = ((x62 : Nat) : Int)))) yk decide_not.symm) (Mz rfl ?_))))
 by_cases h133 : ((x47 : Nat) : Int) = ((x62 : Nat) : Int)
 refine Sk rfl rfl (dF (not_not_intro h133)) rfl (Sk rfl rfl (dF (not_not_intro h133)) rfl (Sk rfl rfl (dF (not_not_intro h133)) rfl (fw (.bool false) (Yl.pickF rfl (dF (not_not_intro h133)) rfl) (nt (jf (Wp.skip (bN (Fin.then ?_))))))))
 have H134 := H132.pk [1, 2, 3, 4, 5]
 refine Wp.region (fw (.int .i64 ((k113 + 1 : Nat) : Int)) (Yl.int (e := IntKind.i64.wrap (((k113 : Nat) : Int) + 1)) yk (by rw [IntWalk.i64_in _ (by omega)]; omega)) (Mz rfl (WL.nil ?_)))
 have H135 := H134.pk [0, 1, 2, 3, 4]
 exact Fin.round (k113 + 1) ⟨rfl, rfl, rfl, rfl, rfl, rfl, rfl, rfl, rfl, rfl, rfl, rfl, rfl, rfl, rfl, rfl, rfl, rfl, trivial⟩ (dm121.2 ⟨H135, by omega, et (hq122) (et (congrArg (fun q => w16_sound_L3 x62 x47 x91 q) hd127) (ip h133))⟩) (by show r105.length - (k113 + 1) < r105.length - k113; omega)
 refine Ga (LockD.cells x91) (dT h133) H132 3 Try.isAgg34 Try.sizeOf34 (Ga (LockD.cells x125) (dT h133) H132 0 Try.isAgg34 Try.sizeOf34 ?_)
 obtain ⟨r141, hr142⟩ : ∃ q, w16_inWay x91 x125 = q := ⟨_, rfl⟩
 obtain ⟨D136, HP137, ro138, bk139, rr140⟩ := Own.enter0 H132
 refine clG (dT h133) Try.call44 (w16_inWay_ok _ _ x91 x125 r141 HP137 hr142) ?_
 rintro _ w143 ⟨rfl, HQ144⟩
 have H145 := bk139 _ _ HQ144
 refine fw (.bool r141) (Yl.pickT rfl (dT h133) rfl) (nt ?_)
 rcases Bool.eq_false_or_eq_true (r141) with h146 | h146
 refine jT h146 (Wp.seq ?_)
 have H147 := H145.pk [1, 2, 3, 4, 5]
 refine Wp.region (An rfl (rt (bR (tR (tR (bR (bR (tR (tR (bR (bR (tR (tR (bR (bR (tR (tR (bR (tR (rs ?_))))))))))))))))))))
 have H148 := H147.pk [1]
 obtain rfl : _ = false := hr.symm.trans (et (bnd_of hr27) (lp_r (et (hq44) (et (congrArg (fun q => w16_sound_L0 p0 r26 q) hd49) (lpS_r (et (hq59) (et (congrArg (fun q => w16_sound_L1 p0 x47 q) hd64) (et (bnd_of hr72) (lpS_r (et (hq88) (et (congrArg (fun q => w16_sound_L2 p0 x62 x47 q) hd93) (et (bnd_of hr106) (lpS_r (et (hq122) (et (congrArg (fun q => w16_sound_L3 x62 x47 x91 q) hd127) (et (iN h133) (et (bnd_of hr142) (ip h146))))))))))))))))))
 exact ⟨rfl, H148⟩
 refine jF h146 (Wp.skip (bN (Fin.then ?_)))
 have H149 := H145.pk [1, 2, 3, 4, 5]
 refine Wp.region (fw (.int .i64 ((k113 + 1 : Nat) : Int)) (Yl.int (e := IntKind.i64.wrap (((k113 : Nat) : Int) + 1)) yk (by rw [IntWalk.i64_in _ (by omega)]; omega)) (Mz rfl (WL.nil ?_)))
 have H150 := H149.pk [0, 1, 2, 3, 4]
 exact Fin.round (k113 + 1) ⟨rfl, rfl, rfl, rfl, rfl, rfl, rfl, rfl, rfl, rfl, rfl, rfl, rfl, rfl, rfl, rfl, rfl, rfl, trivial⟩ (dm121.2 ⟨H150, by omega, et (hq122) (et (congrArg (fun q => w16_sound_L3 x62 x47 x91 q) hd127) (et (iN h133) (et (bnd_of hr142) (ifF h146))))⟩) (by show r105.length - (k113 + 1) < r105.length - k113; omega)
 refine jF (dF h124) (Wp.exit (Fin.thenX ?_))
 have hL151 : w16_sound_L3 x62 x47 x91 r105 = Sum.inl () := et (hq122) (et (congrArg (fun q => w16_sound_L3 x62 x47 x91 q) (drop_end (ls := r105) (i := k113) (by omega))) rfl)
 refine Fin.thenX (Fin.blockX (bN (Fin.then ?_)))
 have H152 := H117.pk [1, 3, 4]
 refine Wp.region (fw (.int .i64 ((k79 + 1 : Nat) : Int)) (Yl.int (e := IntKind.i64.wrap (((k79 : Nat) : Int) + 1)) yk (by rw [IntWalk.i64_in _ (by omega)]; omega)) (Mz rfl (WL.nil ?_)))
 have H153 := H152.pk [1, 0, 2]
 exact Fin.round (k79 + 1) ⟨rfl, rfl, rfl, rfl, rfl, rfl, rfl, rfl, rfl, rfl, rfl, rfl, rfl, rfl, trivial⟩ (dm87.2 ⟨H153, by omega, et (hq88) (et (congrArg (fun q => w16_sound_L2 p0 x62 x47 q) hd93) (et (bnd_of hr106) (lpS_l hL151)))⟩) (by show r71.length - (k79 + 1) < r71.length - k79; omega)
 refine jF (dF h90) (Wp.exit (Fin.thenX ?_))
 have hL154 : w16_sound_L2 p0 x62 x47 r71 = Sum.inl () := et (hq88) (et (congrArg (fun q => w16_sound_L2 p0 x62 x47 q) (drop_end (ls := r71) (i := k79) (by omega))) rfl)
 refine Fin.thenX (Fin.blockX (bN (Fin.then ?_)))
 have H155 := H83.pk [1, 2]
 refine Wp.region (fw (.int .i64 ((k50 + 1 : Nat) : Int)) (Yl.int (e := IntKind.i64.wrap (((k50 : Nat) : Int) + 1)) yk (by rw [IntWalk.i64_in _ (by omega)]; omega)) (Mz rfl (WL.nil ?_)))
 have H156 := H155.pk [1, 0]
 exact Fin.round (k50 + 1) ⟨rfl, rfl, rfl, rfl, rfl, rfl, rfl, rfl, rfl, rfl, trivial⟩ (dm58.2 ⟨H156, by omega, et (hq59) (et (congrArg (fun q => w16_sound_L1 p0 x47 q) hd64) (et (bnd_of hr72) (lpS_l hL154)))⟩) (by show r26.length - (k50 + 1) < r26.length - k50; omega)
 refine jF (dF h61) (Wp.exit (Fin.thenX ?_))
 have hL157 : w16_sound_L1 p0 x47 r26 = Sum.inl () := et (hq59) (et (congrArg (fun q => w16_sound_L1 p0 x47 q) (drop_end (ls := r26) (i := k50) (by omega))) rfl)
 refine Fin.thenX (Fin.blockX (bN (Fin.then (Wp.region (fw (.int .i64 ((k35 + 1 : Nat) : Int)) (Yl.int (e := IntKind.i64.wrap (((k35 : Nat) : Int) + 1)) yk (by rw [IntWalk.i64_in _ (by omega)]; omega)) (Mz rfl (WL.nil ?_)))))))
 have H158 := H54.pk [0, 1]
 exact Fin.round (k35 + 1) ⟨rfl, rfl, rfl, rfl, rfl, rfl, trivial⟩ (dm43.2 ⟨H158, by omega, et (hq44) (et (congrArg (fun q => w16_sound_L0 p0 r26 q) hd49) (lpS_l hL157))⟩) (by show r26.length - (k35 + 1) < r26.length - k35; omega)
 refine jF (dF h46) (Wp.exit (Fin.thenX ?_))
 have hL159 : w16_sound_L0 p0 r26 r26 = Sum.inl () := et (hq44) (et (congrArg (fun q => w16_sound_L0 p0 r26 q) (drop_end (ls := r26) (i := k35) (by omega))) rfl)
 refine Fin.thenX (Fin.blockX (Fin.then (Wp.seq (sr (Mz rfl ?_)))))
 have H160 := H39.pk [1, 0]
 obtain ⟨r166, hr167⟩ : ∃ q, locks_Table_Waiting p0 = q := ⟨_, rfl⟩
 obtain ⟨D161, HP162, ro163, bk164, rr165⟩ := Own.enter1 H160
 refine cl Try.call18 (locks_Table_Waiting_ok _ _ g0 p0 A0x0 c0x0 d0x0 r166 HP162 hd0x0 (ro163 _ hx0x0) (show p0.xrows.ls.length ≤ c0x0 ∧ p0.xrows.ls.length ≤ 9223372036854775807 from by omega) (fun x9 h9 => ⟨ro163 _ (hm0x0 x9 h9).1, (hm0x0 x9 h9).2⟩) (by first | omega | (dsimp only; omega)) hr167) ?_
 rintro _ w168 ⟨A171, c172, rfl, HQ169⟩
 have H170 := bk164 _ _ HQ169
 have hb173 := H170.rowC (i := 0) rfl
 refine Kz (.int .i64 ((r166.length : Nat) : Int)) (Mn rfl (bo ?_))
 have H176 := H170.pk [0, 1, 2]
 obtain ⟨I180, hI181⟩ : ∃ q : Nat → World → Prop, q = fun (i : Nat) w' => Own w D w' [row A171 r166.length c172 (List.flatMap AskD.cells r166) 51 4, blk g0 [.slice A0x0 p0.xrows.ls.length c0x0] 59, row A31 r26.length c32 (List.flatMap (eN .u64) r26) 30 1] ∧ (i ≤ r166.length ∧ w16_sound_L4 p0 r26 r166 = w16_sound_L4 p0 r26 (List.drop i r166)) := ⟨_, rfl⟩
 have dm182 : ∀ {k174 : Nat} {w' : World}, I180 k174 w' ↔ Own w D w' [row A171 r166.length c172 (List.flatMap AskD.cells r166) 51 4, blk g0 [.slice A0x0 p0.xrows.ls.length c0x0] 59, row A31 r26.length c32 (List.flatMap (eN .u64) r26) 30 1] ∧ k174 ≤ r166.length ∧ w16_sound_L4 p0 r26 r166 = w16_sound_L4 p0 r26 (List.drop k174 r166) := by intros; subst hI181; exact Iff.rfl
 refine Wp.loop (fun i : Nat => [(2, .bool false), (64, .int .i64 ((i : Nat) : Int)), (63, .int .i64 ((r166.length : Nat) : Int)), (62, .slice A171 r166.length c172), (3, .slice A31 r26.length c32), (0, .pointer (some ⟨g0, 0, none⟩))]) I180 (fun i => r166.length - i) 0 ⟨rfl, rfl, rfl, rfl, rfl, rfl, trivial⟩ (dm182.2 ⟨H176, by omega, rfl⟩) ?_
 rintro k174 w177 hf179
 show Wp _ _ _ [(2, .bool false), (64, .int .i64 ((k174 : Nat) : Int)), (63, .int .i64 ((r166.length : Nat) : Int)), (62, .slice A171 r166.length c172), (3, .slice A31 r26.length c32), (0, .pointer (some ⟨g0, 0, none⟩))] _ _
 obtain ⟨H178, hi184, hq183⟩ := dm182.1 hf179
 refine sr (Kz (.bool (decide (((k174 : Nat) : Int) < ((r166.length : Nat) : Int)))) (nt (Wp.seq ?_)))
 by_cases h185 : ((k174 : Nat) : Int) < ((r166.length : Nat) : Int)
 obtain ⟨x186, hx187⟩ := rds_at (ls := r166) (i := k174) AskD.len (by decide) (H178.rds (i := 0) rfl) (by first | omega | (simp; done) | (simp; omega))
 have hd188 := drop_at hx187
 refine jT (dT h185) (sk (Wp.seq (bo (sr (fw (.pointer (some ⟨ab A171, ao A171 + k174 * 4, none⟩)) (Yl.indexAddr (El48) rfl rfl ((H178.rds (i := 0) rfl).addr (i := k174) (by omega)) (by omega)) (fw (.agg (AskD.cells x186).toArray) (Yl.load rfl (Lds.agg (cs := (AskD.cells x186)) Try.isAgg51 Try.sizeOf51 ((H178.rds (i := 0) rfl).elem AskD.len hx187 (by decide)))) ?_))))))
 refine npw [.int .u64 0, .string ⟨List.toArray ([])⟩, .string ⟨List.toArray ([])⟩, .bool false] 51 H178 ?_
 intro g189 w190 H191
 refine sto (AskD.cells x186) 0 H191 Try.sizeOf51 ?_
 intro w192 H193
 refine ns (An rfl (Wp.seq (sr (Mz rfl (Kz (.int .i64 ((r26.length : Nat) : Int)) (Mn rfl (bo ?_)))))))
 have H197 := H193.pk [0, 1, 2, 3]
 obtain ⟨I201, hI202⟩ : ∃ q : (Bool × Nat) → World → Prop, q = fun (i : Bool × Nat) w' => Own w D w' [blk g189 (AskD.cells x186) 51, row A171 r166.length c172 (List.flatMap AskD.cells r166) 51 4, blk g0 [.slice A0x0 p0.xrows.ls.length c0x0] 59, row A31 r26.length c32 (List.flatMap (eN .u64) r26) 30 1] ∧ (i.2 ≤ r26.length ∧ w16_sound_L5 p0 x186 r26 false = w16_sound_L5 p0 x186 (List.drop i.2 r26) i.1) := ⟨_, rfl⟩
 have dm203 : ∀ {b194 : Bool} {k195 : Nat} {w' : World}, I201 (b194, k195) w' ↔ Own w D w' [blk g189 (AskD.cells x186) 51, row A171 r166.length c172 (List.flatMap AskD.cells r166) 51 4, blk g0 [.slice A0x0 p0.xrows.ls.length c0x0] 59, row A31 r26.length c32 (List.flatMap (eN .u64) r26) 30 1] ∧ k195 ≤ r26.length ∧ w16_sound_L5 p0 x186 r26 false = w16_sound_L5 p0 x186 (List.drop k195 r26) b194 := by intros; subst hI202; exact Iff.rfl
 refine Wp.loop (fun i : Bool × Nat => [(2, .bool false), (14, .bool i.1), (70, .int .i64 ((i.2 : Nat) : Int)), (69, .int .i64 ((r26.length : Nat) : Int)), (68, .slice A31 r26.length c32), (13, .pointer (some ⟨g189, 0, none⟩)), (64, .int .i64 ((k174 : Nat) : Int)), (63, .int .i64 ((r166.length : Nat) : Int)), (62, .slice A171 r166.length c172), (3, .slice A31 r26.length c32), (0, .pointer (some ⟨g0, 0, none⟩))]) I201 (fun i => r26.length - i.2) (false, 0) ⟨rfl, rfl, rfl, rfl, rfl, rfl, rfl, rfl, rfl, rfl, rfl, trivial⟩ (dm203.2 ⟨H197, (show 0 ≤ r26.length ∧ w16_sound_L5 p0 x186 r26 false = w16_sound_L5 p0 x186 (List.drop 0 r26) false from ⟨by omega, rfl⟩)⟩) ?_
 rintro ⟨b194, k195⟩ w198 hf200
 show Wp _ _ _ [(2, .bool false), (14, .bool b194), (70, .int .i64 ((k195 : Nat) : Int)), (69, .int .i64 ((r26.length : Nat) : Int)), (68, .slice A31 r26.length c32), (13, .pointer (some ⟨g189, 0, none⟩)), (64, .int .i64 ((k174 : Nat) : Int)), (63, .int .i64 ((r166.length : Nat) : Int)), (62, .slice A171 r166.length c172), (3, .slice A31 r26.length c32), (0, .pointer (some ⟨g0, 0, none⟩))] _ _
 obtain ⟨H199, hi205, hq204⟩ := dm203.1 hf200
 refine sr (Kz (.bool (decide (((k195 : Nat) : Int) < ((r26.length : Nat) : Int)))) (nt (Wp.seq ?_)))
 by_cases h206 : ((k195 : Nat) : Int) < ((r26.length : Nat) : Int)
 obtain ⟨x207, hx208⟩ := rds_at (ls := r26) (i := k195) eN_len (by decide) (H199.rds (i := 3) rfl) (by first | omega | (simp; done) | (simp; omega))
 have hd209 := drop_at hx208
 refine jT (dT h206) (sk (Wp.seq (bo (sr (fw (.pointer (some ⟨ab A31, ao A31 + k195 * 1, none⟩)) (Yl.indexAddr (El37) rfl rfl ((H199.rds (i := 3) rfl).addr (i := k195) (by omega)) (by omega)) (fw (.int .u64 ((x207 : Nat) : Int)) (Yl.load rfl (Lds.one Try.isAgg30 (((H199.rds (i := 3) rfl).elem eN_len hx208 (by decide)).at_ (k := 0) rfl))) (Ar rfl (Mz rfl (Mz rfl ?_)))))))))
 have H210 := H199.pk [2, 0, 1, 3]
 obtain ⟨r216, hr217⟩ : ∃ q, locks_Table_Holds p0 x207 = q := ⟨_, rfl⟩
 obtain ⟨D211, HP212, ro213, bk214, rr215⟩ := Own.enter1 H210
 refine cl Try.call17 (locks_Table_Holds_ok _ _ g0 p0 A0x0 c0x0 d0x0 x207 r216 HP212 hd0x0 (ro213 _ hx0x0) (show p0.xrows.ls.length ≤ c0x0 ∧ p0.xrows.ls.length ≤ 9223372036854775807 from by omega) (fun x9 h9 => ⟨ro213 _ (hm0x0 x9 h9).1, (hm0x0 x9 h9).2⟩) (by first | omega | (dsimp only; omega)) (by first | assumption | exact Sound.hd (by assumption)) hr217) ?_
 rintro _ w218 ⟨A221, c222, rfl, HQ219⟩
 have H220 := bk214 _ _ HQ219
 have hb223 := H220.rowC (i := 0) rfl
 refine Kz (.int .i64 ((r216.length : Nat) : Int)) (Mn rfl (bo ?_))
 have H227 := H220.pk [0, 1, 2, 3, 4]
 obtain ⟨I231, hI232⟩ : ∃ q : (Bool × Nat) → World → Prop, q = fun (i : Bool × Nat) w' => Own w D w' [row A221 r216.length c222 (List.flatMap LockD.cells r216) 34 3, blk g0 [.slice A0x0 p0.xrows.ls.length c0x0] 59, blk g189 (AskD.cells x186) 51, row A171 r166.length c172 (List.flatMap AskD.cells r166) 51 4, row A31 r26.length c32 (List.flatMap (eN .u64) r26) 30 1] ∧ (i.2 ≤ r216.length ∧ w16_sound_L6 x186 x207 r216 b194 = w16_sound_L6 x186 x207 (List.drop i.2 r216) i.1) := ⟨_, rfl⟩
 have dm233 : ∀ {b224 : Bool} {k225 : Nat} {w' : World}, I231 (b224, k225) w' ↔ Own w D w' [row A221 r216.length c222 (List.flatMap LockD.cells r216) 34 3, blk g0 [.slice A0x0 p0.xrows.ls.length c0x0] 59, blk g189 (AskD.cells x186) 51, row A171 r166.length c172 (List.flatMap AskD.cells r166) 51 4, row A31 r26.length c32 (List.flatMap (eN .u64) r26) 30 1] ∧ k225 ≤ r216.length ∧ w16_sound_L6 x186 x207 r216 b194 = w16_sound_L6 x186 x207 (List.drop k225 r216) b224 := by intros; subst hI232; exact Iff.rfl
 refine Wp.loop (fun i : Bool × Nat => [(2, .bool false), (14, .bool i.1), (78, .int .i64 ((i.2 : Nat) : Int)), (77, .int .i64 ((r216.length : Nat) : Int)), (76, .slice A221 r216.length c222), (16, .int .u64 ((x207 : Nat) : Int)), (70, .int .i64 ((k195 : Nat) : Int)), (69, .int .i64 ((r26.length : Nat) : Int)), (68, .slice A31 r26.length c32), (13, .pointer (some ⟨g189, 0, none⟩)), (64, .int .i64 ((k174 : Nat) : Int)), (63, .int .i64 ((r166.length : Nat) : Int)), (62, .slice A171 r166.length c172), (3, .slice A31 r26.length c32), (0, .pointer (some ⟨g0, 0, none⟩))]) I231 (fun i => r216.length - i.2) (b194, 0) ⟨rfl, rfl, rfl, rfl, rfl, rfl, rfl, rfl, rfl, rfl, rfl, rfl, rfl, rfl, rfl, trivial⟩ (dm233.2 ⟨H227, by omega, rfl⟩) ?_
 rintro ⟨b224, k225⟩ w228 hf230
 show Wp _ _ _ [(2, .bool false), (14, .bool b224), (78, .int .i64 ((k225 : Nat) : Int)), (77, .int .i64 ((r216.length : Nat) : Int)), (76, .slice A221 r216.length c222), (16, .int .u64 ((x207 : Nat) : Int)), (70, .int .i64 ((k195 : Nat) : Int)), (69, .int .i64 ((r26.length : Nat) : Int)), (68, .slice A31 r26.length c32), (13, .pointer (some ⟨g189, 0, none⟩)), (64, .int .i64 ((k174 : Nat) : Int)), (63, .int .i64 ((r166.length : Nat) : Int)), (62, .slice A171 r166.length c172), (3, .slice A31 r26.length c32), (0, .pointer (some ⟨g0, 0, none⟩))] _ _
 obtain ⟨H229, hi235, hq234⟩ := dm233.1 hf230
 refine sr (Kz (.bool (decide (((k225 : Nat) : Int) < ((r216.length : Nat) : Int)))) (nt (Wp.seq ?_)))
 by_cases h236 : ((k225 : Nat) : Int) < ((r216.length : Nat) : Int)
 obtain ⟨x237, hx238⟩ := rds_at (ls := r216) (i := k225) LockD.len (by decide) (H229.rds (i := 0) rfl) (by first | omega | (simp; done) | (simp; omega))
 have hd239 := drop_at hx238
 refine jT (dT h236) (sk (Wp.seq (bo (sr (fw (.pointer (some ⟨ab A221, ao A221 + k225 * 3, none⟩)) (Yl.indexAddr (El46) rfl rfl ((H229.rds (i := 0) rfl).addr (i := k225) (by omega)) (by omega)) (fw (.agg (LockD.cells x237).toArray) (Yl.load rfl (Lds.agg (cs := (LockD.cells x237)) Try.isAgg34 Try.sizeOf34 ((H229.rds (i := 0) rfl).elem LockD.len hx238 (by decide)))) ?_))))))
 refine npw [.string ⟨List.toArray ([])⟩, .string ⟨List.toArray ([])⟩, .bool false] 34 H229 ?_
 intro g240 w241 H242
 refine sto (LockD.cells x237) 0 H242 Try.sizeOf34 ?_
 intro w243 H244
 refine nt (Wp.seq (sr (Mz rfl (Kz (.pointer (some ⟨g189, 0, none⟩)) (Lz (.int .u64 ((x186.xTxn : Nat) : Int)) H244 3 Try.isAgg30 (Kz (.bool (decide (((x207 : Nat) : Int) = ((x186.xTxn : Nat) : Int)))) (Mz rfl ?_)))))))
 by_cases h245 : ((x207 : Nat) : Int) = ((x186.xTxn : Nat) : Int)
 refine Sz (dT h245) (Sz (dT h245) (Sz (dT h245) (Sz (dT h245) (Sz (dT h245) (fw (.bool true) (Yl.pickT rfl (dT h245) rfl) (nt (jt (Wp.exit (Fin.thenX (Fin.blockX (Fin.then ?_)))))))))))
 have H246 := H244.pk [1, 2, 3, 4, 5]
 refine Wp.region (fw (.int .i64 ((k225 + 1 : Nat) : Int)) (Yl.int (e := IntKind.i64.wrap (((k225 : Nat) : Int) + 1)) yk (by rw [IntWalk.i64_in _ (by omega)]; omega)) (Mz rfl (WL.nil ?_)))
 have H247 := H246.pk [0, 1, 2, 3, 4]
 exact Fin.round (b224, k225 + 1) ⟨rfl, rfl, rfl, rfl, rfl, rfl, rfl, rfl, rfl, rfl, rfl, rfl, rfl, rfl, rfl, trivial⟩ (dm233.2 ⟨H247, by omega, et (hq234) (et (congrArg (fun q => w16_sound_L6 x186 x207 q b224) hd239) (ip h245))⟩) (by show r216.length - (k225 + 1) < r216.length - k225; omega)
 refine Gz (.pointer (some ⟨g189, 1, none⟩)) (dF h245) (Ga (LockD.cells x186.xLock) (dF h245) H244 3 Try.isAgg34 Try.sizeOf34 (Ga (LockD.cells x237) (dF h245) H244 0 Try.isAgg34 Try.sizeOf34 ?_))
 obtain ⟨r253, hr254⟩ : ∃ q, w16_inWay x186.xLock x237 = q := ⟨_, rfl⟩
 obtain ⟨D248, HP249, ro250, bk251, rr252⟩ := Own.enter0 H244
 refine clG (dF h245) Try.call44 (w16_inWay_ok _ _ x186.xLock x237 r253 HP249 hr254) ?_
 rintro _ w255 ⟨rfl, HQ256⟩
 have H257 := bk251 _ _ HQ256
 refine Gz (.bool (!r253)) (dF h245) (fw (.bool (!r253)) (Yl.pickF rfl (dF h245) rfl) (nt ?_))
 rcases Bool.eq_false_or_eq_true (r253) with h258 | h258
 refine jF (cn h258) (sk (Wp.seq ?_))
 have H259 := H257.pk [1, 2, 3, 4, 5]
 refine Wp.region (Ar rfl (Mz rfl (Kz (.pointer (some ⟨g189, 0, none⟩)) (Lz (.int .u64 ((x186.xTxn : Nat) : Int)) H259 2 Try.isAgg30 (Kz (.bool (decide (((x207 : Nat) : Int) ≤ ((x186.xTxn : Nat) : Int)))) (nt ?_))))))
 by_cases h260 : ((x207 : Nat) : Int) ≤ ((x186.xTxn : Nat) : Int)
 refine jT (dT h260) (sr (An rfl (rt (bR (tR (tR (bR (bR (tR (tR (bR (tR (bR (tR (tR (bR (tR (rs ?_))))))))))))))))))
 have H261 := H259.pk [1]
 obtain rfl : _ = false := hr.symm.trans (et (bnd_of hr27) (et (lp_l hL159) (et (bnd_of hr167) (lp_r (et (hq183) (et (congrArg (fun q => w16_sound_L4 p0 r26 q) hd188) (lpS_r (et (hq204) (et (congrArg (fun q => w16_sound_L5 p0 x186 q b194) hd209) (et (bnd_of hr217) (lpS_r (et (hq234) (et (congrArg (fun q => w16_sound_L6 x186 x207 q b224) hd239) (et (iN h245) (et (bnd_of hr254) (et (ip h258) (ip h260)))))))))))))))))
 exact ⟨rfl, H261⟩
 refine jF (dF h260) (Wp.skip (bN (Fin.then (Wp.region (fw (.int .i64 ((k225 + 1 : Nat) : Int)) (Yl.int (e := IntKind.i64.wrap (((k225 : Nat) : Int) + 1)) yk (by rw [IntWalk.i64_in _ (by omega)]; omega)) (Mz rfl (WL.nil ?_)))))))
 have H262 := H259.pk [0, 1, 2, 3, 4]
 exact Fin.round (true, k225 + 1) ⟨rfl, rfl, rfl, rfl, rfl, rfl, rfl, rfl, rfl, rfl, rfl, rfl, rfl, rfl, rfl, trivial⟩ (dm233.2 ⟨H262, (show (k225 + 1) ≤ r216.length ∧ w16_sound_L6 x186 x207 r216 b194 = w16_sound_L6 x186 x207 (List.drop (k225 + 1) r216) true from ⟨by omega, et (hq234) (et (congrArg (fun q => w16_sound_L6 x186 x207 q b224) hd239) (et (iN h245) (et (bnd_of hr254) (et (ip h258) (iN h260)))))⟩)⟩) (by show r216.length - (k225 + 1) < r216.length - k225; omega)
 refine jT (cn h258) (Wp.exit (Fin.thenX (Fin.blockX (Fin.then ?_))))
 have H263 := H257.pk [1, 2, 3, 4, 5]
 refine Wp.region (fw (.int .i64 ((k225 + 1 : Nat) : Int)) (Yl.int (e := IntKind.i64.wrap (((k225 : Nat) : Int) + 1)) yk (by rw [IntWalk.i64_in _ (by omega)]; omega)) (Mz rfl (WL.nil ?_)))
 have H264 := H263.pk [0, 1, 2, 3, 4]
 exact Fin.round (b224, k225 + 1) ⟨rfl, rfl, rfl, rfl, rfl, rfl, rfl, rfl, rfl, rfl, rfl, rfl, rfl, rfl, rfl, trivial⟩ (dm233.2 ⟨H264, by omega, et (hq234) (et (congrArg (fun q => w16_sound_L6 x186 x207 q b224) hd239) (et (iN h245) (et (bnd_of hr254) (ifF h258))))⟩) (by show r216.length - (k225 + 1) < r216.length - k225; omega)
 refine jF (dF h236) (Wp.exit (Fin.thenX ?_))
 have hL265 : w16_sound_L6 x186 x207 r216 b194 = Sum.inl b224 := et (hq234) (et (congrArg (fun q => w16_sound_L6 x186 x207 q b224) (drop_end (ls := r216) (i := k225) (by omega))) rfl)
 refine Fin.thenX (Fin.blockX (bN (Fin.then ?_)))
 have H266 := H229.pk [1, 2, 3, 4]
 refine Wp.region (fw (.int .i64 ((k195 + 1 : Nat) : Int)) (Yl.int (e := IntKind.i64.wrap (((k195 : Nat) : Int) + 1)) yk (by rw [IntWalk.i64_in _ (by omega)]; omega)) (Mz rfl (WL.nil ?_)))
 have H267 := H266.pk [1, 2, 0, 3]
 exact Fin.round (b224, k195 + 1) ⟨rfl, rfl, rfl, rfl, rfl, rfl, rfl, rfl, rfl, rfl, rfl, trivial⟩ (dm203.2 ⟨H267, by omega, et (hq204) (et (congrArg (fun q => w16_sound_L5 p0 x186 q b194) hd209) (et (bnd_of hr217) (lpS_l hL265)))⟩) (by show r26.length - (k195 + 1) < r26.length - k195; omega)
 refine jF (dF h206) (Wp.exit (Fin.thenX ?_))
 have hL268 : w16_sound_L5 p0 x186 r26 false = Sum.inl b194 := et (hq204) (et (congrArg (fun q => w16_sound_L5 p0 x186 q b194) (drop_end (ls := r26) (i := k195) (by omega))) rfl)
 refine Fin.thenX (Fin.blockX (Fin.then (Wp.seq ?_)))
 have H269 := H199.pk [1, 2, 3]
 refine Wp.region (Mz rfl (Kz (.bool (!b194)) (nt ?_)))
 rcases Bool.eq_false_or_eq_true (b194) with h270 | h270
 refine jF (cn h270) (Wp.skip (bN (Fin.then (Wp.region (fw (.int .i64 ((k174 + 1 : Nat) : Int)) (Yl.int (e := IntKind.i64.wrap (((k174 : Nat) : Int) + 1)) yk (by rw [IntWalk.i64_in _ (by omega)]; omega)) (Mz rfl (WL.nil ?_)))))))
 have H271 := H269.pk [0, 1, 2]
 exact Fin.round (k174 + 1) ⟨rfl, rfl, rfl, rfl, rfl, rfl, trivial⟩ (dm182.2 ⟨H271, by omega, et (hq183) (et (congrArg (fun q => w16_sound_L4 p0 r26 q) hd188) (et (lpS_l hL268) (ip h270)))⟩) (by show r166.length - (k174 + 1) < r166.length - k174; omega)
 refine jT (cn h270) (sr (An rfl (rt (bR (tR (tR (bR (tR (rs ?_)))))))))
 have H272 := H269.pk [1]
 obtain rfl : _ = false := hr.symm.trans (et (bnd_of hr27) (et (lp_l hL159) (et (bnd_of hr167) (lp_r (et (hq183) (et (congrArg (fun q => w16_sound_L4 p0 r26 q) hd188) (et (lpS_l hL268) (ifF h270))))))))
 exact ⟨rfl, H272⟩
 refine jF (dF h185) (Wp.exit (Fin.thenX ?_))
 have hL273 : w16_sound_L4 p0 r26 r166 = Sum.inl () := et (hq183) (et (congrArg (fun q => w16_sound_L4 p0 r26 q) (drop_end (ls := r166) (i := k174) (by omega))) rfl)
 refine Fin.thenX (Fin.blockX (Fin.then (Wp.seq ?_)))
 have H274 := H178.pk [1]
 refine Wp.region (An rfl (rt (rs ?_)))
 have H275 := H274.pk [0]
 obtain rfl : _ = true := hr.symm.trans (et (bnd_of hr27) (et (lp_l hL159) (et (bnd_of hr167) (lp_l hL273))))
 exact ⟨rfl, H275⟩
end Go.Proofs.Ytggnajpokhaaiaa
