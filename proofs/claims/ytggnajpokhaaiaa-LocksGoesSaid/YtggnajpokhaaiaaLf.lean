/-
 locks: the chapter's examples; what is sound.
-/
import Derived.Test.YtggnajpokhaaiaaLkR
namespace Go.Proofs.Ytggnajpokhaaiaa
open Go.RowKit
set_option linter.unusedVariables false
set_option linter.unusedSectionVars false
set_option linter.unusedSimpArgs false
def w16_live  : Bool :=
 bnd (locks_Table_Ask (TableT.mk (Ll.mk ([]))) 2 (LockD.mk (RangeD.mk ([97]) ([97, 0])) true)) fun yr44 => bnd (locks_Table_Ask yr44.2.2.2.2 3 (LockD.mk (RangeD.mk ([97]) ([97, 0])) false)) fun yr75 => bnd (locks_Table_Ask yr75.2.2.2.2 1 (LockD.mk (RangeD.mk ([97]) ([97, 0])) false)) fun yr106 => bnd (locks_Table_Ask yr106.2.2.2.2 1 (LockD.mk (RangeD.mk ([97]) ([97, 0])) false)) fun yr137 => bnd (locks_Table_Release yr137.2.2.2.2 2) fun yr168 => if yr44.1 = 1 then if yr44.2.2.2.1 = 0 then if yr75.1 = 3 then if yr75.2.2.2.1 = 0 then if yr106.1 = 2 then if yr106.2.2.2.1 = 0 then if yr137.2.2.2.1 = 4 then if ((yr168.1.length : Nat) : Int) = 1 then bnd (List.getD yr168.1 0 default) fun yx200 => if ((yx200 : Nat) : Int) = 1 then if ((yr168.2.1.length : Nat) : Int) = 0 then true else false else false else false else false else false else false else false else false else false else false
set_option maxRecDepth 100000 in
theorem w16_live_ok (w : World) (D : Nat → Prop)  (r0 : Bool) (H : Own w D w [])  (hr : w16_live = r0) :
    Calls Try.prog 8 #[] w (Ret fun v w' => v = .bool r0 ∧ Own w D w' []) := by
 refine Calls.body (args := []) Try.func8 rfl rfl rfl ?_
 show Wp _ _ _ [] _ _
 refine sr (Ar rfl ?_)
 refine WL.do rfl (Do.call Try.call9 rfl ?_ (fun _ _ k => k))
 refine Calls.body (args := []) Try.func9 rfl rfl rfl ?_
 show Wp _ _ _ [] _ _
 refine sr (Ar rfl (Kz (.agg #[.slice none 0 0]) ?_))
 refine npw [.slice none 0 0] 59 H ?_
 intro g21 w22 H23
 refine An rfl (rt (rs (An rfl (Wp.seq (sr (Mz rfl (Kz (.bool false) (nt (jf (sk (sr (Kz (.agg #[.string ⟨List.toArray ([97])⟩, .string ⟨List.toArray ([97, 0])⟩]) (Kz (.agg #[.string ⟨List.toArray ([97])⟩, .string ⟨List.toArray ([97, 0])⟩, .bool false]) ?_)))))))))))))
 refine npw [.string ⟨List.toArray ([])⟩, .string ⟨List.toArray ([])⟩, .bool false] 34 H23 ?_
 intro g24 w25 H26
 refine sto [.string ⟨List.toArray ([97])⟩, .string ⟨List.toArray ([97, 0])⟩, .bool false] 0 H26 Try.sizeOf34 ?_
 intro w27 H28
 refine ns (La ([.string ⟨List.toArray ([97])⟩, .string ⟨List.toArray ([97, 0])⟩, .bool false]) H28 0 Try.isAgg34 Try.sizeOf34 ?_)
 refine npw [.string ⟨List.toArray ([])⟩, .string ⟨List.toArray ([])⟩, .bool false] 34 H28 ?_
 intro g29 w30 H31
 refine sto [.string ⟨List.toArray ([97])⟩, .string ⟨List.toArray ([97, 0])⟩, .bool false] 0 H31 Try.sizeOf34 ?_
 intro w32 H33
 refine ns (Kz (.pointer (some ⟨g29, 2, none⟩)) ?_)
 refine sto [.bool true] 2 H33 Try.sizeOf4 ?_
 intro w34 H35
 refine ns (Mz rfl (La ([.string ⟨List.toArray ([97])⟩, .string ⟨List.toArray ([97, 0])⟩, .bool true]) H35 0 Try.isAgg34 Try.sizeOf34 ?_))
 have H36 : Own w D w34 [sepL (List.flatMap rowD.own ([])), blk g29 [.string ⟨List.toArray ([97])⟩, .string ⟨List.toArray ([97, 0])⟩, .bool true] 34, blk g24 [.string ⟨List.toArray ([97])⟩, .string ⟨List.toArray ([97, 0])⟩, .bool false] 34, blk g21 [.slice none 0 0] 59] := H35.sepNil
 have H37 : Own w D w34 [row none 0 0 (List.flatMap rowD.cells ([])) 72 6, sepL (List.flatMap rowD.own ([])), blk g29 [.string ⟨List.toArray ([97])⟩, .string ⟨List.toArray ([97, 0])⟩, .bool true] 34, blk g24 [.string ⟨List.toArray ([97])⟩, .string ⟨List.toArray ([97, 0])⟩, .bool false] 34, blk g21 [.slice none 0 0] 59] := H36.free (row_nil 72 6)
 have H38 := H37.pk [4, 0, 1, 2, 3]
 obtain ⟨⟨r44, r45, r46, r47, r48⟩, hr49⟩ : ∃ q : Int × (List Nat) × (List Nat) × Int × TableT, locks_Table_Ask (TableT.mk (Ll.mk ([]))) 2 (LockD.mk (RangeD.mk ([97]) ([97, 0])) true) = q := ⟨_, rfl⟩
 obtain ⟨D39, HP40, ro41, bk42, rr43⟩ := Own.enter3 H38
 refine cl Try.call10 (locks_Table_Ask_ok _ _ g21 (TableT.mk (Ll.mk ([]))) none 0 ([]) 2 (LockD.mk (RangeD.mk ([97]) ([97, 0])) true) r44 r45 r46 r47 r48 HP40 rfl (by first | omega | (dsimp only; omega) | exact Sound.len (by assumption) | exact Nat.zero_le _) (by first | assumption | exact Sound.hd (by assumption) | exact Sound.hd sound_nil) (by first | assumption | exact sound_nil) hr49) ?_
 rintro _ w50 ⟨A53, c54, A55, c56, A57, c58, d59, rfl, HQ51, hd60⟩
 have H52 := bk42 _ _ HQ51
 have hl61 := abs_len hd60
 have hb62 := H52.rowC (i := 0) rfl
 have hb63 := H52.rowC (i := 1) rfl
 have hb64 := H52.rowC (i := 3) rfl
 have hz65 := ask_sound (m := ([])) (by first | assumption | exact sound_nil) hr49
 replace hz65 : Sound r48.xrows.ls := hz65
 have hl66 : r48.xrows.ls.length ≤ 192 := hz65.len
 obtain ⟨hl67, hl68⟩ := ask_lens (m := ([])) (by first | assumption | exact sound_nil) hr49
 replace hl67 : r45.length ≤ 400 := hl67
 replace hl68 : r46.length ≤ 400 := hl68
 refine Mz rfl (Kz (.int .i64 r44) (Kz (.slice A53 r45.length c54) (Kz (.slice A55 r46.length c56) (Kz (.int .i64 r47) (Az rfl (Az rfl (Az rfl (An rfl (Wp.seq ?_)))))))))
 have H69 := H52.pk [2, 3, 4, 6]
 refine Wp.region (Mz rfl (La ([.string ⟨List.toArray ([97])⟩, .string ⟨List.toArray ([97, 0])⟩, .bool false]) H69 3 Try.isAgg34 Try.sizeOf34 ?_))
 obtain ⟨⟨r75, r76, r77, r78, r79⟩, hr80⟩ : ∃ q : Int × (List Nat) × (List Nat) × Int × TableT, locks_Table_Ask r48 3 (LockD.mk (RangeD.mk ([97]) ([97, 0])) false) = q := ⟨_, rfl⟩
 obtain ⟨D70, HP71, ro72, bk73, rr74⟩ := Own.enter3 H69
 refine cl Try.call10 (locks_Table_Ask_ok _ _ g21 r48 A57 c58 d59 3 (LockD.mk (RangeD.mk ([97]) ([97, 0])) false) r75 r76 r77 r78 r79 HP71 hd60 (by first | omega | (dsimp only; omega) | exact Sound.len (by assumption) | exact Nat.zero_le _) (by first | assumption | exact Sound.hd (by assumption) | exact Sound.hd sound_nil) (by first | assumption | exact sound_nil) hr80) ?_
 rintro _ w81 ⟨A84, c85, A86, c87, A88, c89, d90, rfl, HQ82, hd91⟩
 have H83 := bk73 _ _ HQ82
 have hl92 := abs_len hd91
 have hb93 := H83.rowC (i := 0) rfl
 have hb94 := H83.rowC (i := 1) rfl
 have hb95 := H83.rowC (i := 3) rfl
 have hz96 := ask_sound (m := r48.xrows.ls) (by first | assumption | exact sound_nil) hr80
 replace hz96 : Sound r79.xrows.ls := hz96
 have hl97 : r79.xrows.ls.length ≤ 192 := hz96.len
 obtain ⟨hl98, hl99⟩ := ask_lens (m := r48.xrows.ls) (by first | assumption | exact sound_nil) hr80
 replace hl98 : r76.length ≤ 400 := hl98
 replace hl99 : r77.length ≤ 400 := hl99
 refine Mz rfl (Kz (.int .i64 r75) (Kz (.slice A84 r76.length c85) (Kz (.slice A86 r77.length c87) (Kz (.int .i64 r78) (Az rfl (Az rfl (Az rfl (An rfl (Wp.seq ?_)))))))))
 have H100 := H83.pk [2, 3, 4, 5]
 refine Wp.region (Mz rfl (La ([.string ⟨List.toArray ([97])⟩, .string ⟨List.toArray ([97, 0])⟩, .bool false]) H100 3 Try.isAgg34 Try.sizeOf34 ?_))
 obtain ⟨⟨r106, r107, r108, r109, r110⟩, hr111⟩ : ∃ q : Int × (List Nat) × (List Nat) × Int × TableT, locks_Table_Ask r79 1 (LockD.mk (RangeD.mk ([97]) ([97, 0])) false) = q := ⟨_, rfl⟩
 obtain ⟨D101, HP102, ro103, bk104, rr105⟩ := Own.enter3 H100
 refine cl Try.call10 (locks_Table_Ask_ok _ _ g21 r79 A88 c89 d90 1 (LockD.mk (RangeD.mk ([97]) ([97, 0])) false) r106 r107 r108 r109 r110 HP102 hd91 (by first | omega | (dsimp only; omega) | exact Sound.len (by assumption) | exact Nat.zero_le _) (by first | assumption | exact Sound.hd (by assumption) | exact Sound.hd sound_nil) (by first | assumption | exact sound_nil) hr111) ?_
 rintro _ w112 ⟨A115, c116, A117, c118, A119, c120, d121, rfl, HQ113, hd122⟩
 have H114 := bk104 _ _ HQ113
 have hl123 := abs_len hd122
 have hb124 := H114.rowC (i := 0) rfl
 have hb125 := H114.rowC (i := 1) rfl
 have hb126 := H114.rowC (i := 3) rfl
 have hz127 := ask_sound (m := r79.xrows.ls) (by first | assumption | exact sound_nil) hr111
 replace hz127 : Sound r110.xrows.ls := hz127
 have hl128 : r110.xrows.ls.length ≤ 192 := hz127.len
 obtain ⟨hl129, hl130⟩ := ask_lens (m := r79.xrows.ls) (by first | assumption | exact sound_nil) hr111
 replace hl129 : r107.length ≤ 400 := hl129
 replace hl130 : r108.length ≤ 400 := hl130
 refine Mz rfl (Kz (.int .i64 r106) (Kz (.slice A115 r107.length c116) (Kz (.slice A117 r108.length c118) (Kz (.int .i64 r109) (Az rfl (Az rfl (Az rfl (An rfl (Wp.seq ?_)))))))))
 have H131 := H114.pk [2, 3, 4, 5]
 refine Wp.region (Mz rfl (La ([.string ⟨List.toArray ([97])⟩, .string ⟨List.toArray ([97, 0])⟩, .bool false]) H131 3 Try.isAgg34 Try.sizeOf34 ?_))
 obtain ⟨⟨r137, r138, r139, r140, r141⟩, hr142⟩ : ∃ q : Int × (List Nat) × (List Nat) × Int × TableT, locks_Table_Ask r110 1 (LockD.mk (RangeD.mk ([97]) ([97, 0])) false) = q := ⟨_, rfl⟩
 obtain ⟨D132, HP133, ro134, bk135, rr136⟩ := Own.enter3 H131
 refine cl Try.call10 (locks_Table_Ask_ok _ _ g21 r110 A119 c120 d121 1 (LockD.mk (RangeD.mk ([97]) ([97, 0])) false) r137 r138 r139 r140 r141 HP133 hd122 (by first | omega | (dsimp only; omega) | exact Sound.len (by assumption) | exact Nat.zero_le _) (by first | assumption | exact Sound.hd (by assumption) | exact Sound.hd sound_nil) (by first | assumption | exact sound_nil) hr142) ?_
 rintro _ w143 ⟨A146, c147, A148, c149, A150, c151, d152, rfl, HQ144, hd153⟩
 have H145 := bk135 _ _ HQ144
 have hl154 := abs_len hd153
 have hb155 := H145.rowC (i := 0) rfl
 have hb156 := H145.rowC (i := 1) rfl
 have hb157 := H145.rowC (i := 3) rfl
 have hz158 := ask_sound (m := r110.xrows.ls) (by first | assumption | exact sound_nil) hr142
 replace hz158 : Sound r141.xrows.ls := hz158
 have hl159 : r141.xrows.ls.length ≤ 192 := hz158.len
 obtain ⟨hl160, hl161⟩ := ask_lens (m := r110.xrows.ls) (by first | assumption | exact sound_nil) hr142
 replace hl160 : r138.length ≤ 400 := hl160
 replace hl161 : r139.length ≤ 400 := hl161
 refine Mz rfl (Kz (.int .i64 r137) (Kz (.slice A146 r138.length c147) (Kz (.slice A148 r139.length c149) (Kz (.int .i64 r140) (Az rfl (Az rfl (Az rfl (An rfl (Wp.seq ?_)))))))))
 have H162 := H145.pk [2, 3, 4]
 refine Wp.region (Mz rfl ?_)
 obtain ⟨⟨r168, r169, r170⟩, hr171⟩ : ∃ q : (List Nat) × (List Nat) × TableT, locks_Table_Release r141 2 = q := ⟨_, rfl⟩
 obtain ⟨D163, HP164, ro165, bk166, rr167⟩ := Own.enter3 H162
 refine cl Try.call13 (locks_Table_Release_ok _ _ g21 r141 A150 c151 d152 2 r168 r169 r170 HP164 hd153 (by first | omega | (dsimp only; omega) | exact Sound.len (by assumption) | exact Nat.zero_le _) (by first | assumption | exact Sound.hd (by assumption) | exact Sound.hd sound_nil) (by first | assumption | exact sound_nil) hr171) ?_
 rintro _ w172 ⟨A175, c176, A177, c178, A179, c180, d181, rfl, HQ173, hd182⟩
 have H174 := bk166 _ _ HQ173
 have hl183 := abs_len hd182
 have hb184 := H174.rowC (i := 0) rfl
 have hb185 := H174.rowC (i := 1) rfl
 have hb186 := H174.rowC (i := 3) rfl
 have hz187 := release_sound (m := r141.xrows.ls) (by first | assumption | exact sound_nil) hr171
 replace hz187 : Sound r170.xrows.ls := hz187
 have hl188 : r170.xrows.ls.length ≤ 192 := hz187.len
 obtain ⟨hl189, hl190⟩ := release_lens (m := r141.xrows.ls) (by first | assumption | exact sound_nil) hr171
 replace hl189 : r168.length ≤ 400 := hl189
 replace hl190 : r169.length ≤ 400 := hl190
 refine Mz rfl (Kz (.slice A175 r168.length c176) (Kz (.slice A177 r169.length c178) (Az rfl (An rfl (Wp.seq ?_)))))
 have H191 := H174.pk [0, 1]
 refine Wp.region (Mz rfl (Kz (.bool (decide (r44 = 1))) (Mz rfl ?_)))
 by_cases h192 : r44 = 1
 refine gw (.int .i64 r47) (dT h192) (Yl.move rfl) (Gz (.bool (decide (r47 = 0))) (dT h192) (fw (.bool (decide (r47 = 0))) (Yl.pickT rfl (dT h192) rfl) (Mz rfl ?_)))
 by_cases h193 : r47 = 0
 refine gw (.int .i64 r75) (dT h193) (Yl.move rfl) (Gz (.bool (decide (r75 = 3))) (dT h193) (fw (.bool (decide (r75 = 3))) (Yl.pickT rfl (dT h193) rfl) (Mz rfl ?_)))
 by_cases h194 : r75 = 3
 refine gw (.int .i64 r78) (dT h194) (Yl.move rfl) (Gz (.bool (decide (r78 = 0))) (dT h194) (fw (.bool (decide (r78 = 0))) (Yl.pickT rfl (dT h194) rfl) (Mz rfl ?_)))
 by_cases h195 : r78 = 0
 refine gw (.int .i64 r106) (dT h195) (Yl.move rfl) (Gz (.bool (decide (r106 = 2))) (dT h195) (fw (.bool (decide (r106 = 2))) (Yl.pickT rfl (dT h195) rfl) (Mz rfl ?_)))
 by_cases h196 : r106 = 2
 refine gw (.int .i64 r109) (dT h196) (Yl.move rfl) (Gz (.bool (decide (r109 = 0))) (dT h196) (fw (.bool (decide (r109 = 0))) (Yl.pickT rfl (dT h196) rfl) (Mz rfl ?_)))
 by_cases h197 : r109 = 0
 refine gw (.int .i64 r140) (dT h197) (Yl.move rfl) (Gz (.bool (decide (r140 = 4))) (dT h197) (fw (.bool (decide (r140 = 4))) (Yl.pickT rfl (dT h197) rfl) (Mz rfl ?_)))
 by_cases h198 : r140 = 4
 refine gw (.slice A175 r168.length c176) (dT h198) (Yl.move rfl) (Gz (.int .i64 ((r168.length : Nat) : Int)) (dT h198) (Gz (.bool (decide (((r168.length : Nat) : Int) = 1))) (dT h198) (fw (.bool (decide (((r168.length : Nat) : Int) = 1))) (Yl.pickT rfl (dT h198) rfl) (Mz rfl ?_))))
 by_cases h199 : ((r168.length : Nat) : Int) = 1
 refine gw (.slice A175 r168.length c176) (dT h199) (Yl.move rfl) ?_
 obtain ⟨x200, hx201⟩ := rds_at (ls := r168) (i := 0) eN_len (by decide) (H191.rds (i := 0) rfl) (by first | omega | (simp; done) | (simp; omega))
 refine gw (.pointer (some ⟨ab A175, ao A175 + 0 * 1, none⟩)) (dT h199) (Yl.indexAddr (El37) rfl rfl ((H191.rds (i := 0) rfl).addr (i := 0) (by omega)) (by omega)) (gw (.int .u64 ((x200 : Nat) : Int)) (dT h199) (Yl.load rfl (Lds.one Try.isAgg30 (((H191.rds (i := 0) rfl).elem eN_len hx201 (by decide)).at_ (k := 0) rfl))) (Gz (.bool (decide (((x200 : Nat) : Int) = 1))) (dT h199) (fw (.bool (decide (((x200 : Nat) : Int) = 1))) (Yl.pickT rfl (dT h199) rfl) (Mz rfl ?_))))
 by_cases h202 : ((x200 : Nat) : Int) = 1
 refine gw (.slice A177 r169.length c178) (dT h202) (Yl.move rfl) (Gz (.int .i64 ((r169.length : Nat) : Int)) (dT h202) (Gz (.bool (decide (((r169.length : Nat) : Int) = 0))) (dT h202) (fw (.bool (decide (((r169.length : Nat) : Int) = 0))) (Yl.pickT rfl (dT h202) rfl) (Mz rfl ?_))))
 by_cases h203 : ((r169.length : Nat) : Int) = 0
 refine fw (.bool true) (Yl.pickT rfl (dT h203) rfl) (Mz rfl (fw (.bool true) (Yl.pickT rfl rfl rfl) (Mz rfl (fw (.bool true) (Yl.pickT rfl rfl rfl) (An rfl (rt (rs ?_)))))))
 have H204 := H191.pk []
 obtain rfl : _ = true := hr.symm.trans (et (bnd_of hr49) (et (bnd_of hr80) (et (bnd_of hr111) (et (bnd_of hr142) (et (bnd_of hr171) (et (ip h192) (et (ip h193) (et (ip h194) (et (ip h195) (et (ip h196) (et (ip h197) (et (ip h198) (et (ip h199) (et (bnd_of (getD_of hx201)) (et (ip h202) (ip h203))))))))))))))))
 exact ⟨rfl, H204⟩
 refine fw (.bool false) (Yl.pickF rfl (dF h203) rfl) (Mz rfl (fw (.bool false) (Yl.pickF rfl rfl rfl) (Mz rfl (fw (.bool false) (Yl.pickF rfl rfl rfl) (An rfl (rt (rs ?_)))))))
 have H205 := H191.pk []
 obtain rfl : _ = false := hr.symm.trans (et (bnd_of hr49) (et (bnd_of hr80) (et (bnd_of hr111) (et (bnd_of hr142) (et (bnd_of hr171) (et (ip h192) (et (ip h193) (et (ip h194) (et (ip h195) (et (ip h196) (et (ip h197) (et (ip h198) (et (ip h199) (et (bnd_of (getD_of hx201)) (et (ip h202) (iN h203))))))))))))))))
 exact ⟨rfl, H205⟩
 refine Sz (dF h202) (Sz (dF h202) (Sz (dF h202) (fw (.bool false) (Yl.pickF rfl (dF h202) rfl) (Mz rfl (fw (.bool false) (Yl.pickF rfl rfl rfl) (Mz rfl (fw (.bool false) (Yl.pickF rfl rfl rfl) (Mz rfl (fw (.bool false) (Yl.pickF rfl rfl rfl) (An rfl (rt (rs ?_))))))))))))
 have H206 := H191.pk []
 obtain rfl : _ = false := hr.symm.trans (et (bnd_of hr49) (et (bnd_of hr80) (et (bnd_of hr111) (et (bnd_of hr142) (et (bnd_of hr171) (et (ip h192) (et (ip h193) (et (ip h194) (et (ip h195) (et (ip h196) (et (ip h197) (et (ip h198) (et (ip h199) (et (bnd_of (getD_of hx201)) (iN h202)))))))))))))))
 exact ⟨rfl, H206⟩
 refine Sz (dF h199) (Sz (dF h199) (Sz (dF h199) (Sz (dF h199) (fw (.bool false) (Yl.pickF rfl (dF h199) rfl) (Mz rfl (Sz rfl (Sz rfl (Sz rfl (fw (.bool false) (Yl.pickF rfl rfl rfl) (Mz rfl (fw (.bool false) (Yl.pickF rfl rfl rfl) (Mz rfl (fw (.bool false) (Yl.pickF rfl rfl rfl) (Mz rfl (fw (.bool false) (Yl.pickF rfl rfl rfl) (An rfl (rt (rs ?_))))))))))))))))))
 have H207 := H191.pk []
 obtain rfl : _ = false := hr.symm.trans (et (bnd_of hr49) (et (bnd_of hr80) (et (bnd_of hr111) (et (bnd_of hr142) (et (bnd_of hr171) (et (ip h192) (et (ip h193) (et (ip h194) (et (ip h195) (et (ip h196) (et (ip h197) (et (ip h198) (iN h199)))))))))))))
 exact ⟨rfl, H207⟩
 refine Sz (dF h198) (Sz (dF h198) (Sz (dF h198) (fw (.bool false) (Yl.pickF rfl (dF h198) rfl) (Mz rfl (Sz rfl (Sz rfl (Sz rfl (Sz rfl (fw (.bool false) (Yl.pickF rfl rfl rfl) (Mz rfl (Sz rfl (Sz rfl (Sz rfl (fw (.bool false) (Yl.pickF rfl rfl rfl) (Mz rfl (fw (.bool false) (Yl.pickF rfl rfl rfl) (Mz rfl (fw (.bool false) (Yl.pickF rfl rfl rfl) (Mz rfl (fw (.bool false) (Yl.pickF rfl rfl rfl) (An rfl (rt (rs ?_)))))))))))))))))))))))
 have H208 := H191.pk []
 obtain rfl : _ = false := hr.symm.trans (et (bnd_of hr49) (et (bnd_of hr80) (et (bnd_of hr111) (et (bnd_of hr142) (et (bnd_of hr171) (et (ip h192) (et (ip h193) (et (ip h194) (et (ip h195) (et (ip h196) (et (ip h197) (iN h198))))))))))))
 exact ⟨rfl, H208⟩
 refine Sz (dF h197) (Sz (dF h197) (fw (.bool false) (Yl.pickF rfl (dF h197) rfl) (Mz rfl (Sz rfl (Sz rfl (Sz rfl (fw (.bool false) (Yl.pickF rfl rfl rfl) (Mz rfl (Sz rfl (Sz rfl (Sz rfl (Sz rfl (fw (.bool false) (Yl.pickF rfl rfl rfl) (Mz rfl (Sz rfl (Sz rfl (Sz rfl (fw (.bool false) (Yl.pickF rfl rfl rfl) (Mz rfl (fw (.bool false) (Yl.pickF rfl rfl rfl) (Mz rfl (fw (.bool false) (Yl.pickF rfl rfl rfl) (Mz rfl (fw (.bool false) (Yl.pickF rfl rfl rfl) (An rfl (rt (rs ?_)))))))))))))))))))))))))))
 have H209 := H191.pk []
 obtain rfl : _ = false := hr.symm.trans (et (bnd_of hr49) (et (bnd_of hr80) (et (bnd_of hr111) (et (bnd_of hr142) (et (bnd_of hr171) (et (ip h192) (et (ip h193) (et (ip h194) (et (ip h195) (et (ip h196) (iN h197)))))))))))
 exact ⟨rfl, H209⟩
 refine Sz (dF h196) (Sz (dF h196) (fw (.bool false) (Yl.pickF rfl (dF h196) rfl) (Mz rfl (Sz rfl (Sz rfl (fw (.bool false) (Yl.pickF rfl rfl rfl) (Mz rfl (Sz rfl (Sz rfl (Sz rfl (fw (.bool false) (Yl.pickF rfl rfl rfl) (Mz rfl (Sz rfl (Sz rfl (Sz rfl (Sz rfl (fw (.bool false) (Yl.pickF rfl rfl rfl) (Mz rfl (Sz rfl (Sz rfl (Sz rfl (fw (.bool false) (Yl.pickF rfl rfl rfl) (Mz rfl (fw (.bool false) (Yl.pickF rfl rfl rfl) (Mz rfl (fw (.bool false) (Yl.pickF rfl rfl rfl) (Mz rfl (fw (.bool false) (Yl.pickF rfl rfl rfl) (An rfl (rt (rs ?_)))))))))))))))))))))))))))))))
 have H210 := H191.pk []
 obtain rfl : _ = false := hr.symm.trans (et (bnd_of hr49) (et (bnd_of hr80) (et (bnd_of hr111) (et (bnd_of hr142) (et (bnd_of hr171) (et (ip h192) (et (ip h193) (et (ip h194) (et (ip h195) (iN h196))))))))))
 exact ⟨rfl, H210⟩
 refine Sz (dF h195) (Sz (dF h195) (fw (.bool false) (Yl.pickF rfl (dF h195) rfl) (Mz rfl (Sz rfl (Sz rfl (fw (.bool false) (Yl.pickF rfl rfl rfl) (Mz rfl (Sz rfl (Sz rfl (fw (.bool false) (Yl.pickF rfl rfl rfl) (Mz rfl (Sz rfl (Sz rfl (Sz rfl (fw (.bool false) (Yl.pickF rfl rfl rfl) (Mz rfl (Sz rfl (Sz rfl (Sz rfl (Sz rfl (fw (.bool false) (Yl.pickF rfl rfl rfl) (Mz rfl (Sz rfl (Sz rfl (Sz rfl (fw (.bool false) (Yl.pickF rfl rfl rfl) (Mz rfl (fw (.bool false) (Yl.pickF rfl rfl rfl) (Mz rfl (fw (.bool false) (Yl.pickF rfl rfl rfl) (Mz rfl (fw (.bool false) (Yl.pickF rfl rfl rfl) (An rfl (rt (rs ?_)))))))))))))))))))))))))))))))))))
 have H211 := H191.pk []
 obtain rfl : _ = false := hr.symm.trans (et (bnd_of hr49) (et (bnd_of hr80) (et (bnd_of hr111) (et (bnd_of hr142) (et (bnd_of hr171) (et (ip h192) (et (ip h193) (et (ip h194) (iN h195)))))))))
 exact ⟨rfl, H211⟩
 refine Sz (dF h194) (Sz (dF h194) (fw (.bool false) (Yl.pickF rfl (dF h194) rfl) (Mz rfl (Sz rfl (Sz rfl (fw (.bool false) (Yl.pickF rfl rfl rfl) (Mz rfl (Sz rfl (Sz rfl (fw (.bool false) (Yl.pickF rfl rfl rfl) (Mz rfl (Sz rfl (Sz rfl (fw (.bool false) (Yl.pickF rfl rfl rfl) (Mz rfl (Sz rfl (Sz rfl (Sz rfl (fw (.bool false) (Yl.pickF rfl rfl rfl) (Mz rfl (Sz rfl (Sz rfl (Sz rfl (Sz rfl (fw (.bool false) (Yl.pickF rfl rfl rfl) (Mz rfl (Sz rfl (Sz rfl (Sz rfl (fw (.bool false) (Yl.pickF rfl rfl rfl) (Mz rfl (fw (.bool false) (Yl.pickF rfl rfl rfl) (Mz rfl (fw (.bool false) (Yl.pickF rfl rfl rfl) (Mz rfl (fw (.bool false) (Yl.pickF rfl rfl rfl) (An rfl ?_)))))))))))))))))))))))))))))))))))))
 refine rt (rs ?_)
 have H212 := H191.pk []
 obtain rfl : _ = false := hr.symm.trans (et (bnd_of hr49) (et (bnd_of hr80) (et (bnd_of hr111) (et (bnd_of hr142) (et (bnd_of hr171) (et (ip h192) (et (ip h193) (iN h194))))))))
 exact ⟨rfl, H212⟩
 refine Sz (dF h193) (Sz (dF h193) (fw (.bool false) (Yl.pickF rfl (dF h193) rfl) (Mz rfl (Sz rfl (Sz rfl (fw (.bool false) (Yl.pickF rfl rfl rfl) (Mz rfl (Sz rfl (Sz rfl (fw (.bool false) (Yl.pickF rfl rfl rfl) (Mz rfl (Sz rfl (Sz rfl (fw (.bool false) (Yl.pickF rfl rfl rfl) (Mz rfl (Sz rfl (Sz rfl (fw (.bool false) (Yl.pickF rfl rfl rfl) (Mz rfl (Sz rfl (Sz rfl (Sz rfl (fw (.bool false) (Yl.pickF rfl rfl rfl) (Mz rfl (Sz rfl (Sz rfl (Sz rfl (Sz rfl (fw (.bool false) (Yl.pickF rfl rfl rfl) (Mz rfl (Sz rfl (Sz rfl (Sz rfl (fw (.bool false) (Yl.pickF rfl rfl rfl) (Mz rfl (fw (.bool false) (Yl.pickF rfl rfl rfl) (Mz rfl (fw (.bool false) (Yl.pickF rfl rfl rfl) (Mz rfl ?_)))))))))))))))))))))))))))))))))))))))
 refine fw (.bool false) (Yl.pickF rfl rfl rfl) (An rfl (rt (rs ?_)))
 have H213 := H191.pk []
 obtain rfl : _ = false := hr.symm.trans (et (bnd_of hr49) (et (bnd_of hr80) (et (bnd_of hr111) (et (bnd_of hr142) (et (bnd_of hr171) (et (ip h192) (iN h193)))))))
 exact ⟨rfl, H213⟩
 refine Sz (dF h192) (Sz (dF h192) (fw (.bool false) (Yl.pickF rfl (dF h192) rfl) (Mz rfl (Sz rfl (Sz rfl (fw (.bool false) (Yl.pickF rfl rfl rfl) (Mz rfl (Sz rfl (Sz rfl (fw (.bool false) (Yl.pickF rfl rfl rfl) (Mz rfl (Sz rfl (Sz rfl (fw (.bool false) (Yl.pickF rfl rfl rfl) (Mz rfl (Sz rfl (Sz rfl (fw (.bool false) (Yl.pickF rfl rfl rfl) (Mz rfl (Sz rfl (Sz rfl (fw (.bool false) (Yl.pickF rfl rfl rfl) (Mz rfl (Sz rfl (Sz rfl (Sz rfl (fw (.bool false) (Yl.pickF rfl rfl rfl) (Mz rfl (Sz rfl (Sz rfl (Sz rfl (Sz rfl (fw (.bool false) (Yl.pickF rfl rfl rfl) (Mz rfl (Sz rfl (Sz rfl (Sz rfl (fw (.bool false) (Yl.pickF rfl rfl rfl) (Mz rfl ?_)))))))))))))))))))))))))))))))))))))))
 refine fw (.bool false) (Yl.pickF rfl rfl rfl) (Mz rfl (fw (.bool false) (Yl.pickF rfl rfl rfl) (Mz rfl (fw (.bool false) (Yl.pickF rfl rfl rfl) (An rfl (rt (rs ?_)))))))
 have H214 := H191.pk []
 obtain rfl : _ = false := hr.symm.trans (et (bnd_of hr49) (et (bnd_of hr80) (et (bnd_of hr111) (et (bnd_of hr142) (et (bnd_of hr171) (iN h192))))))
 exact ⟨rfl, H214⟩
end Go.Proofs.Ytggnajpokhaaiaa
