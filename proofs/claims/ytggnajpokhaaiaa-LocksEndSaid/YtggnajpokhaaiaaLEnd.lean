/-
 locks: the law LocksEnd
-/
import Derived.Test.YtggnajpokhaaiaaLf
namespace Go.Proofs.Ytggnajpokhaaiaa
open Go.RowKit
set_option linter.unusedVariables false
set_option linter.unusedSectionVars false
set_option linter.unusedSimpArgs false

theorem El22 : Elem Try.prog 22 36 6 64 := elem_of (z := .agg #[.int .i64 0, .int .u64 0, .string ⟨List.toArray ([])⟩, .string ⟨List.toArray ([])⟩, .bool false, .bool false]) Try.underlying22 (by kernel_rfl) rfl (by decide)

structure OpD where
 xDo : Int
 xTxn : Nat
 xLock : LockD
 xClone : Bool

def OpD.cells (x : OpD) : List Value := [.int .i64 x.xDo, .int .u64 ((x.xTxn : Nat) : Int), .string ⟨List.toArray x.xLock.xRange.xLo⟩, .string ⟨List.toArray x.xLock.xRange.xHi⟩, .bool x.xLock.xWrite, .bool x.xClone]

instance : Bk OpD := ⟨fun x _ => bk x.xDo + (bk x.xTxn + (bk x.xLock + (bk x.xClone + (0))))⟩

theorem OpD.len : ∀ x, (OpD.cells x).length = 6 := fun _ => rfl

theorem OpD.one : ∀ x, ∀ u ∈ OpD.cells x, u.oneCell' = true := fun x u hu => by
 simp only [OpD.cells, List.mem_cons, List.not_mem_nil, or_false] at hu
 rcases hu with rfl | rfl | rfl | rfl | rfl | rfl <;> rfl

def OpD.Ok (w : World) (x : OpD) : Prop := ((-9223372036854775808) ≤ x.xDo ∧ x.xDo ≤ 9223372036854775807) ∧ (x.xTxn ≤ 18446744073709551615) ∧ (LockD.Ok w x.xLock) ∧ (True)

set_option maxRecDepth 100000 in
theorem opens_OpD (w : World) : Opens Try.prog w 36 6 OpD.cells (OpD.Ok w) :=
 (opens_struct (sz := 6) Try.underlying36 (by kernel_rfl) (OpensF.cons (i := 0) (off := 0) (s := 1) rfl rfl (opens_int (k := .i64) (lo := -9223372036854775808) (hi := 9223372036854775807) Try.underlying3 (by kernel_rfl) (by decide) (by decide)) (OpensF.cons (i := 1) (off := 1) (s := 1) rfl rfl (opens_nat (k := .u64) (hi := 18446744073709551615) Try.underlying30 (by kernel_rfl) (by decide) (by decide)) (OpensF.cons (i := 2) (off := 2) (s := 3) rfl rfl (opens_LockD w) (OpensF.cons (i := 3) (off := 5) (s := 1) rfl rfl (opens_bool Try.underlying4 (by kernel_rfl)) OpensF.nil))))).map (fun p => ⟨p.1, p.2.1, p.2.2.1, p.2.2.2.1⟩) OpD.len (fun _ => rfl) (fun _ h => ⟨h.1, h.2.1, h.2.2.1, h.2.2.2.1⟩) fun _ => Nat.le_refl _

instance : Inhabited OpD := ⟨⟨default, default, default, default⟩⟩

def w16_LocksEnd_L0 (p1 : Int) (r26 : Bool) : List OpD → List rowT → (List rowT)
  | [], l43 => l43
  | x60 :: q45, l43 => if x60.xDo = 0 then bnd (locks_Table_Ask (TableT.mk (Ll.mk l43)) x60.xTxn x60.xLock) fun yr75 => w16_LocksEnd_L0 p1 r26 q45 yr75.2.2.2.2.xrows.ls else bnd (locks_Table_Release (TableT.mk (Ll.mk l43)) x60.xTxn) fun yr108 => w16_LocksEnd_L0 p1 r26 q45 yr108.2.2.xrows.ls

def w16_LocksEnd_L2 (p1 : Int) (r26 : Bool) (l137 : List rowT) : List Nat → List Nat → (List Nat)
  | [], l172 => l172
  | x186 :: q174, l172 => bnd (locks_Table_Holds (TableT.mk (Ll.mk l137)) x186) fun yr196 => if ((yr196.length : Nat) : Int) > 0 then w16_LocksEnd_L2 p1 r26 l137 q174 (l172 ++ [x186]) else w16_LocksEnd_L2 p1 r26 l137 q174 l172

def w16_LocksEnd_L1 (p1 : Int) (r26 : Bool) : Nat → List rowT → Unit ⊕ Bool
  | 0, l137 => Sum.inl ()
  | q139 + 1, l137 => bnd (locks_Table_Txns (TableT.mk (Ll.mk l137))) fun yr160 => bnd (w16_LocksEnd_L2 p1 r26 l137 yr160 ([])) fun sLrbfLaLsbL => if ((sLrbfLaLsbL.length : Nat) : Int) = 0 then if r26 = true then bnd (locks_Table_Txns (TableT.mk (Ll.mk l137))) fun yr229 => if ((yr229.length : Nat) : Int) = 0 then bnd (locks_Table_Waiting (TableT.mk (Ll.mk l137))) fun yr246 => Sum.inr (decide (((yr246.length : Nat) : Int) = 0)) else Sum.inr (false) else Sum.inr (false) else bnd (List.getD sLrbfLaLsbL (Int.toNat (remI ((remI p1 sLrbfLaLsbL.length) + ((sLrbfLaLsbL.length : Nat) : Int)) sLrbfLaLsbL.length)) default) fun yx260 => bnd (locks_Table_Release (TableT.mk (Ll.mk l137)) yx260) fun yr267 => w16_LocksEnd_L1 p1 r26 q139 yr267.2.2.xrows.ls

def w16_LocksEnd (l0 : List OpD) (p1 : Int) : Bool :=
 bnd (w16_live) fun yr26 => if ((l0.length : Nat) : Int) > 200 then if yr26 = true then true else false else bnd (w16_LocksEnd_L0 p1 yr26 l0 ([])) fun sLrbfL => lp (w16_LocksEnd_L1 p1 yr26 1000 sLrbfL) fun _ => false

set_option maxRecDepth 100000 in
set_option maxHeartbeats 2000000 in
theorem w16_LocksEnd_ok (w : World) (D : Nat → Prop) (A0 : Option Addr) (n0 c0 : Nat) (l0 : List OpD) (p1 : Int) (r0 : Bool) (H : Own w D w []) (hx0 : Ro w D fun w' => Rds w' 6 A0 n0 (List.flatMap OpD.cells l0)) (hn0 : n0 = l0.length) (hl0 : l0.length * 64 ≤ 211106232532992) (hh0 : l0.length * 64 ≤ 140737488351232) (hh1 : (-9223372036854775808) ≤ p1 ∧ p1 ≤ 9223372036854775807) (hr : w16_LocksEnd l0 p1 = r0) :
    Calls Try.prog 5 #[.slice A0 n0 c0, .int .i64 p1] w (Ret fun v w' => v = .bool r0 ∧ Own w D w' []) := by
 subst hn0
 refine Calls.body (args := [.slice A0 l0.length c0, .int .i64 p1]) Try.func5 rfl rfl rfl ?_
 show Wp _ _ _ [(0, .slice A0 l0.length c0), (1, .int .i64 p1)] _ _
 refine sr (Ar rfl ?_)
 obtain ⟨r26, hr27⟩ : ∃ q, w16_live = q := ⟨_, rfl⟩
 obtain ⟨D21, HP22, ro23, bk24, rr25⟩ := Own.enter0 H
 refine cl Try.call8 (w16_live_ok _ _ r26 HP22 hr27) ?_
 rintro _ w28 ⟨rfl, HQ29⟩
 have H30 := bk24 _ _ HQ29
 refine Ar rfl ?_
 refine WL.do rfl (Do.call Try.call9 rfl ?_ (fun _ _ k => k))
 refine Calls.body (args := []) Try.func9 rfl rfl rfl ?_
 show Wp _ _ _ [] _ _
 refine sr (Ar rfl (Kz (.agg #[.slice none 0 0]) ?_))
 refine npw [.slice none 0 0] 59 H30 ?_
 intro g31 w32 H33
 refine An rfl (rt (rs (An rfl (Wp.seq (sr (Mz rfl (Kz (.bool false) (Mz rfl (gw (.slice A0 l0.length c0) rfl (Yl.move rfl) (Gz (.int .i64 ((l0.length : Nat) : Int)) rfl (Gz (.bool (decide (((l0.length : Nat) : Int) > 200))) rfl (fw (.bool (decide (((l0.length : Nat) : Int) > 200))) (Yl.pickF rfl rfl rfl) (nt ?_)))))))))))))
 by_cases h34 : ((l0.length : Nat) : Int) > 200
 refine jT (dT h34) (sr (Mz rfl (Mz rfl ?_)))
 rcases Bool.eq_false_or_eq_true (r26) with h35 | h35
 refine WL.valG (v := .pointer (some ⟨g31, 0, none⟩)) rfl rfl h35 rfl (Yl.move rfl) (Gz (.bool true) h35 (fw (.bool true) (Yl.pickT rfl h35 rfl) (An rfl (rt (tR (rs ?_))))))
 have H36 := H33.pk []
 obtain rfl : _ = true := hr.symm.trans (et (bnd_of hr27) (et (ip h34) (ip h35)))
 exact ⟨rfl, H36⟩
 refine Sz h35 (Sz h35 (fw (.bool false) (Yl.pickF rfl h35 rfl) (An rfl (rt (tR (rs ?_))))))
 have H37 := H33.pk []
 obtain rfl : _ = false := hr.symm.trans (et (bnd_of hr27) (et (ip h34) (ifF h35)))
 exact ⟨rfl, H37⟩
 refine jF (dF h34) (sk (Wp.seq (sr (Mz rfl (Kz (.int .i64 ((l0.length : Nat) : Int)) (Mn rfl (bo ?_)))))))
 have H38 : Own w D w32 [sepL (List.flatMap rowD.own ([])), blk g31 [.slice none 0 0] 59] := H33.sepNil
 have H39 : Own w D w32 [row none 0 0 (List.flatMap rowD.cells ([])) 72 6, sepL (List.flatMap rowD.own ([])), blk g31 [.slice none 0 0] 59] := H38.free (row_nil 72 6)
 have H46 := H39.pk [2, 0, 1]
 obtain ⟨I50, hI51⟩ : ∃ q : (Nat × (Option Addr) × Nat × (List rowD) × (List rowT)) → World → Prop, q = fun (i : Nat × (Option Addr) × Nat × (List rowD) × (List rowT)) w' => Own w D w' [blk g31 [.slice i.2.1 i.2.2.2.2.length i.2.2.1] 59, row i.2.1 i.2.2.2.2.length i.2.2.1 (List.flatMap rowD.cells i.2.2.2.1) 72 6, sepL (List.flatMap rowD.own i.2.2.2.1)] ∧ (List.map rowD.abs i.2.2.2.1 = i.2.2.2.2 ∧ i.1 ≤ l0.length ∧ Sound i.2.2.2.2 ∧ i.2.2.2.2.length ≤ 192 ∧ w16_LocksEnd_L0 p1 r26 l0 ([]) = w16_LocksEnd_L0 p1 r26 (List.drop i.1 l0) i.2.2.2.2) := ⟨_, rfl⟩
 have dm52 : ∀ {k40 : Nat} {A41 : Option Addr} {c42 : Nat} {d44 : List rowD} {l43 : List rowT} {w' : World}, I50 (k40, A41, c42, d44, l43) w' ↔ Own w D w' [blk g31 [.slice A41 l43.length c42] 59, row A41 l43.length c42 (List.flatMap rowD.cells d44) 72 6, sepL (List.flatMap rowD.own d44)] ∧ List.map rowD.abs d44 = l43 ∧ k40 ≤ l0.length ∧ Sound l43 ∧ l43.length ≤ 192 ∧ w16_LocksEnd_L0 p1 r26 l0 ([]) = w16_LocksEnd_L0 p1 r26 (List.drop k40 l0) l43 := by intros; subst hI51; exact Iff.rfl
 refine Wp.loop (fun i : Nat × (Option Addr) × Nat × (List rowD) × (List rowT) => [(28, .int .i64 ((i.1 : Nat) : Int)), (27, .int .i64 ((l0.length : Nat) : Int)), (26, .slice A0 l0.length c0), (6, .pointer (some ⟨g31, 0, none⟩)), (5, .bool r26), (4, .bool false), (1, .int .i64 p1)]) I50 (fun i => l0.length - i.1) (0, none, 0, [], []) ⟨rfl, rfl, rfl, rfl, rfl, rfl, rfl, trivial⟩ (dm52.2 ⟨H46, (show List.map rowD.abs ([]) = ([]) ∧ 0 ≤ l0.length ∧ Sound ([]) ∧ 0 ≤ 192 ∧ w16_LocksEnd_L0 p1 r26 l0 ([]) = w16_LocksEnd_L0 p1 r26 (List.drop 0 l0) ([]) from ⟨by exact rfl, by omega, by first | assumption | exact sound_nil, by first | omega | exact Sound.len (by assumption) | exact Nat.zero_le _, rfl⟩)⟩) ?_
 rintro ⟨k40, A41, c42, d44, l43⟩ w47 hf49
 show Wp _ _ _ [(28, .int .i64 ((k40 : Nat) : Int)), (27, .int .i64 ((l0.length : Nat) : Int)), (26, .slice A0 l0.length c0), (6, .pointer (some ⟨g31, 0, none⟩)), (5, .bool r26), (4, .bool false), (1, .int .i64 p1)] _ _
 obtain ⟨H48, hi54, hi55, hi56, hi57, hq53⟩ := dm52.1 hf49
 have hl58 := abs_len hi54
 refine sr (Kz (.bool (decide (((k40 : Nat) : Int) < ((l0.length : Nat) : Int)))) (nt (Wp.seq ?_)))
 by_cases h59 : ((k40 : Nat) : Int) < ((l0.length : Nat) : Int)
 obtain ⟨x60, hx61⟩ := rds_at (ls := l0) (i := k40) OpD.len (by decide) (H48.ro hx0) (by first | omega | (simp; done) | (simp; omega))
 have hd62 := drop_at hx61
 refine jT (dT h59) (sk (Wp.seq (bo (sr (fw (.pointer (some ⟨ab A0, ao A0 + k40 * 6, none⟩)) (Yl.indexAddr (El22) rfl rfl ((H48.ro hx0).addr (i := k40) (by omega)) (by omega)) (fw (.agg (OpD.cells x60).toArray) (Yl.load rfl (Lds.agg (cs := (OpD.cells x60)) Try.isAgg36 Try.sizeOf36 ((H48.ro hx0).elem OpD.len hx61 (by decide)))) ?_))))))
 refine npw [.int .i64 0, .int .u64 0, .string ⟨List.toArray ([])⟩, .string ⟨List.toArray ([])⟩, .bool false, .bool false] 36 H48 ?_
 intro g63 w64 H65
 refine sto (OpD.cells x60) 0 H65 Try.sizeOf36 ?_
 intro w66 H67
 refine ns (Kz (.pointer (some ⟨g63, 0, none⟩)) (Lz (.int .i64 x60.xDo) H67 0 Try.isAgg3 (Kz (.bool (decide (x60.xDo = 0))) (nt ?_))))
 by_cases h68 : x60.xDo = 0
 refine jT (dT h68) (Wp.region (Mz rfl (Kz (.pointer (some ⟨g63, 1, none⟩)) (Lz (.int .u64 ((x60.xTxn : Nat) : Int)) H67 0 Try.isAgg30 (Kz (.pointer (some ⟨g63, 2, none⟩)) (La (LockD.cells x60.xLock) H67 0 Try.isAgg34 Try.sizeOf34 ?_))))))
 have H69 := H67.pk [1, 2, 3, 0]
 obtain ⟨⟨r75, r76, r77, r78, r79⟩, hr80⟩ : ∃ q : Int × (List Nat) × (List Nat) × Int × TableT, locks_Table_Ask (TableT.mk (Ll.mk l43)) x60.xTxn x60.xLock = q := ⟨_, rfl⟩
 obtain ⟨D70, HP71, ro72, bk73, rr74⟩ := Own.enter3 H69
 refine cl Try.call10 (locks_Table_Ask_ok _ _ g31 (TableT.mk (Ll.mk l43)) A41 c42 d44 x60.xTxn x60.xLock r75 r76 r77 r78 r79 HP71 hi54 (by first | omega | (dsimp only; omega) | exact Sound.len (by assumption) | exact Nat.zero_le _) (by first | assumption | exact Sound.hd (by assumption) | exact Sound.hd sound_nil) (by first | assumption | exact sound_nil) hr80) ?_
 rintro _ w81 ⟨A84, c85, A86, c87, A88, c89, d90, rfl, HQ82, hd91⟩
 have H83 := bk73 _ _ HQ82
 have hl92 := abs_len hd91
 have hb93 := H83.rowC (i := 0) rfl
 have hb94 := H83.rowC (i := 1) rfl
 have hb95 := H83.rowC (i := 3) rfl
 have hz96 := ask_sound (m := l43) (by first | assumption | exact sound_nil) hr80
 replace hz96 : Sound r79.xrows.ls := hz96
 have hl97 : r79.xrows.ls.length ≤ 192 := hz96.len
 obtain ⟨hl98, hl99⟩ := ask_lens (m := l43) (by first | assumption | exact sound_nil) hr80
 replace hl98 : r76.length ≤ 400 := hl98
 replace hl99 : r77.length ≤ 400 := hl99
 refine WL.nil (bN (Fin.then ?_))
 have H100 := H83.pk [2, 3, 4]
 refine Wp.region (fw (.int .i64 ((k40 + 1 : Nat) : Int)) (Yl.int (e := IntKind.i64.wrap (((k40 : Nat) : Int) + 1)) yk (by rw [IntWalk.i64_in _ (by omega)]; omega)) (Mz rfl (WL.nil ?_)))
 have H101 := H100.pk [0, 1, 2]
 exact Fin.round (k40 + 1, A88, c89, d90, r79.xrows.ls) ⟨rfl, rfl, rfl, rfl, rfl, rfl, rfl, trivial⟩ (dm52.2 ⟨H101, by exact hd91, by omega, by first | assumption | exact sound_nil, by first | omega | exact Sound.len (by assumption) | exact Nat.zero_le _, et (hq53) (et (congrArg (fun q => w16_LocksEnd_L0 p1 r26 q l43) hd62) (et (ip h68) (bnd_of hr80)))⟩) (by show l0.length - (k40 + 1) < l0.length - k40; omega)
 refine jF (dF h68) (Wp.region (Mz rfl (Kz (.pointer (some ⟨g63, 1, none⟩)) (Lz (.int .u64 ((x60.xTxn : Nat) : Int)) H67 0 Try.isAgg30 ?_))))
 have H102 := H67.pk [1, 2, 3, 0]
 obtain ⟨⟨r108, r109, r110⟩, hr111⟩ : ∃ q : (List Nat) × (List Nat) × TableT, locks_Table_Release (TableT.mk (Ll.mk l43)) x60.xTxn = q := ⟨_, rfl⟩
 obtain ⟨D103, HP104, ro105, bk106, rr107⟩ := Own.enter3 H102
 refine cl Try.call13 (locks_Table_Release_ok _ _ g31 (TableT.mk (Ll.mk l43)) A41 c42 d44 x60.xTxn r108 r109 r110 HP104 hi54 (by first | omega | (dsimp only; omega) | exact Sound.len (by assumption) | exact Nat.zero_le _) (by first | assumption | exact Sound.hd (by assumption) | exact Sound.hd sound_nil) (by first | assumption | exact sound_nil) hr111) ?_
 rintro _ w112 ⟨A115, c116, A117, c118, A119, c120, d121, rfl, HQ113, hd122⟩
 have H114 := bk106 _ _ HQ113
 have hl123 := abs_len hd122
 have hb124 := H114.rowC (i := 0) rfl
 have hb125 := H114.rowC (i := 1) rfl
 have hb126 := H114.rowC (i := 3) rfl
 have hz127 := release_sound (m := l43) (by first | assumption | exact sound_nil) hr111
 replace hz127 : Sound r110.xrows.ls := hz127
 have hl128 : r110.xrows.ls.length ≤ 192 := hz127.len
 obtain ⟨hl129, hl130⟩ := release_lens (m := l43) (by first | assumption | exact sound_nil) hr111
 replace hl129 : r108.length ≤ 400 := hl129
 replace hl130 : r109.length ≤ 400 := hl130
 refine WL.nil (bN (Fin.then ?_))
 have H131 := H114.pk [2, 3, 4]
 refine Wp.region (fw (.int .i64 ((k40 + 1 : Nat) : Int)) (Yl.int (e := IntKind.i64.wrap (((k40 : Nat) : Int) + 1)) yk (by rw [IntWalk.i64_in _ (by omega)]; omega)) (Mz rfl (WL.nil ?_)))
 have H132 := H131.pk [0, 1, 2]
 exact Fin.round (k40 + 1, A119, c120, d121, r110.xrows.ls) ⟨rfl, rfl, rfl, rfl, rfl, rfl, rfl, trivial⟩ (dm52.2 ⟨H132, by exact hd122, by omega, by first | assumption | exact sound_nil, by first | omega | exact Sound.len (by assumption) | exact Nat.zero_le _, et (hq53) (et (congrArg (fun q => w16_LocksEnd_L0 p1 r26 q l43) hd62) (et (iN h68) (bnd_of hr111)))⟩) (by show l0.length - (k40 + 1) < l0.length - k40; omega)
 refine jF (dF h59) (Wp.exit (Fin.thenX ?_))
 have hL133 : w16_LocksEnd_L0 p1 r26 l0 ([]) = l43 := et (hq53) (et (congrArg (fun q => w16_LocksEnd_L0 p1 r26 q l43) (drop_end (ls := l0) (i := k40) (by omega))) rfl)
 refine Fin.thenX (Fin.blockX (Fin.then (Wp.seq (sr (Mn rfl (bo ?_))))))
 have H140 := H48.pk [0, 1, 2]
 obtain ⟨I144, hI145⟩ : ∃ q : (Nat × (Option Addr) × Nat × (List rowD) × (List rowT)) → World → Prop, q = fun (i : Nat × (Option Addr) × Nat × (List rowD) × (List rowT)) w' => Own w D w' [blk g31 [.slice i.2.1 i.2.2.2.2.length i.2.2.1] 59, row i.2.1 i.2.2.2.2.length i.2.2.1 (List.flatMap rowD.cells i.2.2.2.1) 72 6, sepL (List.flatMap rowD.own i.2.2.2.1)] ∧ (List.map rowD.abs i.2.2.2.1 = i.2.2.2.2 ∧ i.1 ≤ 1000 ∧ Sound i.2.2.2.2 ∧ i.2.2.2.2.length ≤ 192 ∧ w16_LocksEnd_L1 p1 r26 1000 l43 = w16_LocksEnd_L1 p1 r26 (1000 - i.1) i.2.2.2.2) := ⟨_, rfl⟩
 have dm146 : ∀ {k134 : Nat} {A135 : Option Addr} {c136 : Nat} {d138 : List rowD} {l137 : List rowT} {w' : World}, I144 (k134, A135, c136, d138, l137) w' ↔ Own w D w' [blk g31 [.slice A135 l137.length c136] 59, row A135 l137.length c136 (List.flatMap rowD.cells d138) 72 6, sepL (List.flatMap rowD.own d138)] ∧ List.map rowD.abs d138 = l137 ∧ k134 ≤ 1000 ∧ Sound l137 ∧ l137.length ≤ 192 ∧ w16_LocksEnd_L1 p1 r26 1000 l43 = w16_LocksEnd_L1 p1 r26 (1000 - k134) l137 := by intros; subst hI145; exact Iff.rfl
 refine Wp.loop (fun i : Nat × (Option Addr) × Nat × (List rowD) × (List rowT) => [(4, .bool false), (46, .int .i64 ((i.1 : Nat) : Int)), (6, .pointer (some ⟨g31, 0, none⟩)), (5, .bool r26), (1, .int .i64 p1)]) I144 (fun i => 1000 - i.1) (0, A41, c42, d44, l43) ⟨rfl, rfl, rfl, rfl, rfl, trivial⟩ (dm146.2 ⟨H140, by exact hi54, by omega, by first | assumption | exact sound_nil, by first | omega | exact Sound.len (by assumption) | exact Nat.zero_le _, rfl⟩) ?_
 rintro ⟨k134, A135, c136, d138, l137⟩ w141 hf143
 show Wp _ _ _ [(4, .bool false), (46, .int .i64 ((k134 : Nat) : Int)), (6, .pointer (some ⟨g31, 0, none⟩)), (5, .bool r26), (1, .int .i64 p1)] _ _
 obtain ⟨H142, hi148, hi149, hi150, hi151, hq147⟩ := dm146.1 hf143
 have hl152 := abs_len hi148
 refine sr (Kz (.bool (decide (((k134 : Nat) : Int) < 1000))) (nt (Wp.seq ?_)))
 by_cases h153 : ((k134 : Nat) : Int) < 1000
 refine jT (dT h153) (sk (Wp.seq (bo (sr (An rfl (Wp.seq (sr (Mz rfl ?_))))))))
 have hb159 := H142.rowC (i := 1) rfl
 obtain ⟨r160, hr161⟩ : ∃ q, locks_Table_Txns (TableT.mk (Ll.mk l137)) = q := ⟨_, rfl⟩
 obtain ⟨D154, HP155, ro156, bk157, rr158⟩ := Own.enter1 H142
 refine cl Try.call20 (locks_Table_Txns_ok _ _ g31 (TableT.mk (Ll.mk l137)) A135 c136 d138 r160 HP155 hi148 (rr158 _ 0 _ rfl row_rds) (show l137.length ≤ c136 ∧ l137.length ≤ 9223372036854775807 from by omega) (fun x9 h9 => ⟨rr158 _ 1 _ rfl (sepL_mem (List.mem_flatMap.2 ⟨x9, h9, .head _⟩) row_rds), own_rd (φ := fun _ => _) H142 (i := 2) rfl (sepL_mem (List.mem_flatMap.2 ⟨x9, h9, .head _⟩) row_le2)⟩) (by first | omega | (dsimp only; omega)) hr161) ?_
 rintro _ w162 ⟨A165, c166, rfl, HQ163, hk167⟩
 have H164 := bk157 _ _ HQ163
 have hb168 := H164.rowC (i := 0) rfl
 replace hk167 : r160.length = l137.length := hk167
 refine Kz (.int .i64 ((r160.length : Nat) : Int)) (Mn rfl (bo ?_))
 have H169 : Own w D w162 [row none 0 0 (List.flatMap (eN .u64) ([])) 30 1, row A165 r160.length c166 (List.flatMap (eN .u64) r160) 30 1, blk g31 [.slice A135 l137.length c136] 59, row A135 l137.length c136 (List.flatMap rowD.cells d138) 72 6, sepL (List.flatMap rowD.own d138)] := H164.free (row_nil 30 1)
 have H175 := H169.pk [1, 2, 3, 4, 0]
 obtain ⟨I179, hI180⟩ : ∃ q : ((Option Addr) × Nat × (List Nat) × Nat) → World → Prop, q = fun (i : (Option Addr) × Nat × (List Nat) × Nat) w' => Own w D w' [row A165 r160.length c166 (List.flatMap (eN .u64) r160) 30 1, blk g31 [.slice A135 l137.length c136] 59, row A135 l137.length c136 (List.flatMap rowD.cells d138) 72 6, sepL (List.flatMap rowD.own d138), row i.1 i.2.2.1.length i.2.1 (List.flatMap (eN .u64) i.2.2.1) 30 1] ∧ (i.2.2.2 ≤ r160.length ∧ i.2.2.1.length ≤ i.2.2.2 ∧ w16_LocksEnd_L2 p1 r26 l137 r160 ([]) = w16_LocksEnd_L2 p1 r26 l137 (List.drop i.2.2.2 r160) i.2.2.1) := ⟨_, rfl⟩
 have dm181 : ∀ {A170 : Option Addr} {c171 : Nat} {l172 : List Nat} {k173 : Nat} {w' : World}, I179 (A170, c171, l172, k173) w' ↔ Own w D w' [row A165 r160.length c166 (List.flatMap (eN .u64) r160) 30 1, blk g31 [.slice A135 l137.length c136] 59, row A135 l137.length c136 (List.flatMap rowD.cells d138) 72 6, sepL (List.flatMap rowD.own d138), row A170 l172.length c171 (List.flatMap (eN .u64) l172) 30 1] ∧ k173 ≤ r160.length ∧ l172.length ≤ k173 ∧ w16_LocksEnd_L2 p1 r26 l137 r160 ([]) = w16_LocksEnd_L2 p1 r26 l137 (List.drop k173 r160) l172 := by intros; subst hI180; exact Iff.rfl
 refine Wp.loop (fun i : (Option Addr) × Nat × (List Nat) × Nat => [(9, .slice i.1 i.2.2.1.length i.2.1), (51, .int .i64 ((i.2.2.2 : Nat) : Int)), (50, .int .i64 ((r160.length : Nat) : Int)), (49, .slice A165 r160.length c166), (4, .bool false), (46, .int .i64 ((k134 : Nat) : Int)), (6, .pointer (some ⟨g31, 0, none⟩)), (5, .bool r26), (1, .int .i64 p1)]) I179 (fun i => r160.length - i.2.2.2) (none, 0, [], 0) ⟨rfl, rfl, rfl, rfl, rfl, rfl, rfl, rfl, rfl, trivial⟩ (dm181.2 ⟨H175, (show 0 ≤ r160.length ∧ 0 ≤ 0 ∧ w16_LocksEnd_L2 p1 r26 l137 r160 ([]) = w16_LocksEnd_L2 p1 r26 l137 (List.drop 0 r160) ([]) from ⟨by omega, by omega, rfl⟩)⟩) ?_
 rintro ⟨A170, c171, l172, k173⟩ w176 hf178
 show Wp _ _ _ [(9, .slice A170 l172.length c171), (51, .int .i64 ((k173 : Nat) : Int)), (50, .int .i64 ((r160.length : Nat) : Int)), (49, .slice A165 r160.length c166), (4, .bool false), (46, .int .i64 ((k134 : Nat) : Int)), (6, .pointer (some ⟨g31, 0, none⟩)), (5, .bool r26), (1, .int .i64 p1)] _ _
 obtain ⟨H177, hi183, hi184, hq182⟩ := dm181.1 hf178
 refine sr (Kz (.bool (decide (((k173 : Nat) : Int) < ((r160.length : Nat) : Int)))) (nt (Wp.seq ?_)))
 by_cases h185 : ((k173 : Nat) : Int) < ((r160.length : Nat) : Int)
 obtain ⟨x186, hx187⟩ := rds_at (ls := r160) (i := k173) eN_len (by decide) (H177.rds (i := 0) rfl) (by first | omega | (simp; done) | (simp; omega))
 have hd188 := drop_at hx187
 refine jT (dT h185) (sk (Wp.seq (bo (sr (fw (.pointer (some ⟨ab A165, ao A165 + k173 * 1, none⟩)) (Yl.indexAddr (El37) rfl rfl ((H177.rds (i := 0) rfl).addr (i := k173) (by omega)) (by omega)) (fw (.int .u64 ((x186 : Nat) : Int)) (Yl.load rfl (Lds.one Try.isAgg30 (((H177.rds (i := 0) rfl).elem eN_len hx187 (by decide)).at_ (k := 0) rfl))) (Ar rfl (Mz rfl (Mz rfl ?_)))))))))
 have H189 := H177.pk [1, 0, 2, 3, 4]
 have hb195 := H189.rowC (i := 2) rfl
 obtain ⟨r196, hr197⟩ : ∃ q, locks_Table_Holds (TableT.mk (Ll.mk l137)) x186 = q := ⟨_, rfl⟩
 obtain ⟨D190, HP191, ro192, bk193, rr194⟩ := Own.enter1 H189
 refine cl Try.call17 (locks_Table_Holds_ok _ _ g31 (TableT.mk (Ll.mk l137)) A135 c136 d138 x186 r196 HP191 hi148 (rr194 _ 1 _ rfl row_rds) (show l137.length ≤ c136 ∧ l137.length ≤ 9223372036854775807 from by omega) (fun x9 h9 => ⟨rr194 _ 2 _ rfl (sepL_mem (List.mem_flatMap.2 ⟨x9, h9, .head _⟩) row_rds), own_rd (φ := fun _ => _) H189 (i := 3) rfl (sepL_mem (List.mem_flatMap.2 ⟨x9, h9, .head _⟩) row_le2)⟩) (by first | omega | (dsimp only; omega)) (by first | assumption | exact Sound.hd (by assumption)) hr197) ?_
 rintro _ w198 ⟨A201, c202, rfl, HQ199⟩
 have H200 := bk193 _ _ HQ199
 have hb203 := H200.rowC (i := 0) rfl
 refine Kz (.int .i64 ((r196.length : Nat) : Int)) (Kz (.bool (decide (((r196.length : Nat) : Int) > 0))) (nt ?_))
 by_cases h204 : ((r196.length : Nat) : Int) > 0
 refine jT (dT h204) ?_
 have H205 := H200.pk [1, 2, 3, 4, 5]
 refine Wp.region (Mz rfl (Mz rfl ?_))
 refine nrw [.int .u64 ((x186 : Nat) : Int)] 30 1 1 H205 ?_
 intro A206 w207 H208
 replace H208 := Own.reh (y := row A206 1 1 (List.flatMap (eN .u64) ([x186])) 30 1) rfl H208
 have H209 := H208.pk [5, 0, 1, 2, 3, 4]
 refine WL.do rfl (Do.appendW (k := l172.length) (m := 1) (El37) H209 rfl rfl (src_of Try.underlying37 (H209.rds (i := 1) rfl) (flat_one eN_one ([x186]))) rfl (by omega) (s := List.length (l172 ++ [x186])) (by first | omega | (simp only [List.length_append, List.length_cons, List.length_nil] <;> omega)) (List.flatMap_append).symm ?_)
 intro A210 c211 w212 H213
 have hl214 : List.length (l172 ++ [x186]) = l172.length + 1 := by simp only [List.length_append, List.length_cons, List.length_nil]
 refine Az rfl (WL.nil (bN (Fin.then ?_)))
 have H215 := H213.pk [0, 2, 3, 4, 5]
 refine Wp.region (fw (.int .i64 ((k173 + 1 : Nat) : Int)) (Yl.int (e := IntKind.i64.wrap (((k173 : Nat) : Int) + 1)) yk (by rw [IntWalk.i64_in _ (by omega)]; omega)) (Mz rfl (WL.nil ?_)))
 have H216 := H215.pk [2, 1, 3, 4, 0]
 exact Fin.round (A210, c211, (l172 ++ [x186]), k173 + 1) ⟨rfl, rfl, rfl, rfl, rfl, rfl, rfl, rfl, rfl, trivial⟩ (dm181.2 ⟨H216, by omega, by omega, et (hq182) (et (congrArg (fun q => w16_LocksEnd_L2 p1 r26 l137 q l172) hd188) (et (bnd_of hr197) (ip h204)))⟩) (by show r160.length - (k173 + 1) < r160.length - k173; omega)
 refine jF (dF h204) (Wp.skip (bN (Fin.then ?_)))
 have H217 := H200.pk [1, 2, 3, 4, 5]
 refine Wp.region (fw (.int .i64 ((k173 + 1 : Nat) : Int)) (Yl.int (e := IntKind.i64.wrap (((k173 : Nat) : Int) + 1)) yk (by rw [IntWalk.i64_in _ (by omega)]; omega)) (Mz rfl (WL.nil ?_)))
 have H218 := H217.pk [1, 0, 2, 3, 4]
 exact Fin.round (A170, c171, l172, k173 + 1) ⟨rfl, rfl, rfl, rfl, rfl, rfl, rfl, rfl, rfl, trivial⟩ (dm181.2 ⟨H218, by omega, by omega, et (hq182) (et (congrArg (fun q => w16_LocksEnd_L2 p1 r26 l137 q l172) hd188) (et (bnd_of hr197) (iN h204)))⟩) (by show r160.length - (k173 + 1) < r160.length - k173; omega)
 refine jF (dF h185) (Wp.exit (Fin.thenX ?_))
 have hL219 : w16_LocksEnd_L2 p1 r26 l137 r160 ([]) = l172 := et (hq182) (et (congrArg (fun q => w16_LocksEnd_L2 p1 r26 l137 q l172) (drop_end (ls := r160) (i := k173) (by omega))) rfl)
 refine Fin.thenX (Fin.blockX (Fin.then (Wp.seq (Wp.seq ?_))))
 have H220 := H177.pk [1, 2, 3, 4]
 refine Wp.region (Mz rfl (Kz (.int .i64 ((l172.length : Nat) : Int)) (Kz (.bool (decide (((l172.length : Nat) : Int) = 0))) (nt ?_))))
 by_cases h221 : ((l172.length : Nat) : Int) = 0
 refine jT (dT h221) (sr (Mz rfl (Mz rfl ?_)))
 rcases Bool.eq_false_or_eq_true (r26) with h222 | h222
 refine WL.valG (v := .pointer (some ⟨g31, 0, none⟩)) rfl rfl h222 rfl (Yl.move rfl) ?_
 have hb228 := H220.rowC (i := 1) rfl
 obtain ⟨r229, hr230⟩ : ∃ q, locks_Table_Txns (TableT.mk (Ll.mk l137)) = q := ⟨_, rfl⟩
 obtain ⟨D223, HP224, ro225, bk226, rr227⟩ := Own.enter1 H220
 refine WL.doG rfl rfl h222 rfl (Do.call Try.call20 rfl (locks_Table_Txns_ok _ _ g31 (TableT.mk (Ll.mk l137)) A135 c136 d138 r229 HP224 hi148 (rr227 _ 0 _ rfl row_rds) (show l137.length ≤ c136 ∧ l137.length ≤ 9223372036854775807 from by omega) (fun x9 h9 => ⟨rr227 _ 1 _ rfl (sepL_mem (List.mem_flatMap.2 ⟨x9, h9, .head _⟩) row_rds), own_rd (φ := fun _ => _) H220 (i := 2) rfl (sepL_mem (List.mem_flatMap.2 ⟨x9, h9, .head _⟩) row_le2)⟩) (by first | omega | (dsimp only; omega)) hr230) ?_)
 rintro _ w231 ⟨A234, c235, rfl, HQ232, hk236⟩
 have H233 := bk226 _ _ HQ232
 have hb237 := H233.rowC (i := 0) rfl
 replace hk236 : r229.length = l137.length := hk236
 refine Gz (.int .i64 ((r229.length : Nat) : Int)) h222 (Gz (.bool (decide (((r229.length : Nat) : Int) = 0))) h222 (fw (.bool (decide (((r229.length : Nat) : Int) = 0))) (Yl.pickT rfl h222 rfl) (Mz rfl ?_)))
 by_cases h238 : ((r229.length : Nat) : Int) = 0
 refine gw (.pointer (some ⟨g31, 0, none⟩)) (dT h238) (Yl.move rfl) ?_
 have H239 := H233.pk [1, 0, 2, 3, 4]
 have hb245 := H239.rowC (i := 2) rfl
 obtain ⟨r246, hr247⟩ : ∃ q, locks_Table_Waiting (TableT.mk (Ll.mk l137)) = q := ⟨_, rfl⟩
 obtain ⟨D240, HP241, ro242, bk243, rr244⟩ := Own.enter1 H239
 refine clG (decide_eq_true h238) Try.call18 (locks_Table_Waiting_ok _ _ g31 (TableT.mk (Ll.mk l137)) A135 c136 d138 r246 HP241 hi148 (rr244 _ 1 _ rfl row_rds) (show l137.length ≤ c136 ∧ l137.length ≤ 9223372036854775807 from by omega) (fun x9 h9 => ⟨rr244 _ 2 _ rfl (sepL_mem (List.mem_flatMap.2 ⟨x9, h9, .head _⟩) row_rds), own_rd (φ := fun _ => _) H239 (i := 3) rfl (sepL_mem (List.mem_flatMap.2 ⟨x9, h9, .head _⟩) row_le2)⟩) (by first | omega | (dsimp only; omega)) hr247) ?_
 rintro _ w248 ⟨A251, c252, rfl, HQ249⟩
 have H250 := bk243 _ _ HQ249
 have hb253 := H250.rowC (i := 0) rfl
 refine Gz (.int .i64 ((r246.length : Nat) : Int)) (dT h238) (Gz (.bool (decide (((r246.length : Nat) : Int) = 0))) (dT h238) (fw (.bool (decide (((r246.length : Nat) : Int) = 0))) (Yl.pickT rfl (dT h238) rfl) (An rfl (rt (tR (bR (tR (tR (bR (tR (rs ?_)))))))))))
 have H254 := H250.pk []
 obtain rfl : _ = decide (((r246.length : Nat) : Int) = 0) := hr.symm.trans (et (bnd_of hr27) (et (iN h34) (et (bnd_of hL133) (lp_r (et (hq147) (et (congrArg (fun q => w16_LocksEnd_L1 p1 r26 q l137) (sub_at (n := 1000) (i := k134) (by omega))) (et (bnd_of hr161) (et (bnd_of hL219) (et (ip h221) (et (ip h222) (et (bnd_of hr230) (et (ip h238) (bnd_of hr247)))))))))))))
 exact ⟨rfl, H254⟩
 refine Sz (dF h238) (Sz (dF h238) (Sz (dF h238) (Sz (dF h238) (fw (.bool false) (Yl.pickF rfl (dF h238) rfl) (An rfl (rt (tR (bR (tR (tR (bR (tR (rs ?_)))))))))))))
 have H255 := H233.pk []
 obtain rfl : _ = false := hr.symm.trans (et (bnd_of hr27) (et (iN h34) (et (bnd_of hL133) (lp_r (et (hq147) (et (congrArg (fun q => w16_LocksEnd_L1 p1 r26 q l137) (sub_at (n := 1000) (i := k134) (by omega))) (et (bnd_of hr161) (et (bnd_of hL219) (et (ip h221) (et (ip h222) (et (bnd_of hr230) (iN h238))))))))))))
 exact ⟨rfl, H255⟩
 refine Sz h222 (Sz h222 (Sz h222 (Sz h222 (fw (.bool false) (Yl.pickF rfl h222 rfl) (Mz rfl (Sz rfl (Sz rfl (Sz rfl (Sz rfl (fw (.bool false) (Yl.pickF rfl rfl rfl) (An rfl (rt (tR (bR (tR (tR (bR (tR (rs ?_)))))))))))))))))))
 have H256 := H220.pk []
 obtain rfl : _ = false := hr.symm.trans (et (bnd_of hr27) (et (iN h34) (et (bnd_of hL133) (lp_r (et (hq147) (et (congrArg (fun q => w16_LocksEnd_L1 p1 r26 q l137) (sub_at (n := 1000) (i := k134) (by omega))) (et (bnd_of hr161) (et (bnd_of hL219) (et (ip h221) (ifF h222))))))))))
 exact ⟨rfl, H256⟩
 refine jF (dF h221) (sk (Wp.region (Mz rfl (Mz rfl (Mz rfl (Mz rfl (Kz (.int .i64 ((l172.length : Nat) : Int)) ?_)))))))
 have hz257 := remI_bd p1 (n := l172.length) (by omega)
 refine fw (.int .i64 (remI p1 l172.length)) (Yl.remI rfl rfl (by omega)) (Mz rfl (Kz (.int .i64 ((l172.length : Nat) : Int)) (fw (.int .i64 ((remI p1 l172.length) + ((l172.length : Nat) : Int))) (Yl.int (e := IntKind.i64.wrap ((remI p1 l172.length) + ((l172.length : Nat) : Int))) yk (by rw [IntWalk.i64_in _ (by omega)])) (Mz rfl (Kz (.int .i64 ((l172.length : Nat) : Int)) ?_)))))
 have hz258 := remI_bd ((remI p1 l172.length) + ((l172.length : Nat) : Int)) (n := l172.length) (by omega)
 have hz259 := remI_nn (a := (remI p1 l172.length) + ((l172.length : Nat) : Int)) (n := l172.length) (by omega)
 refine fw (.int .i64 (remI ((remI p1 l172.length) + ((l172.length : Nat) : Int)) l172.length)) (Yl.remI rfl rfl (by omega)) ?_
 obtain ⟨x260, hx261⟩ := rds_at (ls := l172) (i := Int.toNat (remI ((remI p1 l172.length) + ((l172.length : Nat) : Int)) l172.length)) eN_len (by decide) (H220.rds (i := 3) rfl) (by first | omega | (simp; done) | (simp; omega))
 refine fw (.pointer (some ⟨ab A170, ao A170 + (Int.toNat (remI ((remI p1 l172.length) + ((l172.length : Nat) : Int)) l172.length)) * 1, none⟩)) (Yl.indexAddr (El37) rfl (ev_nat (r := remI ((remI p1 l172.length) + ((l172.length : Nat) : Int)) l172.length) rfl (by omega)) ((H220.rds (i := 3) rfl).addr (i := Int.toNat (remI ((remI p1 l172.length) + ((l172.length : Nat) : Int)) l172.length)) (by omega)) (by omega)) (fw (.int .u64 ((x260 : Nat) : Int)) (Yl.load rfl (Lds.one Try.isAgg30 (((H220.rds (i := 3) rfl).elem eN_len hx261 (by decide)).at_ (k := 0) rfl))) ?_)
 obtain ⟨⟨r267, r268, r269⟩, hr270⟩ : ∃ q : (List Nat) × (List Nat) × TableT, locks_Table_Release (TableT.mk (Ll.mk l137)) x260 = q := ⟨_, rfl⟩
 obtain ⟨D262, HP263, ro264, bk265, rr266⟩ := Own.enter3 H220
 refine cl Try.call13 (locks_Table_Release_ok _ _ g31 (TableT.mk (Ll.mk l137)) A135 c136 d138 x260 r267 r268 r269 HP263 hi148 (by first | omega | (dsimp only; omega) | exact Sound.len (by assumption) | exact Nat.zero_le _) (by first | assumption | exact Sound.hd (by assumption) | exact Sound.hd sound_nil) (by first | assumption | exact sound_nil) hr270) ?_
 rintro _ w271 ⟨A274, c275, A276, c277, A278, c279, d280, rfl, HQ272, hd281⟩
 have H273 := bk265 _ _ HQ272
 have hl282 := abs_len hd281
 have hb283 := H273.rowC (i := 0) rfl
 have hb284 := H273.rowC (i := 1) rfl
 have hb285 := H273.rowC (i := 3) rfl
 have hz286 := release_sound (m := l137) (by first | assumption | exact sound_nil) hr270
 replace hz286 : Sound r269.xrows.ls := hz286
 have hl287 : r269.xrows.ls.length ≤ 192 := hz286.len
 obtain ⟨hl288, hl289⟩ := release_lens (m := l137) (by first | assumption | exact sound_nil) hr270
 replace hl288 : r267.length ≤ 400 := hl288
 replace hl289 : r268.length ≤ 400 := hl289
 refine WL.nil (bN (Fin.then ?_))
 have H290 := H273.pk [2, 3, 4]
 refine Wp.region (fw (.int .i64 ((k134 + 1 : Nat) : Int)) (Yl.int (e := IntKind.i64.wrap (((k134 : Nat) : Int) + 1)) yk (by rw [IntWalk.i64_in _ (by omega)]; omega)) (Mz rfl (WL.nil ?_)))
 have H291 := H290.pk [0, 1, 2]
 exact Fin.round (k134 + 1, A278, c279, d280, r269.xrows.ls) ⟨rfl, rfl, rfl, rfl, rfl, trivial⟩ (dm146.2 ⟨H291, by exact hd281, by omega, by first | assumption | exact sound_nil, by first | omega | exact Sound.len (by assumption) | exact Nat.zero_le _, et (hq147) (et (congrArg (fun q => w16_LocksEnd_L1 p1 r26 q l137) (sub_at (n := 1000) (i := k134) (by omega))) (et (bnd_of hr161) (et (bnd_of hL219) (et (iN h221) (et (bnd_of (getD_of hx261)) (bnd_of hr270))))))⟩) (by show 1000 - (k134 + 1) < 1000 - k134; omega)
 refine jF (dF h153) (Wp.exit (Fin.thenX ?_))
 have hL292 : w16_LocksEnd_L1 p1 r26 1000 l43 = Sum.inl () := et (hq147) (et (congrArg (fun q => w16_LocksEnd_L1 p1 r26 q l137) (sub_end (n := 1000) (i := k134) (by omega))) rfl)
 refine Fin.thenX (Fin.blockX (Fin.then (Wp.seq ?_)))
 have H293 := H142.pk []
 refine Wp.region (An rfl (rt (rs ?_)))
 have H294 := H293.pk []
 obtain rfl : _ = false := hr.symm.trans (et (bnd_of hr27) (et (iN h34) (et (bnd_of hL133) (lp_l hL292))))
 exact ⟨rfl, H294⟩
end Go.Proofs.Ytggnajpokhaaiaa
