/-
 locks: the law LocksReads
-/
import Derived.Test.YtggnajpokhaaiaaLf
namespace Go.Proofs.Ytggnajpokhaaiaa
open Go.RowKit
set_option linter.unusedVariables false
set_option linter.unusedSectionVars false
set_option linter.unusedSimpArgs false

theorem El22 : Elem Try.prog 22 36 6 64 := elem_of (z := .agg #[.int .i64 0, .int .u64 0, .string ⟨List.toArray ([])⟩, .string ⟨List.toArray ([])⟩, .bool false, .bool false]) Try.underlying22 (by kernel_rfl) rfl (by decide)

structure OpD where
 xDo : Int
 xTxn : Nat
 xLock : LockD
 xClone : Bool

def OpD.cells (x : OpD) : List Value := [.int .i64 x.xDo, .int .u64 ((x.xTxn : Nat) : Int), .string ⟨List.toArray x.xLock.xRange.xLo⟩, .string ⟨List.toArray x.xLock.xRange.xHi⟩, .bool x.xLock.xWrite, .bool x.xClone]

instance : Bk OpD := ⟨fun x _ => bk x.xDo + (bk x.xTxn + (bk x.xLock + (bk x.xClone + (0))))⟩

theorem OpD.len : ∀ x, (OpD.cells x).length = 6 := fun _ => rfl

theorem OpD.one : ∀ x, ∀ u ∈ OpD.cells x, u.oneCell' = true := fun x u hu => by
 simp only [OpD.cells, List.mem_cons, List.not_mem_nil, or_false] at hu
 rcases hu with rfl | rfl | rfl | rfl | rfl | rfl <;> rfl

def OpD.Ok (w : World) (x : OpD) : Prop := ((-9223372036854775808) ≤ x.xDo ∧ x.xDo ≤ 9223372036854775807) ∧ (x.xTxn ≤ 18446744073709551615) ∧ (LockD.Ok w x.xLock) ∧ (True)

set_option maxRecDepth 100000 in
theorem opens_OpD (w : World) : Opens Try.prog w 36 6 OpD.cells (OpD.Ok w) :=
 (opens_struct (sz := 6) Try.underlying36 (by kernel_rfl) (OpensF.cons (i := 0) (off := 0) (s := 1) rfl rfl (opens_int (k := .i64) (lo := -9223372036854775808) (hi := 9223372036854775807) Try.underlying3 (by kernel_rfl) (by decide) (by decide)) (OpensF.cons (i := 1) (off := 1) (s := 1) rfl rfl (opens_nat (k := .u64) (hi := 18446744073709551615) Try.underlying30 (by kernel_rfl) (by decide) (by decide)) (OpensF.cons (i := 2) (off := 2) (s := 3) rfl rfl (opens_LockD w) (OpensF.cons (i := 3) (off := 5) (s := 1) rfl rfl (opens_bool Try.underlying4 (by kernel_rfl)) OpensF.nil))))).map (fun p => ⟨p.1, p.2.1, p.2.2.1, p.2.2.2.1⟩) OpD.len (fun _ => rfl) (fun _ h => ⟨h.1, h.2.1, h.2.2.1, h.2.2.2.1⟩) fun _ => Nat.le_refl _

instance : Inhabited OpD := ⟨⟨default, default, default, default⟩⟩

def w16_LocksReads_L0 (r26 : Bool) : List OpD → List rowT → (List rowT) ⊕ Bool
  | [], l43 => Sum.inl l43
  | x60 :: q45, l43 => if x60.xDo = 0 then bnd (locks_Table_Ask (TableT.mk (Ll.mk l43)) x60.xTxn (LockD.mk x60.xLock.xRange false)) fun yr77 => if yr77.2.2.2.1 = 0 then if yr77.1 = 1 then if ((yr77.2.1.length + yr77.2.2.1.length : Nat) : Int) > 0 then Sum.inr (false) else w16_LocksReads_L0 r26 q45 yr77.2.2.2.2.xrows.ls else Sum.inr (false) else bnd (span_Check x60.xLock.xRange) fun yr118 => if yr118 = 0 then Sum.inr (false) else w16_LocksReads_L0 r26 q45 yr77.2.2.2.2.xrows.ls else bnd (locks_Table_Release (TableT.mk (Ll.mk l43)) x60.xTxn) fun yr134 => w16_LocksReads_L0 r26 q45 yr134.2.2.xrows.ls

def w16_LocksReads (l0 : List OpD) : Bool :=
 bnd (w16_live) fun yr26 => if ((l0.length : Nat) : Int) > 60 then if yr26 = true then true else false else lp (w16_LocksReads_L0 yr26 l0 ([])) fun sLrbfL => if yr26 = true then bnd (locks_Table_Waiting (TableT.mk (Ll.mk sLrbfL))) fun yr167 => decide (((yr167.length : Nat) : Int) = 0) else false

set_option maxRecDepth 100000 in
set_option maxHeartbeats 2000000 in
theorem w16_LocksReads_ok (w : World) (D : Nat → Prop) (A0 : Option Addr) (n0 c0 : Nat) (l0 : List OpD) (r0 : Bool) (H : Own w D w []) (hx0 : Ro w D fun w' => Rds w' 6 A0 n0 (List.flatMap OpD.cells l0)) (hn0 : n0 = l0.length) (hl0 : l0.length * 64 ≤ 211106232532992) (hh0 : l0.length * 64 ≤ 140737488351232) (hr : w16_LocksReads l0 = r0) :
    Calls Try.prog 7 #[.slice A0 n0 c0] w (Ret fun v w' => v = .bool r0 ∧ Own w D w' []) := by
 subst hn0
 refine Calls.body (args := [.slice A0 l0.length c0]) Try.func7 rfl rfl rfl ?_
 show Wp _ _ _ [(0, .slice A0 l0.length c0)] _ _
 refine sr (Ar rfl ?_)
 obtain ⟨r26, hr27⟩ : ∃ q, w16_live = q := ⟨_, rfl⟩
 obtain ⟨D21, HP22, ro23, bk24, rr25⟩ := Own.enter0 H
 refine cl Try.call8 (w16_live_ok _ _ r26 HP22 hr27) ?_
 rintro _ w28 ⟨rfl, HQ29⟩
 have H30 := bk24 _ _ HQ29
 refine Ar rfl ?_
 refine WL.do rfl (Do.call Try.call9 rfl ?_ (fun _ _ k => k))
 refine Calls.body (args := []) Try.func9 rfl rfl rfl ?_
 show Wp _ _ _ [] _ _
 refine sr (Ar rfl (Kz (.agg #[.slice none 0 0]) ?_))
 refine npw [.slice none 0 0] 59 H30 ?_
 intro g31 w32 H33
 refine An rfl (rt (rs (An rfl (Wp.seq (sr (Mz rfl (Kz (.bool false) (Mz rfl (gw (.slice A0 l0.length c0) rfl (Yl.move rfl) (Gz (.int .i64 ((l0.length : Nat) : Int)) rfl (Gz (.bool (decide (((l0.length : Nat) : Int) > 60))) rfl (fw (.bool (decide (((l0.length : Nat) : Int) > 60))) (Yl.pickF rfl rfl rfl) (nt ?_)))))))))))))
 by_cases h34 : ((l0.length : Nat) : Int) > 60
 refine jT (dT h34) (sr (Mz rfl (Mz rfl ?_)))
 rcases Bool.eq_false_or_eq_true (r26) with h35 | h35
 refine WL.valG (v := .pointer (some ⟨g31, 0, none⟩)) rfl rfl h35 rfl (Yl.move rfl) (Gz (.bool true) h35 (fw (.bool true) (Yl.pickT rfl h35 rfl) (An rfl (rt (tR (rs ?_))))))
 have H36 := H33.pk []
 obtain rfl : _ = true := hr.symm.trans (et (bnd_of hr27) (et (ip h34) (ip h35)))
 exact ⟨rfl, H36⟩
 refine Sz h35 (Sz h35 (fw (.bool false) (Yl.pickF rfl h35 rfl) (An rfl (rt (tR (rs ?_))))))
 have H37 := H33.pk []
 obtain rfl : _ = false := hr.symm.trans (et (bnd_of hr27) (et (ip h34) (ifF h35)))
 exact ⟨rfl, H37⟩
 refine jF (dF h34) (sk (Wp.seq (sr (Mz rfl (Kz (.int .i64 ((l0.length : Nat) : Int)) (Mn rfl (bo ?_)))))))
 have H38 : Own w D w32 [sepL (List.flatMap rowD.own ([])), blk g31 [.slice none 0 0] 59] := H33.sepNil
 have H39 : Own w D w32 [row none 0 0 (List.flatMap rowD.cells ([])) 72 6, sepL (List.flatMap rowD.own ([])), blk g31 [.slice none 0 0] 59] := H38.free (row_nil 72 6)
 have H46 := H39.pk [2, 0, 1]
 obtain ⟨I50, hI51⟩ : ∃ q : (Nat × (Option Addr) × Nat × (List rowD) × (List rowT)) → World → Prop, q = fun (i : Nat × (Option Addr) × Nat × (List rowD) × (List rowT)) w' => Own w D w' [blk g31 [.slice i.2.1 i.2.2.2.2.length i.2.2.1] 59, row i.2.1 i.2.2.2.2.length i.2.2.1 (List.flatMap rowD.cells i.2.2.2.1) 72 6, sepL (List.flatMap rowD.own i.2.2.2.1)] ∧ (List.map rowD.abs i.2.2.2.1 = i.2.2.2.2 ∧ i.1 ≤ l0.length ∧ Sound i.2.2.2.2 ∧ i.2.2.2.2.length ≤ 192 ∧ w16_LocksReads_L0 r26 l0 ([]) = w16_LocksReads_L0 r26 (List.drop i.1 l0) i.2.2.2.2) := ⟨_, rfl⟩
 have dm52 : ∀ {k40 : Nat} {A41 : Option Addr} {c42 : Nat} {d44 : List rowD} {l43 : List rowT} {w' : World}, I50 (k40, A41, c42, d44, l43) w' ↔ Own w D w' [blk g31 [.slice A41 l43.length c42] 59, row A41 l43.length c42 (List.flatMap rowD.cells d44) 72 6, sepL (List.flatMap rowD.own d44)] ∧ List.map rowD.abs d44 = l43 ∧ k40 ≤ l0.length ∧ Sound l43 ∧ l43.length ≤ 192 ∧ w16_LocksReads_L0 r26 l0 ([]) = w16_LocksReads_L0 r26 (List.drop k40 l0) l43 := by intros; subst hI51; exact Iff.rfl
 refine Wp.loop (fun i : Nat × (Option Addr) × Nat × (List rowD) × (List rowT) => [(2, .bool false), (27, .int .i64 ((i.1 : Nat) : Int)), (26, .int .i64 ((l0.length : Nat) : Int)), (25, .slice A0 l0.length c0), (4, .pointer (some ⟨g31, 0, none⟩)), (3, .bool r26)]) I50 (fun i => l0.length - i.1) (0, none, 0, [], []) ⟨rfl, rfl, rfl, rfl, rfl, rfl, trivial⟩ (dm52.2 ⟨H46, (show List.map rowD.abs ([]) = ([]) ∧ 0 ≤ l0.length ∧ Sound ([]) ∧ 0 ≤ 192 ∧ w16_LocksReads_L0 r26 l0 ([]) = w16_LocksReads_L0 r26 (List.drop 0 l0) ([]) from ⟨by exact rfl, by omega, by first | assumption | exact sound_nil, by first | omega | exact Sound.len (by assumption) | exact Nat.zero_le _, rfl⟩)⟩) ?_
 rintro ⟨k40, A41, c42, d44, l43⟩ w47 hf49
 show Wp _ _ _ [(2, .bool false), (27, .int .i64 ((k40 : Nat) : Int)), (26, .int .i64 ((l0.length : Nat) : Int)), (25, .slice A0 l0.length c0), (4, .pointer (some ⟨g31, 0, none⟩)), (3, .bool r26)] _ _
 obtain ⟨H48, hi54, hi55, hi56, hi57, hq53⟩ := dm52.1 hf49
 have hl58 := abs_len hi54
 refine sr (Kz (.bool (decide (((k40 : Nat) : Int) < ((l0.length : Nat) : Int)))) (nt (Wp.seq ?_)))
 by_cases h59 : ((k40 : Nat) : Int) < ((l0.length : Nat) : Int)
 obtain ⟨x60, hx61⟩ := rds_at (ls := l0) (i := k40) OpD.len (by decide) (H48.ro hx0) (by first | omega | (simp; done) | (simp; omega))
 have hd62 := drop_at hx61
 refine jT (dT h59) (sk (Wp.seq (bo (sr (fw (.pointer (some ⟨ab A0, ao A0 + k40 * 6, none⟩)) (Yl.indexAddr (El22) rfl rfl ((H48.ro hx0).addr (i := k40) (by omega)) (by omega)) (fw (.agg (OpD.cells x60).toArray) (Yl.load rfl (Lds.agg (cs := (OpD.cells x60)) Try.isAgg36 Try.sizeOf36 ((H48.ro hx0).elem OpD.len hx61 (by decide)))) ?_))))))
 refine npw [.int .i64 0, .int .u64 0, .string ⟨List.toArray ([])⟩, .string ⟨List.toArray ([])⟩, .bool false, .bool false] 36 H48 ?_
 intro g63 w64 H65
 refine sto (OpD.cells x60) 0 H65 Try.sizeOf36 ?_
 intro w66 H67
 refine ns (Kz (.pointer (some ⟨g63, 2, none⟩)) (Kz (.pointer (some ⟨g63, 4, none⟩)) ?_))
 refine sto [.bool false] 4 H67 Try.sizeOf4 ?_
 intro w68 H69
 refine nt (Wp.seq (sr (Kz (.pointer (some ⟨g63, 0, none⟩)) (Lz (.int .i64 x60.xDo) H69 0 Try.isAgg3 (fw (.bool (decide (¬ (x60.xDo = 0)))) (Yl.bool (e := !(decide (x60.xDo = 0))) yk decide_not.symm) (nt ?_))))))
 by_cases h70 : x60.xDo = 0
 refine jF (dF (not_not_intro h70)) (sk (sr (Mz rfl (Kz (.pointer (some ⟨g63, 1, none⟩)) (Lz (.int .u64 ((x60.xTxn : Nat) : Int)) H69 0 Try.isAgg30 (Kz (.pointer (some ⟨g63, 2, none⟩)) (La ([.string ⟨List.toArray x60.xLock.xRange.xLo⟩, .string ⟨List.toArray x60.xLock.xRange.xHi⟩, .bool false]) H69 0 Try.isAgg34 Try.sizeOf34 ?_)))))))
 have H71 := H69.pk [1, 2, 3, 0]
 obtain ⟨⟨r77, r78, r79, r80, r81⟩, hr82⟩ : ∃ q : Int × (List Nat) × (List Nat) × Int × TableT, locks_Table_Ask (TableT.mk (Ll.mk l43)) x60.xTxn (LockD.mk x60.xLock.xRange false) = q := ⟨_, rfl⟩
 obtain ⟨D72, HP73, ro74, bk75, rr76⟩ := Own.enter3 H71
 refine cl Try.call10 (locks_Table_Ask_ok _ _ g31 (TableT.mk (Ll.mk l43)) A41 c42 d44 x60.xTxn (LockD.mk x60.xLock.xRange false) r77 r78 r79 r80 r81 HP73 hi54 (by first | omega | (dsimp only; omega) | exact Sound.len (by assumption) | exact Nat.zero_le _) (by first | assumption | exact Sound.hd (by assumption) | exact Sound.hd sound_nil) (by first | assumption | exact sound_nil) hr82) ?_
 rintro _ w83 ⟨A86, c87, A88, c89, A90, c91, d92, rfl, HQ84, hd93⟩
 have H85 := bk75 _ _ HQ84
 have hl94 := abs_len hd93
 have hb95 := H85.rowC (i := 0) rfl
 have hb96 := H85.rowC (i := 1) rfl
 have hb97 := H85.rowC (i := 3) rfl
 have hz98 := ask_sound (m := l43) (by first | assumption | exact sound_nil) hr82
 replace hz98 : Sound r81.xrows.ls := hz98
 have hl99 : r81.xrows.ls.length ≤ 192 := hz98.len
 obtain ⟨hl100, hl101⟩ := ask_lens (m := l43) (by first | assumption | exact sound_nil) hr82
 replace hl100 : r78.length ≤ 400 := hl100
 replace hl101 : r79.length ≤ 400 := hl101
 refine Mz rfl (Kz (.int .i64 r77) (Kz (.slice A86 r78.length c87) (Kz (.slice A88 r79.length c89) (Kz (.int .i64 r80) (Az rfl (Az rfl (Az rfl (Ar rfl (Mz rfl (Kz (.bool (decide (r80 = 0))) (Mz rfl ?_)))))))))))
 by_cases h102 : r80 = 0
 refine gw (.int .i64 r77) (dT h102) (Yl.move rfl) (gw (.bool (decide (¬ (r77 = 1)))) (dT h102) (Yl.bool (e := !(decide (r77 = 1))) yk decide_not.symm) (gw (.bool (decide (¬ (r77 = 1)))) (dT h102) (Yl.move rfl) ?_))
 by_cases h103 : r77 = 1
 refine gw (.slice A86 r78.length c87) (dF (not_not_intro h103)) (Yl.move rfl) (gw (.int .i64 ((r78.length : Nat) : Int)) (dF (not_not_intro h103)) yk (gw (.slice A88 r79.length c89) (dF (not_not_intro h103)) (Yl.move rfl) (gw (.int .i64 ((r79.length : Nat) : Int)) (dF (not_not_intro h103)) yk (gw (.int .i64 ((r78.length + r79.length : Nat) : Int)) (dF (not_not_intro h103)) (Yl.int (e := IntKind.i64.wrap (((r78.length : Nat) : Int) + ((r79.length : Nat) : Int))) yk (by rw [IntWalk.i64_in _ (by omega)]; omega)) (gw (.bool (decide (((r78.length + r79.length : Nat) : Int) > 0))) (dF (not_not_intro h103)) yk (gw (.bool (decide (((r78.length + r79.length : Nat) : Int) > 0))) (dT h102) (Yl.pickF rfl (dF (not_not_intro h103)) rfl) (fw (.bool (decide (((r78.length + r79.length : Nat) : Int) > 0))) (Yl.pickT rfl (dT h102) rfl) (Mz rfl ?_))))))))
 by_cases h104 : ((r78.length + r79.length : Nat) : Int) > 0
 refine Sz (dT h104) (Sz (dT h104) (Sz (dT h104) (WL.skipU rfl rfl rfl (WL.skipU rfl rfl rfl (WL.skipU rfl rfl rfl (WL.skipU rfl rfl rfl (WL.skipU rfl rfl rfl (Sz (dT h104) (fw (.bool true) (Yl.pickT rfl (dT h104) rfl) (nt (jt (Wp.seq ?_))))))))))))
 have H105 := H85.pk [2, 3, 4]
 refine Wp.region (An rfl (rt (bR (tR (tR (bR (tR (rs ?_))))))))
 have H106 := H105.pk []
 obtain rfl : _ = false := hr.symm.trans (et (bnd_of hr27) (et (iN h34) (lp_r (et (hq53) (et (congrArg (fun q => w16_LocksReads_L0 r26 q l43) hd62) (et (ip h70) (et (bnd_of hr82) (et (ip h102) (et (ip h103) (ip h104))))))))))
 exact ⟨rfl, H106⟩
 refine gw (.int .i64 r80) (dF h104) (Yl.move rfl) (gw (.bool (decide (¬ (r80 = 0)))) (dF h104) (Yl.bool (e := !(decide (r80 = 0))) yk decide_not.symm) (gw (.bool (decide (¬ (r80 = 0)))) (dF h104) (Yl.move rfl) ?_))
 have hb107 : (decide (¬ (r80 = 0))) = false := (dF (by omega))
 refine Sz hb107 (Sz hb107 (Sz hb107 (Sz hb107 (Sz hb107 (gw (.bool false) (dF h104) (Yl.pickF rfl hb107 rfl) (fw (.bool false) (Yl.pickF rfl (dF h104) rfl) (nt (jf (Wp.skip (bN (Fin.then ?_)))))))))))
 have H108 := H85.pk [2, 3, 4]
 refine Wp.region (fw (.int .i64 ((k40 + 1 : Nat) : Int)) (Yl.int (e := IntKind.i64.wrap (((k40 : Nat) : Int) + 1)) yk (by rw [IntWalk.i64_in _ (by omega)]; omega)) (Mz rfl (WL.nil ?_)))
 have H109 := H108.pk [0, 1, 2]
 exact Fin.round (k40 + 1, A90, c91, d92, r81.xrows.ls) ⟨rfl, rfl, rfl, rfl, rfl, rfl, trivial⟩ (dm52.2 ⟨H109, by exact hd93, by omega, by first | assumption | exact sound_nil, by first | omega | exact Sound.len (by assumption) | exact Nat.zero_le _, et (hq53) (et (congrArg (fun q => w16_LocksReads_L0 r26 q l43) hd62) (et (ip h70) (et (bnd_of hr82) (et (ip h102) (et (ip h103) (iN h104))))))⟩) (by show l0.length - (k40 + 1) < l0.length - k40; omega)
 refine Sz (dT h103) (Sz (dT h103) (Sz (dT h103) (Sz (dT h103) (Sz (dT h103) (Sz (dT h103) (gw (.bool true) (dT h102) (Yl.pickT rfl (dT h103) rfl) (fw (.bool true) (Yl.pickT rfl (dT h102) rfl) (Mz rfl (Sz rfl (Sz rfl (Sz rfl (WL.skipU rfl rfl rfl (WL.skipU rfl rfl rfl (WL.skipU rfl rfl rfl (WL.skipU rfl rfl rfl (WL.skipU rfl rfl rfl (Sz rfl (fw (.bool true) (Yl.pickT rfl rfl rfl) (nt (jt (Wp.seq ?_)))))))))))))))))))))
 have H110 := H85.pk [2, 3, 4]
 refine Wp.region (An rfl (rt (bR (tR (tR (bR (tR (rs ?_))))))))
 have H111 := H110.pk []
 obtain rfl : _ = false := hr.symm.trans (et (bnd_of hr27) (et (iN h34) (lp_r (et (hq53) (et (congrArg (fun q => w16_LocksReads_L0 r26 q l43) hd62) (et (ip h70) (et (bnd_of hr82) (et (ip h102) (iN h103)))))))))
 exact ⟨rfl, H111⟩
 refine Sz (dF h102) (Sz (dF h102) (Sz (dF h102) (WL.skipU rfl rfl rfl (WL.skipU rfl rfl rfl (WL.skipU rfl rfl rfl (WL.skipU rfl rfl rfl (WL.skipU rfl rfl rfl (WL.skipU rfl rfl rfl (Sz (dF h102) (fw (.bool false) (Yl.pickF rfl (dF h102) rfl) (Mz rfl (gw (.int .i64 r80) rfl (Yl.move rfl) (gw (.bool (decide (¬ (r80 = 0)))) rfl (Yl.bool (e := !(decide (r80 = 0))) yk decide_not.symm) (gw (.bool (decide (¬ (r80 = 0)))) rfl (Yl.move rfl) ?_))))))))))))))
 have hb112 : (decide (¬ (r80 = 0))) = true := (dT (by omega))
 refine Gz (.pointer (some ⟨g63, 2, none⟩)) hb112 (Gz (.pointer (some ⟨g63, 2, none⟩)) hb112 (Ga (RangeD.cells x60.xLock.xRange) hb112 H85 5 Try.isAgg32 Try.sizeOf32 ?_))
 obtain ⟨r118, hr119⟩ : ∃ q, span_Check x60.xLock.xRange = q := ⟨_, rfl⟩
 obtain ⟨D113, HP114, ro115, bk116, rr117⟩ := Own.enter0 H85
 refine WL.doG rfl rfl hb112 rfl (Do.call Try.call21 rfl (span_Check_ok _ _ x60.xLock.xRange r118 HP114 hr119) ?_)
 rintro _ w120 ⟨rfl, HQ121⟩
 have H122 := bk116 _ _ HQ121
 refine Gz (.bool (decide (r118 = 0))) hb112 (gw (.bool (decide (r118 = 0))) rfl (Yl.pickT rfl hb112 rfl) (fw (.bool (decide (r118 = 0))) (Yl.pickF rfl rfl rfl) (nt ?_)))
 by_cases h123 : r118 = 0
 refine jT (dT h123) (Wp.seq ?_)
 have H124 := H122.pk [2, 3, 4]
 refine Wp.region (An rfl (rt (bR (tR (tR (bR (tR (rs ?_))))))))
 have H125 := H124.pk []
 obtain rfl : _ = false := hr.symm.trans (et (bnd_of hr27) (et (iN h34) (lp_r (et (hq53) (et (congrArg (fun q => w16_LocksReads_L0 r26 q l43) hd62) (et (ip h70) (et (bnd_of hr82) (et (iN h102) (et (bnd_of hr119) (ip h123))))))))))
 exact ⟨rfl, H125⟩
 refine jF (dF h123) (Wp.skip (bN (Fin.then ?_)))
 have H126 := H122.pk [2, 3, 4]
 refine Wp.region (fw (.int .i64 ((k40 + 1 : Nat) : Int)) (Yl.int (e := IntKind.i64.wrap (((k40 : Nat) : Int) + 1)) yk (by rw [IntWalk.i64_in _ (by omega)]; omega)) (Mz rfl (WL.nil ?_)))
 have H127 := H126.pk [0, 1, 2]
 exact Fin.round (k40 + 1, A90, c91, d92, r81.xrows.ls) ⟨rfl, rfl, rfl, rfl, rfl, rfl, trivial⟩ (dm52.2 ⟨H127, by exact hd93, by omega, by first | assumption | exact sound_nil, by first | omega | exact Sound.len (by assumption) | exact Nat.zero_le _, et (hq53) (et (congrArg (fun q => w16_LocksReads_L0 r26 q l43) hd62) (et (ip h70) (et (bnd_of hr82) (et (iN h102) (et (bnd_of hr119) (iN h123))))))⟩) (by show l0.length - (k40 + 1) < l0.length - k40; omega)
 refine jT (dT h70) (sr (Mz rfl (Kz (.pointer (some ⟨g63, 1, none⟩)) (Lz (.int .u64 ((x60.xTxn : Nat) : Int)) H69 0 Try.isAgg30 ?_))))
 have H128 := H69.pk [1, 2, 3, 0]
 obtain ⟨⟨r134, r135, r136⟩, hr137⟩ : ∃ q : (List Nat) × (List Nat) × TableT, locks_Table_Release (TableT.mk (Ll.mk l43)) x60.xTxn = q := ⟨_, rfl⟩
 obtain ⟨D129, HP130, ro131, bk132, rr133⟩ := Own.enter3 H128
 refine cl Try.call13 (locks_Table_Release_ok _ _ g31 (TableT.mk (Ll.mk l43)) A41 c42 d44 x60.xTxn r134 r135 r136 HP130 hi54 (by first | omega | (dsimp only; omega) | exact Sound.len (by assumption) | exact Nat.zero_le _) (by first | assumption | exact Sound.hd (by assumption) | exact Sound.hd sound_nil) (by first | assumption | exact sound_nil) hr137) ?_
 rintro _ w138 ⟨A141, c142, A143, c144, A145, c146, d147, rfl, HQ139, hd148⟩
 have H140 := bk132 _ _ HQ139
 have hl149 := abs_len hd148
 have hb150 := H140.rowC (i := 0) rfl
 have hb151 := H140.rowC (i := 1) rfl
 have hb152 := H140.rowC (i := 3) rfl
 have hz153 := release_sound (m := l43) (by first | assumption | exact sound_nil) hr137
 replace hz153 : Sound r136.xrows.ls := hz153
 have hl154 : r136.xrows.ls.length ≤ 192 := hz153.len
 obtain ⟨hl155, hl156⟩ := release_lens (m := l43) (by first | assumption | exact sound_nil) hr137
 replace hl155 : r134.length ≤ 400 := hl155
 replace hl156 : r135.length ≤ 400 := hl156
 refine nt (Wp.exit (Fin.thenX (Fin.blockX (Fin.then ?_))))
 have H157 := H140.pk [2, 3, 4]
 refine Wp.region (fw (.int .i64 ((k40 + 1 : Nat) : Int)) (Yl.int (e := IntKind.i64.wrap (((k40 : Nat) : Int) + 1)) yk (by rw [IntWalk.i64_in _ (by omega)]; omega)) (Mz rfl (WL.nil ?_)))
 have H158 := H157.pk [0, 1, 2]
 exact Fin.round (k40 + 1, A145, c146, d147, r136.xrows.ls) ⟨rfl, rfl, rfl, rfl, rfl, rfl, trivial⟩ (dm52.2 ⟨H158, by exact hd148, by omega, by first | assumption | exact sound_nil, by first | omega | exact Sound.len (by assumption) | exact Nat.zero_le _, et (hq53) (et (congrArg (fun q => w16_LocksReads_L0 r26 q l43) hd62) (et (iN h70) (bnd_of hr137)))⟩) (by show l0.length - (k40 + 1) < l0.length - k40; omega)
 refine jF (dF h59) (Wp.exit (Fin.thenX ?_))
 have hL159 : w16_LocksReads_L0 r26 l0 ([]) = Sum.inl l43 := et (hq53) (et (congrArg (fun q => w16_LocksReads_L0 r26 q l43) (drop_end (ls := l0) (i := k40) (by omega))) rfl)
 refine Fin.thenX (Fin.blockX (Fin.then (sr (Mz rfl (Mz rfl ?_)))))
 rcases Bool.eq_false_or_eq_true (r26) with h160 | h160
 refine WL.valG (v := .pointer (some ⟨g31, 0, none⟩)) rfl rfl h160 rfl (Yl.move rfl) ?_
 have hb166 := H48.rowC (i := 1) rfl
 obtain ⟨r167, hr168⟩ : ∃ q, locks_Table_Waiting (TableT.mk (Ll.mk l43)) = q := ⟨_, rfl⟩
 obtain ⟨D161, HP162, ro163, bk164, rr165⟩ := Own.enter1 H48
 refine WL.doG rfl rfl h160 rfl (Do.call Try.call18 rfl (locks_Table_Waiting_ok _ _ g31 (TableT.mk (Ll.mk l43)) A41 c42 d44 r167 HP162 hi54 (rr165 _ 0 _ rfl row_rds) (show l43.length ≤ c42 ∧ l43.length ≤ 9223372036854775807 from by omega) (fun x9 h9 => ⟨rr165 _ 1 _ rfl (sepL_mem (List.mem_flatMap.2 ⟨x9, h9, .head _⟩) row_rds), own_rd (φ := fun _ => _) H48 (i := 2) rfl (sepL_mem (List.mem_flatMap.2 ⟨x9, h9, .head _⟩) row_le2)⟩) (by first | omega | (dsimp only; omega)) hr168) ?_)
 rintro _ w169 ⟨A172, c173, rfl, HQ170⟩
 have H171 := bk164 _ _ HQ170
 have hb174 := H171.rowC (i := 0) rfl
 refine Gz (.int .i64 ((r167.length : Nat) : Int)) h160 (Gz (.bool (decide (((r167.length : Nat) : Int) = 0))) h160 (fw (.bool (decide (((r167.length : Nat) : Int) = 0))) (Yl.pickT rfl h160 rfl) (An rfl (rt (rs ?_)))))
 have H175 := H171.pk []
 obtain rfl : _ = decide (((r167.length : Nat) : Int) = 0) := hr.symm.trans (et (bnd_of hr27) (et (iN h34) (et (lp_l hL159) (et (ip h160) (bnd_of hr168)))))
 exact ⟨rfl, H175⟩
 refine Sz h160 (Sz h160 (Sz h160 (Sz h160 (fw (.bool false) (Yl.pickF rfl h160 rfl) (An rfl (rt (rs ?_)))))))
 have H176 := H48.pk []
 obtain rfl : _ = false := hr.symm.trans (et (bnd_of hr27) (et (iN h34) (et (lp_l hL159) (ifF h160))))
 exact ⟨rfl, H176⟩
end Go.Proofs.Ytggnajpokhaaiaa
