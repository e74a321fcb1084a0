/-
 locks: the law LocksElder
-/
import Derived.Test.YtggnajpokhaaiaaLf
namespace Go.Proofs.Ytggnajpokhaaiaa
open Go.RowKit
set_option linter.unusedVariables false
set_option linter.unusedSectionVars false
set_option linter.unusedSimpArgs false

theorem El22 : Elem Try.prog 22 36 6 64 := elem_of (z := .agg #[.int .i64 0, .int .u64 0, .string ⟨List.toArray ([])⟩, .string ⟨List.toArray ([])⟩, .bool false, .bool false]) Try.underlying22 (by kernel_rfl) rfl (by decide)

structure OpD where
 xDo : Int
 xTxn : Nat
 xLock : LockD
 xClone : Bool

def OpD.cells (x : OpD) : List Value := [.int .i64 x.xDo, .int .u64 ((x.xTxn : Nat) : Int), .string ⟨List.toArray x.xLock.xRange.xLo⟩, .string ⟨List.toArray x.xLock.xRange.xHi⟩, .bool x.xLock.xWrite, .bool x.xClone]

instance : Bk OpD := ⟨fun x _ => bk x.xDo + (bk x.xTxn + (bk x.xLock + (bk x.xClone + (0))))⟩

theorem OpD.len : ∀ x, (OpD.cells x).length = 6 := fun _ => rfl

theorem OpD.one : ∀ x, ∀ u ∈ OpD.cells x, u.oneCell' = true := fun x u hu => by
 simp only [OpD.cells, List.mem_cons, List.not_mem_nil, or_false] at hu
 rcases hu with rfl | rfl | rfl | rfl | rfl | rfl <;> rfl

def OpD.Ok (w : World) (x : OpD) : Prop := ((-9223372036854775808) ≤ x.xDo ∧ x.xDo ≤ 9223372036854775807) ∧ (x.xTxn ≤ 18446744073709551615) ∧ (LockD.Ok w x.xLock) ∧ (True)

set_option maxRecDepth 100000 in
theorem opens_OpD (w : World) : Opens Try.prog w 36 6 OpD.cells (OpD.Ok w) :=
 (opens_struct (sz := 6) Try.underlying36 (by kernel_rfl) (OpensF.cons (i := 0) (off := 0) (s := 1) rfl rfl (opens_int (k := .i64) (lo := -9223372036854775808) (hi := 9223372036854775807) Try.underlying3 (by kernel_rfl) (by decide) (by decide)) (OpensF.cons (i := 1) (off := 1) (s := 1) rfl rfl (opens_nat (k := .u64) (hi := 18446744073709551615) Try.underlying30 (by kernel_rfl) (by decide) (by decide)) (OpensF.cons (i := 2) (off := 2) (s := 3) rfl rfl (opens_LockD w) (OpensF.cons (i := 3) (off := 5) (s := 1) rfl rfl (opens_bool Try.underlying4 (by kernel_rfl)) OpensF.nil))))).map (fun p => ⟨p.1, p.2.1, p.2.2.1, p.2.2.2.1⟩) OpD.len (fun _ => rfl) (fun _ h => ⟨h.1, h.2.1, h.2.2.1, h.2.2.2.1⟩) fun _ => Nat.le_refl _

instance : Inhabited OpD := ⟨⟨default, default, default, default⟩⟩

def w16_LocksElder_L0 (p1 : LockD) (r29 : Bool) : List OpD → List rowT → (List rowT)
  | [], l57 => l57
  | x74 :: q59, l57 => if ((x74.xTxn : Nat) : Int) = 0 then w16_LocksElder_L0 p1 r29 q59 l57 else if x74.xDo = 0 then bnd (locks_Table_Ask (TableT.mk (Ll.mk l57)) x74.xTxn x74.xLock) fun yr92 => w16_LocksElder_L0 p1 r29 q59 yr92.2.2.2.2.xrows.ls else bnd (locks_Table_Release (TableT.mk (Ll.mk l57)) x74.xTxn) fun yr125 => w16_LocksElder_L0 p1 r29 q59 yr125.2.2.xrows.ls

def w16_LocksElder_L1 (r29 : Bool) (r161 : TableT) : List Nat → Unit ⊕ Bool
  | [] => Sum.inl ()
  | x197 :: q186 => if ((x197 : Nat) : Int) = 0 then Sum.inr (false) else w16_LocksElder_L1 r29 r161 q186

def w16_LocksElder_L3 (r260 : TableT) : List Nat → Unit ⊕ Bool
  | [] => Sum.inl ()
  | x294 :: q283 => if ((x294 : Nat) : Int) = 0 then Sum.inr (false) else w16_LocksElder_L3 r260 q283

def w16_LocksElder_L2 (r29 : Bool) : List Nat → List rowT → (List rowT) ⊕ Bool
  | [], l223 => Sum.inl l223
  | x240 :: q225, l223 => lpS (if ((x240 : Nat) : Int) = 0 then Sum.inl l223 else bnd (locks_Table_Release (TableT.mk (Ll.mk l223)) x240) fun yr258 => lpS (w16_LocksElder_L3 yr258.2.2 yr258.2.1) fun _ => Sum.inl yr258.2.2.xrows.ls) fun sJrbfbtLabttLabLsJ => w16_LocksElder_L2 r29 q225 sJrbfbtLabttLabLsJ

def w16_LocksElder_L4 (r29 : Bool) (r161 : TableT) : List Nat → Unit ⊕ Bool
  | [] => Sum.inl ()
  | x343 :: q332 => if ((x343 : Nat) : Int) = 0 then Sum.inr (false) else w16_LocksElder_L4 r29 r161 q332

def w16_LocksElder_L6 (r406 : TableT) : List Nat → Unit ⊕ Bool
  | [] => Sum.inl ()
  | x440 :: q429 => if ((x440 : Nat) : Int) = 0 then Sum.inr (false) else w16_LocksElder_L6 r406 q429

def w16_LocksElder_L5 (r29 : Bool) : List Nat → List rowT → (List rowT) ⊕ Bool
  | [], l369 => Sum.inl l369
  | x386 :: q371, l369 => lpS (if ((x386 : Nat) : Int) = 0 then Sum.inl l369 else bnd (locks_Table_Release (TableT.mk (Ll.mk l369)) x386) fun yr404 => lpS (w16_LocksElder_L6 yr404.2.2 yr404.2.1) fun _ => Sum.inl yr404.2.2.xrows.ls) fun sJrbfbtLabtftLabLsJ => w16_LocksElder_L5 r29 q371 sJrbfbtLabtftLabLsJ

def w16_LocksElder (l0 : List OpD) (p1 : LockD) : Bool :=
 bnd (w16_live) fun yr29 => if ((l0.length : Nat) : Int) > 60 then if yr29 = true then true else false else bnd (span_Check p1.xRange) fun yr46 => if yr46 = 0 then bnd (w16_LocksElder_L0 p1 yr29 l0 ([])) fun sLrbfbtL => bnd (locks_Table_Ask (TableT.mk (Ll.mk sLrbfbtL)) 0 p1) fun yr157 => if yr157.2.2.2.1 = 0 then if yr157.1 = 1 then lp (w16_LocksElder_L1 yr29 yr157.2.2.2.2 yr157.2.2.1) fun _ => bnd (locks_Table_Txns yr157.2.2.2.2) fun yr211 => lp (w16_LocksElder_L2 yr29 yr211 yr157.2.2.2.2.xrows.ls) fun sLrbfbtLabttLabL => if yr29 = true then bnd (locks_Table_Holds (TableT.mk (Ll.mk sLrbfbtLabttLabL)) 0) fun yr320 => decide (((yr320.length : Nat) : Int) = 1) else false else if yr157.1 = 2 then lp (w16_LocksElder_L4 yr29 yr157.2.2.2.2 yr157.2.2.1) fun _ => bnd (locks_Table_Txns yr157.2.2.2.2) fun yr357 => lp (w16_LocksElder_L5 yr29 yr357 yr157.2.2.2.2.xrows.ls) fun sLrbfbtLabtftLabL => if yr29 = true then bnd (locks_Table_Holds (TableT.mk (Ll.mk sLrbfbtLabtftLabL)) 0) fun yr466 => decide (((yr466.length : Nat) : Int) = 1) else false else false else false else if yr29 = true then true else false

set_option maxRecDepth 100000 in
set_option maxHeartbeats 2000000 in
theorem w16_LocksElder_ok (w : World) (D : Nat → Prop) (A0 : Option Addr) (n0 c0 : Nat) (l0 : List OpD) (p1 : LockD) (r0 : Bool) (H : Own w D w []) (hx0 : Ro w D fun w' => Rds w' 6 A0 n0 (List.flatMap OpD.cells l0)) (hn0 : n0 = l0.length) (hl0 : l0.length * 64 ≤ 211106232532992) (hh0 : l0.length * 64 ≤ 140737488351232) (hr : w16_LocksElder l0 p1 = r0) :
    Calls Try.prog 6 #[.slice A0 n0 c0, .agg (LockD.cells p1).toArray] w (Ret fun v w' => v = .bool r0 ∧ Own w D w' []) := by
 subst hn0
 refine Calls.body (args := [.slice A0 l0.length c0, .agg (LockD.cells p1).toArray]) Try.func6 rfl rfl rfl ?_
 show Wp _ _ _ [(0, .slice A0 l0.length c0), (1, .agg (LockD.cells p1).toArray)] _ _
 refine sr ?_
 refine npw (LockD.cells p1) 34 H ?_
 intro g21 w22 H23
 refine Ar rfl ?_
 obtain ⟨r29, hr30⟩ : ∃ q, w16_live = q := ⟨_, rfl⟩
 obtain ⟨D24, HP25, ro26, bk27, rr28⟩ := Own.enter0 H23
 refine cl Try.call8 (w16_live_ok _ _ r29 HP25 hr30) ?_
 rintro _ w31 ⟨rfl, HQ32⟩
 have H33 := bk27 _ _ HQ32
 refine Ar rfl ?_
 refine WL.do rfl (Do.call Try.call9 rfl ?_ (fun _ _ k => k))
 refine Calls.body (args := []) Try.func9 rfl rfl rfl ?_
 show Wp _ _ _ [] _ _
 refine sr (Ar rfl (Kz (.agg #[.slice none 0 0]) ?_))
 refine npw [.slice none 0 0] 59 H33 ?_
 intro g34 w35 H36
 refine An rfl (rt (rs (An rfl (Wp.seq (sr (Mz rfl (Kz (.bool false) (Mz rfl (gw (.slice A0 l0.length c0) rfl (Yl.move rfl) (Gz (.int .i64 ((l0.length : Nat) : Int)) rfl (Gz (.bool (decide (((l0.length : Nat) : Int) > 60))) rfl (fw (.bool (decide (((l0.length : Nat) : Int) > 60))) (Yl.pickF rfl rfl rfl) (Mz rfl ?_)))))))))))))
 by_cases h37 : ((l0.length : Nat) : Int) > 60
 refine Sz (dT h37) (Sz (dT h37) (Sz (dT h37) (Sz (dT h37) (fw (.bool true) (Yl.pickT rfl (dT h37) rfl) (nt (jt (sr (Mz rfl (Mz rfl ?_)))))))))
 rcases Bool.eq_false_or_eq_true (r29) with h38 | h38
 refine WL.valG (v := .pointer (some ⟨g34, 0, none⟩)) rfl rfl h38 rfl (Yl.move rfl) (Gz (.bool true) h38 (fw (.bool true) (Yl.pickT rfl h38 rfl) (An rfl (rt (tR (rs ?_))))))
 have H39 := H36.pk []
 obtain rfl : _ = true := hr.symm.trans (et (bnd_of hr30) (et (ip h37) (ip h38)))
 exact ⟨rfl, H39⟩
 refine Sz h38 (Sz h38 (fw (.bool false) (Yl.pickF rfl h38 rfl) (An rfl (rt (tR (rs ?_))))))
 have H40 := H36.pk []
 obtain rfl : _ = false := hr.symm.trans (et (bnd_of hr30) (et (ip h37) (ifF h38)))
 exact ⟨rfl, H40⟩
 refine Gz (.pointer (some ⟨g21, 0, none⟩)) (dF h37) (Ga (RangeD.cells p1.xRange) (dF h37) H36 1 Try.isAgg32 Try.sizeOf32 ?_)
 obtain ⟨r46, hr47⟩ : ∃ q, span_Check p1.xRange = q := ⟨_, rfl⟩
 obtain ⟨D41, HP42, ro43, bk44, rr45⟩ := Own.enter0 H36
 refine clG (dF h37) Try.call21 (span_Check_ok _ _ p1.xRange r46 HP42 hr47) ?_
 rintro _ w48 ⟨rfl, HQ49⟩
 have H50 := bk44 _ _ HQ49
 refine gw (.bool (decide (¬ (r46 = 0)))) (dF h37) (Yl.bool (e := !(decide (r46 = 0))) yk decide_not.symm) (fw (.bool (decide (¬ (r46 = 0)))) (Yl.pickF rfl (dF h37) rfl) (nt ?_))
 by_cases h51 : r46 = 0
 refine jF (dF (not_not_intro h51)) (sk (Wp.seq (sr (Mz rfl (Kz (.int .i64 ((l0.length : Nat) : Int)) (Mn rfl (bo ?_)))))))
 have H52 : Own w D w48 [sepL (List.flatMap rowD.own ([])), blk g34 [.slice none 0 0] 59, blk g21 (LockD.cells p1) 34] := H50.sepNil
 have H53 : Own w D w48 [row none 0 0 (List.flatMap rowD.cells ([])) 72 6, sepL (List.flatMap rowD.own ([])), blk g34 [.slice none 0 0] 59, blk g21 (LockD.cells p1) 34] := H52.free (row_nil 72 6)
 have H60 := H53.pk [2, 3, 0, 1]
 obtain ⟨I64, hI65⟩ : ∃ q : (Nat × (Option Addr) × Nat × (List rowD) × (List rowT)) → World → Prop, q = fun (i : Nat × (Option Addr) × Nat × (List rowD) × (List rowT)) w' => Own w D w' [blk g34 [.slice i.2.1 i.2.2.2.2.length i.2.2.1] 59, blk g21 (LockD.cells p1) 34, row i.2.1 i.2.2.2.2.length i.2.2.1 (List.flatMap rowD.cells i.2.2.2.1) 72 6, sepL (List.flatMap rowD.own i.2.2.2.1)] ∧ (List.map rowD.abs i.2.2.2.1 = i.2.2.2.2 ∧ i.1 ≤ l0.length ∧ Sound i.2.2.2.2 ∧ i.2.2.2.2.length ≤ 192 ∧ w16_LocksElder_L0 p1 r29 l0 ([]) = w16_LocksElder_L0 p1 r29 (List.drop i.1 l0) i.2.2.2.2) := ⟨_, rfl⟩
 have dm66 : ∀ {k54 : Nat} {A55 : Option Addr} {c56 : Nat} {d58 : List rowD} {l57 : List rowT} {w' : World}, I64 (k54, A55, c56, d58, l57) w' ↔ Own w D w' [blk g34 [.slice A55 l57.length c56] 59, blk g21 (LockD.cells p1) 34, row A55 l57.length c56 (List.flatMap rowD.cells d58) 72 6, sepL (List.flatMap rowD.own d58)] ∧ List.map rowD.abs d58 = l57 ∧ k54 ≤ l0.length ∧ Sound l57 ∧ l57.length ≤ 192 ∧ w16_LocksElder_L0 p1 r29 l0 ([]) = w16_LocksElder_L0 p1 r29 (List.drop k54 l0) l57 := by intros; subst hI65; exact Iff.rfl
 refine Wp.loop (fun i : Nat × (Option Addr) × Nat × (List rowD) × (List rowT) => [(43, .int .i64 ((i.1 : Nat) : Int)), (42, .int .i64 ((l0.length : Nat) : Int)), (41, .slice A0 l0.length c0), (6, .pointer (some ⟨g34, 0, none⟩)), (5, .bool r29), (4, .bool false), (3, .pointer (some ⟨g21, 0, none⟩))]) I64 (fun i => l0.length - i.1) (0, none, 0, [], []) ⟨rfl, rfl, rfl, rfl, rfl, rfl, rfl, trivial⟩ (dm66.2 ⟨H60, (show List.map rowD.abs ([]) = ([]) ∧ 0 ≤ l0.length ∧ Sound ([]) ∧ 0 ≤ 192 ∧ w16_LocksElder_L0 p1 r29 l0 ([]) = w16_LocksElder_L0 p1 r29 (List.drop 0 l0) ([]) from ⟨by exact rfl, by omega, by first | assumption | exact sound_nil, by first | omega | exact Sound.len (by assumption) | exact Nat.zero_le _, rfl⟩)⟩) ?_
 rintro ⟨k54, A55, c56, d58, l57⟩ w61 hf63
 show Wp _ _ _ [(43, .int .i64 ((k54 : Nat) : Int)), (42, .int .i64 ((l0.length : Nat) : Int)), (41, .slice A0 l0.length c0), (6, .pointer (some ⟨g34, 0, none⟩)), (5, .bool r29), (4, .bool false), (3, .pointer (some ⟨g21, 0, none⟩))] _ _
 obtain ⟨H62, hi68, hi69, hi70, hi71, hq67⟩ := dm66.1 hf63
 have hl72 := abs_len hi68
 refine sr (Kz (.bool (decide (((k54 : Nat) : Int) < ((l0.length : Nat) : Int)))) (nt (Wp.seq ?_)))
 by_cases h73 : ((k54 : Nat) : Int) < ((l0.length : Nat) : Int)
 obtain ⟨x74, hx75⟩ := rds_at (ls := l0) (i := k54) OpD.len (by decide) (H62.ro hx0) (by first | omega | (simp; done) | (simp; omega))
 have hd76 := drop_at hx75
 refine jT (dT h73) (sk (Wp.seq (bo (sr (fw (.pointer (some ⟨ab A0, ao A0 + k54 * 6, none⟩)) (Yl.indexAddr (El22) rfl rfl ((H62.ro hx0).addr (i := k54) (by omega)) (by omega)) (fw (.agg (OpD.cells x74).toArray) (Yl.load rfl (Lds.agg (cs := (OpD.cells x74)) Try.isAgg36 Try.sizeOf36 ((H62.ro hx0).elem OpD.len hx75 (by decide)))) ?_))))))
 refine npw [.int .i64 0, .int .u64 0, .string ⟨List.toArray ([])⟩, .string ⟨List.toArray ([])⟩, .bool false, .bool false] 36 H62 ?_
 intro g77 w78 H79
 refine sto (OpD.cells x74) 0 H79 Try.sizeOf36 ?_
 intro w80 H81
 refine nt (Wp.seq (sr (Kz (.pointer (some ⟨g77, 1, none⟩)) (Lz (.int .u64 ((x74.xTxn : Nat) : Int)) H81 0 Try.isAgg30 (Kz (.bool (decide (((x74.xTxn : Nat) : Int) = 0))) (nt ?_))))))
 by_cases h82 : ((x74.xTxn : Nat) : Int) = 0
 refine jT (dT h82) (Wp.exit (Fin.thenX (Fin.blockX (Fin.then ?_))))
 have H83 := H81.pk [1, 2, 3, 4]
 refine Wp.region (fw (.int .i64 ((k54 + 1 : Nat) : Int)) (Yl.int (e := IntKind.i64.wrap (((k54 : Nat) : Int) + 1)) yk (by rw [IntWalk.i64_in _ (by omega)]; omega)) (Mz rfl (WL.nil ?_)))
 have H84 := H83.pk [0, 1, 2, 3]
 exact Fin.round (k54 + 1, A55, c56, d58, l57) ⟨rfl, rfl, rfl, rfl, rfl, rfl, rfl, trivial⟩ (dm66.2 ⟨H84, by exact hi68, by omega, by first | assumption | exact sound_nil, by first | omega | exact Sound.len (by assumption) | exact Nat.zero_le _, et (hq67) (et (congrArg (fun q => w16_LocksElder_L0 p1 r29 q l57) hd76) (ip h82))⟩) (by show l0.length - (k54 + 1) < l0.length - k54; omega)
 refine jF (dF h82) (sk (sr (Kz (.pointer (some ⟨g77, 0, none⟩)) (Lz (.int .i64 x74.xDo) H81 0 Try.isAgg3 (Kz (.bool (decide (x74.xDo = 0))) (nt ?_))))))
 by_cases h85 : x74.xDo = 0
 refine jT (dT h85) (Wp.region (Mz rfl (Kz (.pointer (some ⟨g77, 1, none⟩)) (Lz (.int .u64 ((x74.xTxn : Nat) : Int)) H81 0 Try.isAgg30 (Kz (.pointer (some ⟨g77, 2, none⟩)) (La (LockD.cells x74.xLock) H81 0 Try.isAgg34 Try.sizeOf34 ?_))))))
 have H86 := H81.pk [1, 3, 4, 0, 2]
 obtain ⟨⟨r92, r93, r94, r95, r96⟩, hr97⟩ : ∃ q : Int × (List Nat) × (List Nat) × Int × TableT, locks_Table_Ask (TableT.mk (Ll.mk l57)) x74.xTxn x74.xLock = q := ⟨_, rfl⟩
 obtain ⟨D87, HP88, ro89, bk90, rr91⟩ := Own.enter3 H86
 refine cl Try.call10 (locks_Table_Ask_ok _ _ g34 (TableT.mk (Ll.mk l57)) A55 c56 d58 x74.xTxn x74.xLock r92 r93 r94 r95 r96 HP88 hi68 (by first | omega | (dsimp only; omega) | exact Sound.len (by assumption) | exact Nat.zero_le _) (by first | assumption | exact Sound.hd (by assumption) | exact Sound.hd sound_nil) (by first | assumption | exact sound_nil) hr97) ?_
 rintro _ w98 ⟨A101, c102, A103, c104, A105, c106, d107, rfl, HQ99, hd108⟩
 have H100 := bk90 _ _ HQ99
 have hl109 := abs_len hd108
 have hb110 := H100.rowC (i := 0) rfl
 have hb111 := H100.rowC (i := 1) rfl
 have hb112 := H100.rowC (i := 3) rfl
 have hz113 := ask_sound (m := l57) (by first | assumption | exact sound_nil) hr97
 replace hz113 : Sound r96.xrows.ls := hz113
 have hl114 : r96.xrows.ls.length ≤ 192 := hz113.len
 obtain ⟨hl115, hl116⟩ := ask_lens (m := l57) (by first | assumption | exact sound_nil) hr97
 replace hl115 : r93.length ≤ 400 := hl115
 replace hl116 : r94.length ≤ 400 := hl116
 refine WL.nil (bN (Fin.then ?_))
 have H117 := H100.pk [2, 3, 4, 6]
 refine Wp.region (fw (.int .i64 ((k54 + 1 : Nat) : Int)) (Yl.int (e := IntKind.i64.wrap (((k54 : Nat) : Int) + 1)) yk (by rw [IntWalk.i64_in _ (by omega)]; omega)) (Mz rfl (WL.nil ?_)))
 have H118 := H117.pk [0, 3, 1, 2]
 exact Fin.round (k54 + 1, A105, c106, d107, r96.xrows.ls) ⟨rfl, rfl, rfl, rfl, rfl, rfl, rfl, trivial⟩ (dm66.2 ⟨H118, by exact hd108, by omega, by first | assumption | exact sound_nil, by first | omega | exact Sound.len (by assumption) | exact Nat.zero_le _, et (hq67) (et (congrArg (fun q => w16_LocksElder_L0 p1 r29 q l57) hd76) (et (iN h82) (et (ip h85) (bnd_of hr97))))⟩) (by show l0.length - (k54 + 1) < l0.length - k54; omega)
 refine jF (dF h85) (Wp.region (Mz rfl (Kz (.pointer (some ⟨g77, 1, none⟩)) (Lz (.int .u64 ((x74.xTxn : Nat) : Int)) H81 0 Try.isAgg30 ?_))))
 have H119 := H81.pk [1, 3, 4, 0, 2]
 obtain ⟨⟨r125, r126, r127⟩, hr128⟩ : ∃ q : (List Nat) × (List Nat) × TableT, locks_Table_Release (TableT.mk (Ll.mk l57)) x74.xTxn = q := ⟨_, rfl⟩
 obtain ⟨D120, HP121, ro122, bk123, rr124⟩ := Own.enter3 H119
 refine cl Try.call13 (locks_Table_Release_ok _ _ g34 (TableT.mk (Ll.mk l57)) A55 c56 d58 x74.xTxn r125 r126 r127 HP121 hi68 (by first | omega | (dsimp only; omega) | exact Sound.len (by assumption) | exact Nat.zero_le _) (by first | assumption | exact Sound.hd (by assumption) | exact Sound.hd sound_nil) (by first | assumption | exact sound_nil) hr128) ?_
 rintro _ w129 ⟨A132, c133, A134, c135, A136, c137, d138, rfl, HQ130, hd139⟩
 have H131 := bk123 _ _ HQ130
 have hl140 := abs_len hd139
 have hb141 := H131.rowC (i := 0) rfl
 have hb142 := H131.rowC (i := 1) rfl
 have hb143 := H131.rowC (i := 3) rfl
 have hz144 := release_sound (m := l57) (by first | assumption | exact sound_nil) hr128
 replace hz144 : Sound r127.xrows.ls := hz144
 have hl145 : r127.xrows.ls.length ≤ 192 := hz144.len
 obtain ⟨hl146, hl147⟩ := release_lens (m := l57) (by first | assumption | exact sound_nil) hr128
 replace hl146 : r125.length ≤ 400 := hl146
 replace hl147 : r126.length ≤ 400 := hl147
 refine WL.nil (bN (Fin.then ?_))
 have H148 := H131.pk [2, 3, 4, 6]
 refine Wp.region (fw (.int .i64 ((k54 + 1 : Nat) : Int)) (Yl.int (e := IntKind.i64.wrap (((k54 : Nat) : Int) + 1)) yk (by rw [IntWalk.i64_in _ (by omega)]; omega)) (Mz rfl (WL.nil ?_)))
 have H149 := H148.pk [0, 3, 1, 2]
 exact Fin.round (k54 + 1, A136, c137, d138, r127.xrows.ls) ⟨rfl, rfl, rfl, rfl, rfl, rfl, rfl, trivial⟩ (dm66.2 ⟨H149, by exact hd139, by omega, by first | assumption | exact sound_nil, by first | omega | exact Sound.len (by assumption) | exact Nat.zero_le _, et (hq67) (et (congrArg (fun q => w16_LocksElder_L0 p1 r29 q l57) hd76) (et (iN h82) (et (iN h85) (bnd_of hr128))))⟩) (by show l0.length - (k54 + 1) < l0.length - k54; omega)
 refine jF (dF h73) (Wp.exit (Fin.thenX ?_))
 have hL150 : w16_LocksElder_L0 p1 r29 l0 ([]) = l57 := et (hq67) (et (congrArg (fun q => w16_LocksElder_L0 p1 r29 q l57) (drop_end (ls := l0) (i := k54) (by omega))) rfl)
 refine Fin.thenX (Fin.blockX (Fin.then (sr (Mz rfl (La (LockD.cells p1) H62 1 Try.isAgg34 Try.sizeOf34 ?_)))))
 have H151 := H62.pk [0, 2, 3, 1]
 obtain ⟨⟨r157, r158, r159, r160, r161⟩, hr162⟩ : ∃ q : Int × (List Nat) × (List Nat) × Int × TableT, locks_Table_Ask (TableT.mk (Ll.mk l57)) 0 p1 = q := ⟨_, rfl⟩
 obtain ⟨D152, HP153, ro154, bk155, rr156⟩ := Own.enter3 H151
 refine cl Try.call10 (locks_Table_Ask_ok _ _ g34 (TableT.mk (Ll.mk l57)) A55 c56 d58 0 p1 r157 r158 r159 r160 r161 HP153 hi68 (by first | omega | (dsimp only; omega) | exact Sound.len (by assumption) | exact Nat.zero_le _) (by first | assumption | exact Sound.hd (by assumption) | exact Sound.hd sound_nil) (by first | assumption | exact sound_nil) hr162) ?_
 rintro _ w163 ⟨A166, c167, A168, c169, A170, c171, d172, rfl, HQ164, hd173⟩
 have H165 := bk155 _ _ HQ164
 have hl174 := abs_len hd173
 have hb175 := H165.rowC (i := 0) rfl
 have hb176 := H165.rowC (i := 1) rfl
 have hb177 := H165.rowC (i := 3) rfl
 have hz178 := ask_sound (m := l57) (by first | assumption | exact sound_nil) hr162
 replace hz178 : Sound r161.xrows.ls := hz178
 have hl179 : r161.xrows.ls.length ≤ 192 := hz178.len
 obtain ⟨hl180, hl181⟩ := ask_lens (m := l57) (by first | assumption | exact sound_nil) hr162
 replace hl180 : r158.length ≤ 400 := hl180
 replace hl181 : r159.length ≤ 400 := hl181
 refine Mz rfl (Kz (.int .i64 r157) (Kz (.slice A166 r158.length c167) (Kz (.slice A168 r159.length c169) (Kz (.int .i64 r160) (Az rfl (Az rfl (Az rfl (An rfl (Wp.seq (Wp.seq ?_))))))))))
 have H182 := H165.pk [1, 2, 3, 4]
 refine Wp.region (Mz rfl (fw (.bool (decide (¬ (r160 = 0)))) (Yl.bool (e := !(decide (r160 = 0))) yk decide_not.symm) (Mz rfl ?_)))
 by_cases h183 : r160 = 0
 refine gw (.int .i64 r157) (dF (not_not_intro h183)) (Yl.move rfl) (gw (.bool (decide (¬ (r157 = 1)))) (dF (not_not_intro h183)) (Yl.bool (e := !(decide (r157 = 1))) yk decide_not.symm) (gw (.bool (decide (¬ (r157 = 1)))) (dF (not_not_intro h183)) (Yl.move rfl) ?_))
 by_cases h184 : r157 = 1
 refine Sk rfl rfl (dF (not_not_intro h184)) rfl (Sk rfl rfl (dF (not_not_intro h184)) rfl (gw (.bool false) (dF (not_not_intro h183)) (Yl.pickF rfl (dF (not_not_intro h184)) rfl) (fw (.bool false) (Yl.pickF rfl (dF (not_not_intro h183)) rfl) (nt (jf (sk (Wp.seq (sr (Mz rfl (Kz (.int .i64 ((r159.length : Nat) : Int)) (Mn rfl (bo ?_))))))))))))
 have H187 := H182.pk [0, 1, 2, 3]
 obtain ⟨I191, hI192⟩ : ∃ q : Nat → World → Prop, q = fun (i : Nat) w' => Own w D w' [row A168 r159.length c169 (List.flatMap (eN .u64) r159) 30 1, blk g34 [.slice A170 r161.xrows.ls.length c171] 59, row A170 r161.xrows.ls.length c171 (List.flatMap rowD.cells d172) 72 6, sepL (List.flatMap rowD.own d172)] ∧ (i ≤ r159.length ∧ w16_LocksElder_L1 r29 r161 r159 = w16_LocksElder_L1 r29 r161 (List.drop i r159)) := ⟨_, rfl⟩
 have dm193 : ∀ {k185 : Nat} {w' : World}, I191 k185 w' ↔ Own w D w' [row A168 r159.length c169 (List.flatMap (eN .u64) r159) 30 1, blk g34 [.slice A170 r161.xrows.ls.length c171] 59, row A170 r161.xrows.ls.length c171 (List.flatMap rowD.cells d172) 72 6, sepL (List.flatMap rowD.own d172)] ∧ k185 ≤ r159.length ∧ w16_LocksElder_L1 r29 r161 r159 = w16_LocksElder_L1 r29 r161 (List.drop k185 r159) := by intros; subst hI192; exact Iff.rfl
 refine Wp.loop (fun i : Nat => [(4, .bool false), (84, .int .i64 ((i : Nat) : Int)), (83, .int .i64 ((r159.length : Nat) : Int)), (82, .slice A168 r159.length c169), (6, .pointer (some ⟨g34, 0, none⟩)), (5, .bool r29)]) I191 (fun i => r159.length - i) 0 ⟨rfl, rfl, rfl, rfl, rfl, rfl, trivial⟩ (dm193.2 ⟨H187, by omega, rfl⟩) ?_
 rintro k185 w188 hf190
 show Wp _ _ _ [(4, .bool false), (84, .int .i64 ((k185 : Nat) : Int)), (83, .int .i64 ((r159.length : Nat) : Int)), (82, .slice A168 r159.length c169), (6, .pointer (some ⟨g34, 0, none⟩)), (5, .bool r29)] _ _
 obtain ⟨H189, hi195, hq194⟩ := dm193.1 hf190
 refine sr (Kz (.bool (decide (((k185 : Nat) : Int) < ((r159.length : Nat) : Int)))) (nt (Wp.seq ?_)))
 by_cases h196 : ((k185 : Nat) : Int) < ((r159.length : Nat) : Int)
 obtain ⟨x197, hx198⟩ := rds_at (ls := r159) (i := k185) eN_len (by decide) (H189.rds (i := 0) rfl) (by first | omega | (simp; done) | (simp; omega))
 have hd199 := drop_at hx198
 refine jT (dT h196) (sk (Wp.seq (bo (sr (fw (.pointer (some ⟨ab A168, ao A168 + k185 * 1, none⟩)) (Yl.indexAddr (El37) rfl rfl ((H189.rds (i := 0) rfl).addr (i := k185) (by omega)) (by omega)) (fw (.int .u64 ((x197 : Nat) : Int)) (Yl.load rfl (Lds.one Try.isAgg30 (((H189.rds (i := 0) rfl).elem eN_len hx198 (by decide)).at_ (k := 0) rfl))) (Ar rfl (Mz rfl (Kz (.bool (decide (((x197 : Nat) : Int) = 0))) (nt ?_))))))))))
 by_cases h200 : ((x197 : Nat) : Int) = 0
 refine jT (dT h200) (sr (An rfl (rt (bR (tR (tR (bR (tR (rs ?_)))))))))
 have H201 := H189.pk []
 obtain rfl : _ = false := hr.symm.trans (et (bnd_of hr30) (et (iN h37) (et (bnd_of hr47) (et (ip h51) (et (bnd_of hL150) (et (bnd_of hr162) (et (ip h183) (et (ip h184) (lp_r (et (hq194) (et (congrArg (fun q => w16_LocksElder_L1 r29 r161 q) hd199) (ip h200))))))))))))
 exact ⟨rfl, H201⟩
 refine jF (dF h200) (Wp.skip (bN (Fin.then (Wp.region (fw (.int .i64 ((k185 + 1 : Nat) : Int)) (Yl.int (e := IntKind.i64.wrap (((k185 : Nat) : Int) + 1)) yk (by rw [IntWalk.i64_in _ (by omega)]; omega)) (Mz rfl (WL.nil ?_)))))))
 have H202 := H189.pk [0, 1, 2, 3]
 exact Fin.round (k185 + 1) ⟨rfl, rfl, rfl, rfl, rfl, rfl, trivial⟩ (dm193.2 ⟨H202, by omega, et (hq194) (et (congrArg (fun q => w16_LocksElder_L1 r29 r161 q) hd199) (iN h200))⟩) (by show r159.length - (k185 + 1) < r159.length - k185; omega)
 refine jF (dF h196) (Wp.exit (Fin.thenX ?_))
 have hL203 : w16_LocksElder_L1 r29 r161 r159 = Sum.inl () := et (hq194) (et (congrArg (fun q => w16_LocksElder_L1 r29 r161 q) (drop_end (ls := r159) (i := k185) (by omega))) rfl)
 refine Fin.thenX (Fin.blockX (Fin.then (Wp.seq (Wp.seq ?_))))
 have H204 := H189.pk [1, 2, 3]
 refine Wp.region (Mz rfl ?_)
 have hb210 := H204.rowC (i := 1) rfl
 obtain ⟨r211, hr212⟩ : ∃ q, locks_Table_Txns r161 = q := ⟨_, rfl⟩
 obtain ⟨D205, HP206, ro207, bk208, rr209⟩ := Own.enter1 H204
 refine cl Try.call20 (locks_Table_Txns_ok _ _ g34 r161 A170 c171 d172 r211 HP206 hd173 (rr209 _ 0 _ rfl row_rds) (show r161.xrows.ls.length ≤ c171 ∧ r161.xrows.ls.length ≤ 9223372036854775807 from by omega) (fun x9 h9 => ⟨rr209 _ 1 _ rfl (sepL_mem (List.mem_flatMap.2 ⟨x9, h9, .head _⟩) row_rds), own_rd (φ := fun _ => _) H204 (i := 2) rfl (sepL_mem (List.mem_flatMap.2 ⟨x9, h9, .head _⟩) row_le2)⟩) (by first | omega | (dsimp only; omega)) hr212) ?_
 rintro _ w213 ⟨A216, c217, rfl, HQ214, hk218⟩
 have H215 := bk208 _ _ HQ214
 have hb219 := H215.rowC (i := 0) rfl
 replace hk218 : r211.length = r161.xrows.ls.length := hk218
 refine Kz (.int .i64 ((r211.length : Nat) : Int)) (Mn rfl (bo ?_))
 have H226 := H215.pk [0, 1, 2, 3]
 obtain ⟨I230, hI231⟩ : ∃ q : (Nat × (Option Addr) × Nat × (List rowD) × (List rowT)) → World → Prop, q = fun (i : Nat × (Option Addr) × Nat × (List rowD) × (List rowT)) w' => Own w D w' [row A216 r211.length c217 (List.flatMap (eN .u64) r211) 30 1, blk g34 [.slice i.2.1 i.2.2.2.2.length i.2.2.1] 59, row i.2.1 i.2.2.2.2.length i.2.2.1 (List.flatMap rowD.cells i.2.2.2.1) 72 6, sepL (List.flatMap rowD.own i.2.2.2.1)] ∧ (List.map rowD.abs i.2.2.2.1 = i.2.2.2.2 ∧ i.1 ≤ r211.length ∧ Sound i.2.2.2.2 ∧ i.2.2.2.2.length ≤ 192 ∧ w16_LocksElder_L2 r29 r211 r161.xrows.ls = w16_LocksElder_L2 r29 (List.drop i.1 r211) i.2.2.2.2) := ⟨_, rfl⟩
 have dm232 : ∀ {k220 : Nat} {A221 : Option Addr} {c222 : Nat} {d224 : List rowD} {l223 : List rowT} {w' : World}, I230 (k220, A221, c222, d224, l223) w' ↔ Own w D w' [row A216 r211.length c217 (List.flatMap (eN .u64) r211) 30 1, blk g34 [.slice A221 l223.length c222] 59, row A221 l223.length c222 (List.flatMap rowD.cells d224) 72 6, sepL (List.flatMap rowD.own d224)] ∧ List.map rowD.abs d224 = l223 ∧ k220 ≤ r211.length ∧ Sound l223 ∧ l223.length ≤ 192 ∧ w16_LocksElder_L2 r29 r211 r161.xrows.ls = w16_LocksElder_L2 r29 (List.drop k220 r211) l223 := by intros; subst hI231; exact Iff.rfl
 refine Wp.loop (fun i : Nat × (Option Addr) × Nat × (List rowD) × (List rowT) => [(4, .bool false), (94, .int .i64 ((i.1 : Nat) : Int)), (93, .int .i64 ((r211.length : Nat) : Int)), (92, .slice A216 r211.length c217), (6, .pointer (some ⟨g34, 0, none⟩)), (5, .bool r29)]) I230 (fun i => r211.length - i.1) (0, A170, c171, d172, r161.xrows.ls) ⟨rfl, rfl, rfl, rfl, rfl, rfl, trivial⟩ (dm232.2 ⟨H226, by exact hd173, by omega, by first | assumption | exact sound_nil, by first | omega | exact Sound.len (by assumption) | exact Nat.zero_le _, rfl⟩) ?_
 rintro ⟨k220, A221, c222, d224, l223⟩ w227 hf229
 show Wp _ _ _ [(4, .bool false), (94, .int .i64 ((k220 : Nat) : Int)), (93, .int .i64 ((r211.length : Nat) : Int)), (92, .slice A216 r211.length c217), (6, .pointer (some ⟨g34, 0, none⟩)), (5, .bool r29)] _ _
 obtain ⟨H228, hi234, hi235, hi236, hi237, hq233⟩ := dm232.1 hf229
 have hl238 := abs_len hi234
 refine sr (Kz (.bool (decide (((k220 : Nat) : Int) < ((r211.length : Nat) : Int)))) (nt (Wp.seq ?_)))
 by_cases h239 : ((k220 : Nat) : Int) < ((r211.length : Nat) : Int)
 obtain ⟨x240, hx241⟩ := rds_at (ls := r211) (i := k220) eN_len (by decide) (H228.rds (i := 0) rfl) (by first | omega | (simp; done) | (simp; omega))
 have hd242 := drop_at hx241
 refine jT (dT h239) (sk (Wp.seq ?_))
 obtain ⟨I247, hI248⟩ : ∃ q : ((Option Addr) × Nat × (List rowD) × (List rowT)) → World → Prop, q = fun (i : (Option Addr) × Nat × (List rowD) × (List rowT)) w' => Own w D w' [blk g34 [.slice i.1 i.2.2.2.length i.2.1] 59, row A216 r211.length c217 (List.flatMap (eN .u64) r211) 30 1, row i.1 i.2.2.2.length i.2.1 (List.flatMap rowD.cells i.2.2.1) 72 6, sepL (List.flatMap rowD.own i.2.2.1)] ∧ (List.map rowD.abs i.2.2.1 = i.2.2.2 ∧ Sound i.2.2.2 ∧ i.2.2.2.length ≤ 192 ∧ (if ((x240 : Nat) : Int) = 0 then Sum.inl l223 else bnd (locks_Table_Release (TableT.mk (Ll.mk l223)) x240) fun yr258 => lpS (w16_LocksElder_L3 yr258.2.2 yr258.2.1) fun _ => Sum.inl yr258.2.2.xrows.ls) = Sum.inl i.2.2.2) := ⟨_, rfl⟩
 have dm249 : ∀ {A243 : Option Addr} {c244 : Nat} {d246 : List rowD} {l245 : List rowT} {w' : World}, I247 (A243, c244, d246, l245) w' ↔ Own w D w' [blk g34 [.slice A243 l245.length c244] 59, row A216 r211.length c217 (List.flatMap (eN .u64) r211) 30 1, row A243 l245.length c244 (List.flatMap rowD.cells d246) 72 6, sepL (List.flatMap rowD.own d246)] ∧ List.map rowD.abs d246 = l245 ∧ Sound l245 ∧ l245.length ≤ 192 ∧ (if ((x240 : Nat) : Int) = 0 then Sum.inl l223 else bnd (locks_Table_Release (TableT.mk (Ll.mk l223)) x240) fun yr258 => lpS (w16_LocksElder_L3 yr258.2.2 yr258.2.1) fun _ => Sum.inl yr258.2.2.xrows.ls) = Sum.inl l245 := by intros; subst hI248; exact Iff.rfl
 refine Wp.joinT (fun i : (Option Addr) × Nat × (List rowD) × (List rowT) => [(4, .bool false), (94, .int .i64 ((k220 : Nat) : Int)), (93, .int .i64 ((r211.length : Nat) : Int)), (92, .slice A216 r211.length c217), (6, .pointer (some ⟨g34, 0, none⟩)), (5, .bool r29)]) I247 ?_ ?_
 refine bo (sr (fw (.pointer (some ⟨ab A216, ao A216 + k220 * 1, none⟩)) (Yl.indexAddr (El37) rfl rfl ((H228.rds (i := 0) rfl).addr (i := k220) (by omega)) (by omega)) (fw (.int .u64 ((x240 : Nat) : Int)) (Yl.load rfl (Lds.one Try.isAgg30 (((H228.rds (i := 0) rfl).elem eN_len hx241 (by decide)).at_ (k := 0) rfl))) (An rfl (Wp.seq (sr (Mz rfl (Kz (.bool (decide (((x240 : Nat) : Int) = 0))) (nt ?_)))))))))
 by_cases h250 : ((x240 : Nat) : Int) = 0
 refine jT (dT h250) (Wp.exit (Fin.thenX (Fin.blockX ?_)))
 have H251 := H228.pk [1, 0, 2, 3]
 exact Fin.join (A221, c222, d224, l223) ⟨rfl, rfl, rfl, rfl, rfl, rfl, trivial⟩ (dm249.2 ⟨H251, by exact hi234, by first | assumption | exact sound_nil, by first | omega | exact Sound.len (by assumption) | exact Nat.zero_le _, ip h250⟩)
 refine jF (dF h250) (sk (sr (Mz rfl (Mz rfl ?_))))
 have H252 := H228.pk [1, 2, 3, 0]
 obtain ⟨⟨r258, r259, r260⟩, hr261⟩ : ∃ q : (List Nat) × (List Nat) × TableT, locks_Table_Release (TableT.mk (Ll.mk l223)) x240 = q := ⟨_, rfl⟩
 obtain ⟨D253, HP254, ro255, bk256, rr257⟩ := Own.enter3 H252
 refine cl Try.call13 (locks_Table_Release_ok _ _ g34 (TableT.mk (Ll.mk l223)) A221 c222 d224 x240 r258 r259 r260 HP254 hi234 (by first | omega | (dsimp only; omega) | exact Sound.len (by assumption) | exact Nat.zero_le _) (by first | assumption | exact Sound.hd (by assumption) | exact Sound.hd sound_nil) (by first | assumption | exact sound_nil) hr261) ?_
 rintro _ w262 ⟨A265, c266, A267, c268, A269, c270, d271, rfl, HQ263, hd272⟩
 have H264 := bk256 _ _ HQ263
 have hl273 := abs_len hd272
 have hb274 := H264.rowC (i := 0) rfl
 have hb275 := H264.rowC (i := 1) rfl
 have hb276 := H264.rowC (i := 3) rfl
 have hz277 := release_sound (m := l223) (by first | assumption | exact sound_nil) hr261
 replace hz277 : Sound r260.xrows.ls := hz277
 have hl278 : r260.xrows.ls.length ≤ 192 := hz277.len
 obtain ⟨hl279, hl280⟩ := release_lens (m := l223) (by first | assumption | exact sound_nil) hr261
 replace hl279 : r258.length ≤ 400 := hl279
 replace hl280 : r259.length ≤ 400 := hl280
 refine Mz rfl (Kz (.slice A265 r258.length c266) (Kz (.slice A267 r259.length c268) (Az rfl (An rfl (Wp.seq ?_)))))
 have H281 := H264.pk [1, 2, 3, 4, 5]
 refine Wp.region (Mz rfl (Kz (.int .i64 ((r259.length : Nat) : Int)) (Mn rfl (bo ?_))))
 have H284 := H281.pk [0, 1, 2, 3, 4]
 obtain ⟨I288, hI289⟩ : ∃ q : Nat → World → Prop, q = fun (i : Nat) w' => Own w D w' [row A267 r259.length c268 (List.flatMap (eN .u64) r259) 30 1, blk g34 [.slice A269 r260.xrows.ls.length c270] 59, row A269 r260.xrows.ls.length c270 (List.flatMap rowD.cells d271) 72 6, sepL (List.flatMap rowD.own d271), row A216 r211.length c217 (List.flatMap (eN .u64) r211) 30 1] ∧ (i ≤ r259.length ∧ w16_LocksElder_L3 r260 r259 = w16_LocksElder_L3 r260 (List.drop i r259)) := ⟨_, rfl⟩
 have dm290 : ∀ {k282 : Nat} {w' : World}, I288 k282 w' ↔ Own w D w' [row A267 r259.length c268 (List.flatMap (eN .u64) r259) 30 1, blk g34 [.slice A269 r260.xrows.ls.length c270] 59, row A269 r260.xrows.ls.length c270 (List.flatMap rowD.cells d271) 72 6, sepL (List.flatMap rowD.own d271), row A216 r211.length c217 (List.flatMap (eN .u64) r211) 30 1] ∧ k282 ≤ r259.length ∧ w16_LocksElder_L3 r260 r259 = w16_LocksElder_L3 r260 (List.drop k282 r259) := by intros; subst hI289; exact Iff.rfl
 refine Wp.loop (fun i : Nat => [(4, .bool false), (108, .int .i64 ((i : Nat) : Int)), (107, .int .i64 ((r259.length : Nat) : Int)), (106, .slice A267 r259.length c268), (94, .int .i64 ((k220 : Nat) : Int)), (93, .int .i64 ((r211.length : Nat) : Int)), (92, .slice A216 r211.length c217), (6, .pointer (some ⟨g34, 0, none⟩)), (5, .bool r29)]) I288 (fun i => r259.length - i) 0 ⟨rfl, rfl, rfl, rfl, rfl, rfl, rfl, rfl, rfl, trivial⟩ (dm290.2 ⟨H284, by omega, rfl⟩) ?_
 rintro k282 w285 hf287
 show Wp _ _ _ [(4, .bool false), (108, .int .i64 ((k282 : Nat) : Int)), (107, .int .i64 ((r259.length : Nat) : Int)), (106, .slice A267 r259.length c268), (94, .int .i64 ((k220 : Nat) : Int)), (93, .int .i64 ((r211.length : Nat) : Int)), (92, .slice A216 r211.length c217), (6, .pointer (some ⟨g34, 0, none⟩)), (5, .bool r29)] _ _
 obtain ⟨H286, hi292, hq291⟩ := dm290.1 hf287
 refine sr (Kz (.bool (decide (((k282 : Nat) : Int) < ((r259.length : Nat) : Int)))) (nt (Wp.seq ?_)))
 by_cases h293 : ((k282 : Nat) : Int) < ((r259.length : Nat) : Int)
 obtain ⟨x294, hx295⟩ := rds_at (ls := r259) (i := k282) eN_len (by decide) (H286.rds (i := 0) rfl) (by first | omega | (simp; done) | (simp; omega))
 have hd296 := drop_at hx295
 refine jT (dT h293) (sk (Wp.seq (bo (sr (fw (.pointer (some ⟨ab A267, ao A267 + k282 * 1, none⟩)) (Yl.indexAddr (El37) rfl rfl ((H286.rds (i := 0) rfl).addr (i := k282) (by omega)) (by omega)) (fw (.int .u64 ((x294 : Nat) : Int)) (Yl.load rfl (Lds.one Try.isAgg30 (((H286.rds (i := 0) rfl).elem eN_len hx295 (by decide)).at_ (k := 0) rfl))) (Ar rfl (Mz rfl (Kz (.bool (decide (((x294 : Nat) : Int) = 0))) (nt ?_))))))))))
 by_cases h297 : ((x294 : Nat) : Int) = 0
 refine jT (dT h297) (sr (An rfl (rt (bR (tR (tR (bR (bR (tR (tR (bR (tR (rs ?_)))))))))))))
 have H298 := H286.pk []
 obtain rfl : _ = false := hr.symm.trans (et (bnd_of hr30) (et (iN h37) (et (bnd_of hr47) (et (ip h51) (et (bnd_of hL150) (et (bnd_of hr162) (et (ip h183) (et (ip h184) (et (lp_l hL203) (et (bnd_of hr212) (lp_r (et (hq233) (et (congrArg (fun q => w16_LocksElder_L2 r29 q l223) hd242) (lpS_r (et (iN h250) (et (bnd_of hr261) (lpS_r (et (hq291) (et (congrArg (fun q => w16_LocksElder_L3 r260 q) hd296) (ip h297))))))))))))))))))))
 exact ⟨rfl, H298⟩
 refine jF (dF h297) (Wp.skip (bN (Fin.then (Wp.region (fw (.int .i64 ((k282 + 1 : Nat) : Int)) (Yl.int (e := IntKind.i64.wrap (((k282 : Nat) : Int) + 1)) yk (by rw [IntWalk.i64_in _ (by omega)]; omega)) (Mz rfl (WL.nil ?_)))))))
 have H299 := H286.pk [0, 1, 2, 3, 4]
 exact Fin.round (k282 + 1) ⟨rfl, rfl, rfl, rfl, rfl, rfl, rfl, rfl, rfl, trivial⟩ (dm290.2 ⟨H299, by omega, et (hq291) (et (congrArg (fun q => w16_LocksElder_L3 r260 q) hd296) (iN h297))⟩) (by show r259.length - (k282 + 1) < r259.length - k282; omega)
 refine jF (dF h293) (Wp.exit (Fin.thenX ?_))
 have hL300 : w16_LocksElder_L3 r260 r259 = Sum.inl () := et (hq291) (et (congrArg (fun q => w16_LocksElder_L3 r260 q) (drop_end (ls := r259) (i := k282) (by omega))) rfl)
 refine Fin.thenX (Fin.blockX (bN ?_))
 have H301 := H286.pk [1, 4, 2, 3]
 exact Fin.join (A269, c270, d271, r260.xrows.ls) ⟨rfl, rfl, rfl, rfl, rfl, rfl, trivial⟩ (dm249.2 ⟨H301, by exact hd272, by first | assumption | exact sound_nil, by first | omega | exact Sound.len (by assumption) | exact Nat.zero_le _, et (iN h250) (et (bnd_of hr261) (lpS_l hL300))⟩)
 rintro ⟨A243, c244, d246, l245⟩ w302 hf304
 show Wp _ _ _ [(4, .bool false), (94, .int .i64 ((k220 : Nat) : Int)), (93, .int .i64 ((r211.length : Nat) : Int)), (92, .slice A216 r211.length c217), (6, .pointer (some ⟨g34, 0, none⟩)), (5, .bool r29)] _ _
 obtain ⟨H303, hi306, hi307, hi308, hj305⟩ := dm249.1 hf304
 have hl309 := abs_len hi306
 refine Wp.region (fw (.int .i64 ((k220 + 1 : Nat) : Int)) (Yl.int (e := IntKind.i64.wrap (((k220 : Nat) : Int) + 1)) yk (by rw [IntWalk.i64_in _ (by omega)]; omega)) (Mz rfl (WL.nil ?_)))
 have H310 := H303.pk [1, 0, 2, 3]
 exact Fin.round (k220 + 1, A243, c244, d246, l245) ⟨rfl, rfl, rfl, rfl, rfl, rfl, trivial⟩ (dm232.2 ⟨H310, by exact hi306, by omega, by first | assumption | exact sound_nil, by first | omega | exact Sound.len (by assumption) | exact Nat.zero_le _, et (hq233) (et (congrArg (fun q => w16_LocksElder_L2 r29 q l223) hd242) (lpS_l hj305))⟩) (by show r211.length - (k220 + 1) < r211.length - k220; omega)
 refine jF (dF h239) (Wp.exit (Fin.thenX ?_))
 have hL311 : w16_LocksElder_L2 r29 r211 r161.xrows.ls = Sum.inl l223 := et (hq233) (et (congrArg (fun q => w16_LocksElder_L2 r29 q l223) (drop_end (ls := r211) (i := k220) (by omega))) rfl)
 refine Fin.thenX (Fin.blockX (Fin.then (Wp.seq ?_)))
 have H312 := H228.pk [1, 2, 3]
 refine Wp.region (Mz rfl (Mz rfl ?_))
 rcases Bool.eq_false_or_eq_true (r29) with h313 | h313
 refine WL.valG (v := .pointer (some ⟨g34, 0, none⟩)) rfl rfl h313 rfl (Yl.move rfl) ?_
 have hb319 := H312.rowC (i := 1) rfl
 obtain ⟨r320, hr321⟩ : ∃ q, locks_Table_Holds (TableT.mk (Ll.mk l223)) 0 = q := ⟨_, rfl⟩
 obtain ⟨D314, HP315, ro316, bk317, rr318⟩ := Own.enter1 H312
 refine WL.doG rfl rfl h313 rfl (Do.call Try.call17 rfl (locks_Table_Holds_ok _ _ g34 (TableT.mk (Ll.mk l223)) A221 c222 d224 0 r320 HP315 hi234 (rr318 _ 0 _ rfl row_rds) (show l223.length ≤ c222 ∧ l223.length ≤ 9223372036854775807 from by omega) (fun x9 h9 => ⟨rr318 _ 1 _ rfl (sepL_mem (List.mem_flatMap.2 ⟨x9, h9, .head _⟩) row_rds), own_rd (φ := fun _ => _) H312 (i := 2) rfl (sepL_mem (List.mem_flatMap.2 ⟨x9, h9, .head _⟩) row_le2)⟩) (by first | omega | (dsimp only; omega)) (by first | assumption | exact Sound.hd (by assumption)) hr321) ?_)
 rintro _ w322 ⟨A325, c326, rfl, HQ323⟩
 have H324 := bk317 _ _ HQ323
 have hb327 := H324.rowC (i := 0) rfl
 refine Gz (.int .i64 ((r320.length : Nat) : Int)) h313 (Gz (.bool (decide (((r320.length : Nat) : Int) = 1))) h313 (fw (.bool (decide (((r320.length : Nat) : Int) = 1))) (Yl.pickT rfl h313 rfl) (An rfl (rt (rs ?_)))))
 have H328 := H324.pk []
 obtain rfl : _ = decide (((r320.length : Nat) : Int) = 1) := hr.symm.trans (et (bnd_of hr30) (et (iN h37) (et (bnd_of hr47) (et (ip h51) (et (bnd_of hL150) (et (bnd_of hr162) (et (ip h183) (et (ip h184) (et (lp_l hL203) (et (bnd_of hr212) (et (lp_l hL311) (et (ip h313) (bnd_of hr321)))))))))))))
 exact ⟨rfl, H328⟩
 refine Sz h313 (Sz h313 (Sz h313 (Sz h313 (fw (.bool false) (Yl.pickF rfl h313 rfl) (An rfl (rt (rs ?_)))))))
 have H329 := H312.pk []
 obtain rfl : _ = false := hr.symm.trans (et (bnd_of hr30) (et (iN h37) (et (bnd_of hr47) (et (ip h51) (et (bnd_of hL150) (et (bnd_of hr162) (et (ip h183) (et (ip h184) (et (lp_l hL203) (et (bnd_of hr212) (et (lp_l hL311) (ifF h313))))))))))))
 exact ⟨rfl, H329⟩
 refine gw (.int .i64 r157) (dT h184) (Yl.move rfl) (gw (.bool (decide (¬ (r157 = 2)))) (dT h184) (Yl.bool (e := !(decide (r157 = 2))) yk decide_not.symm) (gw (.bool (decide (¬ (r157 = 2)))) (dF (not_not_intro h183)) (Yl.pickT rfl (dT h184) rfl) (fw (.bool (decide (¬ (r157 = 2)))) (Yl.pickF rfl (dF (not_not_intro h183)) rfl) (nt ?_))))
 by_cases h330 : r157 = 2
 refine jF (dF (not_not_intro h330)) (sk (Wp.seq (sr (Mz rfl (Kz (.int .i64 ((r159.length : Nat) : Int)) (Mn rfl (bo ?_)))))))
 have H333 := H182.pk [0, 1, 2, 3]
 obtain ⟨I337, hI338⟩ : ∃ q : Nat → World → Prop, q = fun (i : Nat) w' => Own w D w' [row A168 r159.length c169 (List.flatMap (eN .u64) r159) 30 1, blk g34 [.slice A170 r161.xrows.ls.length c171] 59, row A170 r161.xrows.ls.length c171 (List.flatMap rowD.cells d172) 72 6, sepL (List.flatMap rowD.own d172)] ∧ (i ≤ r159.length ∧ w16_LocksElder_L4 r29 r161 r159 = w16_LocksElder_L4 r29 r161 (List.drop i r159)) := ⟨_, rfl⟩
 have dm339 : ∀ {k331 : Nat} {w' : World}, I337 k331 w' ↔ Own w D w' [row A168 r159.length c169 (List.flatMap (eN .u64) r159) 30 1, blk g34 [.slice A170 r161.xrows.ls.length c171] 59, row A170 r161.xrows.ls.length c171 (List.flatMap rowD.cells d172) 72 6, sepL (List.flatMap rowD.own d172)] ∧ k331 ≤ r159.length ∧ w16_LocksElder_L4 r29 r161 r159 = w16_LocksElder_L4 r29 r161 (List.drop k331 r159) := by intros; subst hI338; exact Iff.rfl
 refine Wp.loop (fun i : Nat => [(4, .bool false), (84, .int .i64 ((i : Nat) : Int)), (83, .int .i64 ((r159.length : Nat) : Int)), (82, .slice A168 r159.length c169), (6, .pointer (some ⟨g34, 0, none⟩)), (5, .bool r29)]) I337 (fun i => r159.length - i) 0 ⟨rfl, rfl, rfl, rfl, rfl, rfl, trivial⟩ (dm339.2 ⟨H333, by omega, rfl⟩) ?_
 rintro k331 w334 hf336
 show Wp _ _ _ [(4, .bool false), (84, .int .i64 ((k331 : Nat) : Int)), (83, .int .i64 ((r159.length : Nat) : Int)), (82, .slice A168 r159.length c169), (6, .pointer (some ⟨g34, 0, none⟩)), (5, .bool r29)] _ _
 obtain ⟨H335, hi341, hq340⟩ := dm339.1 hf336
 refine sr (Kz (.bool (decide (((k331 : Nat) : Int) < ((r159.length : Nat) : Int)))) (nt (Wp.seq ?_)))
 by_cases h342 : ((k331 : Nat) : Int) < ((r159.length : Nat) : Int)
 obtain ⟨x343, hx344⟩ := rds_at (ls := r159) (i := k331) eN_len (by decide) (H335.rds (i := 0) rfl) (by first | omega | (simp; done) | (simp; omega))
 have hd345 := drop_at hx344
 refine jT (dT h342) (sk (Wp.seq (bo (sr (fw (.pointer (some ⟨ab A168, ao A168 + k331 * 1, none⟩)) (Yl.indexAddr (El37) rfl rfl ((H335.rds (i := 0) rfl).addr (i := k331) (by omega)) (by omega)) (fw (.int .u64 ((x343 : Nat) : Int)) (Yl.load rfl (Lds.one Try.isAgg30 (((H335.rds (i := 0) rfl).elem eN_len hx344 (by decide)).at_ (k := 0) rfl))) (Ar rfl (Mz rfl (Kz (.bool (decide (((x343 : Nat) : Int) = 0))) (nt ?_))))))))))
 by_cases h346 : ((x343 : Nat) : Int) = 0
 refine jT (dT h346) (sr (An rfl (rt (bR (tR (tR (bR (tR (rs ?_)))))))))
 have H347 := H335.pk []
 obtain rfl : _ = false := hr.symm.trans (et (bnd_of hr30) (et (iN h37) (et (bnd_of hr47) (et (ip h51) (et (bnd_of hL150) (et (bnd_of hr162) (et (ip h183) (et (iN h184) (et (ip h330) (lp_r (et (hq340) (et (congrArg (fun q => w16_LocksElder_L4 r29 r161 q) hd345) (ip h346)))))))))))))
 exact ⟨rfl, H347⟩
 refine jF (dF h346) (Wp.skip (bN (Fin.then (Wp.region (fw (.int .i64 ((k331 + 1 : Nat) : Int)) (Yl.int (e := IntKind.i64.wrap (((k331 : Nat) : Int) + 1)) yk (by rw [IntWalk.i64_in _ (by omega)]; omega)) (Mz rfl (WL.nil ?_)))))))
 have H348 := H335.pk [0, 1, 2, 3]
 exact Fin.round (k331 + 1) ⟨rfl, rfl, rfl, rfl, rfl, rfl, trivial⟩ (dm339.2 ⟨H348, by omega, et (hq340) (et (congrArg (fun q => w16_LocksElder_L4 r29 r161 q) hd345) (iN h346))⟩) (by show r159.length - (k331 + 1) < r159.length - k331; omega)
 refine jF (dF h342) (Wp.exit (Fin.thenX ?_))
 have hL349 : w16_LocksElder_L4 r29 r161 r159 = Sum.inl () := et (hq340) (et (congrArg (fun q => w16_LocksElder_L4 r29 r161 q) (drop_end (ls := r159) (i := k331) (by omega))) rfl)
 refine Fin.thenX (Fin.blockX (Fin.then (Wp.seq (Wp.seq ?_))))
 have H350 := H335.pk [1, 2, 3]
 refine Wp.region (Mz rfl ?_)
 have hb356 := H350.rowC (i := 1) rfl
 obtain ⟨r357, hr358⟩ : ∃ q, locks_Table_Txns r161 = q := ⟨_, rfl⟩
 obtain ⟨D351, HP352, ro353, bk354, rr355⟩ := Own.enter1 H350
 refine cl Try.call20 (locks_Table_Txns_ok _ _ g34 r161 A170 c171 d172 r357 HP352 hd173 (rr355 _ 0 _ rfl row_rds) (show r161.xrows.ls.length ≤ c171 ∧ r161.xrows.ls.length ≤ 9223372036854775807 from by omega) (fun x9 h9 => ⟨rr355 _ 1 _ rfl (sepL_mem (List.mem_flatMap.2 ⟨x9, h9, .head _⟩) row_rds), own_rd (φ := fun _ => _) H350 (i := 2) rfl (sepL_mem (List.mem_flatMap.2 ⟨x9, h9, .head _⟩) row_le2)⟩) (by first | omega | (dsimp only; omega)) hr358) ?_
 rintro _ w359 ⟨A362, c363, rfl, HQ360, hk364⟩
 have H361 := bk354 _ _ HQ360
 have hb365 := H361.rowC (i := 0) rfl
 replace hk364 : r357.length = r161.xrows.ls.length := hk364
 refine Kz (.int .i64 ((r357.length : Nat) : Int)) (Mn rfl (bo ?_))
 have H372 := H361.pk [0, 1, 2, 3]
 obtain ⟨I376, hI377⟩ : ∃ q : (Nat × (Option Addr) × Nat × (List rowD) × (List rowT)) → World → Prop, q = fun (i : Nat × (Option Addr) × Nat × (List rowD) × (List rowT)) w' => Own w D w' [row A362 r357.length c363 (List.flatMap (eN .u64) r357) 30 1, blk g34 [.slice i.2.1 i.2.2.2.2.length i.2.2.1] 59, row i.2.1 i.2.2.2.2.length i.2.2.1 (List.flatMap rowD.cells i.2.2.2.1) 72 6, sepL (List.flatMap rowD.own i.2.2.2.1)] ∧ (List.map rowD.abs i.2.2.2.1 = i.2.2.2.2 ∧ i.1 ≤ r357.length ∧ Sound i.2.2.2.2 ∧ i.2.2.2.2.length ≤ 192 ∧ w16_LocksElder_L5 r29 r357 r161.xrows.ls = w16_LocksElder_L5 r29 (List.drop i.1 r357) i.2.2.2.2) := ⟨_, rfl⟩
 have dm378 : ∀ {k366 : Nat} {A367 : Option Addr} {c368 : Nat} {d370 : List rowD} {l369 : List rowT} {w' : World}, I376 (k366, A367, c368, d370, l369) w' ↔ Own w D w' [row A362 r357.length c363 (List.flatMap (eN .u64) r357) 30 1, blk g34 [.slice A367 l369.length c368] 59, row A367 l369.length c368 (List.flatMap rowD.cells d370) 72 6, sepL (List.flatMap rowD.own d370)] ∧ List.map rowD.abs d370 = l369 ∧ k366 ≤ r357.length ∧ Sound l369 ∧ l369.length ≤ 192 ∧ w16_LocksElder_L5 r29 r357 r161.xrows.ls = w16_LocksElder_L5 r29 (List.drop k366 r357) l369 := by intros; subst hI377; exact Iff.rfl
 refine Wp.loop (fun i : Nat × (Option Addr) × Nat × (List rowD) × (List rowT) => [(4, .bool false), (94, .int .i64 ((i.1 : Nat) : Int)), (93, .int .i64 ((r357.length : Nat) : Int)), (92, .slice A362 r357.length c363), (6, .pointer (some ⟨g34, 0, none⟩)), (5, .bool r29)]) I376 (fun i => r357.length - i.1) (0, A170, c171, d172, r161.xrows.ls) ⟨rfl, rfl, rfl, rfl, rfl, rfl, trivial⟩ (dm378.2 ⟨H372, by exact hd173, by omega, by first | assumption | exact sound_nil, by first | omega | exact Sound.len (by assumption) | exact Nat.zero_le _, rfl⟩) ?_
 rintro ⟨k366, A367, c368, d370, l369⟩ w373 hf375
 show Wp _ _ _ [(4, .bool false), (94, .int .i64 ((k366 : Nat) : Int)), (93, .int .i64 ((r357.length : Nat) : Int)), (92, .slice A362 r357.length c363), (6, .pointer (some ⟨g34, 0, none⟩)), (5, .bool r29)] _ _
 obtain ⟨H374, hi380, hi381, hi382, hi383, hq379⟩ := dm378.1 hf375
 have hl384 := abs_len hi380
 refine sr (Kz (.bool (decide (((k366 : Nat) : Int) < ((r357.length : Nat) : Int)))) (nt (Wp.seq ?_)))
 by_cases h385 : ((k366 : Nat) : Int) < ((r357.length : Nat) : Int)
 obtain ⟨x386, hx387⟩ := rds_at (ls := r357) (i := k366) eN_len (by decide) (H374.rds (i := 0) rfl) (by first | omega | (simp; done) | (simp; omega))
 have hd388 := drop_at hx387
 refine jT (dT h385) (sk (Wp.seq ?_))
 obtain ⟨I393, hI394⟩ : ∃ q : ((Option Addr) × Nat × (List rowD) × (List rowT)) → World → Prop, q = fun (i : (Option Addr) × Nat × (List rowD) × (List rowT)) w' => Own w D w' [blk g34 [.slice i.1 i.2.2.2.length i.2.1] 59, row A362 r357.length c363 (List.flatMap (eN .u64) r357) 30 1, row i.1 i.2.2.2.length i.2.1 (List.flatMap rowD.cells i.2.2.1) 72 6, sepL (List.flatMap rowD.own i.2.2.1)] ∧ (List.map rowD.abs i.2.2.1 = i.2.2.2 ∧ Sound i.2.2.2 ∧ i.2.2.2.length ≤ 192 ∧ (if ((x386 : Nat) : Int) = 0 then Sum.inl l369 else bnd (locks_Table_Release (TableT.mk (Ll.mk l369)) x386) fun yr404 => lpS (w16_LocksElder_L6 yr404.2.2 yr404.2.1) fun _ => Sum.inl yr404.2.2.xrows.ls) = Sum.inl i.2.2.2) := ⟨_, rfl⟩
 have dm395 : ∀ {A389 : Option Addr} {c390 : Nat} {d392 : List rowD} {l391 : List rowT} {w' : World}, I393 (A389, c390, d392, l391) w' ↔ Own w D w' [blk g34 [.slice A389 l391.length c390] 59, row A362 r357.length c363 (List.flatMap (eN .u64) r357) 30 1, row A389 l391.length c390 (List.flatMap rowD.cells d392) 72 6, sepL (List.flatMap rowD.own d392)] ∧ List.map rowD.abs d392 = l391 ∧ Sound l391 ∧ l391.length ≤ 192 ∧ (if ((x386 : Nat) : Int) = 0 then Sum.inl l369 else bnd (locks_Table_Release (TableT.mk (Ll.mk l369)) x386) fun yr404 => lpS (w16_LocksElder_L6 yr404.2.2 yr404.2.1) fun _ => Sum.inl yr404.2.2.xrows.ls) = Sum.inl l391 := by intros; subst hI394; exact Iff.rfl
 refine Wp.joinT (fun i : (Option Addr) × Nat × (List rowD) × (List rowT) => [(4, .bool false), (94, .int .i64 ((k366 : Nat) : Int)), (93, .int .i64 ((r357.length : Nat) : Int)), (92, .slice A362 r357.length c363), (6, .pointer (some ⟨g34, 0, none⟩)), (5, .bool r29)]) I393 ?_ ?_
 refine bo (sr (fw (.pointer (some ⟨ab A362, ao A362 + k366 * 1, none⟩)) (Yl.indexAddr (El37) rfl rfl ((H374.rds (i := 0) rfl).addr (i := k366) (by omega)) (by omega)) (fw (.int .u64 ((x386 : Nat) : Int)) (Yl.load rfl (Lds.one Try.isAgg30 (((H374.rds (i := 0) rfl).elem eN_len hx387 (by decide)).at_ (k := 0) rfl))) (An rfl (Wp.seq (sr (Mz rfl (Kz (.bool (decide (((x386 : Nat) : Int) = 0))) (nt ?_)))))))))
 by_cases h396 : ((x386 : Nat) : Int) = 0
 refine jT (dT h396) (Wp.exit (Fin.thenX (Fin.blockX ?_)))
 have H397 := H374.pk [1, 0, 2, 3]
 exact Fin.join (A367, c368, d370, l369) ⟨rfl, rfl, rfl, rfl, rfl, rfl, trivial⟩ (dm395.2 ⟨H397, by exact hi380, by first | assumption | exact sound_nil, by first | omega | exact Sound.len (by assumption) | exact Nat.zero_le _, ip h396⟩)
 refine jF (dF h396) (sk (sr (Mz rfl (Mz rfl ?_))))
 have H398 := H374.pk [1, 2, 3, 0]
 obtain ⟨⟨r404, r405, r406⟩, hr407⟩ : ∃ q : (List Nat) × (List Nat) × TableT, locks_Table_Release (TableT.mk (Ll.mk l369)) x386 = q := ⟨_, rfl⟩
 obtain ⟨D399, HP400, ro401, bk402, rr403⟩ := Own.enter3 H398
 refine cl Try.call13 (locks_Table_Release_ok _ _ g34 (TableT.mk (Ll.mk l369)) A367 c368 d370 x386 r404 r405 r406 HP400 hi380 (by first | omega | (dsimp only; omega) | exact Sound.len (by assumption) | exact Nat.zero_le _) (by first | assumption | exact Sound.hd (by assumption) | exact Sound.hd sound_nil) (by first | assumption | exact sound_nil) hr407) ?_
 rintro _ w408 ⟨A411, c412, A413, c414, A415, c416, d417, rfl, HQ409, hd418⟩
 have H410 := bk402 _ _ HQ409
 have hl419 := abs_len hd418
 have hb420 := H410.rowC (i := 0) rfl
 have hb421 := H410.rowC (i := 1) rfl
 have hb422 := H410.rowC (i := 3) rfl
 have hz423 := release_sound (m := l369) (by first | assumption | exact sound_nil) hr407
 replace hz423 : Sound r406.xrows.ls := hz423
 have hl424 : r406.xrows.ls.length ≤ 192 := hz423.len
 obtain ⟨hl425, hl426⟩ := release_lens (m := l369) (by first | assumption | exact sound_nil) hr407
 replace hl425 : r404.length ≤ 400 := hl425
 replace hl426 : r405.length ≤ 400 := hl426
 refine Mz rfl (Kz (.slice A411 r404.length c412) (Kz (.slice A413 r405.length c414) (Az rfl (An rfl (Wp.seq ?_)))))
 have H427 := H410.pk [1, 2, 3, 4, 5]
 refine Wp.region (Mz rfl (Kz (.int .i64 ((r405.length : Nat) : Int)) (Mn rfl (bo ?_))))
 have H430 := H427.pk [0, 1, 2, 3, 4]
 obtain ⟨I434, hI435⟩ : ∃ q : Nat → World → Prop, q = fun (i : Nat) w' => Own w D w' [row A413 r405.length c414 (List.flatMap (eN .u64) r405) 30 1, blk g34 [.slice A415 r406.xrows.ls.length c416] 59, row A415 r406.xrows.ls.length c416 (List.flatMap rowD.cells d417) 72 6, sepL (List.flatMap rowD.own d417), row A362 r357.length c363 (List.flatMap (eN .u64) r357) 30 1] ∧ (i ≤ r405.length ∧ w16_LocksElder_L6 r406 r405 = w16_LocksElder_L6 r406 (List.drop i r405)) := ⟨_, rfl⟩
 have dm436 : ∀ {k428 : Nat} {w' : World}, I434 k428 w' ↔ Own w D w' [row A413 r405.length c414 (List.flatMap (eN .u64) r405) 30 1, blk g34 [.slice A415 r406.xrows.ls.length c416] 59, row A415 r406.xrows.ls.length c416 (List.flatMap rowD.cells d417) 72 6, sepL (List.flatMap rowD.own d417), row A362 r357.length c363 (List.flatMap (eN .u64) r357) 30 1] ∧ k428 ≤ r405.length ∧ w16_LocksElder_L6 r406 r405 = w16_LocksElder_L6 r406 (List.drop k428 r405) := by intros; subst hI435; exact Iff.rfl
 refine Wp.loop (fun i : Nat => [(4, .bool false), (108, .int .i64 ((i : Nat) : Int)), (107, .int .i64 ((r405.length : Nat) : Int)), (106, .slice A413 r405.length c414), (94, .int .i64 ((k366 : Nat) : Int)), (93, .int .i64 ((r357.length : Nat) : Int)), (92, .slice A362 r357.length c363), (6, .pointer (some ⟨g34, 0, none⟩)), (5, .bool r29)]) I434 (fun i => r405.length - i) 0 ⟨rfl, rfl, rfl, rfl, rfl, rfl, rfl, rfl, rfl, trivial⟩ (dm436.2 ⟨H430, by omega, rfl⟩) ?_
 rintro k428 w431 hf433
 show Wp _ _ _ [(4, .bool false), (108, .int .i64 ((k428 : Nat) : Int)), (107, .int .i64 ((r405.length : Nat) : Int)), (106, .slice A413 r405.length c414), (94, .int .i64 ((k366 : Nat) : Int)), (93, .int .i64 ((r357.length : Nat) : Int)), (92, .slice A362 r357.length c363), (6, .pointer (some ⟨g34, 0, none⟩)), (5, .bool r29)] _ _
 obtain ⟨H432, hi438, hq437⟩ := dm436.1 hf433
 refine sr (Kz (.bool (decide (((k428 : Nat) : Int) < ((r405.length : Nat) : Int)))) (nt (Wp.seq ?_)))
 by_cases h439 : ((k428 : Nat) : Int) < ((r405.length : Nat) : Int)
 obtain ⟨x440, hx441⟩ := rds_at (ls := r405) (i := k428) eN_len (by decide) (H432.rds (i := 0) rfl) (by first | omega | (simp; done) | (simp; omega))
 have hd442 := drop_at hx441
 refine jT (dT h439) (sk (Wp.seq (bo (sr (fw (.pointer (some ⟨ab A413, ao A413 + k428 * 1, none⟩)) (Yl.indexAddr (El37) rfl rfl ((H432.rds (i := 0) rfl).addr (i := k428) (by omega)) (by omega)) (fw (.int .u64 ((x440 : Nat) : Int)) (Yl.load rfl (Lds.one Try.isAgg30 (((H432.rds (i := 0) rfl).elem eN_len hx441 (by decide)).at_ (k := 0) rfl))) (Ar rfl (Mz rfl (Kz (.bool (decide (((x440 : Nat) : Int) = 0))) (nt ?_))))))))))
 by_cases h443 : ((x440 : Nat) : Int) = 0
 refine jT (dT h443) (sr (An rfl (rt (bR (tR (tR (bR (bR (tR (tR (bR (tR (rs ?_)))))))))))))
 have H444 := H432.pk []
 obtain rfl : _ = false := hr.symm.trans (et (bnd_of hr30) (et (iN h37) (et (bnd_of hr47) (et (ip h51) (et (bnd_of hL150) (et (bnd_of hr162) (et (ip h183) (et (iN h184) (et (ip h330) (et (lp_l hL349) (et (bnd_of hr358) (lp_r (et (hq379) (et (congrArg (fun q => w16_LocksElder_L5 r29 q l369) hd388) (lpS_r (et (iN h396) (et (bnd_of hr407) (lpS_r (et (hq437) (et (congrArg (fun q => w16_LocksElder_L6 r406 q) hd442) (ip h443)))))))))))))))))))))
 exact ⟨rfl, H444⟩
 refine jF (dF h443) (Wp.skip (bN (Fin.then (Wp.region (fw (.int .i64 ((k428 + 1 : Nat) : Int)) (Yl.int (e := IntKind.i64.wrap (((k428 : Nat) : Int) + 1)) yk (by rw [IntWalk.i64_in _ (by omega)]; omega)) (Mz rfl (WL.nil ?_)))))))
 have H445 := H432.pk [0, 1, 2, 3, 4]
 exact Fin.round (k428 + 1) ⟨rfl, rfl, rfl, rfl, rfl, rfl, rfl, rfl, rfl, trivial⟩ (dm436.2 ⟨H445, by omega, et (hq437) (et (congrArg (fun q => w16_LocksElder_L6 r406 q) hd442) (iN h443))⟩) (by show r405.length - (k428 + 1) < r405.length - k428; omega)
 refine jF (dF h439) (Wp.exit (Fin.thenX ?_))
 have hL446 : w16_LocksElder_L6 r406 r405 = Sum.inl () := et (hq437) (et (congrArg (fun q => w16_LocksElder_L6 r406 q) (drop_end (ls := r405) (i := k428) (by omega))) rfl)
 refine Fin.thenX (Fin.blockX (bN ?_))
 have H447 := H432.pk [1, 4, 2, 3]
 exact Fin.join (A415, c416, d417, r406.xrows.ls) ⟨rfl, rfl, rfl, rfl, rfl, rfl, trivial⟩ (dm395.2 ⟨H447, by exact hd418, by first | assumption | exact sound_nil, by first | omega | exact Sound.len (by assumption) | exact Nat.zero_le _, et (iN h396) (et (bnd_of hr407) (lpS_l hL446))⟩)
 rintro ⟨A389, c390, d392, l391⟩ w448 hf450
 show Wp _ _ _ [(4, .bool false), (94, .int .i64 ((k366 : Nat) : Int)), (93, .int .i64 ((r357.length : Nat) : Int)), (92, .slice A362 r357.length c363), (6, .pointer (some ⟨g34, 0, none⟩)), (5, .bool r29)] _ _
 obtain ⟨H449, hi452, hi453, hi454, hj451⟩ := dm395.1 hf450
 have hl455 := abs_len hi452
 refine Wp.region (fw (.int .i64 ((k366 + 1 : Nat) : Int)) (Yl.int (e := IntKind.i64.wrap (((k366 : Nat) : Int) + 1)) yk (by rw [IntWalk.i64_in _ (by omega)]; omega)) (Mz rfl (WL.nil ?_)))
 have H456 := H449.pk [1, 0, 2, 3]
 exact Fin.round (k366 + 1, A389, c390, d392, l391) ⟨rfl, rfl, rfl, rfl, rfl, rfl, trivial⟩ (dm378.2 ⟨H456, by exact hi452, by omega, by first | assumption | exact sound_nil, by first | omega | exact Sound.len (by assumption) | exact Nat.zero_le _, et (hq379) (et (congrArg (fun q => w16_LocksElder_L5 r29 q l369) hd388) (lpS_l hj451))⟩) (by show r357.length - (k366 + 1) < r357.length - k366; omega)
 refine jF (dF h385) (Wp.exit (Fin.thenX ?_))
 have hL457 : w16_LocksElder_L5 r29 r357 r161.xrows.ls = Sum.inl l369 := et (hq379) (et (congrArg (fun q => w16_LocksElder_L5 r29 q l369) (drop_end (ls := r357) (i := k366) (by omega))) rfl)
 refine Fin.thenX (Fin.blockX (Fin.then (Wp.seq ?_)))
 have H458 := H374.pk [1, 2, 3]
 refine Wp.region (Mz rfl (Mz rfl ?_))
 rcases Bool.eq_false_or_eq_true (r29) with h459 | h459
 refine WL.valG (v := .pointer (some ⟨g34, 0, none⟩)) rfl rfl h459 rfl (Yl.move rfl) ?_
 have hb465 := H458.rowC (i := 1) rfl
 obtain ⟨r466, hr467⟩ : ∃ q, locks_Table_Holds (TableT.mk (Ll.mk l369)) 0 = q := ⟨_, rfl⟩
 obtain ⟨D460, HP461, ro462, bk463, rr464⟩ := Own.enter1 H458
 refine WL.doG rfl rfl h459 rfl (Do.call Try.call17 rfl (locks_Table_Holds_ok _ _ g34 (TableT.mk (Ll.mk l369)) A367 c368 d370 0 r466 HP461 hi380 (rr464 _ 0 _ rfl row_rds) (show l369.length ≤ c368 ∧ l369.length ≤ 9223372036854775807 from by omega) (fun x9 h9 => ⟨rr464 _ 1 _ rfl (sepL_mem (List.mem_flatMap.2 ⟨x9, h9, .head _⟩) row_rds), own_rd (φ := fun _ => _) H458 (i := 2) rfl (sepL_mem (List.mem_flatMap.2 ⟨x9, h9, .head _⟩) row_le2)⟩) (by first | omega | (dsimp only; omega)) (by first | assumption | exact Sound.hd (by assumption)) hr467) ?_)
 rintro _ w468 ⟨A471, c472, rfl, HQ469⟩
 have H470 := bk463 _ _ HQ469
 have hb473 := H470.rowC (i := 0) rfl
 refine Gz (.int .i64 ((r466.length : Nat) : Int)) h459 (Gz (.bool (decide (((r466.length : Nat) : Int) = 1))) h459 (fw (.bool (decide (((r466.length : Nat) : Int) = 1))) (Yl.pickT rfl h459 rfl) (An rfl (rt (rs ?_)))))
 have H474 := H470.pk []
 obtain rfl : _ = decide (((r466.length : Nat) : Int) = 1) := hr.symm.trans (et (bnd_of hr30) (et (iN h37) (et (bnd_of hr47) (et (ip h51) (et (bnd_of hL150) (et (bnd_of hr162) (et (ip h183) (et (iN h184) (et (ip h330) (et (lp_l hL349) (et (bnd_of hr358) (et (lp_l hL457) (et (ip h459) (bnd_of hr467))))))))))))))
 exact ⟨rfl, H474⟩
 refine Sz h459 (Sz h459 (Sz h459 (Sz h459 (fw (.bool false) (Yl.pickF rfl h459 rfl) (An rfl (rt (rs ?_)))))))
 have H475 := H458.pk []
 obtain rfl : _ = false := hr.symm.trans (et (bnd_of hr30) (et (iN h37) (et (bnd_of hr47) (et (ip h51) (et (bnd_of hL150) (et (bnd_of hr162) (et (ip h183) (et (iN h184) (et (ip h330) (et (lp_l hL349) (et (bnd_of hr358) (et (lp_l hL457) (ifF h459)))))))))))))
 exact ⟨rfl, H475⟩
 refine jT (dT h330) (sr (An rfl (rt (tR (rs ?_)))))
 have H476 := H182.pk []
 obtain rfl : _ = false := hr.symm.trans (et (bnd_of hr30) (et (iN h37) (et (bnd_of hr47) (et (ip h51) (et (bnd_of hL150) (et (bnd_of hr162) (et (ip h183) (et (iN h184) (iN h330)))))))))
 exact ⟨rfl, H476⟩
 refine Sz (dT h183) (Sz (dT h183) (Sz (dT h183) (WL.skipU rfl rfl rfl (WL.skipU rfl rfl rfl (Sz (dT h183) (fw (.bool true) (Yl.pickT rfl (dT h183) rfl) (nt (jt (sr (An rfl (rt (tR (rs ?_)))))))))))))
 have H477 := H182.pk []
 obtain rfl : _ = false := hr.symm.trans (et (bnd_of hr30) (et (iN h37) (et (bnd_of hr47) (et (ip h51) (et (bnd_of hL150) (et (bnd_of hr162) (iN h183)))))))
 exact ⟨rfl, H477⟩
 refine jT (dT h51) (sr (Mz rfl (Mz rfl ?_)))
 rcases Bool.eq_false_or_eq_true (r29) with h478 | h478
 refine WL.valG (v := .pointer (some ⟨g34, 0, none⟩)) rfl rfl h478 rfl (Yl.move rfl) (Gz (.bool true) h478 (fw (.bool true) (Yl.pickT rfl h478 rfl) (An rfl (rt (tR (rs ?_))))))
 have H479 := H50.pk []
 obtain rfl : _ = true := hr.symm.trans (et (bnd_of hr30) (et (iN h37) (et (bnd_of hr47) (et (iN h51) (ip h478)))))
 exact ⟨rfl, H479⟩
 refine Sz h478 (Sz h478 (fw (.bool false) (Yl.pickF rfl h478 rfl) (An rfl (rt (tR (rs ?_))))))
 have H480 := H50.pk []
 obtain rfl : _ = false := hr.symm.trans (et (bnd_of hr30) (et (iN h37) (et (bnd_of hr47) (et (iN h51) (ifF h478)))))
 exact ⟨rfl, H480⟩
end Go.Proofs.Ytggnajpokhaaiaa
