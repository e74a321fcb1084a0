/-
 locks: the law LocksGoes
-/
import Derived.Test.YtggnajpokhaaiaaLw
namespace Go.Proofs.Ytggnajpokhaaiaa
open Go.RowKit
set_option linter.unusedVariables false
set_option linter.unusedSectionVars false
set_option linter.unusedSimpArgs false
theorem El22 : Elem Try.prog 22 36 6 64 := elem_of (z := .agg #[.int .i64 0, .int .u64 0, .string ⟨List.toArray ([])⟩, .string ⟨List.toArray ([])⟩, .bool false, .bool false]) Try.underlying22 (by kernel_rfl) rfl (by decide)
structure OpD where
 xDo : Int
 xTxn : Nat
 xLock : LockD
 xClone : Bool
def OpD.cells (x : OpD) : List Value := [.int .i64 x.xDo, .int .u64 ((x.xTxn : Nat) : Int), .string ⟨List.toArray x.xLock.xRange.xLo⟩, .string ⟨List.toArray x.xLock.xRange.xHi⟩, .bool x.xLock.xWrite, .bool x.xClone]
instance : Bk OpD := ⟨fun x _ => bk x.xDo + (bk x.xTxn + (bk x.xLock + (bk x.xClone + (0))))⟩
theorem OpD.len : ∀ x, (OpD.cells x).length = 6 := fun _ => rfl
theorem OpD.one : ∀ x, ∀ u ∈ OpD.cells x, u.oneCell' = true := fun x u hu => by
 simp only [OpD.cells, List.mem_cons, List.not_mem_nil, or_false] at hu
 rcases hu with rfl | rfl | rfl | rfl | rfl | rfl <;> rfl
def OpD.Ok (w : World) (x : OpD) : Prop := ((-9223372036854775808) ≤ x.xDo ∧ x.xDo ≤ 9223372036854775807) ∧ (x.xTxn ≤ 18446744073709551615) ∧ (LockD.Ok w x.xLock) ∧ (True)
set_option maxRecDepth 100000 in
theorem opens_OpD (w : World) : Opens Try.prog w 36 6 OpD.cells (OpD.Ok w) :=
 (opens_struct (sz := 6) Try.underlying36 (by kernel_rfl) (OpensF.cons (i := 0) (off := 0) (s := 1) rfl rfl (opens_int (k := .i64) (lo := -9223372036854775808) (hi := 9223372036854775807) Try.underlying3 (by kernel_rfl) (by decide) (by decide)) (OpensF.cons (i := 1) (off := 1) (s := 1) rfl rfl (opens_nat (k := .u64) (hi := 18446744073709551615) Try.underlying30 (by kernel_rfl) (by decide) (by decide)) (OpensF.cons (i := 2) (off := 2) (s := 3) rfl rfl (opens_LockD w) (OpensF.cons (i := 3) (off := 5) (s := 1) rfl rfl (opens_bool Try.underlying4 (by kernel_rfl)) OpensF.nil))))).map (fun p => ⟨p.1, p.2.1, p.2.2.1, p.2.2.2.1⟩) OpD.len (fun _ => rfl) (fun _ h => ⟨h.1, h.2.1, h.2.2.1, h.2.2.2.1⟩) fun _ => Nat.le_refl _
instance : Inhabited OpD := ⟨⟨default, default, default, default⟩⟩
def w16_LocksGoes_L0 (r26 : Bool) : List OpD → List rowT → List HeldD → List HeldD → Unit ⊕ Bool
  | [], l48, l53, l56 => Sum.inl ()
  | x73 :: q57, l48, l53, l56 => if x73.xDo = 0 then bnd (locks_Table_Ask (TableT.mk (Ll.mk l48)) x73.xTxn x73.xLock) fun yr88 => bnd (r16_Table_Ask (TableDT.mk (Ll.mk l53) (Ll.mk l56)) x73.xTxn x73.xLock) fun yr119 => if yr88.1 = yr119.1 then bnd (w16_numbers yr88.2.1 yr119.2.1) fun yr151 => if yr151.1 = true then bnd (w16_numbers yr88.2.2.1 yr119.2.2.1) fun yr165 => if yr165.1 = true then if yr88.2.2.2.1 = yr119.2.2.2.1 then bnd (w16_same yr88.2.2.2.2 yr119.2.2.2.2) fun yr184 => if yr184 = true then if x73.xClone = true then bnd (locks_Table_Clone yr88.2.2.2.2) fun yr197 => w16_LocksGoes_L0 r26 q57 yr197.xrows.ls yr119.2.2.2.2.xH.ls yr119.2.2.2.2.xW.ls else w16_LocksGoes_L0 r26 q57 yr88.2.2.2.2.xrows.ls yr119.2.2.2.2.xH.ls yr119.2.2.2.2.xW.ls else Sum.inr (false) else Sum.inr (false) else Sum.inr (false) else Sum.inr (false) else Sum.inr (false) else bnd (locks_Table_Release (TableT.mk (Ll.mk l48)) x73.xTxn) fun yr289 => bnd (r16_Table_Release (TableDT.mk (Ll.mk l53) (Ll.mk l56)) x73.xTxn) fun yr318 => bnd (w16_numbers yr289.1 yr318.1) fun yr347 => if yr347.1 = true then bnd (w16_numbers yr289.2.1 yr318.2.1) fun yr361 => if yr361.1 = true then bnd (w16_same yr289.2.2 yr318.2.2) fun yr379 => if yr379 = true then if x73.xClone = true then bnd (locks_Table_Clone yr289.2.2) fun yr392 => w16_LocksGoes_L0 r26 q57 yr392.xrows.ls yr318.2.2.xH.ls yr318.2.2.xW.ls else w16_LocksGoes_L0 r26 q57 yr289.2.2.xrows.ls yr318.2.2.xH.ls yr318.2.2.xW.ls else Sum.inr (false) else Sum.inr (false) else Sum.inr (false)
def w16_LocksGoes (l0 : List OpD) : Bool :=
 bnd (w16_live) fun yr26 => if ((l0.length : Nat) : Int) > 200 then if yr26 = true then true else false else lp (w16_LocksGoes_L0 yr26 l0 ([]) ([]) ([])) fun _ => yr26
set_option maxRecDepth 100000 in
set_option maxHeartbeats 2000000 in
theorem w16_LocksGoes_ok (w : World) (D : Nat → Prop) (A0 : Option Addr) (n0 c0 : Nat) (l0 : List OpD) (r0 : Bool) (H : Own w D w []) (hx0 : Ro w D fun w' => Rds w' 6 A0 n0 (List.flatMap OpD.cells l0)) (hn0 : n0 = l0.length) (hl0 : l0.length * 64 ≤ 211106232532992) (hh0 : l0.length * 64 ≤ 140737488351232) (hr : w16_LocksGoes l0 = r0) :
    Calls Try.prog 3 #[.slice A0 n0 c0] w (Ret fun v w' => v = .bool r0 ∧ Own w D w' []) := by
 subst hn0
 refine Calls.body (args := [.slice A0 l0.length c0]) Try.func3 rfl rfl rfl ?_
 show Wp _ _ _ [(0, .slice A0 l0.length c0)] _ _
 refine sr (Ar rfl ?_)
 obtain ⟨r26, hr27⟩ : ∃ q, w16_live = q := ⟨_, rfl⟩
 obtain ⟨D21, HP22, ro23, bk24, rr25⟩ := Own.enter0 H
 refine cl Try.call8 (w16_live_ok _ _ r26 HP22 hr27) ?_
 rintro _ w28 ⟨rfl, HQ29⟩
 have H30 := bk24 _ _ HQ29
 refine Ar rfl ?_
 refine WL.do rfl (Do.call Try.call9 rfl ?_ (fun _ _ k => k))
 refine Calls.body (args := []) Try.func9 rfl rfl rfl ?_
 show Wp _ _ _ [] _ _
 refine sr (Ar rfl (Kz (.agg #[.slice none 0 0]) ?_))
 refine npw [.slice none 0 0] 59 H30 ?_
 intro g31 w32 H33
 refine An rfl (rt (rs (Ar rfl (Kz (.agg #[.slice none 0 0, .slice none 0 0]) ?_))))
 refine npw [.slice none 0 0, .slice none 0 0] 29 H33 ?_
 intro g34 w35 H36
 refine An rfl (Wp.seq (sr (Mz rfl (Kz (.bool false) (Mz rfl (gw (.slice A0 l0.length c0) rfl (Yl.move rfl) (Gz (.int .i64 ((l0.length : Nat) : Int)) rfl (Gz (.bool (decide (((l0.length : Nat) : Int) > 200))) rfl (fw (.bool (decide (((l0.length : Nat) : Int) > 200))) (Yl.pickF rfl rfl rfl) (nt ?_))))))))))
 by_cases h37 : ((l0.length : Nat) : Int) > 200
 refine jT (dT h37) (sr (Mz rfl (Mz rfl ?_)))
 rcases Bool.eq_false_or_eq_true (r26) with h38 | h38
 refine WL.valG (v := .pointer (some ⟨g31, 0, none⟩)) rfl rfl h38 rfl (Yl.move rfl) (Gz (.bool true) h38 (fw (.bool true) (Yl.pickT rfl h38 rfl) (An rfl (rt (tR (rs ?_))))))
 have H39 := H36.pk []
 obtain rfl : _ = true := hr.symm.trans (et (bnd_of hr27) (et (ip h37) (ip h38)))
 exact ⟨rfl, H39⟩
 refine Sz h38 (Sz h38 (fw (.bool false) (Yl.pickF rfl h38 rfl) (An rfl (rt (tR (rs ?_))))))
 have H40 := H36.pk []
 obtain rfl : _ = false := hr.symm.trans (et (bnd_of hr27) (et (ip h37) (ifF h38)))
 exact ⟨rfl, H40⟩
 refine jF (dF h37) (sk (Wp.seq (sr (Mz rfl (Kz (.int .i64 ((l0.length : Nat) : Int)) (Mn rfl (bo ?_)))))))
 have H41 : Own w D w35 [row none 0 0 (List.flatMap HeldD.cells ([])) 73 4, blk g34 [.slice none 0 0, .slice none 0 0] 29, blk g31 [.slice none 0 0] 59] := H36.free (row_nil 73 4)
 have H42 : Own w D w35 [row none 0 0 (List.flatMap HeldD.cells ([])) 73 4, row none 0 0 (List.flatMap HeldD.cells ([])) 73 4, blk g34 [.slice none 0 0, .slice none 0 0] 29, blk g31 [.slice none 0 0] 59] := H41.free (row_nil 73 4)
 have H43 : Own w D w35 [sepL (List.flatMap rowD.own ([])), row none 0 0 (List.flatMap HeldD.cells ([])) 73 4, row none 0 0 (List.flatMap HeldD.cells ([])) 73 4, blk g34 [.slice none 0 0, .slice none 0 0] 29, blk g31 [.slice none 0 0] 59] := H42.sepNil
 have H44 : Own w D w35 [row none 0 0 (List.flatMap rowD.cells ([])) 72 6, sepL (List.flatMap rowD.own ([])), row none 0 0 (List.flatMap HeldD.cells ([])) 73 4, row none 0 0 (List.flatMap HeldD.cells ([])) 73 4, blk g34 [.slice none 0 0, .slice none 0 0] 29, blk g31 [.slice none 0 0] 59] := H43.free (row_nil 72 6)
 have H58 := H44.pk [5, 4, 0, 1, 3, 2]
 obtain ⟨I62, hI63⟩ : ∃ q : (Nat × (Option Addr) × Nat × (List rowD) × (List rowT) × Nat × (Option Addr) × Nat × (List HeldD) × (Option Addr) × Nat × (List HeldD)) → World → Prop, q = fun (i : Nat × (Option Addr) × Nat × (List rowD) × (List rowT) × Nat × (Option Addr) × Nat × (List HeldD) × (Option Addr) × Nat × (List HeldD)) w' => Own w D w' [blk i.1 [.slice i.2.1 i.2.2.2.2.1.length i.2.2.1] 59, blk g34 [.slice i.2.2.2.2.2.2.1 i.2.2.2.2.2.2.2.2.1.length i.2.2.2.2.2.2.2.1, .slice i.2.2.2.2.2.2.2.2.2.1 i.2.2.2.2.2.2.2.2.2.2.2.length i.2.2.2.2.2.2.2.2.2.2.1] 29, row i.2.1 i.2.2.2.2.1.length i.2.2.1 (List.flatMap rowD.cells i.2.2.2.1) 72 6, sepL (List.flatMap rowD.own i.2.2.2.1), row i.2.2.2.2.2.2.1 i.2.2.2.2.2.2.2.2.1.length i.2.2.2.2.2.2.2.1 (List.flatMap HeldD.cells i.2.2.2.2.2.2.2.2.1) 73 4, row i.2.2.2.2.2.2.2.2.2.1 i.2.2.2.2.2.2.2.2.2.2.2.length i.2.2.2.2.2.2.2.2.2.2.1 (List.flatMap HeldD.cells i.2.2.2.2.2.2.2.2.2.2.2) 73 4] ∧ (List.map rowD.abs i.2.2.2.1 = i.2.2.2.2.1 ∧ i.2.2.2.2.2.1 ≤ l0.length ∧ Sound i.2.2.2.2.1 ∧ i.2.2.2.2.1.length ≤ 192 ∧ i.2.2.2.2.2.2.2.2.1.length + i.2.2.2.2.2.2.2.2.2.2.2.length ≤ 192 ∧ w16_LocksGoes_L0 r26 l0 ([]) ([]) ([]) = w16_LocksGoes_L0 r26 (List.drop i.2.2.2.2.2.1 l0) i.2.2.2.2.1 i.2.2.2.2.2.2.2.2.1 i.2.2.2.2.2.2.2.2.2.2.2) := ⟨_, rfl⟩
 have dm64 : ∀ {g45 : Nat} {A46 : Option Addr} {c47 : Nat} {d49 : List rowD} {l48 : List rowT} {k50 : Nat} {A51 : Option Addr} {c52 : Nat} {l53 : List HeldD} {A54 : Option Addr} {c55 : Nat} {l56 : List HeldD} {w' : World}, I62 (g45, A46, c47, d49, l48, k50, A51, c52, l53, A54, c55, l56) w' ↔ Own w D w' [blk g45 [.slice A46 l48.length c47] 59, blk g34 [.slice A51 l53.length c52, .slice A54 l56.length c55] 29, row A46 l48.length c47 (List.flatMap rowD.cells d49) 72 6, sepL (List.flatMap rowD.own d49), row A51 l53.length c52 (List.flatMap HeldD.cells l53) 73 4, row A54 l56.length c55 (List.flatMap HeldD.cells l56) 73 4] ∧ List.map rowD.abs d49 = l48 ∧ k50 ≤ l0.length ∧ Sound l48 ∧ l48.length ≤ 192 ∧ l53.length + l56.length ≤ 192 ∧ w16_LocksGoes_L0 r26 l0 ([]) ([]) ([]) = w16_LocksGoes_L0 r26 (List.drop k50 l0) l48 l53 l56 := by intros; subst hI63; exact Iff.rfl
 refine Wp.loop (fun i : Nat × (Option Addr) × Nat × (List rowD) × (List rowT) × Nat × (Option Addr) × Nat × (List HeldD) × (Option Addr) × Nat × (List HeldD) => [(2, .bool false), (4, .pointer (some ⟨i.1, 0, none⟩)), (40, .int .i64 ((i.2.2.2.2.2.1 : Nat) : Int)), (39, .int .i64 ((l0.length : Nat) : Int)), (38, .slice A0 l0.length c0), (5, .pointer (some ⟨g34, 0, none⟩)), (3, .bool r26)]) I62 (fun i => l0.length - i.2.2.2.2.2.1) (g31, none, 0, [], [], 0, none, 0, [], none, 0, []) ⟨rfl, rfl, rfl, rfl, rfl, rfl, rfl, trivial⟩ (dm64.2 ⟨H58, (show List.map rowD.abs ([]) = ([]) ∧ 0 ≤ l0.length ∧ Sound ([]) ∧ 0 ≤ 192 ∧ 0 + 0 ≤ 192 ∧ w16_LocksGoes_L0 r26 l0 ([]) ([]) ([]) = w16_LocksGoes_L0 r26 (List.drop 0 l0) ([]) ([]) ([]) from ⟨by exact rfl, by omega, by first | assumption | exact sound_nil, by first | omega | exact Sound.len (by assumption) | exact Nat.zero_le _, by first | omega | exact Nat.zero_le _, rfl⟩)⟩) ?_
 rintro ⟨g45, A46, c47, d49, l48, k50, A51, c52, l53, A54, c55, l56⟩ w59 hf61
 show Wp _ _ _ [(2, .bool false), (4, .pointer (some ⟨g45, 0, none⟩)), (40, .int .i64 ((k50 : Nat) : Int)), (39, .int .i64 ((l0.length : Nat) : Int)), (38, .slice A0 l0.length c0), (5, .pointer (some ⟨g34, 0, none⟩)), (3, .bool r26)] _ _
 obtain ⟨H60, hi66, hi67, hi68, hi69, hi70, hq65⟩ := dm64.1 hf61
 have hl71 := abs_len hi66
 refine sr (Kz (.bool (decide (((k50 : Nat) : Int) < ((l0.length : Nat) : Int)))) (nt (Wp.seq ?_)))
 by_cases h72 : ((k50 : Nat) : Int) < ((l0.length : Nat) : Int)
 obtain ⟨x73, hx74⟩ := rds_at (ls := l0) (i := k50) OpD.len (by decide) (H60.ro hx0) (by first | omega | (simp; done) | (simp; omega))
 have hd75 := drop_at hx74
 refine jT (dT h72) (sk (Wp.seq (bo (sr (fw (.pointer (some ⟨ab A0, ao A0 + k50 * 6, none⟩)) (Yl.indexAddr (El22) rfl rfl ((H60.ro hx0).addr (i := k50) (by omega)) (by omega)) (fw (.agg (OpD.cells x73).toArray) (Yl.load rfl (Lds.agg (cs := (OpD.cells x73)) Try.isAgg36 Try.sizeOf36 ((H60.ro hx0).elem OpD.len hx74 (by decide)))) ?_))))))
 refine npw [.int .i64 0, .int .u64 0, .string ⟨List.toArray ([])⟩, .string ⟨List.toArray ([])⟩, .bool false, .bool false] 36 H60 ?_
 intro g76 w77 H78
 refine sto (OpD.cells x73) 0 H78 Try.sizeOf36 ?_
 intro w79 H80
 refine ns (An rfl (Wp.seq (sr (Kz (.pointer (some ⟨g76, 0, none⟩)) (Lz (.int .i64 x73.xDo) H80 0 Try.isAgg3 (Kz (.bool (decide (x73.xDo = 0))) (nt ?_)))))))
 by_cases h81 : x73.xDo = 0
 refine jT (dT h81) (sr (Mz rfl (Kz (.pointer (some ⟨g76, 1, none⟩)) (Lz (.int .u64 ((x73.xTxn : Nat) : Int)) H80 0 Try.isAgg30 (Kz (.pointer (some ⟨g76, 2, none⟩)) (La (LockD.cells x73.xLock) H80 0 Try.isAgg34 Try.sizeOf34 ?_))))))
 have H82 := H80.pk [1, 3, 4, 0, 2, 5, 6]
 obtain ⟨⟨r88, r89, r90, r91, r92⟩, hr93⟩ : ∃ q : Int × (List Nat) × (List Nat) × Int × TableT, locks_Table_Ask (TableT.mk (Ll.mk l48)) x73.xTxn x73.xLock = q := ⟨_, rfl⟩
 obtain ⟨D83, HP84, ro85, bk86, rr87⟩ := Own.enter3 H82
 refine cl Try.call10 (locks_Table_Ask_ok _ _ g45 (TableT.mk (Ll.mk l48)) A46 c47 d49 x73.xTxn x73.xLock r88 r89 r90 r91 r92 HP84 hi66 (by first | omega | (dsimp only; omega) | exact Sound.len (by assumption) | exact Nat.zero_le _) (by first | assumption | exact Sound.hd (by assumption) | exact Sound.hd sound_nil) (by first | assumption | exact sound_nil) hr93) ?_
 rintro _ w94 ⟨A97, c98, A99, c100, A101, c102, d103, rfl, HQ95, hd104⟩
 have H96 := bk86 _ _ HQ95
 have hl105 := abs_len hd104
 have hb106 := H96.rowC (i := 0) rfl
 have hb107 := H96.rowC (i := 1) rfl
 have hb108 := H96.rowC (i := 3) rfl
 have hz109 := ask_sound (m := l48) (by first | assumption | exact sound_nil) hr93
 replace hz109 : Sound r92.xrows.ls := hz109
 have hl110 : r92.xrows.ls.length ≤ 192 := hz109.len
 obtain ⟨hl111, hl112⟩ := ask_lens (m := l48) (by first | assumption | exact sound_nil) hr93
 replace hl111 : r89.length ≤ 400 := hl111
 replace hl112 : r90.length ≤ 400 := hl112
 refine Mz rfl (Kz (.int .i64 r88) (Kz (.slice A97 r89.length c98) (Kz (.slice A99 r90.length c100) (Kz (.int .i64 r91) (Az rfl (Az rfl (Az rfl (Ar rfl (Mz rfl (Kz (.pointer (some ⟨g76, 1, none⟩)) (Lz (.int .u64 ((x73.xTxn : Nat) : Int)) H96 5 Try.isAgg30 (Kz (.pointer (some ⟨g76, 2, none⟩)) (La (LockD.cells x73.xLock) H96 5 Try.isAgg34 Try.sizeOf34 ?_)))))))))))))
 have H113 := H96.pk [6, 7, 8, 0, 1, 2, 3, 4, 5]
 obtain ⟨⟨r119, r120, r121, r122, r123⟩, hr124⟩ : ∃ q : Int × (List Nat) × (List Nat) × Int × TableDT, r16_Table_Ask (TableDT.mk (Ll.mk l53) (Ll.mk l56)) x73.xTxn x73.xLock = q := ⟨_, rfl⟩
 obtain ⟨D114, HP115, ro116, bk117, rr118⟩ := Own.enter3 H113
 refine cl Try.call11 (r16_Table_Ask_ok _ _ g34 (TableDT.mk (Ll.mk l53) (Ll.mk l56)) A51 c52 A54 c55 x73.xTxn x73.xLock r119 r120 r121 r122 r123 HP115 (by first | omega | (dsimp only; omega)) hr124) ?_
 rintro _ w125 ⟨A128, c129, A130, c131, A132, c133, A134, c135, rfl, HQ126⟩
 have H127 := bk117 _ _ HQ126
 have hb136 := H127.rowC (i := 0) rfl
 have hb137 := H127.rowC (i := 1) rfl
 have hb138 := H127.rowC (i := 3) rfl
 have hb139 := H127.rowC (i := 4) rfl
 obtain ⟨hl141, hl142, hl143⟩ := rask_small (by first | omega | (dsimp only; omega)) hr124
 replace hl141 : r123.xH.ls.length + r123.xW.ls.length ≤ 192 := hl141
 replace hl142 : r120.length ≤ 1000000 := hl142
 replace hl143 : r121.length ≤ 1000000 := hl143
 refine Mz rfl (Kz (.int .i64 r119) (Kz (.slice A128 r120.length c129) (Kz (.slice A130 r121.length c131) (Kz (.int .i64 r122) (Az rfl (Az rfl (Az rfl (An rfl (Wp.region (Mz rfl (Mz rfl (Kz (.bool (decide (r88 = r119))) (Mz rfl ?_)))))))))))))
 by_cases h144 : r88 = r119
 refine gw (.slice A97 r89.length c98) (dT h144) (Yl.move rfl) (gw (.slice A128 r120.length c129) (dT h144) (Yl.move rfl) ?_)
 have H145 := H127.pk [5, 0, 1, 2, 3, 4, 6, 7, 8, 9, 10]
 obtain ⟨⟨r151, r152⟩, hr153⟩ : ∃ q : Bool × (List Nat), w16_numbers r89 r120 = q := ⟨_, rfl⟩
 obtain ⟨D146, HP147, ro148, bk149, rr150⟩ := Own.enter1 H145
 refine clG (dT h144) Try.call12 (w16_numbers_ok _ _ A97 r89.length c98 r89 A128 r120.length c129 r120 r151 r152 HP147 rfl (by omega) (rr150 _ 0 _ rfl row_rds) rfl (by omega) (by omega) hr153) ?_
 rintro _ w154 ⟨rfl, HQ155⟩
 have H156 := bk149 _ _ HQ155
 have hb157 := H156.rowC (i := 0) rfl
 refine fw (.bool r151) (Yl.pickT rfl (dT h144) rfl) (Mz rfl ?_)
 rcases Bool.eq_false_or_eq_true (r151) with h158 | h158
 refine WL.valG (v := .slice A99 r90.length c100) rfl rfl h158 rfl (Yl.move rfl) (WL.valG (v := .slice A130 r121.length c131) rfl rfl h158 rfl (Yl.move rfl) ?_)
 have H159 := H156.pk [6, 0, 1, 2, 3, 4, 5, 7, 8, 9, 10]
 obtain ⟨⟨r165, r166⟩, hr167⟩ : ∃ q : Bool × (List Nat), w16_numbers r90 r121 = q := ⟨_, rfl⟩
 obtain ⟨D160, HP161, ro162, bk163, rr164⟩ := Own.enter1 H159
 refine WL.doG rfl rfl h158 rfl (Do.call Try.call12 rfl (w16_numbers_ok _ _ A99 r90.length c100 r90 A130 r121.length c131 r121 r165 r166 HP161 rfl (by omega) (rr164 _ 2 _ rfl row_rds) rfl (by omega) (by omega) hr167) ?_)
 rintro _ w168 ⟨rfl, HQ169⟩
 have H170 := bk163 _ _ HQ169
 have hb171 := H170.rowC (i := 0) rfl
 refine fw (.bool r165) (Yl.pickT rfl h158 rfl) (Mz rfl ?_)
 rcases Bool.eq_false_or_eq_true (r165) with h172 | h172
 refine WL.valG (v := .int .i64 r91) rfl rfl h172 rfl (Yl.move rfl) (WL.valG (v := .int .i64 r122) rfl rfl h172 rfl (Yl.move rfl) (Gz (.bool (decide (r91 = r122))) h172 (fw (.bool (decide (r91 = r122))) (Yl.pickT rfl h172 rfl) (An rfl (Wp.seq (Wp.seq ?_))))))
 have H173 := H170.pk [4, 5, 6, 7, 8, 9, 10]
 refine Wp.region (Mz rfl (fw (.bool (decide (¬ (r91 = r122)))) (Yl.bool (e := !(decide (r91 = r122))) yk decide_not.symm) (Mz rfl ?_)))
 by_cases h174 : r91 = r122
 refine gw (.pointer (some ⟨g45, 0, none⟩)) (dF (not_not_intro h174)) (Yl.move rfl) (gw (.pointer (some ⟨g34, 0, none⟩)) (dF (not_not_intro h174)) (Yl.move rfl) ?_)
 have H175 := H173.pk [3, 0, 1, 2, 4, 5, 6]
 have hb181 := H175.rowC (i := 4) rfl
 have hb182 := H175.rowC (i := 2) rfl
 have hb183 := H175.rowC (i := 3) rfl
 obtain ⟨r184, hr185⟩ : ∃ q, w16_same r92 r123 = q := ⟨_, rfl⟩
 obtain ⟨D176, HP177, ro178, bk179, rr180⟩ := Own.enter2 H175
 refine clG (decide_eq_false (not_not_intro h174)) Try.call15 (w16_same_ok _ _ g45 r92 A101 c102 d103 g34 r123 A132 c133 A134 c135 r184 HP177 hd104 (rr180 _ 2 _ rfl row_rds) (show r92.xrows.ls.length ≤ c102 ∧ r92.xrows.ls.length ≤ 9223372036854775807 from by omega) (fun x9 h9 => ⟨rr180 _ 3 _ rfl (sepL_mem (List.mem_flatMap.2 ⟨x9, h9, .head _⟩) row_rds), own_rd (φ := fun _ => _) H175 (i := 5) rfl (sepL_mem (List.mem_flatMap.2 ⟨x9, h9, .head _⟩) row_le2)⟩) (rr180 _ 0 _ rfl row_rds) (show r123.xH.ls.length ≤ c133 ∧ r123.xH.ls.length ≤ 9223372036854775807 from by omega) (rr180 _ 1 _ rfl row_rds) (show r123.xW.ls.length ≤ c135 ∧ r123.xW.ls.length ≤ 9223372036854775807 from by omega) (by first | omega | (dsimp only; omega) | exact Sound.len (by assumption) | exact Nat.zero_le _) (by first | assumption | exact Sound.hd (by assumption) | exact Sound.hd sound_nil) (by first | assumption | exact sound_nil) (by first | omega | (dsimp only; omega)) hr185) ?_
 rintro _ w186 ⟨rfl, HQ187⟩
 have H188 := bk179 _ _ HQ187
 refine gw (.bool (!r184)) (dF (not_not_intro h174)) yk (fw (.bool (!r184)) (Yl.pickF rfl (dF (not_not_intro h174)) rfl) (nt ?_))
 rcases Bool.eq_false_or_eq_true (r184) with h189 | h189
 refine jF (cn h189) (sk (sr (Kz (.pointer (some ⟨g76, 5, none⟩)) (Lz (.bool x73.xClone) H188 6 Try.isAgg4 (nt ?_)))))
 rcases Bool.eq_false_or_eq_true (x73.xClone) with h190 | h190
 refine jT h190 (sr (Mz rfl ?_))
 have hb196 := H188.rowC (i := 4) rfl
 obtain ⟨r197, hr198⟩ : ∃ q, locks_Table_Clone r92 = q := ⟨_, rfl⟩
 obtain ⟨D191, HP192, ro193, bk194, rr195⟩ := Own.enter1 H188
 refine cl Try.call16 (locks_Table_Clone_ok _ _ g45 r92 A101 c102 d103 r197 HP192 hd104 (rr195 _ 3 _ rfl row_rds) (show r92.xrows.ls.length ≤ c102 ∧ r92.xrows.ls.length ≤ 9223372036854775807 from by omega) (fun x9 h9 => ⟨rr195 _ 4 _ rfl (sepL_mem (List.mem_flatMap.2 ⟨x9, h9, .head _⟩) row_rds), own_rd (φ := fun _ => _) H188 (i := 5) rfl (sepL_mem (List.mem_flatMap.2 ⟨x9, h9, .head _⟩) row_le2)⟩) (by first | omega | (dsimp only; omega)) (by first | assumption | exact Sound.hd (by assumption)) hr198) ?_
 rintro _ w199 ⟨g202, A203, c204, d205, rfl, HQ200, hd206⟩
 have H201 := bk194 _ _ HQ200
 have hl207 := abs_len hd206
 have hb208 := H201.rowC (i := 1) rfl
 have hz209 := clone_sound (by assumption) hr198
 replace hz209 : Sound r197.xrows.ls := hz209
 have hl210 : r197.xrows.ls.length ≤ 192 := hz209.len
 refine An rfl (Wp.seq (sr (Mz rfl (Kz (.bool false) (nt (jf (sk (sr (Mz rfl (Kz (.pointer (some ⟨g76, 1, none⟩)) (Lz (.int .u64 ((x73.xTxn : Nat) : Int)) H201 9 Try.isAgg30 ?_)))))))))))
 have H211 := H201.pk [3, 7, 8, 0, 1, 2, 4, 5, 6, 9]
 obtain ⟨⟨r217, r218, r219⟩, hr220⟩ : ∃ q : (List Nat) × (List Nat) × TableT, locks_Table_Release r92 x73.xTxn = q := ⟨_, rfl⟩
 obtain ⟨D212, HP213, ro214, bk215, rr216⟩ := Own.enter3 H211
 refine cl Try.call13 (locks_Table_Release_ok _ _ g45 r92 A101 c102 d103 x73.xTxn r217 r218 r219 HP213 hd104 (by first | omega | (dsimp only; omega) | exact Sound.len (by assumption) | exact Nat.zero_le _) (by first | assumption | exact Sound.hd (by assumption) | exact Sound.hd sound_nil) (by first | assumption | exact sound_nil) hr220) ?_
 rintro _ w221 ⟨A224, c225, A226, c227, A228, c229, d230, rfl, HQ222, hd231⟩
 have H223 := bk215 _ _ HQ222
 have hl232 := abs_len hd231
 have hb233 := H223.rowC (i := 0) rfl
 have hb234 := H223.rowC (i := 1) rfl
 have hb235 := H223.rowC (i := 3) rfl
 have hz236 := release_sound (m := r92.xrows.ls) (by first | assumption | exact sound_nil) hr220
 replace hz236 : Sound r219.xrows.ls := hz236
 have hl237 : r219.xrows.ls.length ≤ 192 := hz236.len
 obtain ⟨hl238, hl239⟩ := release_lens (m := r92.xrows.ls) (by first | assumption | exact sound_nil) hr220
 replace hl238 : r217.length ≤ 400 := hl238
 replace hl239 : r218.length ≤ 400 := hl239
 refine nt (Wp.seq ?_)
 have H240 := H223.pk [2, 3, 4, 5, 6, 7, 8, 9, 10]
 refine Wp.region (Mz rfl (Kz (.agg #[.string ⟨List.toArray ([])⟩, .string ⟨List.toArray ([])⟩, .bool true]) ?_))
 obtain ⟨⟨r246, r247, r248, r249, r250⟩, hr251⟩ : ∃ q : Int × (List Nat) × (List Nat) × Int × TableT, locks_Table_Ask r219 0 (LockD.mk (RangeD.mk ([]) ([])) true) = q := ⟨_, rfl⟩
 obtain ⟨D241, HP242, ro243, bk244, rr245⟩ := Own.enter3 H240
 refine cl Try.call10 (locks_Table_Ask_ok _ _ g45 r219 A228 c229 d230 0 (LockD.mk (RangeD.mk ([]) ([])) true) r246 r247 r248 r249 r250 HP242 hd231 (by first | omega | (dsimp only; omega) | exact Sound.len (by assumption) | exact Nat.zero_le _) (by first | assumption | exact Sound.hd (by assumption) | exact Sound.hd sound_nil) (by first | assumption | exact sound_nil) hr251) ?_
 rintro _ w252 ⟨A255, c256, A257, c258, A259, c260, d261, rfl, HQ253, hd262⟩
 have H254 := bk244 _ _ HQ253
 have hl263 := abs_len hd262
 have hb264 := H254.rowC (i := 0) rfl
 have hb265 := H254.rowC (i := 1) rfl
 have hb266 := H254.rowC (i := 3) rfl
 have hz267 := ask_sound (m := r219.xrows.ls) (by first | assumption | exact sound_nil) hr251
 replace hz267 : Sound r250.xrows.ls := hz267
 have hl268 : r250.xrows.ls.length ≤ 192 := hz267.len
 obtain ⟨hl269, hl270⟩ := ask_lens (m := r219.xrows.ls) (by first | assumption | exact sound_nil) hr251
 replace hl269 : r247.length ≤ 400 := hl269
 replace hl270 : r248.length ≤ 400 := hl270
 refine nt ?_
 have H271 := H254.pk [2, 3, 4, 5, 6, 7, 8, 9, 10]
 refine Wp.region (Mz rfl (Az rfl (WL.nil (bN (Fin.then (Wp.region (fw (.int .i64 ((k50 + 1 : Nat) : Int)) (Yl.int (e := IntKind.i64.wrap (((k50 : Nat) : Int) + 1)) yk (by rw [IntWalk.i64_in _ (by omega)]; omega)) (Mz rfl (WL.nil ?_)))))))))
 have H272 := H271.pk [3, 6, 4, 5, 7, 8]
 exact Fin.round (g202, A203, c204, d205, r197.xrows.ls, k50 + 1, A132, c133, r123.xH.ls, A134, c135, r123.xW.ls) ⟨rfl, rfl, rfl, rfl, rfl, rfl, rfl, trivial⟩ (dm64.2 ⟨H272, by exact hd206, by omega, by first | assumption | exact sound_nil, by first | omega | exact Sound.len (by assumption) | exact Nat.zero_le _, by first | omega | exact Nat.zero_le _, et (hq65) (et (congrArg (fun q => w16_LocksGoes_L0 r26 q l48 l53 l56) hd75) (et (ip h81) (et (bnd_of hr93) (et (bnd_of hr124) (et (ip h144) (et (bnd_of hr153) (et (ip h158) (et (bnd_of hr167) (et (ip h172) (et (ip h174) (et (bnd_of hr185) (et (ip h189) (et (ip h190) (bnd_of hr198))))))))))))))⟩) (by show l0.length - (k50 + 1) < l0.length - k50; omega)
 refine jF h190 (Wp.skip (bN (Fin.then ?_)))
 have H273 := H188.pk [0, 1, 2, 3, 4, 5]
 refine Wp.region (fw (.int .i64 ((k50 + 1 : Nat) : Int)) (Yl.int (e := IntKind.i64.wrap (((k50 : Nat) : Int) + 1)) yk (by rw [IntWalk.i64_in _ (by omega)]; omega)) (Mz rfl (WL.nil ?_)))
 have H274 := H273.pk [0, 1, 4, 5, 2, 3]
 exact Fin.round (g45, A101, c102, d103, r92.xrows.ls, k50 + 1, A132, c133, r123.xH.ls, A134, c135, r123.xW.ls) ⟨rfl, rfl, rfl, rfl, rfl, rfl, rfl, trivial⟩ (dm64.2 ⟨H274, by exact hd104, by omega, by first | assumption | exact sound_nil, by first | omega | exact Sound.len (by assumption) | exact Nat.zero_le _, by first | omega | exact Nat.zero_le _, et (hq65) (et (congrArg (fun q => w16_LocksGoes_L0 r26 q l48 l53 l56) hd75) (et (ip h81) (et (bnd_of hr93) (et (bnd_of hr124) (et (ip h144) (et (bnd_of hr153) (et (ip h158) (et (bnd_of hr167) (et (ip h172) (et (ip h174) (et (bnd_of hr185) (et (ip h189) (ifF h190)))))))))))))⟩) (by show l0.length - (k50 + 1) < l0.length - k50; omega)
 refine jT (cn h189) (sr (An rfl (rt (tR (bR (tR (tR (bR (tR (rs ?_))))))))))
 have H275 := H188.pk []
 obtain rfl : _ = false := hr.symm.trans (et (bnd_of hr27) (et (iN h37) (lp_r (et (hq65) (et (congrArg (fun q => w16_LocksGoes_L0 r26 q l48 l53 l56) hd75) (et (ip h81) (et (bnd_of hr93) (et (bnd_of hr124) (et (ip h144) (et (bnd_of hr153) (et (ip h158) (et (bnd_of hr167) (et (ip h172) (et (ip h174) (et (bnd_of hr185) (ifF h189))))))))))))))))
 exact ⟨rfl, H275⟩
 refine Sz (dT h174) (Sz (dT h174) (Sz (dT h174) (Sz (dT h174) (fw (.bool true) (Yl.pickT rfl (dT h174) rfl) (nt (jt (sr (An rfl (rt (tR (bR (tR (tR (bR (tR (rs ?_))))))))))))))))
 have H276 := H173.pk []
 obtain rfl : _ = false := hr.symm.trans (et (bnd_of hr27) (et (iN h37) (lp_r (et (hq65) (et (congrArg (fun q => w16_LocksGoes_L0 r26 q l48 l53 l56) hd75) (et (ip h81) (et (bnd_of hr93) (et (bnd_of hr124) (et (ip h144) (et (bnd_of hr153) (et (ip h158) (et (bnd_of hr167) (et (ip h172) (iN h174))))))))))))))
 exact ⟨rfl, H276⟩
 refine Sz h172 (Sz h172 (Sz h172 (fw (.bool false) (Yl.pickF rfl h172 rfl) (An rfl (Wp.seq (Wp.seq ?_))))))
 have H277 := H170.pk [4, 5, 6, 7, 8, 9, 10]
 refine Wp.region (Mz rfl (Kz (.bool true) (Mz rfl (Sz rfl (Sz rfl (Sz rfl (Sz rfl (fw (.bool true) (Yl.pickT rfl rfl rfl) (nt (jt (sr (An rfl (rt (tR (bR (tR (tR (bR (tR (rs ?_))))))))))))))))))))
 have H278 := H277.pk []
 obtain rfl : _ = false := hr.symm.trans (et (bnd_of hr27) (et (iN h37) (lp_r (et (hq65) (et (congrArg (fun q => w16_LocksGoes_L0 r26 q l48 l53 l56) hd75) (et (ip h81) (et (bnd_of hr93) (et (bnd_of hr124) (et (ip h144) (et (bnd_of hr153) (et (ip h158) (et (bnd_of hr167) (ifF h172)))))))))))))
 exact ⟨rfl, H278⟩
 refine Sz h158 (Sz h158 (Sz h158 (fw (.bool false) (Yl.pickF rfl h158 rfl) (Mz rfl (Sz rfl (Sz rfl (Sz rfl (fw (.bool false) (Yl.pickF rfl rfl rfl) (An rfl (Wp.seq (Wp.seq ?_)))))))))))
 have H279 := H156.pk [3, 4, 5, 7, 8, 9, 10]
 refine Wp.region (Mz rfl (Kz (.bool true) (Mz rfl (Sz rfl (Sz rfl (Sz rfl (Sz rfl (fw (.bool true) (Yl.pickT rfl rfl rfl) (nt (jt (sr (An rfl (rt (tR (bR (tR (tR (bR (tR (rs ?_))))))))))))))))))))
 have H280 := H279.pk []
 obtain rfl : _ = false := hr.symm.trans (et (bnd_of hr27) (et (iN h37) (lp_r (et (hq65) (et (congrArg (fun q => w16_LocksGoes_L0 r26 q l48 l53 l56) hd75) (et (ip h81) (et (bnd_of hr93) (et (bnd_of hr124) (et (ip h144) (et (bnd_of hr153) (ifF h158)))))))))))
 exact ⟨rfl, H280⟩
 refine Sz (dF h144) (Sz (dF h144) (Sz (dF h144) (fw (.bool false) (Yl.pickF rfl (dF h144) rfl) (Mz rfl (Sz rfl (Sz rfl (Sz rfl (fw (.bool false) (Yl.pickF rfl rfl rfl) (Mz rfl (Sz rfl (Sz rfl (Sz rfl (fw (.bool false) (Yl.pickF rfl rfl rfl) (An rfl (Wp.seq (Wp.seq ?_))))))))))))))))
 have H281 := H127.pk [2, 3, 4, 7, 8, 9, 10]
 refine Wp.region (Mz rfl (Kz (.bool true) (Mz rfl (Sz rfl (Sz rfl (Sz rfl (Sz rfl (fw (.bool true) (Yl.pickT rfl rfl rfl) (nt (jt (sr (An rfl (rt (tR (bR (tR (tR (bR (tR (rs ?_))))))))))))))))))))
 have H282 := H281.pk []
 obtain rfl : _ = false := hr.symm.trans (et (bnd_of hr27) (et (iN h37) (lp_r (et (hq65) (et (congrArg (fun q => w16_LocksGoes_L0 r26 q l48 l53 l56) hd75) (et (ip h81) (et (bnd_of hr93) (et (bnd_of hr124) (iN h144)))))))))
 exact ⟨rfl, H282⟩
 refine jF (dF h81) (sr (Mz rfl (Kz (.pointer (some ⟨g76, 1, none⟩)) (Lz (.int .u64 ((x73.xTxn : Nat) : Int)) H80 0 Try.isAgg30 ?_))))
 have H283 := H80.pk [1, 3, 4, 0, 2, 5, 6]
 obtain ⟨⟨r289, r290, r291⟩, hr292⟩ : ∃ q : (List Nat) × (List Nat) × TableT, locks_Table_Release (TableT.mk (Ll.mk l48)) x73.xTxn = q := ⟨_, rfl⟩
 obtain ⟨D284, HP285, ro286, bk287, rr288⟩ := Own.enter3 H283
 refine cl Try.call13 (locks_Table_Release_ok _ _ g45 (TableT.mk (Ll.mk l48)) A46 c47 d49 x73.xTxn r289 r290 r291 HP285 hi66 (by first | omega | (dsimp only; omega) | exact Sound.len (by assumption) | exact Nat.zero_le _) (by first | assumption | exact Sound.hd (by assumption) | exact Sound.hd sound_nil) (by first | assumption | exact sound_nil) hr292) ?_
 rintro _ w293 ⟨A296, c297, A298, c299, A300, c301, d302, rfl, HQ294, hd303⟩
 have H295 := bk287 _ _ HQ294
 have hl304 := abs_len hd303
 have hb305 := H295.rowC (i := 0) rfl
 have hb306 := H295.rowC (i := 1) rfl
 have hb307 := H295.rowC (i := 3) rfl
 have hz308 := release_sound (m := l48) (by first | assumption | exact sound_nil) hr292
 replace hz308 : Sound r291.xrows.ls := hz308
 have hl309 : r291.xrows.ls.length ≤ 192 := hz308.len
 obtain ⟨hl310, hl311⟩ := release_lens (m := l48) (by first | assumption | exact sound_nil) hr292
 replace hl310 : r289.length ≤ 400 := hl310
 replace hl311 : r290.length ≤ 400 := hl311
 refine Mz rfl (Kz (.slice A296 r289.length c297) (Kz (.slice A298 r290.length c299) (Az rfl (Ar rfl (Mz rfl (Kz (.pointer (some ⟨g76, 1, none⟩)) (Lz (.int .u64 ((x73.xTxn : Nat) : Int)) H295 5 Try.isAgg30 ?_)))))))
 have H312 := H295.pk [6, 7, 8, 0, 1, 2, 3, 4, 5]
 obtain ⟨⟨r318, r319, r320⟩, hr321⟩ : ∃ q : (List Nat) × (List Nat) × TableDT, r16_Table_Release (TableDT.mk (Ll.mk l53) (Ll.mk l56)) x73.xTxn = q := ⟨_, rfl⟩
 obtain ⟨D313, HP314, ro315, bk316, rr317⟩ := Own.enter3 H312
 refine cl Try.call14 (r16_Table_Release_ok _ _ g34 (TableDT.mk (Ll.mk l53) (Ll.mk l56)) A51 c52 A54 c55 x73.xTxn r318 r319 r320 HP314 (by first | omega | (dsimp only; omega)) hr321) ?_
 rintro _ w322 ⟨A325, c326, A327, c328, A329, c330, A331, c332, rfl, HQ323⟩
 have H324 := bk316 _ _ HQ323
 have hb333 := H324.rowC (i := 0) rfl
 have hb334 := H324.rowC (i := 1) rfl
 have hb335 := H324.rowC (i := 3) rfl
 have hb336 := H324.rowC (i := 4) rfl
 obtain ⟨hl338, hl339, hl340⟩ := rrel_small (by first | omega | (dsimp only; omega)) hr321
 replace hl338 : r320.xH.ls.length + r320.xW.ls.length ≤ 192 := hl338
 replace hl339 : r318.length ≤ 1000000 := hl339
 replace hl340 : r319.length ≤ 1000000 := hl340
 refine Mz rfl (Kz (.slice A325 r318.length c326) (Kz (.slice A327 r319.length c328) (Az rfl (An rfl (Wp.region (Mz rfl (Mz rfl ?_)))))))
 have H341 := H324.pk [5, 0, 1, 2, 3, 4, 6, 7, 8, 9, 10]
 obtain ⟨⟨r347, r348⟩, hr349⟩ : ∃ q : Bool × (List Nat), w16_numbers r289 r318 = q := ⟨_, rfl⟩
 obtain ⟨D342, HP343, ro344, bk345, rr346⟩ := Own.enter1 H341
 refine cl Try.call12 (w16_numbers_ok _ _ A296 r289.length c297 r289 A325 r318.length c326 r318 r347 r348 HP343 rfl (by omega) (rr346 _ 0 _ rfl row_rds) rfl (by omega) (by omega) hr349) ?_
 rintro _ w350 ⟨rfl, HQ351⟩
 have H352 := bk345 _ _ HQ351
 have hb353 := H352.rowC (i := 0) rfl
 refine Mz rfl ?_
 rcases Bool.eq_false_or_eq_true (r347) with h354 | h354
 refine WL.valG (v := .slice A298 r290.length c299) rfl rfl h354 rfl (Yl.move rfl) (WL.valG (v := .slice A327 r319.length c328) rfl rfl h354 rfl (Yl.move rfl) ?_)
 have H355 := H352.pk [6, 0, 1, 2, 3, 4, 5, 7, 8, 9, 10]
 obtain ⟨⟨r361, r362⟩, hr363⟩ : ∃ q : Bool × (List Nat), w16_numbers r290 r319 = q := ⟨_, rfl⟩
 obtain ⟨D356, HP357, ro358, bk359, rr360⟩ := Own.enter1 H355
 refine WL.doG rfl rfl h354 rfl (Do.call Try.call12 rfl (w16_numbers_ok _ _ A298 r290.length c299 r290 A327 r319.length c328 r319 r361 r362 HP357 rfl (by omega) (rr360 _ 2 _ rfl row_rds) rfl (by omega) (by omega) hr363) ?_)
 rintro _ w364 ⟨rfl, HQ365⟩
 have H366 := bk359 _ _ HQ365
 have hb367 := H366.rowC (i := 0) rfl
 refine fw (.bool r361) (Yl.pickT rfl h354 rfl) (An rfl (Wp.seq (Wp.seq ?_)))
 have H368 := H366.pk [4, 5, 6, 7, 8, 9, 10]
 refine Wp.region (Mz rfl (Kz (.bool (!r361)) (Mz rfl ?_)))
 rcases Bool.eq_false_or_eq_true (r361) with h369 | h369
 refine gw (.pointer (some ⟨g45, 0, none⟩)) (cn h369) (Yl.move rfl) (gw (.pointer (some ⟨g34, 0, none⟩)) (cn h369) (Yl.move rfl) ?_)
 have H370 := H368.pk [3, 0, 1, 2, 4, 5, 6]
 have hb376 := H370.rowC (i := 4) rfl
 have hb377 := H370.rowC (i := 2) rfl
 have hb378 := H370.rowC (i := 3) rfl
 obtain ⟨r379, hr380⟩ : ∃ q, w16_same r291 r320 = q := ⟨_, rfl⟩
 obtain ⟨D371, HP372, ro373, bk374, rr375⟩ := Own.enter2 H370
 refine clG (cn h369) Try.call15 (w16_same_ok _ _ g45 r291 A300 c301 d302 g34 r320 A329 c330 A331 c332 r379 HP372 hd303 (rr375 _ 2 _ rfl row_rds) (show r291.xrows.ls.length ≤ c301 ∧ r291.xrows.ls.length ≤ 9223372036854775807 from by omega) (fun x9 h9 => ⟨rr375 _ 3 _ rfl (sepL_mem (List.mem_flatMap.2 ⟨x9, h9, .head _⟩) row_rds), own_rd (φ := fun _ => _) H370 (i := 5) rfl (sepL_mem (List.mem_flatMap.2 ⟨x9, h9, .head _⟩) row_le2)⟩) (rr375 _ 0 _ rfl row_rds) (show r320.xH.ls.length ≤ c330 ∧ r320.xH.ls.length ≤ 9223372036854775807 from by omega) (rr375 _ 1 _ rfl row_rds) (show r320.xW.ls.length ≤ c332 ∧ r320.xW.ls.length ≤ 9223372036854775807 from by omega) (by first | omega | (dsimp only; omega) | exact Sound.len (by assumption) | exact Nat.zero_le _) (by first | assumption | exact Sound.hd (by assumption) | exact Sound.hd sound_nil) (by first | assumption | exact sound_nil) (by first | omega | (dsimp only; omega)) hr380) ?_
 rintro _ w381 ⟨rfl, HQ382⟩
 have H383 := bk374 _ _ HQ382
 refine Gz (.bool (!r379)) (cn h369) (fw (.bool (!r379)) (Yl.pickF rfl (cn h369) rfl) (nt ?_))
 rcases Bool.eq_false_or_eq_true (r379) with h384 | h384
 refine jF (cn h384) (sk (sr (Kz (.pointer (some ⟨g76, 5, none⟩)) (Lz (.bool x73.xClone) H383 6 Try.isAgg4 (nt ?_)))))
 rcases Bool.eq_false_or_eq_true (x73.xClone) with h385 | h385
 refine jT h385 (sr (Mz rfl ?_))
 have hb391 := H383.rowC (i := 4) rfl
 obtain ⟨r392, hr393⟩ : ∃ q, locks_Table_Clone r291 = q := ⟨_, rfl⟩
 obtain ⟨D386, HP387, ro388, bk389, rr390⟩ := Own.enter1 H383
 refine cl Try.call16 (locks_Table_Clone_ok _ _ g45 r291 A300 c301 d302 r392 HP387 hd303 (rr390 _ 3 _ rfl row_rds) (show r291.xrows.ls.length ≤ c301 ∧ r291.xrows.ls.length ≤ 9223372036854775807 from by omega) (fun x9 h9 => ⟨rr390 _ 4 _ rfl (sepL_mem (List.mem_flatMap.2 ⟨x9, h9, .head _⟩) row_rds), own_rd (φ := fun _ => _) H383 (i := 5) rfl (sepL_mem (List.mem_flatMap.2 ⟨x9, h9, .head _⟩) row_le2)⟩) (by first | omega | (dsimp only; omega)) (by first | assumption | exact Sound.hd (by assumption)) hr393) ?_
 rintro _ w394 ⟨g397, A398, c399, d400, rfl, HQ395, hd401⟩
 have H396 := bk389 _ _ HQ395
 have hl402 := abs_len hd401
 have hb403 := H396.rowC (i := 1) rfl
 have hz404 := clone_sound (by assumption) hr393
 replace hz404 : Sound r392.xrows.ls := hz404
 have hl405 : r392.xrows.ls.length ≤ 192 := hz404.len
 refine An rfl (Wp.seq (sr (Mz rfl (Kz (.bool false) (nt (jf (sk (sr (Mz rfl (Kz (.pointer (some ⟨g76, 1, none⟩)) (Lz (.int .u64 ((x73.xTxn : Nat) : Int)) H396 9 Try.isAgg30 ?_)))))))))))
 have H406 := H396.pk [3, 7, 8, 0, 1, 2, 4, 5, 6, 9]
 obtain ⟨⟨r412, r413, r414⟩, hr415⟩ : ∃ q : (List Nat) × (List Nat) × TableT, locks_Table_Release r291 x73.xTxn = q := ⟨_, rfl⟩
 obtain ⟨D407, HP408, ro409, bk410, rr411⟩ := Own.enter3 H406
 refine cl Try.call13 (locks_Table_Release_ok _ _ g45 r291 A300 c301 d302 x73.xTxn r412 r413 r414 HP408 hd303 (by first | omega | (dsimp only; omega) | exact Sound.len (by assumption) | exact Nat.zero_le _) (by first | assumption | exact Sound.hd (by assumption) | exact Sound.hd sound_nil) (by first | assumption | exact sound_nil) hr415) ?_
 rintro _ w416 ⟨A419, c420, A421, c422, A423, c424, d425, rfl, HQ417, hd426⟩
 have H418 := bk410 _ _ HQ417
 have hl427 := abs_len hd426
 have hb428 := H418.rowC (i := 0) rfl
 have hb429 := H418.rowC (i := 1) rfl
 have hb430 := H418.rowC (i := 3) rfl
 have hz431 := release_sound (m := r291.xrows.ls) (by first | assumption | exact sound_nil) hr415
 replace hz431 : Sound r414.xrows.ls := hz431
 have hl432 : r414.xrows.ls.length ≤ 192 := hz431.len
 obtain ⟨hl433, hl434⟩ := release_lens (m := r291.xrows.ls) (by first | assumption | exact sound_nil) hr415
 replace hl433 : r412.length ≤ 400 := hl433
 replace hl434 : r413.length ≤ 400 := hl434
 refine nt (Wp.seq ?_)
 have H435 := H418.pk [2, 3, 4, 5, 6, 7, 8, 9, 10]
 refine Wp.region (Mz rfl (Kz (.agg #[.string ⟨List.toArray ([])⟩, .string ⟨List.toArray ([])⟩, .bool true]) ?_))
 obtain ⟨⟨r441, r442, r443, r444, r445⟩, hr446⟩ : ∃ q : Int × (List Nat) × (List Nat) × Int × TableT, locks_Table_Ask r414 0 (LockD.mk (RangeD.mk ([]) ([])) true) = q := ⟨_, rfl⟩
 obtain ⟨D436, HP437, ro438, bk439, rr440⟩ := Own.enter3 H435
 refine cl Try.call10 (locks_Table_Ask_ok _ _ g45 r414 A423 c424 d425 0 (LockD.mk (RangeD.mk ([]) ([])) true) r441 r442 r443 r444 r445 HP437 hd426 (by first | omega | (dsimp only; omega) | exact Sound.len (by assumption) | exact Nat.zero_le _) (by first | assumption | exact Sound.hd (by assumption) | exact Sound.hd sound_nil) (by first | assumption | exact sound_nil) hr446) ?_
 rintro _ w447 ⟨A450, c451, A452, c453, A454, c455, d456, rfl, HQ448, hd457⟩
 have H449 := bk439 _ _ HQ448
 have hl458 := abs_len hd457
 have hb459 := H449.rowC (i := 0) rfl
 have hb460 := H449.rowC (i := 1) rfl
 have hb461 := H449.rowC (i := 3) rfl
 have hz462 := ask_sound (m := r414.xrows.ls) (by first | assumption | exact sound_nil) hr446
 replace hz462 : Sound r445.xrows.ls := hz462
 have hl463 : r445.xrows.ls.length ≤ 192 := hz462.len
 obtain ⟨hl464, hl465⟩ := ask_lens (m := r414.xrows.ls) (by first | assumption | exact sound_nil) hr446
 replace hl464 : r442.length ≤ 400 := hl464
 replace hl465 : r443.length ≤ 400 := hl465
 refine nt ?_
 have H466 := H449.pk [2, 3, 4, 5, 6, 7, 8, 9, 10]
 refine Wp.region (Mz rfl (Az rfl (WL.nil (bN (Fin.then (Wp.region (fw (.int .i64 ((k50 + 1 : Nat) : Int)) (Yl.int (e := IntKind.i64.wrap (((k50 : Nat) : Int) + 1)) yk (by rw [IntWalk.i64_in _ (by omega)]; omega)) (Mz rfl (WL.nil ?_)))))))))
 have H467 := H466.pk [3, 6, 4, 5, 7, 8]
 exact Fin.round (g397, A398, c399, d400, r392.xrows.ls, k50 + 1, A329, c330, r320.xH.ls, A331, c332, r320.xW.ls) ⟨rfl, rfl, rfl, rfl, rfl, rfl, rfl, trivial⟩ (dm64.2 ⟨H467, by exact hd401, by omega, by first | assumption | exact sound_nil, by first | omega | exact Sound.len (by assumption) | exact Nat.zero_le _, by first | omega | exact Nat.zero_le _, et (hq65) (et (congrArg (fun q => w16_LocksGoes_L0 r26 q l48 l53 l56) hd75) (et (iN h81) (et (bnd_of hr292) (et (bnd_of hr321) (et (bnd_of hr349) (et (ip h354) (et (bnd_of hr363) (et (ip h369) (et (bnd_of hr380) (et (ip h384) (et (ip h385) (bnd_of hr393))))))))))))⟩) (by show l0.length - (k50 + 1) < l0.length - k50; omega)
 refine jF h385 (Wp.skip (bN (Fin.then ?_)))
 have H468 := H383.pk [0, 1, 2, 3, 4, 5]
 refine Wp.region (fw (.int .i64 ((k50 + 1 : Nat) : Int)) (Yl.int (e := IntKind.i64.wrap (((k50 : Nat) : Int) + 1)) yk (by rw [IntWalk.i64_in _ (by omega)]; omega)) (Mz rfl (WL.nil ?_)))
 have H469 := H468.pk [0, 1, 4, 5, 2, 3]
 exact Fin.round (g45, A300, c301, d302, r291.xrows.ls, k50 + 1, A329, c330, r320.xH.ls, A331, c332, r320.xW.ls) ⟨rfl, rfl, rfl, rfl, rfl, rfl, rfl, trivial⟩ (dm64.2 ⟨H469, by exact hd303, by omega, by first | assumption | exact sound_nil, by first | omega | exact Sound.len (by assumption) | exact Nat.zero_le _, by first | omega | exact Nat.zero_le _, et (hq65) (et (congrArg (fun q => w16_LocksGoes_L0 r26 q l48 l53 l56) hd75) (et (iN h81) (et (bnd_of hr292) (et (bnd_of hr321) (et (bnd_of hr349) (et (ip h354) (et (bnd_of hr363) (et (ip h369) (et (bnd_of hr380) (et (ip h384) (ifF h385)))))))))))⟩) (by show l0.length - (k50 + 1) < l0.length - k50; omega)
 refine jT (cn h384) (sr (An rfl (rt (tR (bR (tR (tR (bR (tR (rs ?_))))))))))
 have H470 := H383.pk []
 obtain rfl : _ = false := hr.symm.trans (et (bnd_of hr27) (et (iN h37) (lp_r (et (hq65) (et (congrArg (fun q => w16_LocksGoes_L0 r26 q l48 l53 l56) hd75) (et (iN h81) (et (bnd_of hr292) (et (bnd_of hr321) (et (bnd_of hr349) (et (ip h354) (et (bnd_of hr363) (et (ip h369) (et (bnd_of hr380) (ifF h384))))))))))))))
 exact ⟨rfl, H470⟩
 refine Sz (cn h369) (Sz (cn h369) (Sz (cn h369) (Sz (cn h369) (fw (.bool true) (Yl.pickT rfl (cn h369) rfl) (nt (jt (sr (An rfl (rt (tR (bR (tR (tR (bR (tR (rs ?_))))))))))))))))
 have H471 := H368.pk []
 obtain rfl : _ = false := hr.symm.trans (et (bnd_of hr27) (et (iN h37) (lp_r (et (hq65) (et (congrArg (fun q => w16_LocksGoes_L0 r26 q l48 l53 l56) hd75) (et (iN h81) (et (bnd_of hr292) (et (bnd_of hr321) (et (bnd_of hr349) (et (ip h354) (et (bnd_of hr363) (ifF h369))))))))))))
 exact ⟨rfl, H471⟩
 refine Sz h354 (Sz h354 (Sz h354 (fw (.bool false) (Yl.pickF rfl h354 rfl) (An rfl (Wp.seq (Wp.seq ?_))))))
 have H472 := H352.pk [3, 4, 5, 7, 8, 9, 10]
 refine Wp.region (Mz rfl (Kz (.bool true) (Mz rfl (Sz rfl (Sz rfl (Sz rfl (Sz rfl (fw (.bool true) (Yl.pickT rfl rfl rfl) (nt (jt (sr (An rfl (rt (tR (bR (tR (tR (bR (tR (rs ?_))))))))))))))))))))
 have H473 := H472.pk []
 obtain rfl : _ = false := hr.symm.trans (et (bnd_of hr27) (et (iN h37) (lp_r (et (hq65) (et (congrArg (fun q => w16_LocksGoes_L0 r26 q l48 l53 l56) hd75) (et (iN h81) (et (bnd_of hr292) (et (bnd_of hr321) (et (bnd_of hr349) (ifF h354))))))))))
 exact ⟨rfl, H473⟩
 refine jF (dF h72) (Wp.exit (Fin.thenX ?_))
 have hL474 : w16_LocksGoes_L0 r26 l0 ([]) ([]) ([]) = Sum.inl () := et (hq65) (et (congrArg (fun q => w16_LocksGoes_L0 r26 q l48 l53 l56) (drop_end (ls := l0) (i := k50) (by omega))) rfl)
 refine Fin.thenX (Fin.blockX (Fin.then (Wp.seq ?_)))
 have H475 := H60.pk []
 refine Wp.region (Mz rfl (An rfl (rt (rs ?_))))
 have H476 := H475.pk []
 obtain rfl : _ = r26 := hr.symm.trans (et (bnd_of hr27) (et (iN h37) (lp_l hL474)))
 exact ⟨rfl, H476⟩
end Go.Proofs.Ytggnajpokhaaiaa
