/-
 locks: the law LocksApart
-/
import Derived.Test.YtggnajpokhaaiaaLf
namespace Go.Proofs.Ytggnajpokhaaiaa
open Go.RowKit
set_option linter.unusedVariables false
set_option linter.unusedSectionVars false
set_option linter.unusedSimpArgs false

theorem El22 : Elem Try.prog 22 36 6 64 := elem_of (z := .agg #[.int .i64 0, .int .u64 0, .string ⟨List.toArray ([])⟩, .string ⟨List.toArray ([])⟩, .bool false, .bool false]) Try.underlying22 (by kernel_rfl) rfl (by decide)

structure OpD where
 xDo : Int
 xTxn : Nat
 xLock : LockD
 xClone : Bool

def OpD.cells (x : OpD) : List Value := [.int .i64 x.xDo, .int .u64 ((x.xTxn : Nat) : Int), .string ⟨List.toArray x.xLock.xRange.xLo⟩, .string ⟨List.toArray x.xLock.xRange.xHi⟩, .bool x.xLock.xWrite, .bool x.xClone]

instance : Bk OpD := ⟨fun x _ => bk x.xDo + (bk x.xTxn + (bk x.xLock + (bk x.xClone + (0))))⟩

theorem OpD.len : ∀ x, (OpD.cells x).length = 6 := fun _ => rfl

theorem OpD.one : ∀ x, ∀ u ∈ OpD.cells x, u.oneCell' = true := fun x u hu => by
 simp only [OpD.cells, List.mem_cons, List.not_mem_nil, or_false] at hu
 rcases hu with rfl | rfl | rfl | rfl | rfl | rfl <;> rfl

def OpD.Ok (w : World) (x : OpD) : Prop := ((-9223372036854775808) ≤ x.xDo ∧ x.xDo ≤ 9223372036854775807) ∧ (x.xTxn ≤ 18446744073709551615) ∧ (LockD.Ok w x.xLock) ∧ (True)

set_option maxRecDepth 100000 in
theorem opens_OpD (w : World) : Opens Try.prog w 36 6 OpD.cells (OpD.Ok w) :=
 (opens_struct (sz := 6) Try.underlying36 (by kernel_rfl) (OpensF.cons (i := 0) (off := 0) (s := 1) rfl rfl (opens_int (k := .i64) (lo := -9223372036854775808) (hi := 9223372036854775807) Try.underlying3 (by kernel_rfl) (by decide) (by decide)) (OpensF.cons (i := 1) (off := 1) (s := 1) rfl rfl (opens_nat (k := .u64) (hi := 18446744073709551615) Try.underlying30 (by kernel_rfl) (by decide) (by decide)) (OpensF.cons (i := 2) (off := 2) (s := 3) rfl rfl (opens_LockD w) (OpensF.cons (i := 3) (off := 5) (s := 1) rfl rfl (opens_bool Try.underlying4 (by kernel_rfl)) OpensF.nil))))).map (fun p => ⟨p.1, p.2.1, p.2.2.1, p.2.2.2.1⟩) OpD.len (fun _ => rfl) (fun _ h => ⟨h.1, h.2.1, h.2.2.1, h.2.2.2.1⟩) fun _ => Nat.le_refl _

instance : Inhabited OpD := ⟨⟨default, default, default, default⟩⟩

def w16_LocksApart_L1 (l70 : List Nat) (l73 : List Nat) (l76 : List rowT) : List Nat → Unit ⊕ Bool
  | [] => Sum.inl ()
  | x187 :: q176 => bnd (locks_Table_Holds (TableT.mk (Ll.mk l76)) x187) fun yr196 => if ((yr196.length : Nat) : Int) > 0 then Sum.inr (false) else w16_LocksApart_L1 l70 l73 l76 q176

def w16_LocksApart_L3 (x236 : AskD) (l70 : List Nat) (l73 : List Nat) : Nat → Nat → Unit ⊕ Bool
  | 0, k254 => Sum.inl ()
  | q255 + 1, k254 => bnd (List.getD (l70 ++ l73) k254 default) fun yx266 => if ((x236.xTxn : Nat) : Int) = ((yx266 : Nat) : Int) then Sum.inr (false) else w16_LocksApart_L3 x236 l70 l73 q255 (k254 + 1)

def w16_LocksApart_L2 (l70 : List Nat) (l73 : List Nat) (l76 : List rowT) : List AskD → Unit ⊕ Bool
  | [] => Sum.inl ()
  | x236 :: q225 => lpS (w16_LocksApart_L3 x236 l70 l73 (List.length (l70 ++ l73)) 0) fun _ => w16_LocksApart_L2 l70 l73 l76 q225

def w16_LocksApart_L0 (r26 : Bool) : List OpD → List rowT → Unit ⊕ Bool
  | [], l43 => Sum.inl ()
  | x60 :: q45, l43 => lpS (if x60.xDo = 0 then bnd (locks_Table_Ask (TableT.mk (Ll.mk l43)) x60.xTxn x60.xLock) fun yr88 => Sum.inl (yr88.2.1, yr88.2.2.1, yr88.2.2.2.2.xrows.ls) else bnd (locks_Table_Release (TableT.mk (Ll.mk l43)) x60.xTxn) fun yr121 => bnd (locks_Table_Holds yr121.2.2 x60.xTxn) fun yr151 => if ((yr151.length : Nat) : Int) > 0 then Sum.inr (false) else Sum.inl (yr121.1, yr121.2.1, yr121.2.2.xrows.ls)) fun sJrbfLsJ => lpS (w16_LocksApart_L1 sJrbfLsJ.1 sJrbfLsJ.2.1 sJrbfLsJ.2.2 sJrbfLsJ.2.1) fun _ => bnd (locks_Table_Waiting (TableT.mk (Ll.mk sJrbfLsJ.2.2))) fun yr216 => lpS (w16_LocksApart_L2 sJrbfLsJ.1 sJrbfLsJ.2.1 sJrbfLsJ.2.2 yr216) fun _ => bnd (w16_sound (TableT.mk (Ll.mk sJrbfLsJ.2.2))) fun yr282 => if yr282 = true then w16_LocksApart_L0 r26 q45 sJrbfLsJ.2.2 else Sum.inr (false)

def w16_LocksApart (l0 : List OpD) : Bool :=
 bnd (w16_live) fun yr26 => if ((l0.length : Nat) : Int) > 100 then if yr26 = true then true else false else lp (w16_LocksApart_L0 yr26 l0 ([])) fun _ => yr26

set_option maxRecDepth 100000 in
set_option maxHeartbeats 2000000 in
theorem w16_LocksApart_ok (w : World) (D : Nat → Prop) (A0 : Option Addr) (n0 c0 : Nat) (l0 : List OpD) (r0 : Bool) (H : Own w D w []) (hx0 : Ro w D fun w' => Rds w' 6 A0 n0 (List.flatMap OpD.cells l0)) (hn0 : n0 = l0.length) (hl0 : l0.length * 64 ≤ 211106232532992) (hh0 : l0.length * 64 ≤ 140737488351232) (hr : w16_LocksApart l0 = r0) :
    Calls Try.prog 4 #[.slice A0 n0 c0] w (Ret fun v w' => v = .bool r0 ∧ Own w D w' []) := by
 subst hn0
 refine Calls.body (args := [.slice A0 l0.length c0]) Try.func4 rfl rfl rfl ?_
 show Wp _ _ _ [(0, .slice A0 l0.length c0)] _ _
 refine sr (Ar rfl ?_)
 obtain ⟨r26, hr27⟩ : ∃ q, w16_live = q := ⟨_, rfl⟩
 obtain ⟨D21, HP22, ro23, bk24, rr25⟩ := Own.enter0 H
 refine cl Try.call8 (w16_live_ok _ _ r26 HP22 hr27) ?_
 rintro _ w28 ⟨rfl, HQ29⟩
 have H30 := bk24 _ _ HQ29
 refine Ar rfl ?_
 refine WL.do rfl (Do.call Try.call9 rfl ?_ (fun _ _ k => k))
 refine Calls.body (args := []) Try.func9 rfl rfl rfl ?_
 show Wp _ _ _ [] _ _
 refine sr (Ar rfl (Kz (.agg #[.slice none 0 0]) ?_))
 refine npw [.slice none 0 0] 59 H30 ?_
 intro g31 w32 H33
 refine An rfl (rt (rs (An rfl (Wp.seq (sr (Mz rfl (Kz (.bool false) (Mz rfl (gw (.slice A0 l0.length c0) rfl (Yl.move rfl) (Gz (.int .i64 ((l0.length : Nat) : Int)) rfl (Gz (.bool (decide (((l0.length : Nat) : Int) > 100))) rfl (fw (.bool (decide (((l0.length : Nat) : Int) > 100))) (Yl.pickF rfl rfl rfl) (nt ?_)))))))))))))
 by_cases h34 : ((l0.length : Nat) : Int) > 100
 refine jT (dT h34) (sr (Mz rfl (Mz rfl ?_)))
 rcases Bool.eq_false_or_eq_true (r26) with h35 | h35
 refine WL.valG (v := .pointer (some ⟨g31, 0, none⟩)) rfl rfl h35 rfl (Yl.move rfl) (Gz (.bool true) h35 (fw (.bool true) (Yl.pickT rfl h35 rfl) (An rfl (rt (tR (rs ?_))))))
 have H36 := H33.pk []
 obtain rfl : _ = true := hr.symm.trans (et (bnd_of hr27) (et (ip h34) (ip h35)))
 exact ⟨rfl, H36⟩
 refine Sz h35 (Sz h35 (fw (.bool false) (Yl.pickF rfl h35 rfl) (An rfl (rt (tR (rs ?_))))))
 have H37 := H33.pk []
 obtain rfl : _ = false := hr.symm.trans (et (bnd_of hr27) (et (ip h34) (ifF h35)))
 exact ⟨rfl, H37⟩
 refine jF (dF h34) (sk (Wp.seq (sr (Mz rfl (Kz (.int .i64 ((l0.length : Nat) : Int)) (Mn rfl (bo ?_)))))))
 have H38 : Own w D w32 [sepL (List.flatMap rowD.own ([])), blk g31 [.slice none 0 0] 59] := H33.sepNil
 have H39 : Own w D w32 [row none 0 0 (List.flatMap rowD.cells ([])) 72 6, sepL (List.flatMap rowD.own ([])), blk g31 [.slice none 0 0] 59] := H38.free (row_nil 72 6)
 have H46 := H39.pk [2, 0, 1]
 obtain ⟨I50, hI51⟩ : ∃ q : (Nat × (Option Addr) × Nat × (List rowD) × (List rowT)) → World → Prop, q = fun (i : Nat × (Option Addr) × Nat × (List rowD) × (List rowT)) w' => Own w D w' [blk g31 [.slice i.2.1 i.2.2.2.2.length i.2.2.1] 59, row i.2.1 i.2.2.2.2.length i.2.2.1 (List.flatMap rowD.cells i.2.2.2.1) 72 6, sepL (List.flatMap rowD.own i.2.2.2.1)] ∧ (List.map rowD.abs i.2.2.2.1 = i.2.2.2.2 ∧ i.1 ≤ l0.length ∧ Sound i.2.2.2.2 ∧ i.2.2.2.2.length ≤ 192 ∧ w16_LocksApart_L0 r26 l0 ([]) = w16_LocksApart_L0 r26 (List.drop i.1 l0) i.2.2.2.2) := ⟨_, rfl⟩
 have dm52 : ∀ {k40 : Nat} {A41 : Option Addr} {c42 : Nat} {d44 : List rowD} {l43 : List rowT} {w' : World}, I50 (k40, A41, c42, d44, l43) w' ↔ Own w D w' [blk g31 [.slice A41 l43.length c42] 59, row A41 l43.length c42 (List.flatMap rowD.cells d44) 72 6, sepL (List.flatMap rowD.own d44)] ∧ List.map rowD.abs d44 = l43 ∧ k40 ≤ l0.length ∧ Sound l43 ∧ l43.length ≤ 192 ∧ w16_LocksApart_L0 r26 l0 ([]) = w16_LocksApart_L0 r26 (List.drop k40 l0) l43 := by intros; subst hI51; exact Iff.rfl
 refine Wp.loop (fun i : Nat × (Option Addr) × Nat × (List rowD) × (List rowT) => [(2, .bool false), (35, .int .i64 ((i.1 : Nat) : Int)), (34, .int .i64 ((l0.length : Nat) : Int)), (33, .slice A0 l0.length c0), (4, .pointer (some ⟨g31, 0, none⟩)), (3, .bool r26)]) I50 (fun i => l0.length - i.1) (0, none, 0, [], []) ⟨rfl, rfl, rfl, rfl, rfl, rfl, trivial⟩ (dm52.2 ⟨H46, (show List.map rowD.abs ([]) = ([]) ∧ 0 ≤ l0.length ∧ Sound ([]) ∧ 0 ≤ 192 ∧ w16_LocksApart_L0 r26 l0 ([]) = w16_LocksApart_L0 r26 (List.drop 0 l0) ([]) from ⟨by exact rfl, by omega, by first | assumption | exact sound_nil, by first | omega | exact Sound.len (by assumption) | exact Nat.zero_le _, rfl⟩)⟩) ?_
 rintro ⟨k40, A41, c42, d44, l43⟩ w47 hf49
 show Wp _ _ _ [(2, .bool false), (35, .int .i64 ((k40 : Nat) : Int)), (34, .int .i64 ((l0.length : Nat) : Int)), (33, .slice A0 l0.length c0), (4, .pointer (some ⟨g31, 0, none⟩)), (3, .bool r26)] _ _
 obtain ⟨H48, hi54, hi55, hi56, hi57, hq53⟩ := dm52.1 hf49
 have hl58 := abs_len hi54
 refine sr (Kz (.bool (decide (((k40 : Nat) : Int) < ((l0.length : Nat) : Int)))) (nt (Wp.seq ?_)))
 by_cases h59 : ((k40 : Nat) : Int) < ((l0.length : Nat) : Int)
 obtain ⟨x60, hx61⟩ := rds_at (ls := l0) (i := k40) OpD.len (by decide) (H48.ro hx0) (by first | omega | (simp; done) | (simp; omega))
 have hd62 := drop_at hx61
 refine jT (dT h59) (sk (Wp.seq (bo (sr (fw (.pointer (some ⟨ab A0, ao A0 + k40 * 6, none⟩)) (Yl.indexAddr (El22) rfl rfl ((H48.ro hx0).addr (i := k40) (by omega)) (by omega)) (fw (.agg (OpD.cells x60).toArray) (Yl.load rfl (Lds.agg (cs := (OpD.cells x60)) Try.isAgg36 Try.sizeOf36 ((H48.ro hx0).elem OpD.len hx61 (by decide)))) ?_))))))
 refine npw [.int .i64 0, .int .u64 0, .string ⟨List.toArray ([])⟩, .string ⟨List.toArray ([])⟩, .bool false, .bool false] 36 H48 ?_
 intro g63 w64 H65
 refine sto (OpD.cells x60) 0 H65 Try.sizeOf36 ?_
 intro w66 H67
 refine ns (Az rfl (An rfl (Wp.seq (sr (Kz (.pointer (some ⟨g63, 0, none⟩)) (Lz (.int .i64 x60.xDo) H67 0 Try.isAgg3 (Kz (.bool (decide (x60.xDo = 0))) (nt ?_))))))))
 obtain ⟨I78, hI79⟩ : ∃ q : ((Option Addr) × Nat × (List Nat) × (Option Addr) × Nat × (List Nat) × (Option Addr) × Nat × (List rowD) × (List rowT)) → World → Prop, q = fun (i : (Option Addr) × Nat × (List Nat) × (Option Addr) × Nat × (List Nat) × (Option Addr) × Nat × (List rowD) × (List rowT)) w' => Own w D w' [blk g31 [.slice i.2.2.2.2.2.2.1 i.2.2.2.2.2.2.2.2.2.length i.2.2.2.2.2.2.2.1] 59, row i.1 i.2.2.1.length i.2.1 (List.flatMap (eN .u64) i.2.2.1) 30 1, row i.2.2.2.1 i.2.2.2.2.2.1.length i.2.2.2.2.1 (List.flatMap (eN .u64) i.2.2.2.2.2.1) 30 1, row i.2.2.2.2.2.2.1 i.2.2.2.2.2.2.2.2.2.length i.2.2.2.2.2.2.2.1 (List.flatMap rowD.cells i.2.2.2.2.2.2.2.2.1) 72 6, sepL (List.flatMap rowD.own i.2.2.2.2.2.2.2.2.1)] ∧ (List.map rowD.abs i.2.2.2.2.2.2.2.2.1 = i.2.2.2.2.2.2.2.2.2 ∧ 0 ≤ i.2.2.1.length ∧ 0 ≤ i.2.2.2.2.2.1.length ∧ Sound i.2.2.2.2.2.2.2.2.2 ∧ i.2.2.2.2.2.2.2.2.2.length ≤ 192 ∧ i.2.2.1.length ≤ 400 ∧ i.2.2.2.2.2.1.length ≤ 400 ∧ (if x60.xDo = 0 then bnd (locks_Table_Ask (TableT.mk (Ll.mk l43)) x60.xTxn x60.xLock) fun yr88 => Sum.inl (yr88.2.1, yr88.2.2.1, yr88.2.2.2.2.xrows.ls) else bnd (locks_Table_Release (TableT.mk (Ll.mk l43)) x60.xTxn) fun yr121 => bnd (locks_Table_Holds yr121.2.2 x60.xTxn) fun yr151 => if ((yr151.length : Nat) : Int) > 0 then Sum.inr (false) else Sum.inl (yr121.1, yr121.2.1, yr121.2.2.xrows.ls)) = Sum.inl (i.2.2.1, i.2.2.2.2.2.1, i.2.2.2.2.2.2.2.2.2)) := ⟨_, rfl⟩
 have dm80 : ∀ {A68 : Option Addr} {c69 : Nat} {l70 : List Nat} {A71 : Option Addr} {c72 : Nat} {l73 : List Nat} {A74 : Option Addr} {c75 : Nat} {d77 : List rowD} {l76 : List rowT} {w' : World}, I78 (A68, c69, l70, A71, c72, l73, A74, c75, d77, l76) w' ↔ Own w D w' [blk g31 [.slice A74 l76.length c75] 59, row A68 l70.length c69 (List.flatMap (eN .u64) l70) 30 1, row A71 l73.length c72 (List.flatMap (eN .u64) l73) 30 1, row A74 l76.length c75 (List.flatMap rowD.cells d77) 72 6, sepL (List.flatMap rowD.own d77)] ∧ List.map rowD.abs d77 = l76 ∧ 0 ≤ l70.length ∧ 0 ≤ l73.length ∧ Sound l76 ∧ l76.length ≤ 192 ∧ l70.length ≤ 400 ∧ l73.length ≤ 400 ∧ (if x60.xDo = 0 then bnd (locks_Table_Ask (TableT.mk (Ll.mk l43)) x60.xTxn x60.xLock) fun yr88 => Sum.inl (yr88.2.1, yr88.2.2.1, yr88.2.2.2.2.xrows.ls) else bnd (locks_Table_Release (TableT.mk (Ll.mk l43)) x60.xTxn) fun yr121 => bnd (locks_Table_Holds yr121.2.2 x60.xTxn) fun yr151 => if ((yr151.length : Nat) : Int) > 0 then Sum.inr (false) else Sum.inl (yr121.1, yr121.2.1, yr121.2.2.xrows.ls)) = Sum.inl (l70, l73, l76) := by intros; subst hI79; exact Iff.rfl
 refine Wp.joinT (fun i : (Option Addr) × Nat × (List Nat) × (Option Addr) × Nat × (List Nat) × (Option Addr) × Nat × (List rowD) × (List rowT) => [(2, .bool false), (7, .slice i.1 i.2.2.1.length i.2.1), (8, .slice i.2.2.2.1 i.2.2.2.2.2.1.length i.2.2.2.2.1), (35, .int .i64 ((k40 : Nat) : Int)), (34, .int .i64 ((l0.length : Nat) : Int)), (33, .slice A0 l0.length c0), (4, .pointer (some ⟨g31, 0, none⟩)), (3, .bool r26)]) I78 ?_ ?_
 by_cases h81 : x60.xDo = 0
 refine jT (dT h81) (sr (Mz rfl (Kz (.pointer (some ⟨g63, 1, none⟩)) (Lz (.int .u64 ((x60.xTxn : Nat) : Int)) H67 0 Try.isAgg30 (Kz (.pointer (some ⟨g63, 2, none⟩)) (La (LockD.cells x60.xLock) H67 0 Try.isAgg34 Try.sizeOf34 ?_))))))
 have H82 := H67.pk [1, 2, 3, 0]
 obtain ⟨⟨r88, r89, r90, r91, r92⟩, hr93⟩ : ∃ q : Int × (List Nat) × (List Nat) × Int × TableT, locks_Table_Ask (TableT.mk (Ll.mk l43)) x60.xTxn x60.xLock = q := ⟨_, rfl⟩
 obtain ⟨D83, HP84, ro85, bk86, rr87⟩ := Own.enter3 H82
 refine cl Try.call10 (locks_Table_Ask_ok _ _ g31 (TableT.mk (Ll.mk l43)) A41 c42 d44 x60.xTxn x60.xLock r88 r89 r90 r91 r92 HP84 hi54 (by first | omega | (dsimp only; omega) | exact Sound.len (by assumption) | exact Nat.zero_le _) (by first | assumption | exact Sound.hd (by assumption) | exact Sound.hd sound_nil) (by first | assumption | exact sound_nil) hr93) ?_
 rintro _ w94 ⟨A97, c98, A99, c100, A101, c102, d103, rfl, HQ95, hd104⟩
 have H96 := bk86 _ _ HQ95
 have hl105 := abs_len hd104
 have hb106 := H96.rowC (i := 0) rfl
 have hb107 := H96.rowC (i := 1) rfl
 have hb108 := H96.rowC (i := 3) rfl
 have hz109 := ask_sound (m := l43) (by first | assumption | exact sound_nil) hr93
 replace hz109 : Sound r92.xrows.ls := hz109
 have hl110 : r92.xrows.ls.length ≤ 192 := hz109.len
 obtain ⟨hl111, hl112⟩ := ask_lens (m := l43) (by first | assumption | exact sound_nil) hr93
 replace hl111 : r89.length ≤ 400 := hl111
 replace hl112 : r90.length ≤ 400 := hl112
 refine Mz rfl (Kz (.int .i64 r88) (Kz (.slice A97 r89.length c98) (Kz (.slice A99 r90.length c100) (Kz (.int .i64 r91) (Az rfl (Az rfl (Az rfl (An rfl ?_))))))))
 have H113 := H96.pk [0, 1, 2, 3, 4]
 refine Wp.region (Mz rfl (Mz rfl (Az rfl (Az rfl (WL.nil ?_)))))
 have H114 := H113.pk [2, 0, 1, 3, 4]
 exact Fin.join (A97, c98, r89, A99, c100, r90, A101, c102, d103, r92.xrows.ls) ⟨rfl, rfl, rfl, rfl, rfl, rfl, rfl, rfl, trivial⟩ (dm80.2 ⟨H114, by exact hd104, by omega, by omega, by first | assumption | exact sound_nil, by first | omega | exact Sound.len (by assumption) | exact Nat.zero_le _, by omega, by omega, et (ip h81) (bnd_of hr93)⟩)
 refine jF (dF h81) (sr (Mz rfl (Kz (.pointer (some ⟨g63, 1, none⟩)) (Lz (.int .u64 ((x60.xTxn : Nat) : Int)) H67 0 Try.isAgg30 ?_))))
 have H115 := H67.pk [1, 2, 3, 0]
 obtain ⟨⟨r121, r122, r123⟩, hr124⟩ : ∃ q : (List Nat) × (List Nat) × TableT, locks_Table_Release (TableT.mk (Ll.mk l43)) x60.xTxn = q := ⟨_, rfl⟩
 obtain ⟨D116, HP117, ro118, bk119, rr120⟩ := Own.enter3 H115
 refine cl Try.call13 (locks_Table_Release_ok _ _ g31 (TableT.mk (Ll.mk l43)) A41 c42 d44 x60.xTxn r121 r122 r123 HP117 hi54 (by first | omega | (dsimp only; omega) | exact Sound.len (by assumption) | exact Nat.zero_le _) (by first | assumption | exact Sound.hd (by assumption) | exact Sound.hd sound_nil) (by first | assumption | exact sound_nil) hr124) ?_
 rintro _ w125 ⟨A128, c129, A130, c131, A132, c133, d134, rfl, HQ126, hd135⟩
 have H127 := bk119 _ _ HQ126
 have hl136 := abs_len hd135
 have hb137 := H127.rowC (i := 0) rfl
 have hb138 := H127.rowC (i := 1) rfl
 have hb139 := H127.rowC (i := 3) rfl
 have hz140 := release_sound (m := l43) (by first | assumption | exact sound_nil) hr124
 replace hz140 : Sound r123.xrows.ls := hz140
 have hl141 : r123.xrows.ls.length ≤ 192 := hz140.len
 obtain ⟨hl142, hl143⟩ := release_lens (m := l43) (by first | assumption | exact sound_nil) hr124
 replace hl142 : r121.length ≤ 400 := hl142
 replace hl143 : r122.length ≤ 400 := hl143
 refine Mz rfl (Kz (.slice A128 r121.length c129) (Kz (.slice A130 r122.length c131) (Az rfl (Ar rfl (Mz rfl (Kz (.pointer (some ⟨g63, 1, none⟩)) (Lz (.int .u64 ((x60.xTxn : Nat) : Int)) H127 5 Try.isAgg30 ?_)))))))
 have H144 := H127.pk [2, 0, 1, 3, 4, 5]
 have hb150 := H144.rowC (i := 3) rfl
 obtain ⟨r151, hr152⟩ : ∃ q, locks_Table_Holds r123 x60.xTxn = q := ⟨_, rfl⟩
 obtain ⟨D145, HP146, ro147, bk148, rr149⟩ := Own.enter1 H144
 refine cl Try.call17 (locks_Table_Holds_ok _ _ g31 r123 A132 c133 d134 x60.xTxn r151 HP146 hd135 (rr149 _ 2 _ rfl row_rds) (show r123.xrows.ls.length ≤ c133 ∧ r123.xrows.ls.length ≤ 9223372036854775807 from by omega) (fun x9 h9 => ⟨rr149 _ 3 _ rfl (sepL_mem (List.mem_flatMap.2 ⟨x9, h9, .head _⟩) row_rds), own_rd (φ := fun _ => _) H144 (i := 4) rfl (sepL_mem (List.mem_flatMap.2 ⟨x9, h9, .head _⟩) row_le2)⟩) (by first | omega | (dsimp only; omega)) (by first | assumption | exact Sound.hd (by assumption)) hr152) ?_
 rintro _ w153 ⟨A156, c157, rfl, HQ154⟩
 have H155 := bk148 _ _ HQ154
 have hb158 := H155.rowC (i := 0) rfl
 refine Kz (.int .i64 ((r151.length : Nat) : Int)) (Kz (.bool (decide (((r151.length : Nat) : Int) > 0))) (nt ?_))
 by_cases h159 : ((r151.length : Nat) : Int) > 0
 refine jT (dT h159) (Wp.seq ?_)
 have H160 := H155.pk [1, 2, 3, 4, 5]
 refine Wp.region (An rfl (rt (tR (bR (tR (tR (bR (tR (rs ?_)))))))))
 have H161 := H160.pk []
 obtain rfl : _ = false := hr.symm.trans (et (bnd_of hr27) (et (iN h34) (lp_r (et (hq53) (et (congrArg (fun q => w16_LocksApart_L0 r26 q l43) hd62) (lpS_r (et (iN h81) (et (bnd_of hr124) (et (bnd_of hr152) (ip h159))))))))))
 exact ⟨rfl, H161⟩
 refine jF (dF h159) (Wp.skip ?_)
 have H162 := H155.pk [1, 2, 3, 4, 5]
 exact Fin.join (A128, c129, r121, A130, c131, r122, A132, c133, d134, r123.xrows.ls) ⟨rfl, rfl, rfl, rfl, rfl, rfl, rfl, rfl, trivial⟩ (dm80.2 ⟨H162, by exact hd135, by omega, by omega, by first | assumption | exact sound_nil, by first | omega | exact Sound.len (by assumption) | exact Nat.zero_le _, by omega, by omega, et (iN h81) (et (bnd_of hr124) (et (bnd_of hr152) (iN h159)))⟩)
 rintro ⟨A68, c69, l70, A71, c72, l73, A74, c75, d77, l76⟩ w163 hf165
 show Wp _ _ _ [(2, .bool false), (7, .slice A68 l70.length c69), (8, .slice A71 l73.length c72), (35, .int .i64 ((k40 : Nat) : Int)), (34, .int .i64 ((l0.length : Nat) : Int)), (33, .slice A0 l0.length c0), (4, .pointer (some ⟨g31, 0, none⟩)), (3, .bool r26)] _ _
 obtain ⟨H164, hi167, hi168, hi169, hi170, hi171, hi172, hi173, hj166⟩ := dm80.1 hf165
 have hl174 := abs_len hi167
 refine Wp.seq (sr (Mz rfl (Kz (.int .i64 ((l73.length : Nat) : Int)) (Mn rfl (bo ?_)))))
 have H177 := H164.pk [0, 1, 2, 3, 4]
 obtain ⟨I181, hI182⟩ : ∃ q : Nat → World → Prop, q = fun (i : Nat) w' => Own w D w' [blk g31 [.slice A74 l76.length c75] 59, row A68 l70.length c69 (List.flatMap (eN .u64) l70) 30 1, row A71 l73.length c72 (List.flatMap (eN .u64) l73) 30 1, row A74 l76.length c75 (List.flatMap rowD.cells d77) 72 6, sepL (List.flatMap rowD.own d77)] ∧ (i ≤ l73.length ∧ w16_LocksApart_L1 l70 l73 l76 l73 = w16_LocksApart_L1 l70 l73 l76 (List.drop i l73)) := ⟨_, rfl⟩
 have dm183 : ∀ {k175 : Nat} {w' : World}, I181 k175 w' ↔ Own w D w' [blk g31 [.slice A74 l76.length c75] 59, row A68 l70.length c69 (List.flatMap (eN .u64) l70) 30 1, row A71 l73.length c72 (List.flatMap (eN .u64) l73) 30 1, row A74 l76.length c75 (List.flatMap rowD.cells d77) 72 6, sepL (List.flatMap rowD.own d77)] ∧ k175 ≤ l73.length ∧ w16_LocksApart_L1 l70 l73 l76 l73 = w16_LocksApart_L1 l70 l73 l76 (List.drop k175 l73) := by intros; subst hI182; exact Iff.rfl
 refine Wp.loop (fun i : Nat => [(2, .bool false), (70, .int .i64 ((i : Nat) : Int)), (69, .int .i64 ((l73.length : Nat) : Int)), (68, .slice A71 l73.length c72), (7, .slice A68 l70.length c69), (8, .slice A71 l73.length c72), (35, .int .i64 ((k40 : Nat) : Int)), (34, .int .i64 ((l0.length : Nat) : Int)), (33, .slice A0 l0.length c0), (4, .pointer (some ⟨g31, 0, none⟩)), (3, .bool r26)]) I181 (fun i => l73.length - i) 0 ⟨rfl, rfl, rfl, rfl, rfl, rfl, rfl, rfl, rfl, rfl, rfl, trivial⟩ (dm183.2 ⟨H177, by omega, rfl⟩) ?_
 rintro k175 w178 hf180
 show Wp _ _ _ [(2, .bool false), (70, .int .i64 ((k175 : Nat) : Int)), (69, .int .i64 ((l73.length : Nat) : Int)), (68, .slice A71 l73.length c72), (7, .slice A68 l70.length c69), (8, .slice A71 l73.length c72), (35, .int .i64 ((k40 : Nat) : Int)), (34, .int .i64 ((l0.length : Nat) : Int)), (33, .slice A0 l0.length c0), (4, .pointer (some ⟨g31, 0, none⟩)), (3, .bool r26)] _ _
 obtain ⟨H179, hi185, hq184⟩ := dm183.1 hf180
 refine sr (Kz (.bool (decide (((k175 : Nat) : Int) < ((l73.length : Nat) : Int)))) (nt (Wp.seq ?_)))
 by_cases h186 : ((k175 : Nat) : Int) < ((l73.length : Nat) : Int)
 obtain ⟨x187, hx188⟩ := rds_at (ls := l73) (i := k175) eN_len (by decide) (H179.rds (i := 2) rfl) (by first | omega | (simp; done) | (simp; omega))
 have hd189 := drop_at hx188
 refine jT (dT h186) (sk (Wp.seq (bo (sr (fw (.pointer (some ⟨ab A71, ao A71 + k175 * 1, none⟩)) (Yl.indexAddr (El37) rfl rfl ((H179.rds (i := 2) rfl).addr (i := k175) (by omega)) (by omega)) (fw (.int .u64 ((x187 : Nat) : Int)) (Yl.load rfl (Lds.one Try.isAgg30 (((H179.rds (i := 2) rfl).elem eN_len hx188 (by decide)).at_ (k := 0) rfl))) (Ar rfl (Mz rfl (Mz rfl ?_)))))))))
 have hb195 := H179.rowC (i := 3) rfl
 obtain ⟨r196, hr197⟩ : ∃ q, locks_Table_Holds (TableT.mk (Ll.mk l76)) x187 = q := ⟨_, rfl⟩
 obtain ⟨D190, HP191, ro192, bk193, rr194⟩ := Own.enter1 H179
 refine cl Try.call17 (locks_Table_Holds_ok _ _ g31 (TableT.mk (Ll.mk l76)) A74 c75 d77 x187 r196 HP191 hi167 (rr194 _ 2 _ rfl row_rds) (show l76.length ≤ c75 ∧ l76.length ≤ 9223372036854775807 from by omega) (fun x9 h9 => ⟨rr194 _ 3 _ rfl (sepL_mem (List.mem_flatMap.2 ⟨x9, h9, .head _⟩) row_rds), own_rd (φ := fun _ => _) H179 (i := 4) rfl (sepL_mem (List.mem_flatMap.2 ⟨x9, h9, .head _⟩) row_le2)⟩) (by first | omega | (dsimp only; omega)) (by first | assumption | exact Sound.hd (by assumption)) hr197) ?_
 rintro _ w198 ⟨A201, c202, rfl, HQ199⟩
 have H200 := bk193 _ _ HQ199
 have hb203 := H200.rowC (i := 0) rfl
 refine Kz (.int .i64 ((r196.length : Nat) : Int)) (Kz (.bool (decide (((r196.length : Nat) : Int) > 0))) (nt ?_))
 by_cases h204 : ((r196.length : Nat) : Int) > 0
 refine jT (dT h204) (Wp.seq ?_)
 have H205 := H200.pk [1, 2, 3, 4, 5]
 refine Wp.region (An rfl (rt (bR (tR (tR (bR (tR (bR (tR (tR (bR (tR (rs ?_)))))))))))))
 have H206 := H205.pk []
 obtain rfl : _ = false := hr.symm.trans (et (bnd_of hr27) (et (iN h34) (lp_r (et (hq53) (et (congrArg (fun q => w16_LocksApart_L0 r26 q l43) hd62) (et (lpS_l hj166) (lpS_r (et (hq184) (et (congrArg (fun q => w16_LocksApart_L1 l70 l73 l76 q) hd189) (et (bnd_of hr197) (ip h204)))))))))))
 exact ⟨rfl, H206⟩
 refine jF (dF h204) (Wp.skip (bN (Fin.then ?_)))
 have H207 := H200.pk [1, 2, 3, 4, 5]
 refine Wp.region (fw (.int .i64 ((k175 + 1 : Nat) : Int)) (Yl.int (e := IntKind.i64.wrap (((k175 : Nat) : Int) + 1)) yk (by rw [IntWalk.i64_in _ (by omega)]; omega)) (Mz rfl (WL.nil ?_)))
 have H208 := H207.pk [0, 1, 2, 3, 4]
 exact Fin.round (k175 + 1) ⟨rfl, rfl, rfl, rfl, rfl, rfl, rfl, rfl, rfl, rfl, rfl, trivial⟩ (dm183.2 ⟨H208, by omega, et (hq184) (et (congrArg (fun q => w16_LocksApart_L1 l70 l73 l76 q) hd189) (et (bnd_of hr197) (iN h204)))⟩) (by show l73.length - (k175 + 1) < l73.length - k175; omega)
 refine jF (dF h186) (Wp.exit (Fin.thenX ?_))
 have hL209 : w16_LocksApart_L1 l70 l73 l76 l73 = Sum.inl () := et (hq184) (et (congrArg (fun q => w16_LocksApart_L1 l70 l73 l76 q) (drop_end (ls := l73) (i := k175) (by omega))) rfl)
 refine Fin.thenX (Fin.blockX (Fin.then (Wp.seq (sr (Mz rfl ?_)))))
 have hb215 := H179.rowC (i := 3) rfl
 obtain ⟨r216, hr217⟩ : ∃ q, locks_Table_Waiting (TableT.mk (Ll.mk l76)) = q := ⟨_, rfl⟩
 obtain ⟨D210, HP211, ro212, bk213, rr214⟩ := Own.enter1 H179
 refine cl Try.call18 (locks_Table_Waiting_ok _ _ g31 (TableT.mk (Ll.mk l76)) A74 c75 d77 r216 HP211 hi167 (rr214 _ 2 _ rfl row_rds) (show l76.length ≤ c75 ∧ l76.length ≤ 9223372036854775807 from by omega) (fun x9 h9 => ⟨rr214 _ 3 _ rfl (sepL_mem (List.mem_flatMap.2 ⟨x9, h9, .head _⟩) row_rds), own_rd (φ := fun _ => _) H179 (i := 4) rfl (sepL_mem (List.mem_flatMap.2 ⟨x9, h9, .head _⟩) row_le2)⟩) (by first | omega | (dsimp only; omega)) hr217) ?_
 rintro _ w218 ⟨A221, c222, rfl, HQ219⟩
 have H220 := bk213 _ _ HQ219
 have hb223 := H220.rowC (i := 0) rfl
 refine Kz (.int .i64 ((r216.length : Nat) : Int)) (Mn rfl (bo ?_))
 have H226 := H220.pk [0, 1, 2, 3, 4, 5]
 obtain ⟨I230, hI231⟩ : ∃ q : Nat → World → Prop, q = fun (i : Nat) w' => Own w D w' [row A221 r216.length c222 (List.flatMap AskD.cells r216) 51 4, blk g31 [.slice A74 l76.length c75] 59, row A68 l70.length c69 (List.flatMap (eN .u64) l70) 30 1, row A71 l73.length c72 (List.flatMap (eN .u64) l73) 30 1, row A74 l76.length c75 (List.flatMap rowD.cells d77) 72 6, sepL (List.flatMap rowD.own d77)] ∧ (i ≤ r216.length ∧ w16_LocksApart_L2 l70 l73 l76 r216 = w16_LocksApart_L2 l70 l73 l76 (List.drop i r216)) := ⟨_, rfl⟩
 have dm232 : ∀ {k224 : Nat} {w' : World}, I230 k224 w' ↔ Own w D w' [row A221 r216.length c222 (List.flatMap AskD.cells r216) 51 4, blk g31 [.slice A74 l76.length c75] 59, row A68 l70.length c69 (List.flatMap (eN .u64) l70) 30 1, row A71 l73.length c72 (List.flatMap (eN .u64) l73) 30 1, row A74 l76.length c75 (List.flatMap rowD.cells d77) 72 6, sepL (List.flatMap rowD.own d77)] ∧ k224 ≤ r216.length ∧ w16_LocksApart_L2 l70 l73 l76 r216 = w16_LocksApart_L2 l70 l73 l76 (List.drop k224 r216) := by intros; subst hI231; exact Iff.rfl
 refine Wp.loop (fun i : Nat => [(2, .bool false), (83, .int .i64 ((i : Nat) : Int)), (82, .int .i64 ((r216.length : Nat) : Int)), (81, .slice A221 r216.length c222), (7, .slice A68 l70.length c69), (8, .slice A71 l73.length c72), (35, .int .i64 ((k40 : Nat) : Int)), (34, .int .i64 ((l0.length : Nat) : Int)), (33, .slice A0 l0.length c0), (4, .pointer (some ⟨g31, 0, none⟩)), (3, .bool r26)]) I230 (fun i => r216.length - i) 0 ⟨rfl, rfl, rfl, rfl, rfl, rfl, rfl, rfl, rfl, rfl, rfl, trivial⟩ (dm232.2 ⟨H226, by omega, rfl⟩) ?_
 rintro k224 w227 hf229
 show Wp _ _ _ [(2, .bool false), (83, .int .i64 ((k224 : Nat) : Int)), (82, .int .i64 ((r216.length : Nat) : Int)), (81, .slice A221 r216.length c222), (7, .slice A68 l70.length c69), (8, .slice A71 l73.length c72), (35, .int .i64 ((k40 : Nat) : Int)), (34, .int .i64 ((l0.length : Nat) : Int)), (33, .slice A0 l0.length c0), (4, .pointer (some ⟨g31, 0, none⟩)), (3, .bool r26)] _ _
 obtain ⟨H228, hi234, hq233⟩ := dm232.1 hf229
 refine sr (Kz (.bool (decide (((k224 : Nat) : Int) < ((r216.length : Nat) : Int)))) (nt (Wp.seq ?_)))
 by_cases h235 : ((k224 : Nat) : Int) < ((r216.length : Nat) : Int)
 obtain ⟨x236, hx237⟩ := rds_at (ls := r216) (i := k224) AskD.len (by decide) (H228.rds (i := 0) rfl) (by first | omega | (simp; done) | (simp; omega))
 have hd238 := drop_at hx237
 refine jT (dT h235) (sk (Wp.seq (bo (sr (fw (.pointer (some ⟨ab A221, ao A221 + k224 * 4, none⟩)) (Yl.indexAddr (El48) rfl rfl ((H228.rds (i := 0) rfl).addr (i := k224) (by omega)) (by omega)) (fw (.agg (AskD.cells x236).toArray) (Yl.load rfl (Lds.agg (cs := (AskD.cells x236)) Try.isAgg51 Try.sizeOf51 ((H228.rds (i := 0) rfl).elem AskD.len hx237 (by decide)))) ?_))))))
 refine npw [.int .u64 0, .string ⟨List.toArray ([])⟩, .string ⟨List.toArray ([])⟩, .bool false] 51 H228 ?_
 intro g239 w240 H241
 refine sto (AskD.cells x236) 0 H241 Try.sizeOf51 ?_
 intro w242 H243
 refine ns (Mz rfl ?_)
 have H244 : Own w D w242 [row none 0 0 (List.flatMap (eN .u64) ([])) 30 1, blk g239 (AskD.cells x236) 51, row A221 r216.length c222 (List.flatMap AskD.cells r216) 51 4, blk g31 [.slice A74 l76.length c75] 59, row A68 l70.length c69 (List.flatMap (eN .u64) l70) 30 1, row A71 l73.length c72 (List.flatMap (eN .u64) l73) 30 1, row A74 l76.length c75 (List.flatMap rowD.cells d77) 72 6, sepL (List.flatMap rowD.own d77)] := H243.free (row_nil 30 1)
 refine WL.do rfl (Do.appendW (k := 0) (m := l70.length) (El37) H244 rfl rfl (src_of Try.underlying37 (H244.rds (i := 4) rfl) (flat_one eN_one l70)) rfl (by omega) (s := l70.length) (by omega) rfl ?_)
 intro A245 c246 w247 H248
 refine Mz rfl ?_
 refine WL.do rfl (Do.appendW (k := l70.length) (m := l73.length) (El37) H248 rfl rfl (src_of Try.underlying37 (H248.rds (i := 5) rfl) (flat_one eN_one l73)) rfl (by omega) (s := List.length (l70 ++ l73)) (by first | omega | (simp only [List.length_append, List.length_cons, List.length_nil] <;> omega)) (List.flatMap_append).symm ?_)
 intro A249 c250 w251 H252
 have hl253 : List.length (l70 ++ l73) = l70.length + l73.length := by simp only [List.length_append, List.length_cons, List.length_nil]
 refine Kz (.int .i64 ((List.length (l70 ++ l73) : Nat) : Int)) (Mn rfl (bo ?_))
 have H256 := H252.pk [0, 1, 2, 3, 4, 5, 6, 7]
 obtain ⟨I260, hI261⟩ : ∃ q : Nat → World → Prop, q = fun (i : Nat) w' => Own w D w' [row A249 (List.length (l70 ++ l73)) c250 (List.flatMap (eN .u64) (l70 ++ l73)) 30 1, blk g239 (AskD.cells x236) 51, row A221 r216.length c222 (List.flatMap AskD.cells r216) 51 4, blk g31 [.slice A74 l76.length c75] 59, row A68 l70.length c69 (List.flatMap (eN .u64) l70) 30 1, row A71 l73.length c72 (List.flatMap (eN .u64) l73) 30 1, row A74 l76.length c75 (List.flatMap rowD.cells d77) 72 6, sepL (List.flatMap rowD.own d77)] ∧ (i ≤ List.length (l70 ++ l73) ∧ w16_LocksApart_L3 x236 l70 l73 (List.length (l70 ++ l73)) 0 = w16_LocksApart_L3 x236 l70 l73 ((List.length (l70 ++ l73)) - i) i) := ⟨_, rfl⟩
 have dm262 : ∀ {k254 : Nat} {w' : World}, I260 k254 w' ↔ Own w D w' [row A249 (List.length (l70 ++ l73)) c250 (List.flatMap (eN .u64) (l70 ++ l73)) 30 1, blk g239 (AskD.cells x236) 51, row A221 r216.length c222 (List.flatMap AskD.cells r216) 51 4, blk g31 [.slice A74 l76.length c75] 59, row A68 l70.length c69 (List.flatMap (eN .u64) l70) 30 1, row A71 l73.length c72 (List.flatMap (eN .u64) l73) 30 1, row A74 l76.length c75 (List.flatMap rowD.cells d77) 72 6, sepL (List.flatMap rowD.own d77)] ∧ k254 ≤ List.length (l70 ++ l73) ∧ w16_LocksApart_L3 x236 l70 l73 (List.length (l70 ++ l73)) 0 = w16_LocksApart_L3 x236 l70 l73 ((List.length (l70 ++ l73)) - k254) k254 := by intros; subst hI261; exact Iff.rfl
 refine Wp.loop (fun i : Nat => [(2, .bool false), (92, .int .i64 ((i : Nat) : Int)), (91, .int .i64 ((List.length (l70 ++ l73) : Nat) : Int)), (90, .slice A249 (List.length (l70 ++ l73)) c250), (16, .pointer (some ⟨g239, 0, none⟩)), (83, .int .i64 ((k224 : Nat) : Int)), (82, .int .i64 ((r216.length : Nat) : Int)), (81, .slice A221 r216.length c222), (7, .slice A68 l70.length c69), (8, .slice A71 l73.length c72), (35, .int .i64 ((k40 : Nat) : Int)), (34, .int .i64 ((l0.length : Nat) : Int)), (33, .slice A0 l0.length c0), (4, .pointer (some ⟨g31, 0, none⟩)), (3, .bool r26)]) I260 (fun i => (List.length (l70 ++ l73)) - i) 0 ⟨rfl, rfl, rfl, rfl, rfl, rfl, rfl, rfl, rfl, rfl, rfl, rfl, rfl, rfl, rfl, trivial⟩ (dm262.2 ⟨H256, by omega, rfl⟩) ?_
 rintro k254 w257 hf259
 show Wp _ _ _ [(2, .bool false), (92, .int .i64 ((k254 : Nat) : Int)), (91, .int .i64 ((List.length (l70 ++ l73) : Nat) : Int)), (90, .slice A249 (List.length (l70 ++ l73)) c250), (16, .pointer (some ⟨g239, 0, none⟩)), (83, .int .i64 ((k224 : Nat) : Int)), (82, .int .i64 ((r216.length : Nat) : Int)), (81, .slice A221 r216.length c222), (7, .slice A68 l70.length c69), (8, .slice A71 l73.length c72), (35, .int .i64 ((k40 : Nat) : Int)), (34, .int .i64 ((l0.length : Nat) : Int)), (33, .slice A0 l0.length c0), (4, .pointer (some ⟨g31, 0, none⟩)), (3, .bool r26)] _ _
 obtain ⟨H258, hi264, hq263⟩ := dm262.1 hf259
 refine sr (Kz (.bool (decide (((k254 : Nat) : Int) < ((List.length (l70 ++ l73) : Nat) : Int)))) (nt (Wp.seq ?_)))
 by_cases h265 : ((k254 : Nat) : Int) < ((List.length (l70 ++ l73) : Nat) : Int)
 refine jT (dT h265) (sk (Wp.seq (bo (sr ?_))))
 obtain ⟨x266, hx267⟩ := rds_at (ls := (l70 ++ l73)) (i := k254) eN_len (by decide) (H258.rds (i := 0) rfl) (by first | omega | (simp; done) | (simp; omega))
 refine fw (.pointer (some ⟨ab A249, ao A249 + k254 * 1, none⟩)) (Yl.indexAddr (El37) rfl rfl ((H258.rds (i := 0) rfl).addr (i := k254) (by omega)) (by omega)) (fw (.int .u64 ((x266 : Nat) : Int)) (Yl.load rfl (Lds.one Try.isAgg30 (((H258.rds (i := 0) rfl).elem eN_len hx267 (by decide)).at_ (k := 0) rfl))) (Ar rfl (Kz (.pointer (some ⟨g239, 0, none⟩)) (Lz (.int .u64 ((x236.xTxn : Nat) : Int)) H258 1 Try.isAgg30 (Mz rfl (Kz (.bool (decide (((x236.xTxn : Nat) : Int) = ((x266 : Nat) : Int)))) (nt ?_)))))))
 by_cases h268 : ((x236.xTxn : Nat) : Int) = ((x266 : Nat) : Int)
 refine jT (dT h268) (sr (An rfl (rt (bR (tR (tR (bR (bR (tR (tR (bR (tR (bR (tR (tR (bR (tR (rs ?_))))))))))))))))))
 have H269 := H258.pk []
 obtain rfl : _ = false := hr.symm.trans (et (bnd_of hr27) (et (iN h34) (lp_r (et (hq53) (et (congrArg (fun q => w16_LocksApart_L0 r26 q l43) hd62) (et (lpS_l hj166) (et (lpS_l hL209) (et (bnd_of hr217) (lpS_r (et (hq233) (et (congrArg (fun q => w16_LocksApart_L2 l70 l73 l76 q) hd238) (lpS_r (et (hq263) (et (congrArg (fun q => w16_LocksApart_L3 x236 l70 l73 q k254) (sub_at (n := List.length (l70 ++ l73)) (i := k254) (by omega))) (et (bnd_of (getD_of hx267)) (ip h268))))))))))))))))
 exact ⟨rfl, H269⟩
 refine jF (dF h268) (Wp.skip (bN (Fin.then (Wp.region (fw (.int .i64 ((k254 + 1 : Nat) : Int)) (Yl.int (e := IntKind.i64.wrap (((k254 : Nat) : Int) + 1)) yk (by rw [IntWalk.i64_in _ (by omega)]; omega)) (Mz rfl (WL.nil ?_)))))))
 have H270 := H258.pk [0, 1, 2, 3, 4, 5, 6, 7]
 exact Fin.round (k254 + 1) ⟨rfl, rfl, rfl, rfl, rfl, rfl, rfl, rfl, rfl, rfl, rfl, rfl, rfl, rfl, rfl, trivial⟩ (dm262.2 ⟨H270, by omega, et (hq263) (et (congrArg (fun q => w16_LocksApart_L3 x236 l70 l73 q k254) (sub_at (n := List.length (l70 ++ l73)) (i := k254) (by omega))) (et (bnd_of (getD_of hx267)) (iN h268)))⟩) (by show (List.length (l70 ++ l73)) - (k254 + 1) < (List.length (l70 ++ l73)) - k254; omega)
 refine jF (dF h265) (Wp.exit (Fin.thenX ?_))
 have hL271 : w16_LocksApart_L3 x236 l70 l73 (List.length (l70 ++ l73)) 0 = Sum.inl () := et (hq263) (et (congrArg (fun q => w16_LocksApart_L3 x236 l70 l73 q k254) (sub_end (n := List.length (l70 ++ l73)) (i := k254) (by omega))) rfl)
 refine Fin.thenX (Fin.blockX (bN (Fin.then ?_)))
 have H272 := H258.pk [2, 3, 4, 5, 6, 7]
 refine Wp.region (fw (.int .i64 ((k224 + 1 : Nat) : Int)) (Yl.int (e := IntKind.i64.wrap (((k224 : Nat) : Int) + 1)) yk (by rw [IntWalk.i64_in _ (by omega)]; omega)) (Mz rfl (WL.nil ?_)))
 have H273 := H272.pk [0, 1, 2, 3, 4, 5]
 exact Fin.round (k224 + 1) ⟨rfl, rfl, rfl, rfl, rfl, rfl, rfl, rfl, rfl, rfl, rfl, trivial⟩ (dm232.2 ⟨H273, by omega, et (hq233) (et (congrArg (fun q => w16_LocksApart_L2 l70 l73 l76 q) hd238) (lpS_l hL271))⟩) (by show r216.length - (k224 + 1) < r216.length - k224; omega)
 refine jF (dF h235) (Wp.exit (Fin.thenX ?_))
 have hL274 : w16_LocksApart_L2 l70 l73 l76 r216 = Sum.inl () := et (hq233) (et (congrArg (fun q => w16_LocksApart_L2 l70 l73 l76 q) (drop_end (ls := r216) (i := k224) (by omega))) rfl)
 refine Fin.thenX (Fin.blockX (Fin.then (Wp.seq ?_)))
 have H275 := H228.pk [1, 4, 5]
 refine Wp.region (Mz rfl ?_)
 have hb281 := H275.rowC (i := 1) rfl
 obtain ⟨r282, hr283⟩ : ∃ q, w16_sound (TableT.mk (Ll.mk l76)) = q := ⟨_, rfl⟩
 obtain ⟨D276, HP277, ro278, bk279, rr280⟩ := Own.enter1 H275
 refine cl Try.call19 (w16_sound_ok _ _ g31 (TableT.mk (Ll.mk l76)) A74 c75 d77 r282 HP277 hi167 (rr280 _ 0 _ rfl row_rds) (show l76.length ≤ c75 ∧ l76.length ≤ 9223372036854775807 from by omega) (fun x9 h9 => ⟨rr280 _ 1 _ rfl (sepL_mem (List.mem_flatMap.2 ⟨x9, h9, .head _⟩) row_rds), own_rd (φ := fun _ => _) H275 (i := 2) rfl (sepL_mem (List.mem_flatMap.2 ⟨x9, h9, .head _⟩) row_le2)⟩) (by first | omega | (dsimp only; omega) | exact Sound.len (by assumption) | exact Nat.zero_le _) (by first | assumption | exact Sound.hd (by assumption) | exact Sound.hd sound_nil) (by first | assumption | exact sound_nil) hr283) ?_
 rintro _ w284 ⟨rfl, HQ285⟩
 have H286 := bk279 _ _ HQ285
 refine Kz (.bool (!r282)) (nt ?_)
 rcases Bool.eq_false_or_eq_true (r282) with h287 | h287
 refine jF (cn h287) (Wp.skip (bN (Fin.then (Wp.region (fw (.int .i64 ((k40 + 1 : Nat) : Int)) (Yl.int (e := IntKind.i64.wrap (((k40 : Nat) : Int) + 1)) yk (by rw [IntWalk.i64_in _ (by omega)]; omega)) (Mz rfl (WL.nil ?_)))))))
 have H288 := H286.pk [0, 1, 2]
 exact Fin.round (k40 + 1, A74, c75, d77, l76) ⟨rfl, rfl, rfl, rfl, rfl, rfl, trivial⟩ (dm52.2 ⟨H288, by exact hi167, by omega, by first | assumption | exact sound_nil, by first | omega | exact Sound.len (by assumption) | exact Nat.zero_le _, et (hq53) (et (congrArg (fun q => w16_LocksApart_L0 r26 q l43) hd62) (et (lpS_l hj166) (et (lpS_l hL209) (et (bnd_of hr217) (et (lpS_l hL274) (et (bnd_of hr283) (ip h287)))))))⟩) (by show l0.length - (k40 + 1) < l0.length - k40; omega)
 refine jT (cn h287) (sr (An rfl (rt (bR (tR (tR (bR (tR (rs ?_)))))))))
 have H289 := H286.pk []
 obtain rfl : _ = false := hr.symm.trans (et (bnd_of hr27) (et (iN h34) (lp_r (et (hq53) (et (congrArg (fun q => w16_LocksApart_L0 r26 q l43) hd62) (et (lpS_l hj166) (et (lpS_l hL209) (et (bnd_of hr217) (et (lpS_l hL274) (et (bnd_of hr283) (ifF h287)))))))))))
 exact ⟨rfl, H289⟩
 refine jF (dF h59) (Wp.exit (Fin.thenX ?_))
 have hL290 : w16_LocksApart_L0 r26 l0 ([]) = Sum.inl () := et (hq53) (et (congrArg (fun q => w16_LocksApart_L0 r26 q l43) (drop_end (ls := l0) (i := k40) (by omega))) rfl)
 refine Fin.thenX (Fin.blockX (Fin.then (Wp.seq ?_)))
 have H291 := H48.pk []
 refine Wp.region (Mz rfl (An rfl (rt (rs ?_))))
 have H292 := H291.pk []
 obtain rfl : _ = r26 := hr.symm.trans (et (bnd_of hr27) (et (iN h34) (lp_l hL290)))
 exact ⟨rfl, H292⟩
end Go.Proofs.Ytggnajpokhaaiaa
