/-
 locks: a table's methods.
-/
import Derived.Test.YtggnajpokhaaiaaTc
import Derived.Test.YtggnajpokhaaiaaKn
import Derived.Test.YtggnajpokhaaiaaKy
namespace Go.Proofs.Ytggnajpokhaaiaa
open Go.RowKit
set_option linter.unusedVariables false
set_option linter.unusedSectionVars false
set_option linter.unusedSimpArgs false
theorem El46 : Elem Try.prog 46 34 3 40 := elem_of (z := .agg #[.string ⟨List.toArray ([])⟩, .string ⟨List.toArray ([])⟩, .bool false]) Try.underlying46 (by kernel_rfl) rfl (by decide)
structure RangeD where
 xLo : List UInt8
 xHi : List UInt8
def RangeD.cells (x : RangeD) : List Value := [.string ⟨List.toArray x.xLo⟩, .string ⟨List.toArray x.xHi⟩]
instance : Bk RangeD := ⟨fun x _ => bk x.xLo + (bk x.xHi + (0))⟩
theorem RangeD.len : ∀ x, (RangeD.cells x).length = 2 := fun _ => rfl
theorem RangeD.one : ∀ x, ∀ u ∈ RangeD.cells x, u.oneCell' = true := fun x u hu => by
 simp only [RangeD.cells, List.mem_cons, List.not_mem_nil, or_false] at hu
 rcases hu with rfl | rfl <;> rfl
def RangeD.Ok (w : World) (x : RangeD) : Prop := (x.xLo.length ≤ 140737488351232) ∧ (x.xHi.length ≤ 140737488351232)
set_option maxRecDepth 100000 in
theorem opens_RangeD (w : World) : Opens Try.prog w 32 2 RangeD.cells (RangeD.Ok w) :=
 (opens_struct (sz := 2) Try.underlying32 (by kernel_rfl) (OpensF.cons (i := 0) (off := 0) (s := 1) rfl rfl (opens_string Try.underlying9 (by kernel_rfl)) (OpensF.cons (i := 1) (off := 1) (s := 1) rfl rfl (opens_string Try.underlying9 (by kernel_rfl)) OpensF.nil))).map (fun p => ⟨p.1, p.2.1⟩) RangeD.len (fun _ => rfl) (fun _ h => ⟨h.1, h.2.1⟩) fun _ => Nat.le_refl _
instance : Inhabited RangeD := ⟨⟨default, default⟩⟩
structure LockD where
 xRange : RangeD
 xWrite : Bool
def LockD.cells (x : LockD) : List Value := [.string ⟨List.toArray x.xRange.xLo⟩, .string ⟨List.toArray x.xRange.xHi⟩, .bool x.xWrite]
instance : Bk LockD := ⟨fun x _ => bk x.xRange + (bk x.xWrite + (0))⟩
theorem LockD.len : ∀ x, (LockD.cells x).length = 3 := fun _ => rfl
theorem LockD.one : ∀ x, ∀ u ∈ LockD.cells x, u.oneCell' = true := fun x u hu => by
 simp only [LockD.cells, List.mem_cons, List.not_mem_nil, or_false] at hu
 rcases hu with rfl | rfl | rfl <;> rfl
def LockD.Ok (w : World) (x : LockD) : Prop := (RangeD.Ok w x.xRange) ∧ (True)
set_option maxRecDepth 100000 in
theorem opens_LockD (w : World) : Opens Try.prog w 34 3 LockD.cells (LockD.Ok w) :=
 (opens_struct (sz := 3) Try.underlying34 (by kernel_rfl) (OpensF.cons (i := 0) (off := 0) (s := 2) rfl rfl (opens_RangeD w) (OpensF.cons (i := 1) (off := 2) (s := 1) rfl rfl (opens_bool Try.underlying4 (by kernel_rfl)) OpensF.nil))).map (fun p => ⟨p.1, p.2.1⟩) LockD.len (fun _ => rfl) (fun _ h => ⟨h.1, h.2.1⟩) fun _ => Nat.le_refl _
instance : Inhabited LockD := ⟨⟨default, default⟩⟩
structure rowD where
 xtxn : Nat
 xheld : Sv LockD
 xwaits : Bool
 xwant : LockD
def rowD.cells (x : rowD) : List Value := [.int .u64 ((x.xtxn : Nat) : Int), .slice x.xheld.A x.xheld.ls.length x.xheld.c, .bool x.xwaits, .string ⟨List.toArray x.xwant.xRange.xLo⟩, .string ⟨List.toArray x.xwant.xRange.xHi⟩, .bool x.xwant.xWrite]
instance : Bk rowD := ⟨fun x _ => bk x.xtxn + (bk x.xheld + (bk x.xwaits + (bk x.xwant + (0))))⟩
theorem rowD.len : ∀ x, (rowD.cells x).length = 6 := fun _ => rfl
theorem rowD.one : ∀ x, ∀ u ∈ rowD.cells x, u.oneCell' = true := fun x u hu => by
 simp only [rowD.cells, List.mem_cons, List.not_mem_nil, or_false] at hu
 rcases hu with rfl | rfl | rfl | rfl | rfl | rfl <;> rfl
def rowD.Ok (w : World) (x : rowD) : Prop := (x.xtxn ≤ 18446744073709551615) ∧ (SvOk w 3 40 LockD.cells (LockD.Ok w) x.xheld) ∧ (True) ∧ (LockD.Ok w x.xwant)
instance : Inhabited rowD := ⟨⟨default, default, default, default⟩⟩
structure rowT where
 xtxn : Nat
 xheld : Ll LockD
 xwaits : Bool
 xwant : LockD
instance : Inhabited rowT := ⟨⟨default, default, default, default⟩⟩
def rowD.abs (x : rowD) : rowT := ⟨x.xtxn, ⟨x.xheld.ls⟩, x.xwaits, x.xwant⟩
def rowD.own (x : rowD) : List HP := [row x.xheld.A x.xheld.ls.length x.xheld.c (List.flatMap LockD.cells x.xheld.ls) 34 3]
def Hd (l : List rowT) : Prop := ∀ r ∈ l, r.xheld.ls.length ≤ 1000000
def cmp_Compare_uint64 (p0 : Nat) (p1 : Nat) : Int :=
 bnd (cmp_isNaN_uint64 p0) fun yr26 => bnd (cmp_isNaN_uint64 p1) fun yr36 => if yr26 = true then if yr36 = true then 0 else (-1) else if yr36 = true then 1 else if ((p0 : Nat) : Int) < ((p1 : Nat) : Int) then (-1) else if ((p0 : Nat) : Int) > ((p1 : Nat) : Int) then 1 else 0
set_option maxRecDepth 100000 in
theorem cmp_Compare_uint64_ok (w : World) (D : Nat → Prop) (p0 : Nat) (p1 : Nat) (r0 : Int) (H : Own w D w [])  (hr : cmp_Compare_uint64 p0 p1 = r0) :
    Calls Try.prog 61 #[.int .u64 ((p0 : Nat) : Int), .int .u64 ((p1 : Nat) : Int)] w (Ret fun v w' => v = .int .i64 r0 ∧ Own w D w' []) := by
 refine Calls.body (args := [.int .u64 ((p0 : Nat) : Int), .int .u64 ((p1 : Nat) : Int)]) Try.func61 rfl rfl rfl ?_
 show Wp _ _ _ [(0, .int .u64 ((p0 : Nat) : Int)), (1, .int .u64 ((p1 : Nat) : Int))] _ _
 refine sr (Ar rfl (Mz rfl ?_))
 obtain ⟨r26, hr27⟩ : ∃ q, cmp_isNaN_uint64 p0 = q := ⟨_, rfl⟩
 obtain ⟨D21, HP22, ro23, bk24, rr25⟩ := Own.enter0 H
 refine cl Try.call69 (cmp_isNaN_uint64_ok _ _ p0 r26 HP22 hr27) ?_
 rintro _ w28 ⟨rfl, HQ29⟩
 have H30 := bk24 _ _ HQ29
 refine Ar rfl (Mz rfl ?_)
 obtain ⟨r36, hr37⟩ : ∃ q, cmp_isNaN_uint64 p1 = q := ⟨_, rfl⟩
 obtain ⟨D31, HP32, ro33, bk34, rr35⟩ := Own.enter0 H30
 refine cl Try.call69 (cmp_isNaN_uint64_ok _ _ p1 r36 HP32 hr37) ?_
 rintro _ w38 ⟨rfl, HQ39⟩
 have H40 := bk34 _ _ HQ39
 refine An rfl (Wp.seq (sr (Mn rfl ?_)))
 rcases Bool.eq_false_or_eq_true (r26) with h41 | h41
 refine jT h41 (Wp.seq (sr (Mn rfl ?_)))
 rcases Bool.eq_false_or_eq_true (r36) with h42 | h42
 refine jT h42 (sr (An rfl (rt (tR (tR (rs ?_))))))
 have H43 := H40.pk []
 obtain rfl : _ = 0 := hr.symm.trans (et (bnd_of hr27) (et (bnd_of hr37) (et (ip h41) (ip h42))))
 exact ⟨rfl, H43⟩
 refine jF h42 (sk (sr (An rfl (rt (tR (rs ?_))))))
 have H44 := H40.pk []
 obtain rfl : _ = (-1) := hr.symm.trans (et (bnd_of hr27) (et (bnd_of hr37) (et (ip h41) (ifF h42))))
 exact ⟨rfl, H44⟩
 refine jF h41 (sk (Wp.seq (sr (Mn rfl ?_))))
 rcases Bool.eq_false_or_eq_true (r36) with h45 | h45
 refine jT h45 (sr (An rfl (rt (tR (rs ?_)))))
 have H46 := H40.pk []
 obtain rfl : _ = 1 := hr.symm.trans (et (bnd_of hr27) (et (bnd_of hr37) (et (ifF h41) (ip h45))))
 exact ⟨rfl, H46⟩
 refine jF h45 (sk (Wp.seq (sr (Mz rfl (Mz rfl (Kz (.bool (decide (((p0 : Nat) : Int) < ((p1 : Nat) : Int)))) (nt ?_)))))))
 by_cases h47 : ((p0 : Nat) : Int) < ((p1 : Nat) : Int)
 refine jT (dT h47) (sr (An rfl (rt (tR (rs ?_)))))
 have H48 := H40.pk []
 obtain rfl : _ = (-1) := hr.symm.trans (et (bnd_of hr27) (et (bnd_of hr37) (et (ifF h41) (et (ifF h45) (ip h47)))))
 exact ⟨rfl, H48⟩
 refine jF (dF h47) (sk (Wp.seq (sr (Mz rfl (Mz rfl (Kz (.bool (decide (((p0 : Nat) : Int) > ((p1 : Nat) : Int)))) (nt ?_)))))))
 by_cases h49 : ((p0 : Nat) : Int) > ((p1 : Nat) : Int)
 refine jT (dT h49) (sr (An rfl (rt (tR (rs ?_)))))
 have H50 := H40.pk []
 obtain rfl : _ = 1 := hr.symm.trans (et (bnd_of hr27) (et (bnd_of hr37) (et (ifF h41) (et (ifF h45) (et (iN h47) (ip h49))))))
 exact ⟨rfl, H50⟩
 refine jF (dF h49) (sk (sr (An rfl (rt (rs ?_)))))
 have H51 := H40.pk []
 obtain rfl : _ = 0 := hr.symm.trans (et (bnd_of hr27) (et (bnd_of hr37) (et (ifF h41) (et (ifF h45) (et (iN h47) (iN h49))))))
 exact ⟨rfl, H51⟩
def span_CheckKey (p0 : List UInt8) : Int :=
 if ((p0.length : Nat) : Int) < 1 then 20 else if ((p0.length : Nat) : Int) > 12 then 20 else 0
set_option maxRecDepth 100000 in
theorem span_CheckKey_ok (w : World) (D : Nat → Prop) (p0 : List UInt8) (r0 : Int) (H : Own w D w [])  (hr : span_CheckKey p0 = r0) :
    Calls Try.prog 45 #[.string ⟨List.toArray p0⟩] w (Ret fun v w' => v = .int .i64 r0 ∧ Own w D w' []) := by
 refine Calls.body (args := [.string ⟨List.toArray p0⟩]) Try.func45 rfl rfl rfl ?_
 show Wp _ _ _ [(0, .string ⟨List.toArray p0⟩)] _ _
 refine sr (An rfl (Wp.seq (sr (Mz rfl (Kz (.int .i64 ((p0.length : Nat) : Int)) (Kz (.bool (decide (((p0.length : Nat) : Int) < 1))) (Mz rfl ?_)))))))
 by_cases h21 : ((p0.length : Nat) : Int) < 1
 refine Sz (dT h21) (Sz (dT h21) (Sz (dT h21) (fw (.bool true) (Yl.pickT rfl (dT h21) rfl) (nt (jt (sr (An rfl (rt (tR (rs ?_))))))))))
 have H22 : Own w D w [] := H.pk []
 obtain rfl : _ = 20 := hr.symm.trans (ip h21)
 exact ⟨rfl, H22⟩
 refine gw (.string ⟨List.toArray p0⟩) (dF h21) (Yl.move rfl) (Gz (.int .i64 ((p0.length : Nat) : Int)) (dF h21) (Gz (.bool (decide (((p0.length : Nat) : Int) > 12))) (dF h21) (fw (.bool (decide (((p0.length : Nat) : Int) > 12))) (Yl.pickF rfl (dF h21) rfl) (nt ?_))))
 by_cases h23 : ((p0.length : Nat) : Int) > 12
 refine jT (dT h23) (sr (An rfl (rt (tR (rs ?_)))))
 have H24 : Own w D w [] := H.pk []
 obtain rfl : _ = 20 := hr.symm.trans (et (iN h21) (ip h23))
 exact ⟨rfl, H24⟩
 refine jF (dF h23) (sk (sr (An rfl (rt (rs ?_)))))
 have H25 : Own w D w [] := H.pk []
 obtain rfl : _ = 0 := hr.symm.trans (et (iN h21) (iN h23))
 exact ⟨rfl, H25⟩
def span_Check (p0 : RangeD) : Int :=
 if p0.xLo ≠ ([]) then bnd (span_CheckKey p0.xLo) fun yr30 => if yr30 = 0 then if p0.xHi ≠ ([]) then bnd (span_CheckKey p0.xHi) fun yr42 => if yr42 = 0 then if p0.xHi ≤ p0.xLo then 21 else 0 else 21 else 0 else 21 else if p0.xHi ≠ ([]) then bnd (span_CheckKey p0.xHi) fun yr60 => if yr60 = 0 then if p0.xHi ≤ p0.xLo then 21 else 0 else 21 else 0
set_option maxRecDepth 100000 in
theorem span_Check_ok (w : World) (D : Nat → Prop) (p0 : RangeD) (r0 : Int) (H : Own w D w [])  (hr : span_Check p0 = r0) :
    Calls Try.prog 21 #[.agg (RangeD.cells p0).toArray] w (Ret fun v w' => v = .int .i64 r0 ∧ Own w D w' []) := by
 refine Calls.body (args := [.agg (RangeD.cells p0).toArray]) Try.func21 rfl rfl rfl ?_
 show Wp _ _ _ [(0, .agg (RangeD.cells p0).toArray)] _ _
 refine sr ?_
 refine npw (RangeD.cells p0) 32 H ?_
 intro g21 w22 H23
 refine An rfl (Wp.seq (sr (Kz (.pointer (some ⟨g21, 0, none⟩)) (Lz (.string ⟨List.toArray p0.xLo⟩) H23 0 Try.isAgg9 (fw (.bool (decide (p0.xLo ≠ ([])))) (Yl.strNe rfl rfl) (Mz rfl ?_))))))
 by_cases h24 : p0.xLo ≠ ([])
 refine Gz (.pointer (some ⟨g21, 0, none⟩)) (dT h24) (Gl (.string ⟨List.toArray p0.xLo⟩) (dT h24) H23 0 Try.isAgg9 ?_)
 obtain ⟨r30, hr31⟩ : ∃ q, span_CheckKey p0.xLo = q := ⟨_, rfl⟩
 obtain ⟨D25, HP26, ro27, bk28, rr29⟩ := Own.enter0 H23
 refine clG (dT h24) Try.call45 (span_CheckKey_ok _ _ p0.xLo r30 HP26 hr31) ?_
 rintro _ w32 ⟨rfl, HQ33⟩
 have H34 := bk28 _ _ HQ33
 refine gw (.bool (decide (¬ (r30 = 0)))) (dT h24) (Yl.bool (e := !(decide (r30 = 0))) yk decide_not.symm) (fw (.bool (decide (¬ (r30 = 0)))) (Yl.pickT rfl (dT h24) rfl) (nt ?_))
 by_cases h35 : r30 = 0
 refine jF (dF (not_not_intro h35)) (sk (Wp.seq (sr (Kz (.pointer (some ⟨g21, 1, none⟩)) (Lz (.string ⟨List.toArray p0.xHi⟩) H34 0 Try.isAgg9 (fw (.bool (decide (p0.xHi ≠ ([])))) (Yl.strNe rfl rfl) (Mz rfl ?_)))))))
 by_cases h36 : p0.xHi ≠ ([])
 refine Gz (.pointer (some ⟨g21, 1, none⟩)) (dT h36) (Gl (.string ⟨List.toArray p0.xHi⟩) (dT h36) H34 0 Try.isAgg9 ?_)
 obtain ⟨r42, hr43⟩ : ∃ q, span_CheckKey p0.xHi = q := ⟨_, rfl⟩
 obtain ⟨D37, HP38, ro39, bk40, rr41⟩ := Own.enter0 H34
 refine clG (dT h36) Try.call45 (span_CheckKey_ok _ _ p0.xHi r42 HP38 hr43) ?_
 rintro _ w44 ⟨rfl, HQ45⟩
 have H46 := bk40 _ _ HQ45
 refine gw (.bool (decide (¬ (r42 = 0)))) (dT h36) (Yl.bool (e := !(decide (r42 = 0))) yk decide_not.symm) (gw (.bool (decide (¬ (r42 = 0)))) (dT h36) (Yl.move rfl) ?_)
 by_cases h47 : r42 = 0
 refine gw (.pointer (some ⟨g21, 1, none⟩)) (dF (not_not_intro h47)) yk (gw (.string ⟨List.toArray p0.xHi⟩) (dF (not_not_intro h47)) (Yl.load rfl (Lds.one Try.isAgg9 (Cls.of (H46.cls (i := 0) rfl) rfl))) (gw (.pointer (some ⟨g21, 0, none⟩)) (dF (not_not_intro h47)) yk (gw (.string ⟨List.toArray p0.xLo⟩) (dF (not_not_intro h47)) (Yl.load rfl (Lds.one Try.isAgg9 (Cls.of (H46.cls (i := 0) rfl) rfl))) (gw (.bool (decide (p0.xHi ≤ p0.xLo))) (dF (not_not_intro h47)) (Yl.bool (e := Op.bytesLess p0.xHi p0.xLo || decide (p0.xHi = p0.xLo)) (Yl.strLe rfl rfl) (bl_le _ _)) (gw (.bool (decide (p0.xHi ≤ p0.xLo))) (dT h36) (Yl.pickF rfl (dF (not_not_intro h47)) rfl) (fw (.bool (decide (p0.xHi ≤ p0.xLo))) (Yl.pickT rfl (dT h36) rfl) (nt ?_)))))))
 by_cases h48 : p0.xHi ≤ p0.xLo
 refine jT (dT h48) (sr (An rfl (rt (tR (rs ?_)))))
 have H49 := H46.pk []
 obtain rfl : _ = 21 := hr.symm.trans (et (ip h24) (et (bnd_of hr31) (et (ip h35) (et (ip h36) (et (bnd_of hr43) (et (ip h47) (ip h48)))))))
 exact ⟨rfl, H49⟩
 refine jF (dF h48) (sk (sr (An rfl (rt (rs ?_)))))
 have H50 := H46.pk []
 obtain rfl : _ = 0 := hr.symm.trans (et (ip h24) (et (bnd_of hr31) (et (ip h35) (et (ip h36) (et (bnd_of hr43) (et (ip h47) (iN h48)))))))
 exact ⟨rfl, H50⟩
 refine Sz (dT h47) (Sz (dT h47) (Sz (dT h47) (Sz (dT h47) (Sz (dT h47) (gw (.bool true) (dT h36) (Yl.pickT rfl (dT h47) rfl) (fw (.bool true) (Yl.pickT rfl (dT h36) rfl) (nt (jt (sr (An rfl (rt (tR (rs ?_)))))))))))))
 have H51 := H46.pk []
 obtain rfl : _ = 21 := hr.symm.trans (et (ip h24) (et (bnd_of hr31) (et (ip h35) (et (ip h36) (et (bnd_of hr43) (iN h47))))))
 exact ⟨rfl, H51⟩
 refine Sz (dF h36) (Sz (dF h36) (Sz (dF h36) (Sz (dF h36) (Sz (dF h36) (WL.skipU rfl rfl rfl (WL.skipU rfl rfl rfl (WL.skipU rfl rfl rfl (WL.skipU rfl rfl rfl (WL.skipU rfl rfl rfl (Sz (dF h36) (fw (.bool false) (Yl.pickF rfl (dF h36) rfl) (nt (jf (sk (sr (An rfl (rt (rs ?_))))))))))))))))))
 have H52 := H34.pk []
 obtain rfl : _ = 0 := hr.symm.trans (et (ip h24) (et (bnd_of hr31) (et (ip h35) (iN h36))))
 exact ⟨rfl, H52⟩
 refine jT (dT h35) (sr (An rfl (rt (tR (rs ?_)))))
 have H53 := H34.pk []
 obtain rfl : _ = 21 := hr.symm.trans (et (ip h24) (et (bnd_of hr31) (iN h35)))
 exact ⟨rfl, H53⟩
 refine Sz (dF h24) (Sz (dF h24) (Sz (dF h24) (Sz (dF h24) (fw (.bool false) (Yl.pickF rfl (dF h24) rfl) (nt (jf (sk (Wp.seq (sr (Kz (.pointer (some ⟨g21, 1, none⟩)) (Lz (.string ⟨List.toArray p0.xHi⟩) H23 0 Try.isAgg9 (fw (.bool (decide (p0.xHi ≠ ([])))) (Yl.strNe rfl rfl) (Mz rfl ?_)))))))))))))
 by_cases h54 : p0.xHi ≠ ([])
 refine Gz (.pointer (some ⟨g21, 1, none⟩)) (dT h54) (Gl (.string ⟨List.toArray p0.xHi⟩) (dT h54) H23 0 Try.isAgg9 ?_)
 obtain ⟨r60, hr61⟩ : ∃ q, span_CheckKey p0.xHi = q := ⟨_, rfl⟩
 obtain ⟨D55, HP56, ro57, bk58, rr59⟩ := Own.enter0 H23
 refine clG (dT h54) Try.call45 (span_CheckKey_ok _ _ p0.xHi r60 HP56 hr61) ?_
 rintro _ w62 ⟨rfl, HQ63⟩
 have H64 := bk58 _ _ HQ63
 refine gw (.bool (decide (¬ (r60 = 0)))) (dT h54) (Yl.bool (e := !(decide (r60 = 0))) yk decide_not.symm) (gw (.bool (decide (¬ (r60 = 0)))) (dT h54) (Yl.move rfl) ?_)
 by_cases h65 : r60 = 0
 refine gw (.pointer (some ⟨g21, 1, none⟩)) (dF (not_not_intro h65)) yk (gw (.string ⟨List.toArray p0.xHi⟩) (dF (not_not_intro h65)) (Yl.load rfl (Lds.one Try.isAgg9 (Cls.of (H64.cls (i := 0) rfl) rfl))) (gw (.pointer (some ⟨g21, 0, none⟩)) (dF (not_not_intro h65)) yk (gw (.string ⟨List.toArray p0.xLo⟩) (dF (not_not_intro h65)) (Yl.load rfl (Lds.one Try.isAgg9 (Cls.of (H64.cls (i := 0) rfl) rfl))) (gw (.bool (decide (p0.xHi ≤ p0.xLo))) (dF (not_not_intro h65)) (Yl.bool (e := Op.bytesLess p0.xHi p0.xLo || decide (p0.xHi = p0.xLo)) (Yl.strLe rfl rfl) (bl_le _ _)) (gw (.bool (decide (p0.xHi ≤ p0.xLo))) (dT h54) (Yl.pickF rfl (dF (not_not_intro h65)) rfl) (fw (.bool (decide (p0.xHi ≤ p0.xLo))) (Yl.pickT rfl (dT h54) rfl) (nt ?_)))))))
 by_cases h66 : p0.xHi ≤ p0.xLo
 refine jT (dT h66) (sr (An rfl (rt (tR (rs ?_)))))
 have H67 := H64.pk []
 obtain rfl : _ = 21 := hr.symm.trans (et (iN h24) (et (ip h54) (et (bnd_of hr61) (et (ip h65) (ip h66)))))
 exact ⟨rfl, H67⟩
 refine jF (dF h66) (sk (sr (An rfl (rt (rs ?_)))))
 have H68 := H64.pk []
 obtain rfl : _ = 0 := hr.symm.trans (et (iN h24) (et (ip h54) (et (bnd_of hr61) (et (ip h65) (iN h66)))))
 exact ⟨rfl, H68⟩
 refine Sz (dT h65) (Sz (dT h65) (Sz (dT h65) (Sz (dT h65) (Sz (dT h65) (gw (.bool true) (dT h54) (Yl.pickT rfl (dT h65) rfl) (fw (.bool true) (Yl.pickT rfl (dT h54) rfl) (nt (jt (sr (An rfl (rt (tR (rs ?_)))))))))))))
 have H69 := H64.pk []
 obtain rfl : _ = 21 := hr.symm.trans (et (iN h24) (et (ip h54) (et (bnd_of hr61) (iN h65))))
 exact ⟨rfl, H69⟩
 refine Sz (dF h54) (Sz (dF h54) (Sz (dF h54) (Sz (dF h54) (Sz (dF h54) (WL.skipU rfl rfl rfl (WL.skipU rfl rfl rfl (WL.skipU rfl rfl rfl (WL.skipU rfl rfl rfl (WL.skipU rfl rfl rfl (Sz (dF h54) (fw (.bool false) (Yl.pickF rfl (dF h54) rfl) (nt (jf (sk (sr (An rfl (rt (rs ?_))))))))))))))))))
 have H70 := H23.pk []
 obtain rfl : _ = 0 := hr.symm.trans (et (iN h24) (iN h54))
 exact ⟨rfl, H70⟩
def span_lesserHi (p0 : List UInt8) (p1 : List UInt8) : (List UInt8) :=
 if p0 = ([]) then p1 else if p1 ≠ ([]) then if p1 < p0 then p1 else p0 else p0
set_option maxRecDepth 100000 in
theorem span_lesserHi_ok (w : World) (D : Nat → Prop) (p0 : List UInt8) (p1 : List UInt8) (r0 : List UInt8) (H : Own w D w [])  (hr : span_lesserHi p0 p1 = r0) :
    Calls Try.prog 70 #[.string ⟨List.toArray p0⟩, .string ⟨List.toArray p1⟩] w (Ret fun v w' => v = .string ⟨List.toArray r0⟩ ∧ Own w D w' []) := by
 refine Calls.body (args := [.string ⟨List.toArray p0⟩, .string ⟨List.toArray p1⟩]) Try.func70 rfl rfl rfl ?_
 show Wp _ _ _ [(0, .string ⟨List.toArray p0⟩), (1, .string ⟨List.toArray p1⟩)] _ _
 refine sr (An rfl (Wp.seq (sr (Mz rfl (fw (.bool (decide (p0 = ([])))) (Yl.strEq rfl rfl) (Mz rfl ?_))))))
 by_cases h21 : p0 = ([])
 refine Sz (dT h21) (Sz (dT h21) (Sz (dT h21) (WL.skipU rfl rfl rfl (WL.skipU rfl rfl rfl (WL.skipU rfl rfl rfl (Sz (dT h21) (fw (.bool true) (Yl.pickT rfl (dT h21) rfl) (nt (jt (sr (Mz rfl (An rfl (rt (tR (rs ?_)))))))))))))))
 have H22 : Own w D w [] := H.pk []
 obtain rfl : _ = p1 := hr.symm.trans (ip h21)
 exact ⟨rfl, H22⟩
 refine gw (.string ⟨List.toArray p1⟩) (dF h21) (Yl.move rfl) (gw (.bool (decide (p1 ≠ ([])))) (dF h21) (Yl.strNe rfl rfl) (gw (.bool (decide (p1 ≠ ([])))) (dF h21) (Yl.move rfl) ?_))
 by_cases h23 : p1 ≠ ([])
 refine gw (.string ⟨List.toArray p1⟩) (dT h23) (Yl.move rfl) (gw (.string ⟨List.toArray p0⟩) (dT h23) (Yl.move rfl) (gw (.bool (decide (p1 < p0))) (dT h23) (Yl.bool (e := Op.bytesLess p1 p0) (Yl.strLt rfl rfl) (bl_lt _ _)) (gw (.bool (decide (p1 < p0))) (dF h21) (Yl.pickT rfl (dT h23) rfl) (fw (.bool (decide (p1 < p0))) (Yl.pickF rfl (dF h21) rfl) (nt ?_)))))
 by_cases h24 : p1 < p0
 refine jT (dT h24) (sr (Mz rfl (An rfl (rt (tR (rs ?_))))))
 have H25 : Own w D w [] := H.pk []
 obtain rfl : _ = p1 := hr.symm.trans (et (iN h21) (et (ip h23) (ip h24)))
 exact ⟨rfl, H25⟩
 refine jF (dF h24) (sk (sr (Mz rfl (An rfl (rt (rs ?_))))))
 have H26 : Own w D w [] := H.pk []
 obtain rfl : _ = p0 := hr.symm.trans (et (iN h21) (et (ip h23) (iN h24)))
 exact ⟨rfl, H26⟩
 refine Sz (dF h23) (Sz (dF h23) (Sz (dF h23) (gw (.bool false) (dF h21) (Yl.pickF rfl (dF h23) rfl) (fw (.bool false) (Yl.pickF rfl (dF h21) rfl) (nt (jf (sk (sr (Mz rfl (An rfl (rt (rs ?_))))))))))))
 have H27 : Own w D w [] := H.pk []
 obtain rfl : _ = p0 := hr.symm.trans (et (iN h21) (iN h23))
 exact ⟨rfl, H27⟩
def span_below (p0 : List UInt8) (p1 : List UInt8) : Bool :=
 if p1 = ([]) then true else decide (p0 < p1)
set_option maxRecDepth 100000 in
theorem span_below_ok (w : World) (D : Nat → Prop) (p0 : List UInt8) (p1 : List UInt8) (r0 : Bool) (H : Own w D w [])  (hr : span_below p0 p1 = r0) :
    Calls Try.prog 71 #[.string ⟨List.toArray p0⟩, .string ⟨List.toArray p1⟩] w (Ret fun v w' => v = .bool r0 ∧ Own w D w' []) := by
 refine Calls.body (args := [.string ⟨List.toArray p0⟩, .string ⟨List.toArray p1⟩]) Try.func71 rfl rfl rfl ?_
 show Wp _ _ _ [(0, .string ⟨List.toArray p0⟩), (1, .string ⟨List.toArray p1⟩)] _ _
 refine sr (Ar rfl (Mz rfl (fw (.bool (decide (p1 = ([])))) (Yl.strEq rfl rfl) (Mz rfl ?_))))
 by_cases h21 : p1 = ([])
 refine Sz (dT h21) (Sz (dT h21) (Sz (dT h21) (fw (.bool true) (Yl.pickT rfl (dT h21) rfl) (An rfl (rt (rs ?_))))))
 have H22 : Own w D w [] := H.pk []
 obtain rfl : _ = true := hr.symm.trans (ip h21)
 exact ⟨rfl, H22⟩
 refine gw (.string ⟨List.toArray p0⟩) (dF h21) (Yl.move rfl) (gw (.string ⟨List.toArray p1⟩) (dF h21) (Yl.move rfl) (gw (.bool (decide (p0 < p1))) (dF h21) (Yl.bool (e := Op.bytesLess p0 p1) (Yl.strLt rfl rfl) (bl_lt _ _)) (fw (.bool (decide (p0 < p1))) (Yl.pickF rfl (dF h21) rfl) (An rfl (rt (rs ?_))))))
 have H23 : Own w D w [] := H.pk []
 obtain rfl : _ = decide (p0 < p1) := hr.symm.trans (iN h21)
 exact ⟨rfl, H23⟩
def span_Meet (p0 : RangeD) (p1 : RangeD) : RangeD × Bool :=
 bnd (span_Check p0) fun yr35 => if yr35 = 0 then bnd (span_Check p1) fun yr46 => if yr46 = 0 then bnd (span_lesserHi p0.xHi p1.xHi) fun yr99 => bnd (span_below (maxL p0.xLo p1.xLo) yr99) fun yr114 => if yr114 = true then (RangeD.mk (maxL p0.xLo p1.xLo) yr99, true) else (RangeD.mk ([]) ([]), false) else (RangeD.mk ([]) ([]), false) else (RangeD.mk ([]) ([]), false)
set_option maxRecDepth 100000 in
theorem span_Meet_ok (w : World) (D : Nat → Prop) (p0 : RangeD) (p1 : RangeD) (r0 : RangeD) (r1 : Bool) (H : Own w D w [])  (hr : span_Meet p0 p1 = (r0, r1)) :
    Calls Try.prog 62 #[.agg (RangeD.cells p0).toArray, .agg (RangeD.cells p1).toArray] w (Ret fun v w' => v = .tuple #[.agg (RangeD.cells r0).toArray, .bool r1] ∧ Own w D w' []) := by
 refine Calls.body (args := [.agg (RangeD.cells p0).toArray, .agg (RangeD.cells p1).toArray]) Try.func62 rfl rfl rfl ?_
 show Wp _ _ _ [(0, .agg (RangeD.cells p0).toArray), (1, .agg (RangeD.cells p1).toArray)] _ _
 refine sr ?_
 refine npw (RangeD.cells p0) 32 H ?_
 intro g21 w22 H23
 refine npw (RangeD.cells p1) 32 H23 ?_
 intro g24 w25 H26
 refine npw [.string ⟨List.toArray ([])⟩, .string ⟨List.toArray ([])⟩] 32 H26 ?_
 intro g27 w28 H29
 refine An rfl (Wp.seq (sr (La (RangeD.cells p0) H29 2 Try.isAgg32 Try.sizeOf32 ?_)))
 obtain ⟨r35, hr36⟩ : ∃ q, span_Check p0 = q := ⟨_, rfl⟩
 obtain ⟨D30, HP31, ro32, bk33, rr34⟩ := Own.enter0 H29
 refine cl Try.call21 (span_Check_ok _ _ p0 r35 HP31 hr36) ?_
 rintro _ w37 ⟨rfl, HQ38⟩
 have H39 := bk33 _ _ HQ38
 refine fw (.bool (decide (¬ (r35 = 0)))) (Yl.bool (e := !(decide (r35 = 0))) yk decide_not.symm) (Mz rfl ?_)
 by_cases h40 : r35 = 0
 refine gw (.agg (RangeD.cells p1).toArray) (dF (not_not_intro h40)) (Yl.load rfl (Lds.agg (cs := (RangeD.cells p1)) Try.isAgg32 Try.sizeOf32 ((H39.cls (i := 1) rfl).lit (k := 0) (m := 2) rfl))) ?_
 obtain ⟨r46, hr47⟩ : ∃ q, span_Check p1 = q := ⟨_, rfl⟩
 obtain ⟨D41, HP42, ro43, bk44, rr45⟩ := Own.enter0 H39
 refine clG (dF (not_not_intro h40)) Try.call21 (span_Check_ok _ _ p1 r46 HP42 hr47) ?_
 rintro _ w48 ⟨rfl, HQ49⟩
 have H50 := bk44 _ _ HQ49
 refine gw (.bool (decide (¬ (r46 = 0)))) (dF (not_not_intro h40)) (Yl.bool (e := !(decide (r46 = 0))) yk decide_not.symm) (fw (.bool (decide (¬ (r46 = 0)))) (Yl.pickF rfl (dF (not_not_intro h40)) rfl) (nt ?_))
 by_cases h51 : r46 = 0
 refine jF (dF (not_not_intro h51)) (sk (Wp.seq ?_))
 have H53 := H50.drew
 refine Wp.drawnX [] (fun W => ∃ L', Own w D W ([blk g27 [.string ⟨List.toArray ([])⟩, .string ⟨List.toArray ([])⟩] 32, blk g24 (RangeD.cells p1) 32, blk g21 (RangeD.cells p0) 32] ++ L')) (by kernel_rfl) (by kernel_rfl) (NoP.then NoP.base) ⟨_, H53⟩ ?_
 revert H53
 generalize World.drew w48 = w52
 intro H53
 refine GX.take (v := .pointer (some ⟨g21, 0, none⟩)) (rs := []) 0 rfl (by kernel_rfl) (fun _ _ => yk) (GX.take (v := .string ⟨List.toArray p0.xLo⟩) (rs := []) 1 rfl (by kernel_rfl) (fun _ ⟨_, H9⟩ => Yl.load rfl (Lds.one Try.isAgg9 (Cls.of (H9.cls (i := 2) rfl) rfl))) (GX.take (v := .pointer (some ⟨g24, 0, none⟩)) (rs := []) 2 rfl (by kernel_rfl) (fun _ _ => yk) (GX.take (v := .string ⟨List.toArray p1.xLo⟩) (rs := []) 3 rfl (by kernel_rfl) (fun _ ⟨_, H9⟩ => Yl.load rfl (Lds.one Try.isAgg9 (Cls.of (H9.cls (i := 1) rfl) rfl))) (GX.take (v := .string ⟨List.toArray (maxL p0.xLo p1.xLo)⟩) (rs := []) 4 rfl (by kernel_rfl) (fun _ _ => Yl.maxStr rfl) (GX.take (v := .pointer (some ⟨g21, 1, none⟩)) (rs := []) 5 rfl (by kernel_rfl) (fun _ _ => yk) (GX.take (v := .string ⟨List.toArray p0.xHi⟩) (rs := []) 6 rfl (by kernel_rfl) (fun _ ⟨_, H9⟩ => Yl.load rfl (Lds.one Try.isAgg9 (Cls.of (H9.cls (i := 2) rfl) rfl))) (GX.take (v := .pointer (some ⟨g24, 1, none⟩)) (rs := []) 7 rfl (by kernel_rfl) (fun _ _ => yk) (GX.take (v := .string ⟨List.toArray p1.xHi⟩) (rs := []) 8 rfl (by kernel_rfl) (fun _ ⟨_, H9⟩ => Yl.load rfl (Lds.one Try.isAgg9 (Cls.of (H9.cls (i := 1) rfl) rfl))) ?_))))))))
 refine GX.any2 9 11 (by kernel_rfl) ?_ ?_
 obtain ⟨r59, hr60⟩ : ∃ q, span_lesserHi p0.xHi p1.xHi = q := ⟨_, rfl⟩
 obtain ⟨D54, HP55, ro56, bk57, rr58⟩ := Own.enter0 H53
 refine GY.do 9 rfl (by kernel_rfl) (Do.call Try.call70 rfl (span_lesserHi_ok _ _ p0.xHi p1.xHi r59 HP55 hr60) ?_)
 rintro _ w61 ⟨rfl, HQ62⟩
 have H63 := bk57 _ _ HQ62
 refine ⟨.inr ⟨_, H63⟩, ?_⟩
 refine GX.take (v := .agg #[.string ⟨List.toArray (maxL p0.xLo p1.xLo)⟩, .string ⟨List.toArray r59⟩]) (rs := []) 10 rfl (by kernel_rfl) (fun _ _ => yk) ?_
 refine GX.do 11 rfl (by kernel_rfl) (Do.newP (cs := [.string ⟨List.toArray ([])⟩, .string ⟨List.toArray ([])⟩]) (t := 32) H63 rfl rfl (fun _ => by kernel_rfl) ?_)
 intro g64 w65 H66
 have H67 := H66.pk [1, 2, 3, 0]
 refine ⟨.inr ⟨_, H67⟩, ?_⟩
 have H68 := H67.pk [3, 0, 1, 2]
 refine GX.do0 12 rfl (by kernel_rfl) (Do.store (vs := [.string ⟨List.toArray (maxL p0.xLo p1.xLo)⟩, .string ⟨List.toArray r59⟩]) (o := 0) H68 rfl rfl Try.sizeOf32 rfl rfl rfl rfl ?_)
 intro w69 H70
 have H71 := H70.pk [1, 2, 3, 0]
 refine ⟨.inr ⟨_, H71⟩, ?_⟩
 refine GX.done (by kernel_rfl) (Fin.then (Wp.seq (Wp.seq ?_)))
 have H72 := H71.pk [0, 3]
 refine Wp.region (Kz (.pointer (some ⟨g64, 0, none⟩)) (Lz (.string ⟨List.toArray (maxL p0.xLo p1.xLo)⟩) H72 1 Try.isAgg9 (Kz (.pointer (some ⟨g64, 1, none⟩)) (Lz (.string ⟨List.toArray r59⟩) H72 1 Try.isAgg9 ?_))))
 obtain ⟨r78, hr79⟩ : ∃ q, span_below (maxL p0.xLo p1.xLo) r59 = q := ⟨_, rfl⟩
 obtain ⟨D73, HP74, ro75, bk76, rr77⟩ := Own.enter0 H72
 refine cl Try.call71 (span_below_ok _ _ (maxL p0.xLo p1.xLo) r59 r78 HP74 hr79) ?_
 rintro _ w80 ⟨rfl, HQ81⟩
 have H82 := bk76 _ _ HQ81
 refine Kz (.bool (!r78)) (nt ?_)
 rcases Bool.eq_false_or_eq_true (r78) with h83 | h83
 refine jF (cn h83) (sk (sr (La ([.string ⟨List.toArray (maxL p0.xLo p1.xLo)⟩, .string ⟨List.toArray r59⟩]) H82 1 Try.isAgg32 Try.sizeOf32 ?_)))
 refine sto [.string ⟨List.toArray (maxL p0.xLo p1.xLo)⟩, .string ⟨List.toArray r59⟩] 0 H82 Try.sizeOf32 ?_
 intro w84 H85
 refine An rfl (rt (Fin.res (resN (vs := [.agg #[.string ⟨List.toArray (maxL p0.xLo p1.xLo)⟩, .string ⟨List.toArray r59⟩], .bool true]) rfl (ResV.cell rfl (Lds.agg (cs := [.string ⟨List.toArray (maxL p0.xLo p1.xLo)⟩, .string ⟨List.toArray r59⟩]) Try.isAgg32 Try.sizeOf32 ((H85.cls (i := 0) rfl).lit (k := 0) (m := 2) rfl)) (ResV.tmp rfl ResV.nil)) (Nat.le_of_ble_eq_true rfl)) ?_))
 have H86 := H85.pk []
 have e : span_Meet p0 p1 = (RangeD.mk (maxL p0.xLo p1.xLo) r59, true) := et (bnd_of hr36) (et (ip h40) (et (bnd_of hr47) (et (ip h51) (et (bnd_of hr60) (et (bnd_of hr79) (ip h83))))))
 obtain ⟨rfl, rfl⟩ := pj2 (e.symm.trans hr)
 exact ⟨rfl, H86⟩
 refine jT (cn h83) (sr (Kz (.agg #[.string ⟨List.toArray ([])⟩, .string ⟨List.toArray ([])⟩]) ?_))
 refine sto [.string ⟨List.toArray ([])⟩, .string ⟨List.toArray ([])⟩] 0 H82 Try.sizeOf32 ?_
 intro w87 H88
 refine An rfl (rt (tR (Fin.res (resN (vs := [.agg #[.string ⟨List.toArray ([])⟩, .string ⟨List.toArray ([])⟩], .bool false]) rfl (ResV.cell rfl (Lds.agg (cs := [.string ⟨List.toArray ([])⟩, .string ⟨List.toArray ([])⟩]) Try.isAgg32 Try.sizeOf32 ((H88.cls (i := 0) rfl).lit (k := 0) (m := 2) rfl)) (ResV.tmp rfl ResV.nil)) (Nat.le_of_ble_eq_true rfl)) ?_)))
 have H89 := H88.pk []
 have e : span_Meet p0 p1 = (RangeD.mk ([]) ([]), false) := et (bnd_of hr36) (et (ip h40) (et (bnd_of hr47) (et (ip h51) (et (bnd_of hr60) (et (bnd_of hr79) (ifF h83))))))
 obtain ⟨rfl, rfl⟩ := pj2 (e.symm.trans hr)
 exact ⟨rfl, H89⟩
 refine GY.do 11 rfl (by kernel_rfl) (Do.newP (cs := [.string ⟨List.toArray ([])⟩, .string ⟨List.toArray ([])⟩]) (t := 32) H53 rfl rfl (fun _ => by kernel_rfl) ?_)
 intro g90 w91 H92
 have H93 := H92.pk [1, 2, 3, 0]
 refine ⟨.inr ⟨_, H93⟩, ?_⟩
 obtain ⟨r99, hr100⟩ : ∃ q, span_lesserHi p0.xHi p1.xHi = q := ⟨_, rfl⟩
 obtain ⟨D94, HP95, ro96, bk97, rr98⟩ := Own.enter0 H93
 refine GX.do 9 rfl (by kernel_rfl) (Do.call Try.call70 rfl (span_lesserHi_ok _ _ p0.xHi p1.xHi r99 HP95 hr100) ?_)
 rintro _ w101 ⟨rfl, HQ102⟩
 have H103 := bk97 _ _ HQ102
 refine ⟨.inr ⟨_, H103⟩, ?_⟩
 refine GX.take (v := .agg #[.string ⟨List.toArray (maxL p0.xLo p1.xLo)⟩, .string ⟨List.toArray r99⟩]) (rs := []) 10 rfl (by kernel_rfl) (fun _ _ => yk) ?_
 have H104 := H103.pk [3, 0, 1, 2]
 refine GX.do0 12 rfl (by kernel_rfl) (Do.store (vs := [.string ⟨List.toArray (maxL p0.xLo p1.xLo)⟩, .string ⟨List.toArray r99⟩]) (o := 0) H104 rfl rfl Try.sizeOf32 rfl rfl rfl rfl ?_)
 intro w105 H106
 have H107 := H106.pk [1, 2, 3, 0]
 refine ⟨.inr ⟨_, H107⟩, ?_⟩
 refine GX.done (by kernel_rfl) (Fin.then (Wp.seq (Wp.seq ?_)))
 have H108 := H107.pk [0, 3]
 refine Wp.region (Kz (.pointer (some ⟨g90, 0, none⟩)) (Lz (.string ⟨List.toArray (maxL p0.xLo p1.xLo)⟩) H108 1 Try.isAgg9 (Kz (.pointer (some ⟨g90, 1, none⟩)) (Lz (.string ⟨List.toArray r99⟩) H108 1 Try.isAgg9 ?_))))
 obtain ⟨r114, hr115⟩ : ∃ q, span_below (maxL p0.xLo p1.xLo) r99 = q := ⟨_, rfl⟩
 obtain ⟨D109, HP110, ro111, bk112, rr113⟩ := Own.enter0 H108
 refine cl Try.call71 (span_below_ok _ _ (maxL p0.xLo p1.xLo) r99 r114 HP110 hr115) ?_
 rintro _ w116 ⟨rfl, HQ117⟩
 have H118 := bk112 _ _ HQ117
 refine Kz (.bool (!r114)) (nt ?_)
 rcases Bool.eq_false_or_eq_true (r114) with h119 | h119
 refine jF (cn h119) (sk (sr (La ([.string ⟨List.toArray (maxL p0.xLo p1.xLo)⟩, .string ⟨List.toArray r99⟩]) H118 1 Try.isAgg32 Try.sizeOf32 ?_)))
 refine sto [.string ⟨List.toArray (maxL p0.xLo p1.xLo)⟩, .string ⟨List.toArray r99⟩] 0 H118 Try.sizeOf32 ?_
 intro w120 H121
 refine An rfl (rt (Fin.res (resN (vs := [.agg #[.string ⟨List.toArray (maxL p0.xLo p1.xLo)⟩, .string ⟨List.toArray r99⟩], .bool true]) rfl (ResV.cell rfl (Lds.agg (cs := [.string ⟨List.toArray (maxL p0.xLo p1.xLo)⟩, .string ⟨List.toArray r99⟩]) Try.isAgg32 Try.sizeOf32 ((H121.cls (i := 0) rfl).lit (k := 0) (m := 2) rfl)) (ResV.tmp rfl ResV.nil)) (Nat.le_of_ble_eq_true rfl)) ?_))
 have H122 := H121.pk []
 have e : span_Meet p0 p1 = (RangeD.mk (maxL p0.xLo p1.xLo) r99, true) := et (bnd_of hr36) (et (ip h40) (et (bnd_of hr47) (et (ip h51) (et (bnd_of hr100) (et (bnd_of hr115) (ip h119))))))
 obtain ⟨rfl, rfl⟩ := pj2 (e.symm.trans hr)
 exact ⟨rfl, H122⟩
 refine jT (cn h119) (sr (Kz (.agg #[.string ⟨List.toArray ([])⟩, .string ⟨List.toArray ([])⟩]) ?_))
 refine sto [.string ⟨List.toArray ([])⟩, .string ⟨List.toArray ([])⟩] 0 H118 Try.sizeOf32 ?_
 intro w123 H124
 refine An rfl (rt (tR (Fin.res (resN (vs := [.agg #[.string ⟨List.toArray ([])⟩, .string ⟨List.toArray ([])⟩], .bool false]) rfl (ResV.cell rfl (Lds.agg (cs := [.string ⟨List.toArray ([])⟩, .string ⟨List.toArray ([])⟩]) Try.isAgg32 Try.sizeOf32 ((H124.cls (i := 0) rfl).lit (k := 0) (m := 2) rfl)) (ResV.tmp rfl ResV.nil)) (Nat.le_of_ble_eq_true rfl)) ?_)))
 have H125 := H124.pk []
 have e : span_Meet p0 p1 = (RangeD.mk ([]) ([]), false) := et (bnd_of hr36) (et (ip h40) (et (bnd_of hr47) (et (ip h51) (et (bnd_of hr100) (et (bnd_of hr115) (ifF h119))))))
 obtain ⟨rfl, rfl⟩ := pj2 (e.symm.trans hr)
 exact ⟨rfl, H125⟩
 refine jT (dT h51) (sr (Kz (.agg #[.string ⟨List.toArray ([])⟩, .string ⟨List.toArray ([])⟩]) ?_))
 refine sto [.string ⟨List.toArray ([])⟩, .string ⟨List.toArray ([])⟩] 0 H50 Try.sizeOf32 ?_
 intro w126 H127
 refine An rfl (rt (tR (Fin.res (resN (vs := [.agg #[.string ⟨List.toArray ([])⟩, .string ⟨List.toArray ([])⟩], .bool false]) rfl (ResV.cell rfl (Lds.agg (cs := [.string ⟨List.toArray ([])⟩, .string ⟨List.toArray ([])⟩]) Try.isAgg32 Try.sizeOf32 ((H127.cls (i := 0) rfl).lit (k := 0) (m := 2) rfl)) (ResV.tmp rfl ResV.nil)) (Nat.le_of_ble_eq_true rfl)) ?_)))
 have H128 := H127.pk []
 have e : span_Meet p0 p1 = (RangeD.mk ([]) ([]), false) := et (bnd_of hr36) (et (ip h40) (et (bnd_of hr47) (iN h51)))
 obtain ⟨rfl, rfl⟩ := pj2 (e.symm.trans hr)
 exact ⟨rfl, H128⟩
 refine Sz (dT h40) (Sz (dT h40) (Sz (dT h40) (fw (.bool true) (Yl.pickT rfl (dT h40) rfl) (nt (jt (sr (Kz (.agg #[.string ⟨List.toArray ([])⟩, .string ⟨List.toArray ([])⟩]) ?_)))))))
 refine sto [.string ⟨List.toArray ([])⟩, .string ⟨List.toArray ([])⟩] 0 H39 Try.sizeOf32 ?_
 intro w129 H130
 refine An rfl (rt (tR (Fin.res (resN (vs := [.agg #[.string ⟨List.toArray ([])⟩, .string ⟨List.toArray ([])⟩], .bool false]) rfl (ResV.cell rfl (Lds.agg (cs := [.string ⟨List.toArray ([])⟩, .string ⟨List.toArray ([])⟩]) Try.isAgg32 Try.sizeOf32 ((H130.cls (i := 0) rfl).lit (k := 0) (m := 2) rfl)) (ResV.tmp rfl ResV.nil)) (Nat.le_of_ble_eq_true rfl)) ?_)))
 have H131 := H130.pk []
 have e : span_Meet p0 p1 = (RangeD.mk ([]) ([]), false) := et (bnd_of hr36) (iN h40)
 obtain ⟨rfl, rfl⟩ := pj2 (e.symm.trans hr)
 exact ⟨rfl, H131⟩
def span_Covers (p0 : RangeD) (p1 : RangeD) : Bool :=
 bnd (span_Meet p0 p1) fun yr32 => if yr32.2 = true then decide ((yr32.1.xLo = p1.xLo) ∧ (yr32.1.xHi = p1.xHi)) else false
set_option maxRecDepth 100000 in
theorem span_Covers_ok (w : World) (D : Nat → Prop) (p0 : RangeD) (p1 : RangeD) (r0 : Bool) (H : Own w D w [])  (hr : span_Covers p0 p1 = r0) :
    Calls Try.prog 48 #[.agg (RangeD.cells p0).toArray, .agg (RangeD.cells p1).toArray] w (Ret fun v w' => v = .bool r0 ∧ Own w D w' []) := by
 refine Calls.body (args := [.agg (RangeD.cells p0).toArray, .agg (RangeD.cells p1).toArray]) Try.func48 rfl rfl rfl ?_
 show Wp _ _ _ [(0, .agg (RangeD.cells p0).toArray), (1, .agg (RangeD.cells p1).toArray)] _ _
 refine sr ?_
 refine npw (RangeD.cells p0) 32 H ?_
 intro g21 w22 H23
 refine npw (RangeD.cells p1) 32 H23 ?_
 intro g24 w25 H26
 refine Ar rfl (La (RangeD.cells p0) H26 1 Try.isAgg32 Try.sizeOf32 (La (RangeD.cells p1) H26 0 Try.isAgg32 Try.sizeOf32 ?_))
 obtain ⟨⟨r32, r33⟩, hr34⟩ : ∃ q : RangeD × Bool, span_Meet p0 p1 = q := ⟨_, rfl⟩
 obtain ⟨D27, HP28, ro29, bk30, rr31⟩ := Own.enter0 H26
 refine cl Try.call62 (span_Meet_ok _ _ p0 p1 r32 r33 HP28 hr34) ?_
 rintro _ w35 ⟨rfl, HQ36⟩
 have H37 := bk30 _ _ HQ36
 refine Mz rfl (Kz (.agg (RangeD.cells r32).toArray) (Kz (.bool r33) ?_))
 refine npw [.string ⟨List.toArray ([])⟩, .string ⟨List.toArray ([])⟩] 32 H37 ?_
 intro g38 w39 H40
 refine sto (RangeD.cells r32) 0 H40 Try.sizeOf32 ?_
 intro w41 H42
 refine An rfl (Wp.seq ?_)
 have H43 := H42.pk [0, 1]
 refine Wp.region (Mz rfl (Mz rfl ?_))
 rcases Bool.eq_false_or_eq_true (r33) with h44 | h44
 refine Ga (RangeD.cells r32) h44 H43 0 Try.isAgg32 Try.sizeOf32 (Ga (RangeD.cells p1) h44 H43 1 Try.isAgg32 Try.sizeOf32 (WL.valG (v := .bool (decide ((r32.xLo = p1.xLo) ∧ (r32.xHi = p1.xHi)))) rfl rfl h44 rfl (Yl.eqAgg rfl rfl (by kernel_rfl) rfl (Eqv.struct Try.underlying32 (by kernel_rfl) (EqF.dec (EqF.cons (u := .string ⟨List.toArray r32.xLo⟩) (v := .string ⟨List.toArray p1.xLo⟩) (by decide) (fun _ => by kernel_rfl) (fun _ => by kernel_rfl) (Eqv.string Try.underlying9) (EqF.cons (u := .string ⟨List.toArray r32.xHi⟩) (v := .string ⟨List.toArray p1.xHi⟩) (by decide) (fun _ => by kernel_rfl) (fun _ => by kernel_rfl) (Eqv.string Try.underlying9) (EqF.nil.up (Nat.zero_le _)))) ((congrArg (decide (r32.xLo = p1.xLo) && ·) and_dec1).trans and_dec)))) (fw (.bool (decide ((r32.xLo = p1.xLo) ∧ (r32.xHi = p1.xHi)))) (Yl.pickT rfl h44 rfl) (An rfl (rt (rs ?_))))))
 have H45 := H43.pk []
 obtain rfl : _ = decide ((r32.xLo = p1.xLo) ∧ (r32.xHi = p1.xHi)) := hr.symm.trans (et (bnd_of hr34) (ip h44))
 exact ⟨rfl, H45⟩
 refine Sz h44 (Sz h44 (Sz h44 (fw (.bool false) (Yl.pickF rfl h44 rfl) (An rfl (rt (rs ?_))))))
 have H46 := H43.pk []
 obtain rfl : _ = false := hr.symm.trans (et (bnd_of hr34) (ifF h44))
 exact ⟨rfl, H46⟩
theorem El57 : Elem Try.prog 57 72 6 80 := elem_of (z := .agg #[.int .u64 0, .slice none 0 0, .bool false, .string ⟨List.toArray ([])⟩, .string ⟨List.toArray ([])⟩, .bool false]) Try.underlying57 (by kernel_rfl) rfl (by decide)
structure TableD where
 xrows : Sv rowD
def TableD.cells (x : TableD) : List Value := [.slice x.xrows.A x.xrows.ls.length x.xrows.c]
instance : Bk TableD := ⟨fun x _ => bk x.xrows + (0)⟩
theorem TableD.len : ∀ x, (TableD.cells x).length = 1 := fun _ => rfl
theorem TableD.one : ∀ x, ∀ u ∈ TableD.cells x, u.oneCell' = true := fun x u hu => by
 simp only [TableD.cells, List.mem_cons, List.not_mem_nil, or_false] at hu
 rcases hu with rfl <;> rfl
def TableD.Ok (w : World) (x : TableD) : Prop := (SvOk w 6 80 rowD.cells (rowD.Ok w) x.xrows)
instance : Inhabited TableD := ⟨⟨default⟩⟩
structure TableT where
 xrows : Ll rowT
instance : Inhabited TableT := ⟨⟨default⟩⟩
def TableD.abs (x : TableD) : TableT := ⟨⟨List.map rowD.abs x.xrows.ls⟩⟩
def TableD.own (x : TableD) : List HP := [row x.xrows.A x.xrows.ls.length x.xrows.c (List.flatMap rowD.cells x.xrows.ls) 72 6, sepL (List.flatMap rowD.own x.xrows.ls)]
def slices_BinarySearchFunc_locks_row_locks_row_uint64_L0 (l0 : List rowT) (p1 : Nat) : Nat → Nat → Nat → Nat
  | 0, k21, k22 => default
  | q23 + 1, k21, k22 => if ((k21 : Nat) : Int) < ((k22 : Nat) : Int) then bnd (List.getD l0 ((k21 + k22) / 2) default) fun yx39 => bnd (cmp_Compare_uint64 yx39.xtxn p1) fun yr51 => if yr51 < 0 then slices_BinarySearchFunc_locks_row_locks_row_uint64_L0 l0 p1 q23 (((k21 + k22) / 2) + 1) k22 else slices_BinarySearchFunc_locks_row_locks_row_uint64_L0 l0 p1 q23 k21 ((k21 + k22) / 2) else k21
def slices_BinarySearchFunc_locks_row_locks_row_uint64 (l0 : List rowT) (p1 : Nat) : Int × Bool :=
 bnd (slices_BinarySearchFunc_locks_row_locks_row_uint64_L0 l0 p1 ((l0.length - 0) + 1) 0 l0.length) fun sLrL => if ((sLrL : Nat) : Int) < ((l0.length : Nat) : Int) then bnd (List.getD l0 sLrL default) fun yx61 => bnd (cmp_Compare_uint64 yx61.xtxn p1) fun yr73 => (((sLrL : Nat) : Int), decide (yr73 = 0)) else (((sLrL : Nat) : Int), false)
set_option maxRecDepth 100000 in
theorem slices_BinarySearchFunc_locks_row_locks_row_uint64_ok (w : World) (D : Nat → Prop) (A0 : Option Addr) (n0 c0 : Nat) (d0 : List rowD) (l0 : List rowT) (p1 : Nat) (r0 : Int) (r1 : Bool) (H : Own w D w []) (hd0 : List.map rowD.abs d0 = l0) (hx0 : Ro w D fun w' => Rds w' 6 A0 n0 (List.flatMap rowD.cells d0)) (hm0 : ∀ x ∈ d0, Ro w D (fun w' => Rds w' 3 x.xheld.A x.xheld.ls.length (List.flatMap LockD.cells x.xheld.ls)) ∧ (x.xheld.ls.length ≤ x.xheld.c ∧ x.xheld.ls.length ≤ 9223372036854775807)) (hn0 : n0 = l0.length) (hl0 : l0.length * 80 ≤ 211106232532992) (hr : slices_BinarySearchFunc_locks_row_locks_row_uint64 l0 p1 = (r0, r1)) :
    Calls Try.prog 59 #[.slice A0 n0 c0, .int .u64 ((p1 : Nat) : Int), .func (.func 60) #[] #[]] w (Ret fun v w' => v = .tuple #[.int .i64 r0, .bool r1] ∧ Own w D w' [] ∧ (0 ≤ r0 ∧ r0 ≤ ((l0.length : Nat) : Int)) ∧ (Bool.toNat r1 = 0 ∨ r0 < ((l0.length : Nat) : Int))) := by
 subst hn0
 have hdl0 := abs_len hd0
 refine Calls.body (args := [.slice A0 l0.length c0, .int .u64 ((p1 : Nat) : Int), .func (.func 60) #[] #[]]) Try.func59 rfl rfl rfl ?_
 show Wp _ _ _ [(0, .slice A0 l0.length c0), (1, .int .u64 ((p1 : Nat) : Int)), (2, .func (.func 60) #[] #[])] _ _
 refine sr (Az rfl (Ar rfl (Mz rfl (Kz (.int .i64 ((l0.length : Nat) : Int)) (Ar rfl (Mz rfl (Az rfl (An rfl (Wp.seq (bo ?_))))))))))
 have H25 : Own w D w [] := H.pk []
 obtain ⟨I29, hI30⟩ : ∃ q : (Nat × Nat × Nat) → World → Prop, q = fun (i : Nat × Nat × Nat) w' => Own w D w' [] ∧ (i.1 ≤ i.2.1 ∧ i.2.1 ≤ l0.length ∧ i.2.1 - i.1 < i.2.2 ∧ slices_BinarySearchFunc_locks_row_locks_row_uint64_L0 l0 p1 ((l0.length - 0) + 1) 0 l0.length = slices_BinarySearchFunc_locks_row_locks_row_uint64_L0 l0 p1 i.2.2 i.1 i.2.1) := ⟨_, rfl⟩
 have dm31 : ∀ {k21 : Nat} {k22 : Nat} {f24 : Nat} {w' : World}, I29 (k21, k22, f24) w' ↔ Own w D w' [] ∧ k21 ≤ k22 ∧ k22 ≤ l0.length ∧ k22 - k21 < f24 ∧ slices_BinarySearchFunc_locks_row_locks_row_uint64_L0 l0 p1 ((l0.length - 0) + 1) 0 l0.length = slices_BinarySearchFunc_locks_row_locks_row_uint64_L0 l0 p1 f24 k21 k22 := by intros; subst hI30; exact Iff.rfl
 refine Wp.loop (fun i : Nat × Nat × Nat => [(9, .int .i64 ((i.1 : Nat) : Int)), (10, .int .i64 ((i.2.1 : Nat) : Int)), (8, .int .i64 ((l0.length : Nat) : Int)), (7, .bool false), (6, .int .i64 0), (0, .slice A0 l0.length c0), (1, .int .u64 ((p1 : Nat) : Int)), (2, .func (.func 60) #[] #[])]) I29 (fun i => i.2.2) (0, l0.length, (l0.length - 0) + 1) ⟨rfl, rfl, rfl, rfl, rfl, rfl, rfl, rfl, trivial⟩ (dm31.2 ⟨H25, by omega, by omega, by omega, rfl⟩) ?_
 rintro ⟨k21, k22, f24⟩ w26 hf28
 show Wp _ _ _ [(9, .int .i64 ((k21 : Nat) : Int)), (10, .int .i64 ((k22 : Nat) : Int)), (8, .int .i64 ((l0.length : Nat) : Int)), (7, .bool false), (6, .int .i64 0), (0, .slice A0 l0.length c0), (1, .int .u64 ((p1 : Nat) : Int)), (2, .func (.func 60) #[] #[])] _ _
 obtain ⟨H27, hi33, hi34, hi35, hq32⟩ := dm31.1 hf28
 obtain ⟨f36, hf37⟩ : ∃ q, f24 = q + 1 := ⟨f24 - 1, by omega⟩
 subst hf37
 refine Wp.seq (sr (Mz rfl (Mz rfl (Kz (.bool (decide (((k21 : Nat) : Int) < ((k22 : Nat) : Int)))) (nt ?_)))))
 by_cases h38 : ((k21 : Nat) : Int) < ((k22 : Nat) : Int)
 refine jT (dT h38) (sk (bo (sr (Mz rfl (Mz rfl (fw (.int .i64 ((k21 + k22 : Nat) : Int)) (Yl.int (e := IntKind.i64.wrap (((k21 : Nat) : Int) + ((k22 : Nat) : Int))) yk (by rw [IntWalk.i64_in _ (by omega)]; omega)) (fw (.int .u64 ((k21 + k22 : Nat) : Int)) (Yl.int (e := IntKind.u64.wrap ((k21 + k22 : Nat) : Int)) yk (IntWalk.u64_in _ (by omega))) (fw (.int .u64 (((k21 + k22) / 2 : Nat) : Int)) (Yl.int (e := Int.fdiv ((k21 + k22 : Nat) : Int) 2) yk (shr_nat _ 1 _ (by decide))) (fw (.int .i64 (((k21 + k22) / 2 : Nat) : Int)) (Yl.int (e := IntKind.i64.wrap (((k21 + k22) / 2 : Nat) : Int)) yk (IntWalk.i64_in _ (by omega))) (Ar rfl (Mz rfl (Mz rfl (Mz rfl ?_)))))))))))))
 obtain ⟨x39, hx40⟩ := rds_at (ls := d0) (i := (k21 + k22) / 2) rowD.len (by decide) (H27.ro hx0) (by first | omega | (simp; done) | (simp; omega))
 have hX41 := abs_at hd0 hx40
 have hb42 := (hm0 _ (List.mem_of_getElem? hx40)).2
 refine fw (.pointer (some ⟨ab A0, ao A0 + ((k21 + k22) / 2) * 6, none⟩)) (Yl.indexAddr (El57) rfl rfl ((H27.ro hx0).addr (i := (k21 + k22) / 2) (by omega)) (by omega)) (fw (.agg (rowD.cells x39).toArray) (Yl.load rfl (Lds.agg (cs := (rowD.cells x39)) Try.isAgg72 Try.sizeOf72 ((H27.ro hx0).elem rowD.len hx40 (by decide)))) (Mz rfl ?_))
 refine WL.do rfl (Do.callV Try.call60 rfl rfl ?_ (fun _ _ k => k))
 refine Calls.body (args := [.agg (rowD.cells x39).toArray, .int .u64 ((p1 : Nat) : Int)]) Try.func60 rfl rfl rfl ?_
 show Wp _ _ _ [(0, .agg (rowD.cells x39).toArray), (1, .int .u64 ((p1 : Nat) : Int))] _ _
 refine sr ?_
 refine npw (rowD.cells x39) 72 H27 ?_
 intro g43 w44 H45
 refine Ar rfl (Kz (.pointer (some ⟨g43, 0, none⟩)) (Lz (.int .u64 ((x39.xtxn : Nat) : Int)) H45 0 Try.isAgg30 (Mz rfl ?_)))
 obtain ⟨r51, hr52⟩ : ∃ q, cmp_Compare_uint64 x39.xtxn p1 = q := ⟨_, rfl⟩
 obtain ⟨D46, HP47, ro48, bk49, rr50⟩ := Own.enter0 H45
 refine cl Try.call61 (cmp_Compare_uint64_ok _ _ x39.xtxn p1 r51 HP47 hr52) ?_
 rintro _ w53 ⟨rfl, HQ54⟩
 have H55 := bk49 _ _ HQ54
 refine An rfl (rt (rs (Kz (.bool (decide (r51 < 0))) (nt ?_))))
 by_cases h56 : r51 < 0
 refine jT (dT h56) (Wp.region (Mz rfl (fw (.int .i64 ((((k21 + k22) / 2) + 1 : Nat) : Int)) (Yl.int (e := IntKind.i64.wrap ((((k21 + k22) / 2 : Nat) : Int) + 1)) yk (by rw [IntWalk.i64_in _ (by omega)]; omega)) (Az rfl (WL.nil (bN ?_))))))
 have H57 := H55.pk []
 exact Fin.round (((k21 + k22) / 2) + 1, k22, f36) ⟨rfl, rfl, rfl, rfl, rfl, rfl, rfl, rfl, trivial⟩ (dm31.2 ⟨H57, by omega, by omega, by omega, et (hq32) (et (ip h38) (et (bnd_of (getD_of hX41)) (et (bnd_of hr52) (ip h56))))⟩) (by show f36 < f36 + 1; omega)
 refine jF (dF h56) (Wp.region (Mz rfl (Az rfl (WL.nil (bN ?_)))))
 have H58 := H55.pk []
 exact Fin.round (k21, (k21 + k22) / 2, f36) ⟨rfl, rfl, rfl, rfl, rfl, rfl, rfl, rfl, trivial⟩ (dm31.2 ⟨H58, by omega, by omega, by omega, et (hq32) (et (ip h38) (et (bnd_of (getD_of hX41)) (et (bnd_of hr52) (iN h56))))⟩) (by show f36 < f36 + 1; omega)
 refine jF (dF h38) (Wp.exit (Fin.thenX ?_))
 have hL59 : slices_BinarySearchFunc_locks_row_locks_row_uint64_L0 l0 p1 ((l0.length - 0) + 1) 0 l0.length = k21 := et (hq32) (iN h38)
 refine Fin.thenX (Fin.blockX (Fin.then (sr (Mz rfl (Mz rfl (Mz rfl (Kz (.bool (decide (((k21 : Nat) : Int) < ((l0.length : Nat) : Int)))) (Mz rfl ?_))))))))
 by_cases h60 : ((k21 : Nat) : Int) < ((l0.length : Nat) : Int)
 refine gw (.func (.func 60) #[] #[]) (dT h60) (Yl.move rfl) (gw (.slice A0 l0.length c0) (dT h60) (Yl.move rfl) (gw (.int .i64 ((k21 : Nat) : Int)) (dT h60) (Yl.move rfl) ?_))
 obtain ⟨x61, hx62⟩ := rds_at (ls := d0) (i := k21) rowD.len (by decide) (H27.ro hx0) (by first | omega | (simp; done) | (simp; omega))
 have hX63 := abs_at hd0 hx62
 have hb64 := (hm0 _ (List.mem_of_getElem? hx62)).2
 refine gw (.pointer (some ⟨ab A0, ao A0 + k21 * 6, none⟩)) (dT h60) (Yl.indexAddr (El57) rfl rfl ((H27.ro hx0).addr (i := k21) (by omega)) (by omega)) (gw (.agg (rowD.cells x61).toArray) (dT h60) (Yl.load rfl (Lds.agg (cs := (rowD.cells x61)) Try.isAgg72 Try.sizeOf72 ((H27.ro hx0).elem rowD.len hx62 (by decide)))) (gw (.int .u64 ((p1 : Nat) : Int)) (dT h60) (Yl.move rfl) ?_))
 refine WL.doG rfl rfl (dT h60) rfl (Do.callV Try.call60 rfl rfl ?_ (fun _ _ k => k))
 refine Calls.body (args := [.agg (rowD.cells x61).toArray, .int .u64 ((p1 : Nat) : Int)]) Try.func60 rfl rfl rfl ?_
 show Wp _ _ _ [(0, .agg (rowD.cells x61).toArray), (1, .int .u64 ((p1 : Nat) : Int))] _ _
 refine sr ?_
 refine npw (rowD.cells x61) 72 H27 ?_
 intro g65 w66 H67
 refine Ar rfl (Kz (.pointer (some ⟨g65, 0, none⟩)) (Lz (.int .u64 ((x61.xtxn : Nat) : Int)) H67 0 Try.isAgg30 (Mz rfl ?_)))
 obtain ⟨r73, hr74⟩ : ∃ q, cmp_Compare_uint64 x61.xtxn p1 = q := ⟨_, rfl⟩
 obtain ⟨D68, HP69, ro70, bk71, rr72⟩ := Own.enter0 H67
 refine cl Try.call61 (cmp_Compare_uint64_ok _ _ x61.xtxn p1 r73 HP69 hr74) ?_
 rintro _ w75 ⟨rfl, HQ76⟩
 have H77 := bk71 _ _ HQ76
 refine An rfl (rt (rs (Gz (.bool (decide (r73 = 0))) (dT h60) (fw (.bool (decide (r73 = 0))) (Yl.pickT rfl (dT h60) rfl) (Az rfl (An rfl (rt (Fin.res (res2 rfl rfl rfl) ?_))))))))
 have H78 := H77.pk []
 have e : slices_BinarySearchFunc_locks_row_locks_row_uint64 l0 p1 = (((k21 : Nat) : Int), decide (r73 = 0)) := et (bnd_of hL59) (et (ip h60) (et (bnd_of (getD_of hX63)) (bnd_of hr74)))
 obtain ⟨rfl, rfl⟩ := pj2 (e.symm.trans hr)
 exact ⟨rfl, H78, (by omega), (by first | omega | exact .inl rfl)⟩
 refine Sz (dF h60) (Sz (dF h60) (Sz (dF h60) (Sz (dF h60) (Sz (dF h60) (Sz (dF h60) (Sz (dF h60) (Sz (dF h60) (fw (.bool false) (Yl.pickF rfl (dF h60) rfl) (Az rfl (An rfl (rt (Fin.res (res2 rfl rfl rfl) ?_))))))))))))
 have H79 := H27.pk []
 have e : slices_BinarySearchFunc_locks_row_locks_row_uint64 l0 p1 = (((k21 : Nat) : Int), false) := et (bnd_of hL59) (iN h60)
 obtain ⟨rfl, rfl⟩ := pj2 (e.symm.trans hr)
 exact ⟨rfl, H79, (by omega), (by first | omega | exact .inl rfl)⟩
def locks_Table_find (p0 : TableT) (p1 : Nat) : Int × Bool :=
 bnd (slices_BinarySearchFunc_locks_row_locks_row_uint64 p0.xrows.ls p1) fun yr26 => (yr26.1, yr26.2)
set_option maxRecDepth 100000 in
theorem locks_Table_find_ok (w : World) (D : Nat → Prop) (g0 : Nat) (p0 : TableT) (A0x0 : Option Addr) (c0x0 : Nat) (d0x0 : List rowD) (p1 : Nat) (r0 : Int) (r1 : Bool) (H : Own w D w [blk g0 [.slice A0x0 p0.xrows.ls.length c0x0] 59]) (hd0x0 : List.map rowD.abs d0x0 = p0.xrows.ls) (hx0x0 : Ro w D fun w' => Rds w' 6 A0x0 p0.xrows.ls.length (List.flatMap rowD.cells d0x0)) (hb0x0 : p0.xrows.ls.length ≤ c0x0 ∧ p0.xrows.ls.length ≤ 9223372036854775807) (hm0x0 : ∀ x ∈ d0x0, Ro w D (fun w' => Rds w' 3 x.xheld.A x.xheld.ls.length (List.flatMap LockD.cells x.xheld.ls)) ∧ (x.xheld.ls.length ≤ x.xheld.c ∧ x.xheld.ls.length ≤ 9223372036854775807)) (hh0 : p0.xrows.ls.length ≤ 1000000) (hr : locks_Table_find p0 p1 = (r0, r1)) :
    Calls Try.prog 43 #[.pointer (some ⟨g0, 0, none⟩), .int .u64 ((p1 : Nat) : Int)] w (Ret fun v w' => v = .tuple #[.int .i64 r0, .bool r1] ∧ Own w D w' [blk g0 [.slice A0x0 p0.xrows.ls.length c0x0] 59] ∧ (0 ≤ r0 ∧ r0 ≤ ((p0.xrows.ls.length : Nat) : Int)) ∧ (Bool.toNat r1 = 0 ∨ r0 < ((p0.xrows.ls.length : Nat) : Int))) := by
 have hdl0x0 := abs_len hd0x0
 refine Calls.body (args := [.pointer (some ⟨g0, 0, none⟩), .int .u64 ((p1 : Nat) : Int)]) Try.func43 rfl rfl rfl ?_
 show Wp _ _ _ [(0, .pointer (some ⟨g0, 0, none⟩)), (1, .int .u64 ((p1 : Nat) : Int))] _ _
 refine sr (Az rfl (Ar rfl (Mz rfl (Kz (.pointer (some ⟨g0, 0, none⟩)) (Kz (.pointer (some ⟨g0, 0, none⟩)) (Lz (.slice A0x0 p0.xrows.ls.length c0x0) H 0 Try.isAgg57 (Mz rfl ?_)))))))
 obtain ⟨⟨r26, r27⟩, hr28⟩ : ∃ q : Int × Bool, slices_BinarySearchFunc_locks_row_locks_row_uint64 p0.xrows.ls p1 = q := ⟨_, rfl⟩
 obtain ⟨D21, HP22, ro23, bk24, rr25⟩ := Own.enter0 H
 refine cl Try.call59 (slices_BinarySearchFunc_locks_row_locks_row_uint64_ok _ _ A0x0 p0.xrows.ls.length c0x0 d0x0 p0.xrows.ls p1 r26 r27 HP22 hd0x0 (ro23 _ hx0x0) (fun x9 h9 => ⟨ro23 _ (hm0x0 x9 h9).1, (hm0x0 x9 h9).2⟩) rfl (by omega) hr28) ?_
 rintro _ w29 ⟨rfl, HQ30, hk32, hk33⟩
 have H31 := bk24 _ _ HQ30
 replace hk32 : 0 ≤ r26 ∧ r26 ≤ ((p0.xrows.ls.length : Nat) : Int) := hk32
 replace hk33 : Bool.toNat r27 = 0 ∨ r26 < ((p0.xrows.ls.length : Nat) : Int) := hk33
 refine Kz (.int .i64 r26) (Kz (.bool r27) (Az rfl (An rfl (rt (Fin.res (res2 rfl rfl rfl) ?_)))))
 have H34 := H31.pk [0]
 have e : locks_Table_find p0 p1 = (r26, r27) := bnd_of hr28
 obtain ⟨rfl, rfl⟩ := pj2 (e.symm.trans hr)
 exact ⟨rfl, H34, (by omega), (by first | omega | exact .inl rfl)⟩
def locks_Table_waiting (p0 : TableT) (p1 : Nat) : Bool :=
 bnd (locks_Table_find p0 p1) fun yr26 => if yr26.2 = true then bnd (List.getD p0.xrows.ls (Int.toNat yr26.1) default) fun yx35 => yx35.xwaits else false
set_option maxRecDepth 100000 in
theorem locks_Table_waiting_ok (w : World) (D : Nat → Prop) (g0 : Nat) (p0 : TableT) (A0x0 : Option Addr) (c0x0 : Nat) (d0x0 : List rowD) (p1 : Nat) (r0 : Bool) (H : Own w D w [blk g0 [.slice A0x0 p0.xrows.ls.length c0x0] 59]) (hd0x0 : List.map rowD.abs d0x0 = p0.xrows.ls) (hx0x0 : Ro w D fun w' => Rds w' 6 A0x0 p0.xrows.ls.length (List.flatMap rowD.cells d0x0)) (hb0x0 : p0.xrows.ls.length ≤ c0x0 ∧ p0.xrows.ls.length ≤ 9223372036854775807) (hm0x0 : ∀ x ∈ d0x0, Ro w D (fun w' => Rds w' 3 x.xheld.A x.xheld.ls.length (List.flatMap LockD.cells x.xheld.ls)) ∧ (x.xheld.ls.length ≤ x.xheld.c ∧ x.xheld.ls.length ≤ 9223372036854775807)) (hh0 : p0.xrows.ls.length ≤ 1000000) (hr : locks_Table_waiting p0 p1 = r0) :
    Calls Try.prog 22 #[.pointer (some ⟨g0, 0, none⟩), .int .u64 ((p1 : Nat) : Int)] w (Ret fun v w' => v = .bool r0 ∧ Own w D w' [blk g0 [.slice A0x0 p0.xrows.ls.length c0x0] 59]) := by
 have hdl0x0 := abs_len hd0x0
 refine Calls.body (args := [.pointer (some ⟨g0, 0, none⟩), .int .u64 ((p1 : Nat) : Int)]) Try.func22 rfl rfl rfl ?_
 show Wp _ _ _ [(0, .pointer (some ⟨g0, 0, none⟩)), (1, .int .u64 ((p1 : Nat) : Int))] _ _
 refine sr (Ar rfl (Mz rfl (Mz rfl ?_)))
 obtain ⟨⟨r26, r27⟩, hr28⟩ : ∃ q : Int × Bool, locks_Table_find p0 p1 = q := ⟨_, rfl⟩
 obtain ⟨D21, HP22, ro23, bk24, rr25⟩ := Own.enter1 H
 refine cl Try.call43 (locks_Table_find_ok _ _ g0 p0 A0x0 c0x0 d0x0 p1 r26 r27 HP22 hd0x0 (ro23 _ hx0x0) (show p0.xrows.ls.length ≤ c0x0 ∧ p0.xrows.ls.length ≤ 9223372036854775807 from by omega) (fun x9 h9 => ⟨ro23 _ (hm0x0 x9 h9).1, (hm0x0 x9 h9).2⟩) (by first | omega | (dsimp only; omega)) hr28) ?_
 rintro _ w29 ⟨rfl, HQ30, hk32, hk33⟩
 have H31 := bk24 _ _ HQ30
 replace hk32 : 0 ≤ r26 ∧ r26 ≤ ((p0.xrows.ls.length : Nat) : Int) := hk32
 replace hk33 : Bool.toNat r27 = 0 ∨ r26 < ((p0.xrows.ls.length : Nat) : Int) := hk33
 refine Mz rfl (Kz (.int .i64 r26) (Kz (.bool r27) (Az rfl (Ar rfl (Mz rfl (Mz rfl ?_))))))
 rcases Bool.eq_false_or_eq_true (r27) with h34 | h34
 have h34t : Bool.toNat r27 = 1 := by rw [h34]; rfl
 refine WL.valG (v := .pointer (some ⟨g0, 0, none⟩)) rfl rfl h34 rfl (Yl.move rfl) (Gz (.pointer (some ⟨g0, 0, none⟩)) h34 (Gz (.pointer (some ⟨g0, 0, none⟩)) h34 (Gl (.slice A0x0 p0.xrows.ls.length c0x0) h34 H31 0 Try.isAgg57 (WL.valG (v := .int .i64 ((Int.toNat r26 : Nat) : Int)) rfl rfl h34 rfl (Yl.int (e := r26) (Yl.move rfl) (by omega)) ?_))))
 obtain ⟨x35, hx36⟩ := rds_at (ls := d0x0) (i := Int.toNat r26) rowD.len (by decide) (H31.ro hx0x0) (by first | omega | (simp; done) | (simp; omega))
 have hX37 := abs_at hd0x0 hx36
 have hb38 := (hm0x0 _ (List.mem_of_getElem? hx36)).2
 refine WL.valG (v := .pointer (some ⟨ab A0x0, ao A0x0 + (Int.toNat r26) * 6, none⟩)) rfl rfl h34 rfl (Yl.indexAddr (El57) rfl rfl ((H31.ro hx0x0).addr (i := Int.toNat r26) (by omega)) (by omega)) (Gz (.pointer (some ⟨ab A0x0, ao A0x0 + (Int.toNat r26) * 6 + 2, none⟩)) h34 (WL.valG (v := .bool x35.xwaits) rfl rfl h34 rfl (Yl.load rfl (Lds.one Try.isAgg4 (((H31.ro hx0x0).elem rowD.len hx36 (by decide)).at_ (k := 2) rfl))) (fw (.bool x35.xwaits) (Yl.pickT rfl h34 rfl) (An rfl (rt (rs ?_))))))
 have H39 := H31.pk [0]
 obtain rfl : _ = x35.xwaits := hr.symm.trans (et (bnd_of hr28) (et (ip h34) (bnd_of (getD_of hX37))))
 exact ⟨rfl, H39⟩
 have h34t : Bool.toNat r27 = 0 := by rw [h34]; rfl
 refine Sz h34 (Sz h34 (Sz h34 (Sz h34 (Sz h34 (Sz h34 (Sz h34 (Sz h34 (fw (.bool false) (Yl.pickF rfl h34 rfl) (An rfl (rt (rs ?_)))))))))))
 have H40 := H31.pk [0]
 obtain rfl : _ = false := hr.symm.trans (et (bnd_of hr28) (ifF h34))
 exact ⟨rfl, H40⟩
def slices_IndexFunc_api_Lock_api_Lock_L0 (p1c0 : LockD) : List LockD → Nat → Unit ⊕ Int
  | [], k21 => Sum.inl ()
  | x33 :: q22, k21 => bnd (span_Covers x33.xRange p1c0.xRange) fun yr44 => if yr44 = true then if x33.xWrite = true then Sum.inr ((k21 : Nat) : Int) else if p1c0.xWrite = true then slices_IndexFunc_api_Lock_api_Lock_L0 p1c0 q22 (k21 + 1) else Sum.inr ((k21 : Nat) : Int) else slices_IndexFunc_api_Lock_api_Lock_L0 p1c0 q22 (k21 + 1)
def slices_IndexFunc_api_Lock_api_Lock (l0 : List LockD) (p1c0 : LockD) : Int :=
 lp (slices_IndexFunc_api_Lock_api_Lock_L0 p1c0 l0 0) fun _ => (-1)
set_option maxRecDepth 100000 in
theorem slices_IndexFunc_api_Lock_api_Lock_ok (w : World) (D : Nat → Prop) (A0 : Option Addr) (n0 c0 : Nat) (l0 : List LockD) (g1c0 : Nat) (p1c0 : LockD) (r0 : Int) (H : Own w D w [blk g1c0 (LockD.cells p1c0) 34]) (hx0 : Ro w D fun w' => Rds w' 3 A0 n0 (List.flatMap LockD.cells l0)) (hn0 : n0 = l0.length) (hl0 : l0.length ≤ 9223372036854775807) (hr : slices_IndexFunc_api_Lock_api_Lock l0 p1c0 = r0) :
    Calls Try.prog 63 #[.slice A0 n0 c0, .func (.func 47) #[] #[.pointer (some ⟨g1c0, 0, none⟩)]] w (Ret fun v w' => v = .int .i64 r0 ∧ Own w D w' [blk g1c0 (LockD.cells p1c0) 34]) := by
 subst hn0
 refine Calls.body (args := [.slice A0 l0.length c0, .func (.func 47) #[] #[.pointer (some ⟨g1c0, 0, none⟩)]]) Try.func63 rfl rfl rfl ?_
 show Wp _ _ _ [(0, .slice A0 l0.length c0), (1, .func (.func 47) #[] #[.pointer (some ⟨g1c0, 0, none⟩)])] _ _
 refine sr (An rfl (Wp.seq (sr (Mz rfl (Kz (.int .i64 ((l0.length : Nat) : Int)) (Mn rfl (bo ?_)))))))
 have H23 : Own w D w [blk g1c0 (LockD.cells p1c0) 34] := H.pk [0]
 obtain ⟨I27, hI28⟩ : ∃ q : Nat → World → Prop, q = fun (i : Nat) w' => Own w D w' [blk g1c0 (LockD.cells p1c0) 34] ∧ (i ≤ l0.length ∧ slices_IndexFunc_api_Lock_api_Lock_L0 p1c0 l0 0 = slices_IndexFunc_api_Lock_api_Lock_L0 p1c0 (List.drop i l0) i) := ⟨_, rfl⟩
 have dm29 : ∀ {k21 : Nat} {w' : World}, I27 k21 w' ↔ Own w D w' [blk g1c0 (LockD.cells p1c0) 34] ∧ k21 ≤ l0.length ∧ slices_IndexFunc_api_Lock_api_Lock_L0 p1c0 l0 0 = slices_IndexFunc_api_Lock_api_Lock_L0 p1c0 (List.drop k21 l0) k21 := by intros; subst hI28; exact Iff.rfl
 refine Wp.loop (fun i : Nat => [(4, .int .i64 0), (8, .int .i64 ((i : Nat) : Int)), (7, .int .i64 ((l0.length : Nat) : Int)), (0, .slice A0 l0.length c0), (1, .func (.func 47) #[] #[.pointer (some ⟨g1c0, 0, none⟩)])]) I27 (fun i => l0.length - i) 0 ⟨rfl, rfl, rfl, rfl, rfl, trivial⟩ (dm29.2 ⟨H23, by omega, rfl⟩) ?_
 rintro k21 w24 hf26
 show Wp _ _ _ [(4, .int .i64 0), (8, .int .i64 ((k21 : Nat) : Int)), (7, .int .i64 ((l0.length : Nat) : Int)), (0, .slice A0 l0.length c0), (1, .func (.func 47) #[] #[.pointer (some ⟨g1c0, 0, none⟩)])] _ _
 obtain ⟨H25, hi31, hq30⟩ := dm29.1 hf26
 refine sr (Kz (.bool (decide (((k21 : Nat) : Int) < ((l0.length : Nat) : Int)))) (nt (Wp.seq ?_)))
 by_cases h32 : ((k21 : Nat) : Int) < ((l0.length : Nat) : Int)
 obtain ⟨x33, hx34⟩ := rds_at (ls := l0) (i := k21) LockD.len (by decide) (H25.ro hx0) (by first | omega | (simp; done) | (simp; omega))
 have hd35 := drop_at hx34
 refine jT (dT h32) (sk (Wp.seq (bo (sr (Mz rfl (Ar rfl (Mz rfl (Mz rfl (Mz rfl (fw (.pointer (some ⟨ab A0, ao A0 + k21 * 3, none⟩)) (Yl.indexAddr (El46) rfl rfl ((H25.ro hx0).addr (i := k21) (by omega)) (by omega)) (fw (.agg (LockD.cells x33).toArray) (Yl.load rfl (Lds.agg (cs := (LockD.cells x33)) Try.isAgg34 Try.sizeOf34 ((H25.ro hx0).elem LockD.len hx34 (by decide)))) ?_)))))))))))
 refine WL.do rfl (Do.callV Try.call47 rfl rfl ?_ (fun _ _ k => k))
 refine Calls.body (args := [.agg (LockD.cells x33).toArray, .pointer (some ⟨g1c0, 0, none⟩)]) Try.func47 rfl rfl rfl ?_
 show Wp _ _ _ [(0, .agg (LockD.cells x33).toArray), (1, .pointer (some ⟨g1c0, 0, none⟩))] _ _
 refine sr ?_
 refine npw (LockD.cells x33) 34 H25 ?_
 intro g36 w37 H38
 refine Ar rfl (Kz (.pointer (some ⟨g36, 0, none⟩)) (La (RangeD.cells x33.xRange) H38 0 Try.isAgg32 Try.sizeOf32 (Kz (.pointer (some ⟨g1c0, 0, none⟩)) (La (RangeD.cells p1c0.xRange) H38 1 Try.isAgg32 Try.sizeOf32 ?_))))
 obtain ⟨r44, hr45⟩ : ∃ q, span_Covers x33.xRange p1c0.xRange = q := ⟨_, rfl⟩
 obtain ⟨D39, HP40, ro41, bk42, rr43⟩ := Own.enter0 H38
 refine cl Try.call48 (span_Covers_ok _ _ x33.xRange p1c0.xRange r44 HP40 hr45) ?_
 rintro _ w46 ⟨rfl, HQ47⟩
 have H48 := bk42 _ _ HQ47
 refine Mz rfl ?_
 rcases Bool.eq_false_or_eq_true (r44) with h49 | h49
 refine Gz (.pointer (some ⟨g36, 2, none⟩)) h49 (Gl (.bool x33.xWrite) h49 H48 0 Try.isAgg4 (WL.valG (v := .bool x33.xWrite) rfl rfl h49 rfl (Yl.move rfl) ?_))
 rcases Bool.eq_false_or_eq_true (x33.xWrite) with h50 | h50
 refine Sz h50 (Sz h50 (Sz h50 (WL.valG (v := .bool true) rfl rfl h49 rfl (Yl.pickT rfl h50 rfl) (fw (.bool true) (Yl.pickT rfl h49 rfl) (An rfl (rt (rs (nt (jt (Wp.seq ?_))))))))))
 have H51 := H48.pk [1]
 refine Wp.region (Mz rfl (An rfl (rt (bR (tR (tR (bR (tR (rs ?_)))))))))
 have H52 := H51.pk [0]
 obtain rfl : _ = ((k21 : Nat) : Int) := hr.symm.trans (lp_r (et (hq30) (et (congrArg (fun q => slices_IndexFunc_api_Lock_api_Lock_L0 p1c0 q k21) hd35) (et (bnd_of hr45) (et (ip h49) (ip h50))))))
 exact ⟨rfl, H52⟩
 refine Gz (.pointer (some ⟨g1c0, 2, none⟩)) h50 (Gl (.bool p1c0.xWrite) h50 H48 1 Try.isAgg4 (Gz (.bool (!p1c0.xWrite)) h50 (WL.valG (v := .bool (!p1c0.xWrite)) rfl rfl h49 rfl (Yl.pickF rfl h50 rfl) (fw (.bool (!p1c0.xWrite)) (Yl.pickT rfl h49 rfl) (An rfl (rt (rs (nt ?_))))))))
 rcases Bool.eq_false_or_eq_true (p1c0.xWrite) with h53 | h53
 refine jF (cn h53) (Wp.skip (bN (Fin.then ?_)))
 have H54 := H48.pk [1]
 refine Wp.region (fw (.int .i64 ((k21 + 1 : Nat) : Int)) (Yl.int (e := IntKind.i64.wrap (((k21 : Nat) : Int) + 1)) yk (by rw [IntWalk.i64_in _ (by omega)]; omega)) (Mz rfl (WL.nil ?_)))
 have H55 := H54.pk [0]
 exact Fin.round (k21 + 1) ⟨rfl, rfl, rfl, rfl, rfl, trivial⟩ (dm29.2 ⟨H55, by omega, et (hq30) (et (congrArg (fun q => slices_IndexFunc_api_Lock_api_Lock_L0 p1c0 q k21) hd35) (et (bnd_of hr45) (et (ip h49) (et (ifF h50) (ip h53)))))⟩) (by show l0.length - (k21 + 1) < l0.length - k21; omega)
 refine jT (cn h53) (Wp.seq ?_)
 have H56 := H48.pk [1]
 refine Wp.region (Mz rfl (An rfl (rt (bR (tR (tR (bR (tR (rs ?_)))))))))
 have H57 := H56.pk [0]
 obtain rfl : _ = ((k21 : Nat) : Int) := hr.symm.trans (lp_r (et (hq30) (et (congrArg (fun q => slices_IndexFunc_api_Lock_api_Lock_L0 p1c0 q k21) hd35) (et (bnd_of hr45) (et (ip h49) (et (ifF h50) (ifF h53)))))))
 exact ⟨rfl, H57⟩
 refine Sz h49 (Sz h49 (Sz h49 (WL.skipU rfl rfl rfl (WL.skipU rfl rfl rfl (WL.skipU rfl rfl rfl (Sz h49 (fw (.bool false) (Yl.pickF rfl h49 rfl) (An rfl (rt (rs (nt (jf (Wp.skip (bN (Fin.then ?_)))))))))))))))
 have H58 := H48.pk [1]
 refine Wp.region (fw (.int .i64 ((k21 + 1 : Nat) : Int)) (Yl.int (e := IntKind.i64.wrap (((k21 : Nat) : Int) + 1)) yk (by rw [IntWalk.i64_in _ (by omega)]; omega)) (Mz rfl (WL.nil ?_)))
 have H59 := H58.pk [0]
 exact Fin.round (k21 + 1) ⟨rfl, rfl, rfl, rfl, rfl, trivial⟩ (dm29.2 ⟨H59, by omega, et (hq30) (et (congrArg (fun q => slices_IndexFunc_api_Lock_api_Lock_L0 p1c0 q k21) hd35) (et (bnd_of hr45) (ifF h49)))⟩) (by show l0.length - (k21 + 1) < l0.length - k21; omega)
 refine jF (dF h32) (Wp.exit (Fin.thenX ?_))
 have hL60 : slices_IndexFunc_api_Lock_api_Lock_L0 p1c0 l0 0 = Sum.inl () := et (hq30) (et (congrArg (fun q => slices_IndexFunc_api_Lock_api_Lock_L0 p1c0 q k21) (drop_end (ls := l0) (i := k21) (by omega))) rfl)
 refine Fin.thenX (Fin.blockX (Fin.then (sr (An rfl (rt (rs ?_))))))
 have H61 := H25.pk [0]
 obtain rfl : _ = (-1) := hr.symm.trans (lp_l hL60)
 exact ⟨rfl, H61⟩
def slices_ContainsFunc_api_Lock_api_Lock (l0 : List LockD) (p1c0 : LockD) : Bool :=
 bnd (slices_IndexFunc_api_Lock_api_Lock l0 p1c0) fun yr26 => decide (yr26 ≥ 0)
set_option maxRecDepth 100000 in
theorem slices_ContainsFunc_api_Lock_api_Lock_ok (w : World) (D : Nat → Prop) (A0 : Option Addr) (n0 c0 : Nat) (l0 : List LockD) (g1c0 : Nat) (p1c0 : LockD) (r0 : Bool) (H : Own w D w [blk g1c0 (LockD.cells p1c0) 34]) (hx0 : Ro w D fun w' => Rds w' 3 A0 n0 (List.flatMap LockD.cells l0)) (hn0 : n0 = l0.length) (hl0 : l0.length ≤ 9223372036854775807) (hr : slices_ContainsFunc_api_Lock_api_Lock l0 p1c0 = r0) :
    Calls Try.prog 46 #[.slice A0 n0 c0, .func (.func 47) #[] #[.pointer (some ⟨g1c0, 0, none⟩)]] w (Ret fun v w' => v = .bool r0 ∧ Own w D w' [blk g1c0 (LockD.cells p1c0) 34]) := by
 subst hn0
 refine Calls.body (args := [.slice A0 l0.length c0, .func (.func 47) #[] #[.pointer (some ⟨g1c0, 0, none⟩)]]) Try.func46 rfl rfl rfl ?_
 show Wp _ _ _ [(0, .slice A0 l0.length c0), (1, .func (.func 47) #[] #[.pointer (some ⟨g1c0, 0, none⟩)])] _ _
 refine sr (Ar rfl (Mz rfl (Mz rfl ?_)))
 obtain ⟨r26, hr27⟩ : ∃ q, slices_IndexFunc_api_Lock_api_Lock l0 p1c0 = q := ⟨_, rfl⟩
 obtain ⟨D21, HP22, ro23, bk24, rr25⟩ := Own.enter1 H
 refine cl Try.call63 (slices_IndexFunc_api_Lock_api_Lock_ok _ _ A0 l0.length c0 l0 g1c0 p1c0 r26 HP22 (ro23 _ hx0) rfl (by omega) hr27) ?_
 rintro _ w28 ⟨rfl, HQ29⟩
 have H30 := bk24 _ _ HQ29
 refine Kz (.bool (decide (r26 ≥ 0))) (An rfl (rt (rs ?_)))
 have H31 := H30.pk [0]
 obtain rfl : _ = decide (r26 ≥ 0) := hr.symm.trans (bnd_of hr27)
 exact ⟨rfl, H31⟩
def locks_Table_has (p0 : TableT) (p1 : Nat) (p2 : LockD) : Bool :=
 bnd (locks_Table_find p0 p1) fun yr30 => if yr30.2 = true then bnd (List.getD p0.xrows.ls (Int.toNat yr30.1) default) fun yx39 => bnd (slices_ContainsFunc_api_Lock_api_Lock yx39.xheld.ls p2) fun yr49 => yr49 else false
set_option maxRecDepth 100000 in
theorem locks_Table_has_ok (w : World) (D : Nat → Prop) (g0 : Nat) (p0 : TableT) (A0x0 : Option Addr) (c0x0 : Nat) (d0x0 : List rowD) (p1 : Nat) (p2 : LockD) (r0 : Bool) (H : Own w D w [blk g0 [.slice A0x0 p0.xrows.ls.length c0x0] 59]) (hd0x0 : List.map rowD.abs d0x0 = p0.xrows.ls) (hx0x0 : Ro w D fun w' => Rds w' 6 A0x0 p0.xrows.ls.length (List.flatMap rowD.cells d0x0)) (hb0x0 : p0.xrows.ls.length ≤ c0x0 ∧ p0.xrows.ls.length ≤ 9223372036854775807) (hm0x0 : ∀ x ∈ d0x0, Ro w D (fun w' => Rds w' 3 x.xheld.A x.xheld.ls.length (List.flatMap LockD.cells x.xheld.ls)) ∧ (x.xheld.ls.length ≤ x.xheld.c ∧ x.xheld.ls.length ≤ 9223372036854775807)) (hh0 : p0.xrows.ls.length ≤ 1000000) (hr : locks_Table_has p0 p1 p2 = r0) :
    Calls Try.prog 23 #[.pointer (some ⟨g0, 0, none⟩), .int .u64 ((p1 : Nat) : Int), .agg (LockD.cells p2).toArray] w (Ret fun v w' => v = .bool r0 ∧ Own w D w' [blk g0 [.slice A0x0 p0.xrows.ls.length c0x0] 59]) := by
 have hdl0x0 := abs_len hd0x0
 refine Calls.body (args := [.pointer (some ⟨g0, 0, none⟩), .int .u64 ((p1 : Nat) : Int), .agg (LockD.cells p2).toArray]) Try.func23 rfl rfl rfl ?_
 show Wp _ _ _ [(0, .pointer (some ⟨g0, 0, none⟩)), (1, .int .u64 ((p1 : Nat) : Int)), (2, .agg (LockD.cells p2).toArray)] _ _
 refine sr ?_
 refine npw (LockD.cells p2) 34 H ?_
 intro g21 w22 H23
 refine Ar rfl (Mz rfl (Mz rfl ?_))
 have H24 := H23.pk [1, 0]
 obtain ⟨⟨r30, r31⟩, hr32⟩ : ∃ q : Int × Bool, locks_Table_find p0 p1 = q := ⟨_, rfl⟩
 obtain ⟨D25, HP26, ro27, bk28, rr29⟩ := Own.enter1 H24
 refine cl Try.call43 (locks_Table_find_ok _ _ g0 p0 A0x0 c0x0 d0x0 p1 r30 r31 HP26 hd0x0 (ro27 _ hx0x0) (show p0.xrows.ls.length ≤ c0x0 ∧ p0.xrows.ls.length ≤ 9223372036854775807 from by omega) (fun x9 h9 => ⟨ro27 _ (hm0x0 x9 h9).1, (hm0x0 x9 h9).2⟩) (by first | omega | (dsimp only; omega)) hr32) ?_
 rintro _ w33 ⟨rfl, HQ34, hk36, hk37⟩
 have H35 := bk28 _ _ HQ34
 replace hk36 : 0 ≤ r30 ∧ r30 ≤ ((p0.xrows.ls.length : Nat) : Int) := hk36
 replace hk37 : Bool.toNat r31 = 0 ∨ r30 < ((p0.xrows.ls.length : Nat) : Int) := hk37
 refine Mz rfl (Kz (.int .i64 r30) (Kz (.bool r31) (Az rfl (Ar rfl (Mz rfl (Mz rfl ?_))))))
 rcases Bool.eq_false_or_eq_true (r31) with h38 | h38
 have h38t : Bool.toNat r31 = 1 := by rw [h38]; rfl
 refine WL.valG (v := .pointer (some ⟨g0, 0, none⟩)) rfl rfl h38 rfl (Yl.move rfl) (Gz (.pointer (some ⟨g0, 0, none⟩)) h38 (Gz (.pointer (some ⟨g0, 0, none⟩)) h38 (Gl (.slice A0x0 p0.xrows.ls.length c0x0) h38 H35 0 Try.isAgg57 (WL.valG (v := .int .i64 ((Int.toNat r30 : Nat) : Int)) rfl rfl h38 rfl (Yl.int (e := r30) (Yl.move rfl) (by omega)) ?_))))
 obtain ⟨x39, hx40⟩ := rds_at (ls := d0x0) (i := Int.toNat r30) rowD.len (by decide) (H35.ro hx0x0) (by first | omega | (simp; done) | (simp; omega))
 have hX41 := abs_at hd0x0 hx40
 have hb42 := (hm0x0 _ (List.mem_of_getElem? hx40)).2
 refine WL.valG (v := .pointer (some ⟨ab A0x0, ao A0x0 + (Int.toNat r30) * 6, none⟩)) rfl rfl h38 rfl (Yl.indexAddr (El57) rfl rfl ((H35.ro hx0x0).addr (i := Int.toNat r30) (by omega)) (by omega)) (Gz (.pointer (some ⟨ab A0x0, ao A0x0 + (Int.toNat r30) * 6 + 1, none⟩)) h38 (WL.valG (v := .slice x39.xheld.A x39.xheld.ls.length x39.xheld.c) rfl rfl h38 rfl (Yl.load rfl (Lds.one Try.isAgg46 (((H35.ro hx0x0).elem rowD.len hx40 (by decide)).at_ (k := 1) rfl))) (Gz (.func (.func 47) #[] #[.pointer (some ⟨g21, 0, none⟩)]) h38 ?_)))
 have H43 := H35.pk [1, 0]
 obtain ⟨r49, hr50⟩ : ∃ q, slices_ContainsFunc_api_Lock_api_Lock x39.xheld.ls p2 = q := ⟨_, rfl⟩
 obtain ⟨D44, HP45, ro46, bk47, rr48⟩ := Own.enter1 H43
 refine WL.doG rfl rfl h38 rfl (Do.call Try.call46 rfl (slices_ContainsFunc_api_Lock_api_Lock_ok _ _ x39.xheld.A x39.xheld.ls.length x39.xheld.c x39.xheld.ls g21 p2 r49 HP45 (ro46 _ (hm0x0 _ (List.mem_of_getElem? hx40)).1) rfl (by omega) hr50) ?_)
 rintro _ w51 ⟨rfl, HQ52⟩
 have H53 := bk47 _ _ HQ52
 refine fw (.bool r49) (Yl.pickT rfl h38 rfl) (An rfl (rt (rs ?_)))
 have H54 := H53.pk [1]
 obtain rfl : _ = r49 := hr.symm.trans (et (bnd_of hr32) (et (ip h38) (et (bnd_of (getD_of hX41)) (bnd_of hr50))))
 exact ⟨rfl, H54⟩
 have h38t : Bool.toNat r31 = 0 := by rw [h38]; rfl
 refine Sz h38 (Sz h38 (Sz h38 (Sz h38 (Sz h38 (Sz h38 (Sz h38 (Sz h38 (Sz h38 (Sz h38 (fw (.bool false) (Yl.pickF rfl h38 rfl) (An rfl (rt (rs ?_)))))))))))))
 have H55 := H35.pk [0]
 obtain rfl : _ = false := hr.symm.trans (et (bnd_of hr32) (ifF h38))
 exact ⟨rfl, H55⟩
def locks_Table_count_L0 : List rowT → Int → Int
  | [], z21 => z21
  | x34 :: q23, z21 => if x34.xwaits = true then locks_Table_count_L0 q23 (IntKind.i64.wrap ((IntKind.i64.wrap (z21 + ((x34.xheld.ls.length : Nat) : Int))) + 1)) else locks_Table_count_L0 q23 (IntKind.i64.wrap (z21 + ((x34.xheld.ls.length : Nat) : Int)))
def locks_Table_count (p0 : TableT) : Int :=
 bnd (locks_Table_count_L0 p0.xrows.ls 0) fun sLrL => sLrL
set_option maxRecDepth 100000 in
theorem locks_Table_count_ok (w : World) (D : Nat → Prop) (g0 : Nat) (p0 : TableT) (A0x0 : Option Addr) (c0x0 : Nat) (d0x0 : List rowD) (r0 : Int) (H : Own w D w [blk g0 [.slice A0x0 p0.xrows.ls.length c0x0] 59]) (hd0x0 : List.map rowD.abs d0x0 = p0.xrows.ls) (hx0x0 : Ro w D fun w' => Rds w' 6 A0x0 p0.xrows.ls.length (List.flatMap rowD.cells d0x0)) (hb0x0 : p0.xrows.ls.length ≤ c0x0 ∧ p0.xrows.ls.length ≤ 9223372036854775807) (hm0x0 : ∀ x ∈ d0x0, Ro w D (fun w' => Rds w' 3 x.xheld.A x.xheld.ls.length (List.flatMap LockD.cells x.xheld.ls)) ∧ (x.xheld.ls.length ≤ x.xheld.c ∧ x.xheld.ls.length ≤ 9223372036854775807)) (hh0 : p0.xrows.ls.length ≤ 1000000) (hr : locks_Table_count p0 = r0) :
    Calls Try.prog 24 #[.pointer (some ⟨g0, 0, none⟩)] w (Ret fun v w' => v = .int .i64 r0 ∧ Own w D w' [blk g0 [.slice A0x0 p0.xrows.ls.length c0x0] 59]) := by
 have hdl0x0 := abs_len hd0x0
 refine Calls.body (args := [.pointer (some ⟨g0, 0, none⟩)]) Try.func24 rfl rfl rfl ?_
 show Wp _ _ _ [(0, .pointer (some ⟨g0, 0, none⟩))] _ _
 refine sr (Ar rfl (An rfl (Wp.seq (sr (Mz rfl (Kz (.pointer (some ⟨g0, 0, none⟩)) (Kz (.pointer (some ⟨g0, 0, none⟩)) (Lz (.slice A0x0 p0.xrows.ls.length c0x0) H 0 Try.isAgg57 (Kz (.int .i64 ((p0.xrows.ls.length : Nat) : Int)) (Mn rfl (bo ?_)))))))))))
 have H24 : Own w D w [blk g0 [.slice A0x0 p0.xrows.ls.length c0x0] 59] := H.pk [0]
 obtain ⟨I28, hI29⟩ : ∃ q : (Int × Nat) → World → Prop, q = fun (i : Int × Nat) w' => Own w D w' [blk g0 [.slice A0x0 p0.xrows.ls.length c0x0] 59] ∧ (i.2 ≤ p0.xrows.ls.length ∧ locks_Table_count_L0 p0.xrows.ls 0 = locks_Table_count_L0 (List.drop i.2 p0.xrows.ls) i.1) := ⟨_, rfl⟩
 have dm30 : ∀ {z21 : Int} {k22 : Nat} {w' : World}, I28 (z21, k22) w' ↔ Own w D w' [blk g0 [.slice A0x0 p0.xrows.ls.length c0x0] 59] ∧ k22 ≤ p0.xrows.ls.length ∧ locks_Table_count_L0 p0.xrows.ls 0 = locks_Table_count_L0 (List.drop k22 p0.xrows.ls) z21 := by intros; subst hI29; exact Iff.rfl
 refine Wp.loop (fun i : Int × Nat => [(3, .int .i64 i.1), (11, .int .i64 ((i.2 : Nat) : Int)), (10, .int .i64 ((p0.xrows.ls.length : Nat) : Int)), (9, .slice A0x0 p0.xrows.ls.length c0x0), (2, .int .i64 0)]) I28 (fun i => p0.xrows.ls.length - i.2) (0, 0) ⟨rfl, rfl, rfl, rfl, rfl, trivial⟩ (dm30.2 ⟨H24, by omega, rfl⟩) ?_
 rintro ⟨z21, k22⟩ w25 hf27
 show Wp _ _ _ [(3, .int .i64 z21), (11, .int .i64 ((k22 : Nat) : Int)), (10, .int .i64 ((p0.xrows.ls.length : Nat) : Int)), (9, .slice A0x0 p0.xrows.ls.length c0x0), (2, .int .i64 0)] _ _
 obtain ⟨H26, hi32, hq31⟩ := dm30.1 hf27
 refine sr (Kz (.bool (decide (((k22 : Nat) : Int) < ((p0.xrows.ls.length : Nat) : Int)))) (nt (Wp.seq ?_)))
 by_cases h33 : ((k22 : Nat) : Int) < ((p0.xrows.ls.length : Nat) : Int)
 obtain ⟨x34, hx35⟩ := rds_at (ls := d0x0) (i := k22) rowD.len (by decide) (H26.ro hx0x0) (by first | omega | (simp; done) | (simp; omega))
 have hX36 := abs_at hd0x0 hx35
 have hb37 := (hm0x0 _ (List.mem_of_getElem? hx35)).2
 have hd38 := drop_at hX36
 refine jT (dT h33) (sk (Wp.seq (bo (sr (fw (.pointer (some ⟨ab A0x0, ao A0x0 + k22 * 6, none⟩)) (Yl.indexAddr (El57) rfl rfl ((H26.ro hx0x0).addr (i := k22) (by omega)) (by omega)) (fw (.agg (rowD.cells x34).toArray) (Yl.load rfl (Lds.agg (cs := (rowD.cells x34)) Try.isAgg72 Try.sizeOf72 ((H26.ro hx0x0).elem rowD.len hx35 (by decide)))) ?_))))))
 refine npw [.int .u64 0, .slice none 0 0, .bool false, .string ⟨List.toArray ([])⟩, .string ⟨List.toArray ([])⟩, .bool false] 72 H26 ?_
 intro g39 w40 H41
 refine sto (rowD.cells x34) 0 H41 Try.sizeOf72 ?_
 intro w42 H43
 refine ns (Mz rfl (Kz (.pointer (some ⟨g39, 1, none⟩)) (Lz (.slice x34.xheld.A x34.xheld.ls.length x34.xheld.c) H43 0 Try.isAgg46 (Kz (.int .i64 ((x34.xheld.ls.length : Nat) : Int)) (Kz (.int .i64 (IntKind.i64.wrap (z21 + ((x34.xheld.ls.length : Nat) : Int)))) (Ar rfl (Kz (.pointer (some ⟨g39, 2, none⟩)) (Lz (.bool x34.xwaits) H43 0 Try.isAgg4 (nt ?_)))))))))
 rcases Bool.eq_false_or_eq_true (x34.xwaits) with h44 | h44
 refine jT h44 ?_
 have H45 := H43.pk [1]
 refine Wp.region (Mz rfl (Kz (.int .i64 (IntKind.i64.wrap ((IntKind.i64.wrap (z21 + ((x34.xheld.ls.length : Nat) : Int))) + 1))) (Az rfl (WL.nil (bN (Fin.then (Wp.region (fw (.int .i64 ((k22 + 1 : Nat) : Int)) (Yl.int (e := IntKind.i64.wrap (((k22 : Nat) : Int) + 1)) yk (by rw [IntWalk.i64_in _ (by omega)]; omega)) (Mz rfl (WL.nil ?_))))))))))
 have H46 := H45.pk [0]
 exact Fin.round (IntKind.i64.wrap ((IntKind.i64.wrap (z21 + ((x34.xheld.ls.length : Nat) : Int))) + 1), k22 + 1) ⟨rfl, rfl, rfl, rfl, rfl, trivial⟩ (dm30.2 ⟨H46, by omega, et (hq31) (et (congrArg (fun q => locks_Table_count_L0 q z21) hd38) (ip h44))⟩) (by show p0.xrows.ls.length - (k22 + 1) < p0.xrows.ls.length - k22; omega)
 refine jF h44 (Wp.skip (bN (Fin.then ?_)))
 have H47 := H43.pk [1]
 refine Wp.region (fw (.int .i64 ((k22 + 1 : Nat) : Int)) (Yl.int (e := IntKind.i64.wrap (((k22 : Nat) : Int) + 1)) yk (by rw [IntWalk.i64_in _ (by omega)]; omega)) (Mz rfl (WL.nil ?_)))
 have H48 := H47.pk [0]
 exact Fin.round (IntKind.i64.wrap (z21 + ((x34.xheld.ls.length : Nat) : Int)), k22 + 1) ⟨rfl, rfl, rfl, rfl, rfl, trivial⟩ (dm30.2 ⟨H48, by omega, et (hq31) (et (congrArg (fun q => locks_Table_count_L0 q z21) hd38) (ifF h44))⟩) (by show p0.xrows.ls.length - (k22 + 1) < p0.xrows.ls.length - k22; omega)
 refine jF (dF h33) (Wp.exit (Fin.thenX ?_))
 have hL49 : locks_Table_count_L0 p0.xrows.ls 0 = z21 := et (hq31) (et (congrArg (fun q => locks_Table_count_L0 q z21) (drop_end (ls := p0.xrows.ls) (i := k22) (by omega))) rfl)
 refine Fin.thenX (Fin.blockX (Fin.then (sr (Mz rfl (An rfl (rt (rs ?_)))))))
 have H50 := H26.pk [0]
 obtain rfl : _ = z21 := hr.symm.trans (bnd_of hL49)
 exact ⟨rfl, H50⟩
def slices_IndexFunc_api_Lock_api_Lockx_L0 (p1c0i0 : LockD) (p1c0i1 : Nat) (p1c1 : rowT) : List LockD → Nat → Unit ⊕ Int
  | [], k21 => Sum.inl ()
  | x33 :: q22, k21 => bnd (span_Meet p1c0i0.xRange x33.xRange) fun yr47 => if ((p1c1.xtxn : Nat) : Int) = ((p1c0i1 : Nat) : Int) then slices_IndexFunc_api_Lock_api_Lockx_L0 p1c0i0 p1c0i1 p1c1 q22 (k21 + 1) else if yr47.2 = true then if p1c0i0.xWrite = true then Sum.inr ((k21 : Nat) : Int) else if x33.xWrite = true then Sum.inr ((k21 : Nat) : Int) else slices_IndexFunc_api_Lock_api_Lockx_L0 p1c0i0 p1c0i1 p1c1 q22 (k21 + 1) else slices_IndexFunc_api_Lock_api_Lockx_L0 p1c0i0 p1c0i1 p1c1 q22 (k21 + 1)
def slices_IndexFunc_api_Lock_api_Lockx (l0 : List LockD) (p1c0i0 : LockD) (p1c0i1 : Nat) (p1c1 : rowT) : Int :=
 lp (slices_IndexFunc_api_Lock_api_Lockx_L0 p1c0i0 p1c0i1 p1c1 l0 0) fun _ => (-1)
set_option maxRecDepth 100000 in
theorem slices_IndexFunc_api_Lock_api_Lockx_ok (w : World) (D : Nat → Prop) (A0 : Option Addr) (n0 c0 : Nat) (l0 : List LockD) (g1c0i0 : Nat) (p1c0i0 : LockD) (g1c0i1 : Nat) (p1c0i1 : Nat) (g1c0 : Nat) (g1c1 : Nat) (p1c1 : rowT) (A1c1x0 : Option Addr) (c1c1x0 : Nat) (r0 : Int) (H : Own w D w [blk g1c0i0 (LockD.cells p1c0i0) 34, blk g1c0i1 [.int .u64 ((p1c0i1 : Nat) : Int)] 30, blk g1c0 [.func (.func 64) #[] #[.pointer (some ⟨g1c0i0, 0, none⟩), .pointer (some ⟨g1c0i1, 0, none⟩)]] 61, blk g1c1 [.int .u64 ((p1c1.xtxn : Nat) : Int), .slice A1c1x0 p1c1.xheld.ls.length c1c1x0, .bool p1c1.xwaits, .string ⟨List.toArray p1c1.xwant.xRange.xLo⟩, .string ⟨List.toArray p1c1.xwant.xRange.xHi⟩, .bool p1c1.xwant.xWrite] 72]) (hx0 : Ro w D fun w' => Rds w' 3 A0 n0 (List.flatMap LockD.cells l0)) (hn0 : n0 = l0.length) (hl0 : l0.length ≤ 9223372036854775807) (hx1c1x0 : Ro w D fun w' => Rds w' 3 A1c1x0 p1c1.xheld.ls.length (List.flatMap LockD.cells p1c1.xheld.ls)) (hb1c1x0 : p1c1.xheld.ls.length ≤ c1c1x0 ∧ p1c1.xheld.ls.length ≤ 9223372036854775807) (hr : slices_IndexFunc_api_Lock_api_Lockx l0 p1c0i0 p1c0i1 p1c1 = r0) :
    Calls Try.prog 63 #[.slice A0 n0 c0, .func (.func 50) #[] #[.pointer (some ⟨g1c0, 0, none⟩), .pointer (some ⟨g1c1, 0, none⟩)]] w (Ret fun v w' => v = .int .i64 r0 ∧ Own w D w' [blk g1c0i0 (LockD.cells p1c0i0) 34, blk g1c0i1 [.int .u64 ((p1c0i1 : Nat) : Int)] 30, blk g1c0 [.func (.func 64) #[] #[.pointer (some ⟨g1c0i0, 0, none⟩), .pointer (some ⟨g1c0i1, 0, none⟩)]] 61, blk g1c1 [.int .u64 ((p1c1.xtxn : Nat) : Int), .slice A1c1x0 p1c1.xheld.ls.length c1c1x0, .bool p1c1.xwaits, .string ⟨List.toArray p1c1.xwant.xRange.xLo⟩, .string ⟨List.toArray p1c1.xwant.xRange.xHi⟩, .bool p1c1.xwant.xWrite] 72]) := by
 subst hn0
 refine Calls.body (args := [.slice A0 l0.length c0, .func (.func 50) #[] #[.pointer (some ⟨g1c0, 0, none⟩), .pointer (some ⟨g1c1, 0, none⟩)]]) Try.func63 rfl rfl rfl ?_
 show Wp _ _ _ [(0, .slice A0 l0.length c0), (1, .func (.func 50) #[] #[.pointer (some ⟨g1c0, 0, none⟩), .pointer (some ⟨g1c1, 0, none⟩)])] _ _
 refine sr (An rfl (Wp.seq (sr (Mz rfl (Kz (.int .i64 ((l0.length : Nat) : Int)) (Mn rfl (bo ?_)))))))
 have H23 : Own w D w [blk g1c0i0 (LockD.cells p1c0i0) 34, blk g1c0i1 [.int .u64 ((p1c0i1 : Nat) : Int)] 30, blk g1c0 [.func (.func 64) #[] #[.pointer (some ⟨g1c0i0, 0, none⟩), .pointer (some ⟨g1c0i1, 0, none⟩)]] 61, blk g1c1 [.int .u64 ((p1c1.xtxn : Nat) : Int), .slice A1c1x0 p1c1.xheld.ls.length c1c1x0, .bool p1c1.xwaits, .string ⟨List.toArray p1c1.xwant.xRange.xLo⟩, .string ⟨List.toArray p1c1.xwant.xRange.xHi⟩, .bool p1c1.xwant.xWrite] 72] := H.pk [0, 1, 2, 3]
 obtain ⟨I27, hI28⟩ : ∃ q : Nat → World → Prop, q = fun (i : Nat) w' => Own w D w' [blk g1c0i0 (LockD.cells p1c0i0) 34, blk g1c0i1 [.int .u64 ((p1c0i1 : Nat) : Int)] 30, blk g1c0 [.func (.func 64) #[] #[.pointer (some ⟨g1c0i0, 0, none⟩), .pointer (some ⟨g1c0i1, 0, none⟩)]] 61, blk g1c1 [.int .u64 ((p1c1.xtxn : Nat) : Int), .slice A1c1x0 p1c1.xheld.ls.length c1c1x0, .bool p1c1.xwaits, .string ⟨List.toArray p1c1.xwant.xRange.xLo⟩, .string ⟨List.toArray p1c1.xwant.xRange.xHi⟩, .bool p1c1.xwant.xWrite] 72] ∧ (i ≤ l0.length ∧ slices_IndexFunc_api_Lock_api_Lockx_L0 p1c0i0 p1c0i1 p1c1 l0 0 = slices_IndexFunc_api_Lock_api_Lockx_L0 p1c0i0 p1c0i1 p1c1 (List.drop i l0) i) := ⟨_, rfl⟩
 have dm29 : ∀ {k21 : Nat} {w' : World}, I27 k21 w' ↔ Own w D w' [blk g1c0i0 (LockD.cells p1c0i0) 34, blk g1c0i1 [.int .u64 ((p1c0i1 : Nat) : Int)] 30, blk g1c0 [.func (.func 64) #[] #[.pointer (some ⟨g1c0i0, 0, none⟩), .pointer (some ⟨g1c0i1, 0, none⟩)]] 61, blk g1c1 [.int .u64 ((p1c1.xtxn : Nat) : Int), .slice A1c1x0 p1c1.xheld.ls.length c1c1x0, .bool p1c1.xwaits, .string ⟨List.toArray p1c1.xwant.xRange.xLo⟩, .string ⟨List.toArray p1c1.xwant.xRange.xHi⟩, .bool p1c1.xwant.xWrite] 72] ∧ k21 ≤ l0.length ∧ slices_IndexFunc_api_Lock_api_Lockx_L0 p1c0i0 p1c0i1 p1c1 l0 0 = slices_IndexFunc_api_Lock_api_Lockx_L0 p1c0i0 p1c0i1 p1c1 (List.drop k21 l0) k21 := by intros; subst hI28; exact Iff.rfl
 refine Wp.loop (fun i : Nat => [(4, .int .i64 0), (8, .int .i64 ((i : Nat) : Int)), (7, .int .i64 ((l0.length : Nat) : Int)), (0, .slice A0 l0.length c0), (1, .func (.func 50) #[] #[.pointer (some ⟨g1c0, 0, none⟩), .pointer (some ⟨g1c1, 0, none⟩)])]) I27 (fun i => l0.length - i) 0 ⟨rfl, rfl, rfl, rfl, rfl, trivial⟩ (dm29.2 ⟨H23, by omega, rfl⟩) ?_
 rintro k21 w24 hf26
 show Wp _ _ _ [(4, .int .i64 0), (8, .int .i64 ((k21 : Nat) : Int)), (7, .int .i64 ((l0.length : Nat) : Int)), (0, .slice A0 l0.length c0), (1, .func (.func 50) #[] #[.pointer (some ⟨g1c0, 0, none⟩), .pointer (some ⟨g1c1, 0, none⟩)])] _ _
 obtain ⟨H25, hi31, hq30⟩ := dm29.1 hf26
 refine sr (Kz (.bool (decide (((k21 : Nat) : Int) < ((l0.length : Nat) : Int)))) (nt (Wp.seq ?_)))
 by_cases h32 : ((k21 : Nat) : Int) < ((l0.length : Nat) : Int)
 obtain ⟨x33, hx34⟩ := rds_at (ls := l0) (i := k21) LockD.len (by decide) (H25.ro hx0) (by first | omega | (simp; done) | (simp; omega))
 have hd35 := drop_at hx34
 refine jT (dT h32) (sk (Wp.seq (bo (sr (Mz rfl (Ar rfl (Mz rfl (Mz rfl (Mz rfl (fw (.pointer (some ⟨ab A0, ao A0 + k21 * 3, none⟩)) (Yl.indexAddr (El46) rfl rfl ((H25.ro hx0).addr (i := k21) (by omega)) (by omega)) (fw (.agg (LockD.cells x33).toArray) (Yl.load rfl (Lds.agg (cs := (LockD.cells x33)) Try.isAgg34 Try.sizeOf34 ((H25.ro hx0).elem LockD.len hx34 (by decide)))) ?_)))))))))))
 refine WL.do rfl (Do.callV Try.call50 rfl rfl ?_ (fun _ _ k => k))
 refine Calls.body (args := [.agg (LockD.cells x33).toArray, .pointer (some ⟨g1c0, 0, none⟩), .pointer (some ⟨g1c1, 0, none⟩)]) Try.func50 rfl rfl rfl ?_
 show Wp _ _ _ [(0, .agg (LockD.cells x33).toArray), (1, .pointer (some ⟨g1c0, 0, none⟩)), (2, .pointer (some ⟨g1c1, 0, none⟩))] _ _
 refine sr ?_
 refine npw (LockD.cells x33) 34 H25 ?_
 intro g36 w37 H38
 refine Ar rfl (Lz (.func (.func 64) #[] #[.pointer (some ⟨g1c0i0, 0, none⟩), .pointer (some ⟨g1c0i1, 0, none⟩)]) H38 3 Try.isAgg61 (Kz (.pointer (some ⟨g1c1, 0, none⟩)) (Lz (.int .u64 ((p1c1.xtxn : Nat) : Int)) H38 4 Try.isAgg30 (La (LockD.cells x33) H38 0 Try.isAgg34 Try.sizeOf34 ?_))))
 refine WL.do rfl (Do.callV Try.call64 rfl rfl ?_ (fun _ _ k => k))
 refine Calls.body (args := [.int .u64 ((p1c1.xtxn : Nat) : Int), .agg (LockD.cells x33).toArray, .pointer (some ⟨g1c0i0, 0, none⟩), .pointer (some ⟨g1c0i1, 0, none⟩)]) Try.func64 rfl rfl rfl ?_
 show Wp _ _ _ [(0, .int .u64 ((p1c1.xtxn : Nat) : Int)), (1, .agg (LockD.cells x33).toArray), (2, .pointer (some ⟨g1c0i0, 0, none⟩)), (3, .pointer (some ⟨g1c0i1, 0, none⟩))] _ _
 refine sr ?_
 refine npw (LockD.cells x33) 34 H38 ?_
 intro g39 w40 H41
 refine Ar rfl (Kz (.pointer (some ⟨g1c0i0, 0, none⟩)) (La (RangeD.cells p1c0i0.xRange) H41 2 Try.isAgg32 Try.sizeOf32 (Kz (.pointer (some ⟨g39, 0, none⟩)) (La (RangeD.cells x33.xRange) H41 0 Try.isAgg32 Try.sizeOf32 ?_))))
 obtain ⟨⟨r47, r48⟩, hr49⟩ : ∃ q : RangeD × Bool, span_Meet p1c0i0.xRange x33.xRange = q := ⟨_, rfl⟩
 obtain ⟨D42, HP43, ro44, bk45, rr46⟩ := Own.enter0 H41
 refine cl Try.call62 (span_Meet_ok _ _ p1c0i0.xRange x33.xRange r47 r48 HP43 hr49) ?_
 rintro _ w50 ⟨rfl, HQ51⟩
 have H52 := bk45 _ _ HQ51
 refine Mz rfl (Kz (.agg (RangeD.cells r47).toArray) (Kz (.bool r48) ?_))
 refine npw [.string ⟨List.toArray ([])⟩, .string ⟨List.toArray ([])⟩] 32 H52 ?_
 intro g53 w54 H55
 refine sto (RangeD.cells r47) 0 H55 Try.sizeOf32 ?_
 intro w56 H57
 refine An rfl (Wp.seq ?_)
 have H58 := H57.pk [1, 2, 3, 4, 5, 6]
 refine Wp.region (Mz rfl (Lz (.int .u64 ((p1c0i1 : Nat) : Int)) H58 3 Try.isAgg30 (fw (.bool (decide (¬ (((p1c1.xtxn : Nat) : Int) = ((p1c0i1 : Nat) : Int))))) (Yl.bool (e := !(decide (((p1c1.xtxn : Nat) : Int) = ((p1c0i1 : Nat) : Int)))) yk decide_not.symm) (Mz rfl ?_))))
 by_cases h59 : ((p1c1.xtxn : Nat) : Int) = ((p1c0i1 : Nat) : Int)
 refine Sk rfl rfl (dF (not_not_intro h59)) rfl (fw (.bool false) (Yl.pickF rfl (dF (not_not_intro h59)) rfl) (Mz rfl (Sz rfl (Sz rfl (Sz rfl (WL.skipU rfl rfl rfl (WL.skipU rfl rfl rfl (Sz rfl (fw (.bool false) (Yl.pickF rfl rfl rfl) (An rfl (rt (rs (An rfl (rt (rs (nt (jf (Wp.skip (bN (Fin.then ?_))))))))))))))))))))
 have H60 := H58.pk [2, 3, 4, 5]
 refine Wp.region (fw (.int .i64 ((k21 + 1 : Nat) : Int)) (Yl.int (e := IntKind.i64.wrap (((k21 : Nat) : Int) + 1)) yk (by rw [IntWalk.i64_in _ (by omega)]; omega)) (Mz rfl (WL.nil ?_)))
 have H61 := H60.pk [0, 1, 2, 3]
 exact Fin.round (k21 + 1) ⟨rfl, rfl, rfl, rfl, rfl, trivial⟩ (dm29.2 ⟨H61, by omega, et (hq30) (et (congrArg (fun q => slices_IndexFunc_api_Lock_api_Lockx_L0 p1c0i0 p1c0i1 p1c1 q k21) hd35) (et (bnd_of hr49) (ip h59)))⟩) (by show l0.length - (k21 + 1) < l0.length - k21; omega)
 refine gw (.bool r48) (dT h59) (Yl.move rfl) (fw (.bool r48) (Yl.pickT rfl (dT h59) rfl) (Mz rfl ?_))
 rcases Bool.eq_false_or_eq_true (r48) with h62 | h62
 refine Gz (.pointer (some ⟨g1c0i0, 2, none⟩)) h62 (Gl (.bool p1c0i0.xWrite) h62 H58 2 Try.isAgg4 (WL.valG (v := .bool p1c0i0.xWrite) rfl rfl h62 rfl (Yl.move rfl) ?_))
 rcases Bool.eq_false_or_eq_true (p1c0i0.xWrite) with h63 | h63
 refine Sz h63 (Sz h63 (WL.valG (v := .bool true) rfl rfl h62 rfl (Yl.pickT rfl h63 rfl) (fw (.bool true) (Yl.pickT rfl h62 rfl) (An rfl (rt (rs (An rfl (rt (rs (nt (jt (Wp.seq ?_))))))))))))
 have H64 := H58.pk [2, 3, 4, 5]
 refine Wp.region (Mz rfl (An rfl (rt (bR (tR (tR (bR (tR (rs ?_)))))))))
 have H65 := H64.pk [0, 1, 2, 3]
 obtain rfl : _ = ((k21 : Nat) : Int) := hr.symm.trans (lp_r (et (hq30) (et (congrArg (fun q => slices_IndexFunc_api_Lock_api_Lockx_L0 p1c0i0 p1c0i1 p1c1 q k21) hd35) (et (bnd_of hr49) (et (iN h59) (et (ip h62) (ip h63)))))))
 exact ⟨rfl, H65⟩
 refine Gz (.pointer (some ⟨g39, 2, none⟩)) h63 (Gl (.bool x33.xWrite) h63 H58 0 Try.isAgg4 (WL.valG (v := .bool x33.xWrite) rfl rfl h62 rfl (Yl.pickF rfl h63 rfl) (fw (.bool x33.xWrite) (Yl.pickT rfl h62 rfl) (An rfl (rt (rs (An rfl (rt (rs (nt ?_))))))))))
 rcases Bool.eq_false_or_eq_true (x33.xWrite) with h66 | h66
 refine jT h66 (Wp.seq ?_)
 have H67 := H58.pk [2, 3, 4, 5]
 refine Wp.region (Mz rfl (An rfl (rt (bR (tR (tR (bR (tR (rs ?_)))))))))
 have H68 := H67.pk [0, 1, 2, 3]
 obtain rfl : _ = ((k21 : Nat) : Int) := hr.symm.trans (lp_r (et (hq30) (et (congrArg (fun q => slices_IndexFunc_api_Lock_api_Lockx_L0 p1c0i0 p1c0i1 p1c1 q k21) hd35) (et (bnd_of hr49) (et (iN h59) (et (ip h62) (et (ifF h63) (ip h66))))))))
 exact ⟨rfl, H68⟩
 refine jF h66 (Wp.skip (bN (Fin.then ?_)))
 have H69 := H58.pk [2, 3, 4, 5]
 refine Wp.region (fw (.int .i64 ((k21 + 1 : Nat) : Int)) (Yl.int (e := IntKind.i64.wrap (((k21 : Nat) : Int) + 1)) yk (by rw [IntWalk.i64_in _ (by omega)]; omega)) (Mz rfl (WL.nil ?_)))
 have H70 := H69.pk [0, 1, 2, 3]
 exact Fin.round (k21 + 1) ⟨rfl, rfl, rfl, rfl, rfl, trivial⟩ (dm29.2 ⟨H70, by omega, et (hq30) (et (congrArg (fun q => slices_IndexFunc_api_Lock_api_Lockx_L0 p1c0i0 p1c0i1 p1c1 q k21) hd35) (et (bnd_of hr49) (et (iN h59) (et (ip h62) (et (ifF h63) (ifF h66))))))⟩) (by show l0.length - (k21 + 1) < l0.length - k21; omega)
 refine Sz h62 (Sz h62 (Sz h62 (WL.skipU rfl rfl rfl (WL.skipU rfl rfl rfl (Sz h62 (fw (.bool false) (Yl.pickF rfl h62 rfl) (An rfl (rt (rs (An rfl (rt (rs (nt (jf (Wp.skip (bN (Fin.then ?_)))))))))))))))))
 have H71 := H58.pk [2, 3, 4, 5]
 refine Wp.region (fw (.int .i64 ((k21 + 1 : Nat) : Int)) (Yl.int (e := IntKind.i64.wrap (((k21 : Nat) : Int) + 1)) yk (by rw [IntWalk.i64_in _ (by omega)]; omega)) (Mz rfl (WL.nil ?_)))
 have H72 := H71.pk [0, 1, 2, 3]
 exact Fin.round (k21 + 1) ⟨rfl, rfl, rfl, rfl, rfl, trivial⟩ (dm29.2 ⟨H72, by omega, et (hq30) (et (congrArg (fun q => slices_IndexFunc_api_Lock_api_Lockx_L0 p1c0i0 p1c0i1 p1c1 q k21) hd35) (et (bnd_of hr49) (et (iN h59) (ifF h62))))⟩) (by show l0.length - (k21 + 1) < l0.length - k21; omega)
 refine jF (dF h32) (Wp.exit (Fin.thenX ?_))
 have hL73 : slices_IndexFunc_api_Lock_api_Lockx_L0 p1c0i0 p1c0i1 p1c1 l0 0 = Sum.inl () := et (hq30) (et (congrArg (fun q => slices_IndexFunc_api_Lock_api_Lockx_L0 p1c0i0 p1c0i1 p1c1 q k21) (drop_end (ls := l0) (i := k21) (by omega))) rfl)
 refine Fin.thenX (Fin.blockX (Fin.then (sr (An rfl (rt (rs ?_))))))
 have H74 := H25.pk [0, 1, 2, 3]
 obtain rfl : _ = (-1) := hr.symm.trans (lp_l hL73)
 exact ⟨rfl, H74⟩
def slices_ContainsFunc_api_Lock_api_Lockx (l0 : List LockD) (p1c0i0 : LockD) (p1c0i1 : Nat) (p1c1 : rowT) : Bool :=
 bnd (slices_IndexFunc_api_Lock_api_Lockx l0 p1c0i0 p1c0i1 p1c1) fun yr26 => decide (yr26 ≥ 0)
set_option maxRecDepth 100000 in
theorem slices_ContainsFunc_api_Lock_api_Lockx_ok (w : World) (D : Nat → Prop) (A0 : Option Addr) (n0 c0 : Nat) (l0 : List LockD) (g1c0i0 : Nat) (p1c0i0 : LockD) (g1c0i1 : Nat) (p1c0i1 : Nat) (g1c0 : Nat) (g1c1 : Nat) (p1c1 : rowT) (A1c1x0 : Option Addr) (c1c1x0 : Nat) (r0 : Bool) (H : Own w D w [blk g1c0i0 (LockD.cells p1c0i0) 34, blk g1c0i1 [.int .u64 ((p1c0i1 : Nat) : Int)] 30, blk g1c0 [.func (.func 64) #[] #[.pointer (some ⟨g1c0i0, 0, none⟩), .pointer (some ⟨g1c0i1, 0, none⟩)]] 61, blk g1c1 [.int .u64 ((p1c1.xtxn : Nat) : Int), .slice A1c1x0 p1c1.xheld.ls.length c1c1x0, .bool p1c1.xwaits, .string ⟨List.toArray p1c1.xwant.xRange.xLo⟩, .string ⟨List.toArray p1c1.xwant.xRange.xHi⟩, .bool p1c1.xwant.xWrite] 72]) (hx0 : Ro w D fun w' => Rds w' 3 A0 n0 (List.flatMap LockD.cells l0)) (hn0 : n0 = l0.length) (hl0 : l0.length ≤ 9223372036854775807) (hx1c1x0 : Ro w D fun w' => Rds w' 3 A1c1x0 p1c1.xheld.ls.length (List.flatMap LockD.cells p1c1.xheld.ls)) (hb1c1x0 : p1c1.xheld.ls.length ≤ c1c1x0 ∧ p1c1.xheld.ls.length ≤ 9223372036854775807) (hr : slices_ContainsFunc_api_Lock_api_Lockx l0 p1c0i0 p1c0i1 p1c1 = r0) :
    Calls Try.prog 46 #[.slice A0 n0 c0, .func (.func 50) #[] #[.pointer (some ⟨g1c0, 0, none⟩), .pointer (some ⟨g1c1, 0, none⟩)]] w (Ret fun v w' => v = .bool r0 ∧ Own w D w' [blk g1c0i0 (LockD.cells p1c0i0) 34, blk g1c0i1 [.int .u64 ((p1c0i1 : Nat) : Int)] 30, blk g1c0 [.func (.func 64) #[] #[.pointer (some ⟨g1c0i0, 0, none⟩), .pointer (some ⟨g1c0i1, 0, none⟩)]] 61, blk g1c1 [.int .u64 ((p1c1.xtxn : Nat) : Int), .slice A1c1x0 p1c1.xheld.ls.length c1c1x0, .bool p1c1.xwaits, .string ⟨List.toArray p1c1.xwant.xRange.xLo⟩, .string ⟨List.toArray p1c1.xwant.xRange.xHi⟩, .bool p1c1.xwant.xWrite] 72]) := by
 subst hn0
 refine Calls.body (args := [.slice A0 l0.length c0, .func (.func 50) #[] #[.pointer (some ⟨g1c0, 0, none⟩), .pointer (some ⟨g1c1, 0, none⟩)]]) Try.func46 rfl rfl rfl ?_
 show Wp _ _ _ [(0, .slice A0 l0.length c0), (1, .func (.func 50) #[] #[.pointer (some ⟨g1c0, 0, none⟩), .pointer (some ⟨g1c1, 0, none⟩)])] _ _
 refine sr (Ar rfl (Mz rfl (Mz rfl ?_)))
 obtain ⟨r26, hr27⟩ : ∃ q, slices_IndexFunc_api_Lock_api_Lockx l0 p1c0i0 p1c0i1 p1c1 = q := ⟨_, rfl⟩
 obtain ⟨D21, HP22, ro23, bk24, rr25⟩ := Own.enter (L1 := [blk g1c0i0 (LockD.cells p1c0i0) 34, blk g1c0i1 [.int .u64 ((p1c0i1 : Nat) : Int)] 30, blk g1c0 [.func (.func 64) #[] #[.pointer (some ⟨g1c0i0, 0, none⟩), .pointer (some ⟨g1c0i1, 0, none⟩)]] 61, blk g1c1 [.int .u64 ((p1c1.xtxn : Nat) : Int), .slice A1c1x0 p1c1.xheld.ls.length c1c1x0, .bool p1c1.xwaits, .string ⟨List.toArray p1c1.xwant.xRange.xLo⟩, .string ⟨List.toArray p1c1.xwant.xRange.xHi⟩, .bool p1c1.xwant.xWrite] 72]) (L2 := []) H
 refine cl Try.call63 (slices_IndexFunc_api_Lock_api_Lockx_ok _ _ A0 l0.length c0 l0 g1c0i0 p1c0i0 g1c0i1 p1c0i1 g1c0 g1c1 p1c1 A1c1x0 c1c1x0 r26 HP22 (ro23 _ hx0) rfl (by omega) (ro23 _ hx1c1x0) (show p1c1.xheld.ls.length ≤ c1c1x0 ∧ p1c1.xheld.ls.length ≤ 9223372036854775807 from by omega) hr27) ?_
 rintro _ w28 ⟨rfl, HQ29⟩
 have H30 := bk24 _ _ HQ29
 refine Kz (.bool (decide (r26 ≥ 0))) (An rfl (rt (rs ?_)))
 have H31 := H30.pk [0, 1, 2, 3]
 obtain rfl : _ = decide (r26 ≥ 0) := hr.symm.trans (bnd_of hr27)
 exact ⟨rfl, H31⟩
def locks_Table_holders_L0 (p1 : Nat) (p2 : LockD) : List rowT → List Nat → (List Nat)
  | [], l39 => l39
  | x53 :: q41, l39 => bnd (slices_ContainsFunc_api_Lock_api_Lockx x53.xheld.ls p2 p1 (rowT.mk x53.xtxn (Ll.mk x53.xheld.ls) x53.xwaits x53.xwant)) fun yr69 => if yr69 = true then locks_Table_holders_L0 p1 p2 q41 (l39 ++ [x53.xtxn]) else locks_Table_holders_L0 p1 p2 q41 l39
def locks_Table_holders (p0 : TableT) (p1 : Nat) (p2 : LockD) : (List Nat) :=
 bnd (locks_Table_holders_L0 p1 p2 p0.xrows.ls ([])) fun sLrL => sLrL
set_option maxRecDepth 100000 in
theorem locks_Table_holders_ok (w : World) (D : Nat → Prop) (g0 : Nat) (p0 : TableT) (A0x0 : Option Addr) (c0x0 : Nat) (d0x0 : List rowD) (p1 : Nat) (p2 : LockD) (r0 : List Nat) (H : Own w D w [blk g0 [.slice A0x0 p0.xrows.ls.length c0x0] 59]) (hd0x0 : List.map rowD.abs d0x0 = p0.xrows.ls) (hx0x0 : Ro w D fun w' => Rds w' 6 A0x0 p0.xrows.ls.length (List.flatMap rowD.cells d0x0)) (hb0x0 : p0.xrows.ls.length ≤ c0x0 ∧ p0.xrows.ls.length ≤ 9223372036854775807) (hm0x0 : ∀ x ∈ d0x0, Ro w D (fun w' => Rds w' 3 x.xheld.A x.xheld.ls.length (List.flatMap LockD.cells x.xheld.ls)) ∧ (x.xheld.ls.length ≤ x.xheld.c ∧ x.xheld.ls.length ≤ 9223372036854775807)) (hh0 : p0.xrows.ls.length ≤ 1000000) (hr : locks_Table_holders p0 p1 p2 = r0) :
    Calls Try.prog 25 #[.pointer (some ⟨g0, 0, none⟩), .int .u64 ((p1 : Nat) : Int), .agg (LockD.cells p2).toArray] w (Ret fun v w' => ∃ (B0 : Option Addr) (b0 : Nat), v = .slice B0 r0.length b0 ∧ Own w D w' [row B0 r0.length b0 (List.flatMap (eN .u64) r0) 30 1, blk g0 [.slice A0x0 p0.xrows.ls.length c0x0] 59]) := by
 have hdl0x0 := abs_len hd0x0
 refine Calls.body (args := [.pointer (some ⟨g0, 0, none⟩), .int .u64 ((p1 : Nat) : Int), .agg (LockD.cells p2).toArray]) Try.func25 rfl rfl rfl ?_
 show Wp _ _ _ [(0, .pointer (some ⟨g0, 0, none⟩)), (1, .int .u64 ((p1 : Nat) : Int)), (2, .agg (LockD.cells p2).toArray)] _ _
 refine sr ?_
 refine npw (LockD.cells p2) 34 H ?_
 intro g21 w22 H23
 refine Ar rfl (Mz rfl (La (LockD.cells p2) H23 0 Try.isAgg34 Try.sizeOf34 ?_))
 refine WL.do rfl (Do.call Try.call49 rfl ?_ (fun _ _ k => k))
 refine Calls.body (args := [.int .u64 ((p1 : Nat) : Int), .agg (LockD.cells p2).toArray]) Try.func49 rfl rfl rfl ?_
 show Wp _ _ _ [(0, .int .u64 ((p1 : Nat) : Int)), (1, .agg (LockD.cells p2).toArray)] _ _
 refine sr ?_
 refine npw [.int .u64 ((p1 : Nat) : Int)] 30 H23 ?_
 intro g24 w25 H26
 refine npw (LockD.cells p2) 34 H26 ?_
 intro g27 w28 H29
 refine Ar rfl (Kz (.func (.func 64) #[] #[.pointer (some ⟨g27, 0, none⟩), .pointer (some ⟨g24, 0, none⟩)]) (An rfl (rt (rs ?_))))
 refine npw [.nilFunc] 61 H29 ?_
 intro g30 w31 H32
 refine sto [.func (.func 64) #[] #[.pointer (some ⟨g27, 0, none⟩), .pointer (some ⟨g24, 0, none⟩)]] 0 H32 Try.sizeOf61 ?_
 intro w33 H34
 refine nt (Wp.seq ?_)
 have H35 := H34.pk [0, 1, 2, 4]
 refine Wp.region (An rfl (Wp.seq (sr (Mz rfl (Kz (.pointer (some ⟨g0, 0, none⟩)) (Kz (.pointer (some ⟨g0, 0, none⟩)) (Lz (.slice A0x0 p0.xrows.ls.length c0x0) H35 3 Try.isAgg57 (Kz (.int .i64 ((p0.xrows.ls.length : Nat) : Int)) (Mn rfl (bo ?_))))))))))
 have H36 : Own w D w33 [row none 0 0 (List.flatMap (eN .u64) ([])) 30 1, blk g30 [.func (.func 64) #[] #[.pointer (some ⟨g27, 0, none⟩), .pointer (some ⟨g24, 0, none⟩)]] 61, blk g27 (LockD.cells p2) 34, blk g24 [.int .u64 ((p1 : Nat) : Int)] 30, blk g0 [.slice A0x0 p0.xrows.ls.length c0x0] 59] := H35.free (row_nil 30 1)
 have H42 := H36.pk [1, 2, 3, 4, 0]
 obtain ⟨I46, hI47⟩ : ∃ q : ((Option Addr) × Nat × (List Nat) × Nat) → World → Prop, q = fun (i : (Option Addr) × Nat × (List Nat) × Nat) w' => Own w D w' [blk g30 [.func (.func 64) #[] #[.pointer (some ⟨g27, 0, none⟩), .pointer (some ⟨g24, 0, none⟩)]] 61, blk g27 (LockD.cells p2) 34, blk g24 [.int .u64 ((p1 : Nat) : Int)] 30, blk g0 [.slice A0x0 p0.xrows.ls.length c0x0] 59, row i.1 i.2.2.1.length i.2.1 (List.flatMap (eN .u64) i.2.2.1) 30 1] ∧ (i.2.2.2 ≤ p0.xrows.ls.length ∧ i.2.2.1.length ≤ i.2.2.2 ∧ locks_Table_holders_L0 p1 p2 p0.xrows.ls ([]) = locks_Table_holders_L0 p1 p2 (List.drop i.2.2.2 p0.xrows.ls) i.2.2.1) := ⟨_, rfl⟩
 have dm48 : ∀ {A37 : Option Addr} {c38 : Nat} {l39 : List Nat} {k40 : Nat} {w' : World}, I46 (A37, c38, l39, k40) w' ↔ Own w D w' [blk g30 [.func (.func 64) #[] #[.pointer (some ⟨g27, 0, none⟩), .pointer (some ⟨g24, 0, none⟩)]] 61, blk g27 (LockD.cells p2) 34, blk g24 [.int .u64 ((p1 : Nat) : Int)] 30, blk g0 [.slice A0x0 p0.xrows.ls.length c0x0] 59, row A37 l39.length c38 (List.flatMap (eN .u64) l39) 30 1] ∧ k40 ≤ p0.xrows.ls.length ∧ l39.length ≤ k40 ∧ locks_Table_holders_L0 p1 p2 p0.xrows.ls ([]) = locks_Table_holders_L0 p1 p2 (List.drop k40 p0.xrows.ls) l39 := by intros; subst hI47; exact Iff.rfl
 refine Wp.loop (fun i : (Option Addr) × Nat × (List Nat) × Nat => [(8, .slice i.1 i.2.2.1.length i.2.1), (19, .int .i64 ((i.2.2.2 : Nat) : Int)), (18, .int .i64 ((p0.xrows.ls.length : Nat) : Int)), (17, .slice A0x0 p0.xrows.ls.length c0x0), (7, .pointer (some ⟨g30, 0, none⟩)), (6, .slice none 0 0)]) I46 (fun i => p0.xrows.ls.length - i.2.2.2) (none, 0, [], 0) ⟨rfl, rfl, rfl, rfl, rfl, rfl, trivial⟩ (dm48.2 ⟨H42, (show 0 ≤ p0.xrows.ls.length ∧ 0 ≤ 0 ∧ locks_Table_holders_L0 p1 p2 p0.xrows.ls ([]) = locks_Table_holders_L0 p1 p2 (List.drop 0 p0.xrows.ls) ([]) from ⟨by omega, by omega, rfl⟩)⟩) ?_
 rintro ⟨A37, c38, l39, k40⟩ w43 hf45
 show Wp _ _ _ [(8, .slice A37 l39.length c38), (19, .int .i64 ((k40 : Nat) : Int)), (18, .int .i64 ((p0.xrows.ls.length : Nat) : Int)), (17, .slice A0x0 p0.xrows.ls.length c0x0), (7, .pointer (some ⟨g30, 0, none⟩)), (6, .slice none 0 0)] _ _
 obtain ⟨H44, hi50, hi51, hq49⟩ := dm48.1 hf45
 refine sr (Kz (.bool (decide (((k40 : Nat) : Int) < ((p0.xrows.ls.length : Nat) : Int)))) (nt (Wp.seq ?_)))
 by_cases h52 : ((k40 : Nat) : Int) < ((p0.xrows.ls.length : Nat) : Int)
 obtain ⟨x53, hx54⟩ := rds_at (ls := d0x0) (i := k40) rowD.len (by decide) (H44.ro hx0x0) (by first | omega | (simp; done) | (simp; omega))
 have hX55 := abs_at hd0x0 hx54
 have hb56 := (hm0x0 _ (List.mem_of_getElem? hx54)).2
 have hd57 := drop_at hX55
 refine jT (dT h52) (sk (Wp.seq (bo (sr (fw (.pointer (some ⟨ab A0x0, ao A0x0 + k40 * 6, none⟩)) (Yl.indexAddr (El57) rfl rfl ((H44.ro hx0x0).addr (i := k40) (by omega)) (by omega)) (fw (.agg (rowD.cells x53).toArray) (Yl.load rfl (Lds.agg (cs := (rowD.cells x53)) Try.isAgg72 Try.sizeOf72 ((H44.ro hx0x0).elem rowD.len hx54 (by decide)))) ?_))))))
 refine npw [.int .u64 0, .slice none 0 0, .bool false, .string ⟨List.toArray ([])⟩, .string ⟨List.toArray ([])⟩, .bool false] 72 H44 ?_
 intro g58 w59 H60
 refine sto (rowD.cells x53) 0 H60 Try.sizeOf72 ?_
 intro w61 H62
 refine ns (Kz (.pointer (some ⟨g58, 1, none⟩)) (Lz (.slice x53.xheld.A x53.xheld.ls.length x53.xheld.c) H62 0 Try.isAgg46 (Kz (.func (.func 50) #[] #[.pointer (some ⟨g30, 0, none⟩), .pointer (some ⟨g58, 0, none⟩)]) ?_)))
 have H63 := H62.pk [2, 3, 1, 0, 4, 5]
 obtain ⟨r69, hr70⟩ : ∃ q, slices_ContainsFunc_api_Lock_api_Lockx x53.xheld.ls p2 p1 (rowT.mk x53.xtxn (Ll.mk x53.xheld.ls) x53.xwaits x53.xwant) = q := ⟨_, rfl⟩
 obtain ⟨D64, HP65, ro66, bk67, rr68⟩ := Own.enter (L1 := [blk g27 (LockD.cells p2) 34, blk g24 [.int .u64 ((p1 : Nat) : Int)] 30, blk g30 [.func (.func 64) #[] #[.pointer (some ⟨g27, 0, none⟩), .pointer (some ⟨g24, 0, none⟩)]] 61, blk g58 (rowD.cells x53) 72]) (L2 := [blk g0 [.slice A0x0 p0.xrows.ls.length c0x0] 59, row A37 l39.length c38 (List.flatMap (eN .u64) l39) 30 1]) H63
 refine cl Try.call46 (slices_ContainsFunc_api_Lock_api_Lockx_ok _ _ x53.xheld.A x53.xheld.ls.length x53.xheld.c x53.xheld.ls g27 p2 g24 p1 g30 g58 (rowT.mk x53.xtxn (Ll.mk x53.xheld.ls) x53.xwaits x53.xwant) x53.xheld.A x53.xheld.c r69 HP65 (ro66 _ (hm0x0 _ (List.mem_of_getElem? hx54)).1) rfl (by omega) (ro66 _ (hm0x0 _ (List.mem_of_getElem? hx54)).1) (show x53.xheld.ls.length ≤ x53.xheld.c ∧ x53.xheld.ls.length ≤ 9223372036854775807 from by omega) hr70) ?_
 rintro _ w71 ⟨rfl, HQ72⟩
 have H73 := bk67 _ _ HQ72
 refine nt ?_
 rcases Bool.eq_false_or_eq_true (r69) with h74 | h74
 refine jT h74 (Wp.region (Mz rfl (Kz (.pointer (some ⟨g58, 0, none⟩)) (Lz (.int .u64 ((x53.xtxn : Nat) : Int)) H73 3 Try.isAgg30 ?_))))
 refine nrw [.int .u64 ((x53.xtxn : Nat) : Int)] 30 1 1 H73 ?_
 intro A75 w76 H77
 replace H77 := Own.reh (y := row A75 1 1 (List.flatMap (eN .u64) ([x53.xtxn])) 30 1) rfl H77
 have H78 := H77.pk [6, 0, 1, 2, 3, 4, 5]
 refine WL.do rfl (Do.appendW (k := l39.length) (m := 1) (El37) H78 rfl rfl (src_of Try.underlying37 (H78.rds (i := 1) rfl) (flat_one eN_one ([x53.xtxn]))) rfl (by omega) (s := List.length (l39 ++ [x53.xtxn])) (by first | omega | (simp only [List.length_append, List.length_cons, List.length_nil] <;> omega)) (List.flatMap_append).symm ?_)
 intro A79 c80 w81 H82
 have hl83 : List.length (l39 ++ [x53.xtxn]) = l39.length + 1 := by simp only [List.length_append, List.length_cons, List.length_nil]
 refine Az rfl (WL.nil (bN (Fin.then ?_)))
 have H84 := H82.pk [0, 2, 3, 4, 6]
 refine Wp.region (fw (.int .i64 ((k40 + 1 : Nat) : Int)) (Yl.int (e := IntKind.i64.wrap (((k40 : Nat) : Int) + 1)) yk (by rw [IntWalk.i64_in _ (by omega)]; omega)) (Mz rfl (WL.nil ?_)))
 have H85 := H84.pk [3, 1, 2, 4, 0]
 exact Fin.round (A79, c80, (l39 ++ [x53.xtxn]), k40 + 1) ⟨rfl, rfl, rfl, rfl, rfl, rfl, trivial⟩ (dm48.2 ⟨H85, by omega, by omega, et (hq49) (et (congrArg (fun q => locks_Table_holders_L0 p1 p2 q l39) hd57) (et (bnd_of hr70) (ip h74)))⟩) (by show p0.xrows.ls.length - (k40 + 1) < p0.xrows.ls.length - k40; omega)
 refine jF h74 (Wp.skip (bN (Fin.then ?_)))
 have H86 := H73.pk [0, 1, 2, 4, 5]
 refine Wp.region (fw (.int .i64 ((k40 + 1 : Nat) : Int)) (Yl.int (e := IntKind.i64.wrap (((k40 : Nat) : Int) + 1)) yk (by rw [IntWalk.i64_in _ (by omega)]; omega)) (Mz rfl (WL.nil ?_)))
 have H87 := H86.pk [2, 0, 1, 3, 4]
 exact Fin.round (A37, c38, l39, k40 + 1) ⟨rfl, rfl, rfl, rfl, rfl, rfl, trivial⟩ (dm48.2 ⟨H87, by omega, by omega, et (hq49) (et (congrArg (fun q => locks_Table_holders_L0 p1 p2 q l39) hd57) (et (bnd_of hr70) (ifF h74)))⟩) (by show p0.xrows.ls.length - (k40 + 1) < p0.xrows.ls.length - k40; omega)
 refine jF (dF h52) (Wp.exit (Fin.thenX ?_))
 have hL88 : locks_Table_holders_L0 p1 p2 p0.xrows.ls ([]) = l39 := et (hq49) (et (congrArg (fun q => locks_Table_holders_L0 p1 p2 q l39) (drop_end (ls := p0.xrows.ls) (i := k40) (by omega))) rfl)
 refine Fin.thenX (Fin.blockX (Fin.then (Wp.seq ?_)))
 have H89 := H44.pk [3, 4]
 refine Wp.region (Mz rfl (An rfl (rt (rs ?_))))
 have H90 := H89.pk [1, 0]
 obtain rfl : _ = l39 := hr.symm.trans (bnd_of hL88)
 exact ⟨A37, c38, rfl, H90⟩
structure AskD where
 xTxn : Nat
 xLock : LockD
def AskD.cells (x : AskD) : List Value := [.int .u64 ((x.xTxn : Nat) : Int), .string ⟨List.toArray x.xLock.xRange.xLo⟩, .string ⟨List.toArray x.xLock.xRange.xHi⟩, .bool x.xLock.xWrite]
instance : Bk AskD := ⟨fun x _ => bk x.xTxn + (bk x.xLock + (0))⟩
theorem AskD.len : ∀ x, (AskD.cells x).length = 4 := fun _ => rfl
theorem AskD.one : ∀ x, ∀ u ∈ AskD.cells x, u.oneCell' = true := fun x u hu => by
 simp only [AskD.cells, List.mem_cons, List.not_mem_nil, or_false] at hu
 rcases hu with rfl | rfl | rfl | rfl <;> rfl
def AskD.Ok (w : World) (x : AskD) : Prop := (x.xTxn ≤ 18446744073709551615) ∧ (LockD.Ok w x.xLock)
instance : Inhabited AskD := ⟨⟨default, default⟩⟩
def locks_Table_next_L0 (p0 : TableT) : List rowT → Unit ⊕ (AskD × Bool)
  | [] => Sum.inl ()
  | x36 :: q25 => if x36.xwaits = true then bnd (locks_Table_holders p0 x36.xtxn x36.xwant) fun yr53 => if ((yr53.length : Nat) : Int) = 0 then Sum.inr (AskD.mk x36.xtxn x36.xwant, true) else locks_Table_next_L0 p0 q25 else locks_Table_next_L0 p0 q25
def locks_Table_next (p0 : TableT) : AskD × Bool :=
 lp (locks_Table_next_L0 p0 p0.xrows.ls) fun _ => (AskD.mk 0 (LockD.mk (RangeD.mk ([]) ([])) false), false)
set_option maxRecDepth 100000 in
theorem locks_Table_next_ok (w : World) (D : Nat → Prop) (g0 : Nat) (p0 : TableT) (A0x0 : Option Addr) (c0x0 : Nat) (d0x0 : List rowD) (r0 : AskD) (r1 : Bool) (H : Own w D w [blk g0 [.slice A0x0 p0.xrows.ls.length c0x0] 59]) (hd0x0 : List.map rowD.abs d0x0 = p0.xrows.ls) (hx0x0 : Ro w D fun w' => Rds w' 6 A0x0 p0.xrows.ls.length (List.flatMap rowD.cells d0x0)) (hb0x0 : p0.xrows.ls.length ≤ c0x0 ∧ p0.xrows.ls.length ≤ 9223372036854775807) (hm0x0 : ∀ x ∈ d0x0, Ro w D (fun w' => Rds w' 3 x.xheld.A x.xheld.ls.length (List.flatMap LockD.cells x.xheld.ls)) ∧ (x.xheld.ls.length ≤ x.xheld.c ∧ x.xheld.ls.length ≤ 9223372036854775807)) (hh0 : p0.xrows.ls.length ≤ 1000000) (hr : locks_Table_next p0 = (r0, r1)) :
    Calls Try.prog 51 #[.pointer (some ⟨g0, 0, none⟩)] w (Ret fun v w' => v = .tuple #[.agg (AskD.cells r0).toArray, .bool r1] ∧ Own w D w' [blk g0 [.slice A0x0 p0.xrows.ls.length c0x0] 59]) := by
 have hdl0x0 := abs_len hd0x0
 refine Calls.body (args := [.pointer (some ⟨g0, 0, none⟩)]) Try.func51 rfl rfl rfl ?_
 show Wp _ _ _ [(0, .pointer (some ⟨g0, 0, none⟩))] _ _
 refine sr ?_
 refine npw [.int .u64 0, .string ⟨List.toArray ([])⟩, .string ⟨List.toArray ([])⟩, .bool false] 51 H ?_
 intro g21 w22 H23
 refine An rfl (Wp.seq (sr (Mz rfl (Kz (.pointer (some ⟨g0, 0, none⟩)) (Kz (.pointer (some ⟨g0, 0, none⟩)) (Lz (.slice A0x0 p0.xrows.ls.length c0x0) H23 1 Try.isAgg57 (Kz (.int .i64 ((p0.xrows.ls.length : Nat) : Int)) (Mn rfl (bo ?_)))))))))
 have H26 := H23.pk [0, 1]
 obtain ⟨I30, hI31⟩ : ∃ q : Nat → World → Prop, q = fun (i : Nat) w' => Own w D w' [blk g21 [.int .u64 0, .string ⟨List.toArray ([])⟩, .string ⟨List.toArray ([])⟩, .bool false] 51, blk g0 [.slice A0x0 p0.xrows.ls.length c0x0] 59] ∧ (i ≤ p0.xrows.ls.length ∧ locks_Table_next_L0 p0 p0.xrows.ls = locks_Table_next_L0 p0 (List.drop i p0.xrows.ls)) := ⟨_, rfl⟩
 have dm32 : ∀ {k24 : Nat} {w' : World}, I30 k24 w' ↔ Own w D w' [blk g21 [.int .u64 0, .string ⟨List.toArray ([])⟩, .string ⟨List.toArray ([])⟩, .bool false] 51, blk g0 [.slice A0x0 p0.xrows.ls.length c0x0] 59] ∧ k24 ≤ p0.xrows.ls.length ∧ locks_Table_next_L0 p0 p0.xrows.ls = locks_Table_next_L0 p0 (List.drop k24 p0.xrows.ls) := by intros; subst hI31; exact Iff.rfl
 refine Wp.loop (fun i : Nat => [(3, .bool false), (11, .int .i64 ((i : Nat) : Int)), (10, .int .i64 ((p0.xrows.ls.length : Nat) : Int)), (9, .slice A0x0 p0.xrows.ls.length c0x0), (2, .pointer (some ⟨g21, 0, none⟩)), (0, .pointer (some ⟨g0, 0, none⟩))]) I30 (fun i => p0.xrows.ls.length - i) 0 ⟨rfl, rfl, rfl, rfl, rfl, rfl, trivial⟩ (dm32.2 ⟨H26, by omega, rfl⟩) ?_
 rintro k24 w27 hf29
 show Wp _ _ _ [(3, .bool false), (11, .int .i64 ((k24 : Nat) : Int)), (10, .int .i64 ((p0.xrows.ls.length : Nat) : Int)), (9, .slice A0x0 p0.xrows.ls.length c0x0), (2, .pointer (some ⟨g21, 0, none⟩)), (0, .pointer (some ⟨g0, 0, none⟩))] _ _
 obtain ⟨H28, hi34, hq33⟩ := dm32.1 hf29
 refine sr (Kz (.bool (decide (((k24 : Nat) : Int) < ((p0.xrows.ls.length : Nat) : Int)))) (nt (Wp.seq ?_)))
 by_cases h35 : ((k24 : Nat) : Int) < ((p0.xrows.ls.length : Nat) : Int)
 obtain ⟨x36, hx37⟩ := rds_at (ls := d0x0) (i := k24) rowD.len (by decide) (H28.ro hx0x0) (by first | omega | (simp; done) | (simp; omega))
 have hX38 := abs_at hd0x0 hx37
 have hb39 := (hm0x0 _ (List.mem_of_getElem? hx37)).2
 have hd40 := drop_at hX38
 refine jT (dT h35) (sk (Wp.seq (bo (sr (fw (.pointer (some ⟨ab A0x0, ao A0x0 + k24 * 6, none⟩)) (Yl.indexAddr (El57) rfl rfl ((H28.ro hx0x0).addr (i := k24) (by omega)) (by omega)) (fw (.agg (rowD.cells x36).toArray) (Yl.load rfl (Lds.agg (cs := (rowD.cells x36)) Try.isAgg72 Try.sizeOf72 ((H28.ro hx0x0).elem rowD.len hx37 (by decide)))) ?_))))))
 refine npw [.int .u64 0, .slice none 0 0, .bool false, .string ⟨List.toArray ([])⟩, .string ⟨List.toArray ([])⟩, .bool false] 72 H28 ?_
 intro g41 w42 H43
 refine sto (rowD.cells x36) 0 H43 Try.sizeOf72 ?_
 intro w44 H45
 refine ns (Kz (.pointer (some ⟨g41, 2, none⟩)) (Lz (.bool x36.xwaits) H45 0 Try.isAgg4 (Mz rfl ?_)))
 rcases Bool.eq_false_or_eq_true (x36.xwaits) with h46 | h46
 refine WL.valG (v := .pointer (some ⟨g0, 0, none⟩)) rfl rfl h46 rfl (Yl.move rfl) (Gz (.pointer (some ⟨g41, 0, none⟩)) h46 (Gl (.int .u64 ((x36.xtxn : Nat) : Int)) h46 H45 0 Try.isAgg30 (Gz (.pointer (some ⟨g41, 3, none⟩)) h46 (Ga (LockD.cells x36.xwant) h46 H45 0 Try.isAgg34 Try.sizeOf34 ?_))))
 have H47 := H45.pk [2, 0, 1]
 obtain ⟨r53, hr54⟩ : ∃ q, locks_Table_holders p0 x36.xtxn x36.xwant = q := ⟨_, rfl⟩
 obtain ⟨D48, HP49, ro50, bk51, rr52⟩ := Own.enter1 H47
 refine WL.doG rfl rfl h46 rfl (Do.call Try.call25 rfl (locks_Table_holders_ok _ _ g0 p0 A0x0 c0x0 d0x0 x36.xtxn x36.xwant r53 HP49 hd0x0 (ro50 _ hx0x0) (show p0.xrows.ls.length ≤ c0x0 ∧ p0.xrows.ls.length ≤ 9223372036854775807 from by omega) (fun x9 h9 => ⟨ro50 _ (hm0x0 x9 h9).1, (hm0x0 x9 h9).2⟩) (by first | omega | (dsimp only; omega)) hr54) ?_)
 rintro _ w55 ⟨A58, c59, rfl, HQ56⟩
 have H57 := bk51 _ _ HQ56
 have hb60 := H57.rowC (i := 0) rfl
 refine Gz (.int .i64 ((r53.length : Nat) : Int)) h46 (Gz (.bool (decide (((r53.length : Nat) : Int) = 0))) h46 (fw (.bool (decide (((r53.length : Nat) : Int) = 0))) (Yl.pickT rfl h46 rfl) (nt ?_)))
 by_cases h61 : ((r53.length : Nat) : Int) = 0
 refine jT (dT h61) (Wp.seq ?_)
 have H62 := H57.pk [1, 2, 3]
 refine Wp.region (Kz (.pointer (some ⟨g41, 0, none⟩)) (Lz (.int .u64 ((x36.xtxn : Nat) : Int)) H62 1 Try.isAgg30 (Kz (.pointer (some ⟨g41, 3, none⟩)) (La (LockD.cells x36.xwant) H62 1 Try.isAgg34 Try.sizeOf34 (Kz (.agg #[.int .u64 ((x36.xtxn : Nat) : Int), .string ⟨List.toArray x36.xwant.xRange.xLo⟩, .string ⟨List.toArray x36.xwant.xRange.xHi⟩, .bool x36.xwant.xWrite]) ?_)))))
 have H63 := H62.pk [2, 0, 1]
 refine sto [.int .u64 ((x36.xtxn : Nat) : Int), .string ⟨List.toArray x36.xwant.xRange.xLo⟩, .string ⟨List.toArray x36.xwant.xRange.xHi⟩, .bool x36.xwant.xWrite] 0 H63 Try.sizeOf51 ?_
 intro w64 H65
 refine An rfl (rt (bR (tR (tR (bR (tR (Fin.res (resN (vs := [.agg #[.int .u64 ((x36.xtxn : Nat) : Int), .string ⟨List.toArray x36.xwant.xRange.xLo⟩, .string ⟨List.toArray x36.xwant.xRange.xHi⟩, .bool x36.xwant.xWrite], .bool true]) rfl (ResV.cell rfl (Lds.agg (cs := [.int .u64 ((x36.xtxn : Nat) : Int), .string ⟨List.toArray x36.xwant.xRange.xLo⟩, .string ⟨List.toArray x36.xwant.xRange.xHi⟩, .bool x36.xwant.xWrite]) Try.isAgg51 Try.sizeOf51 ((H65.cls (i := 0) rfl).lit (k := 0) (m := 4) rfl)) (ResV.tmp rfl ResV.nil)) (Nat.le_of_ble_eq_true rfl)) ?_)))))))
 have H66 := H65.pk [1]
 have e : locks_Table_next p0 = (AskD.mk x36.xtxn x36.xwant, true) := lp_r (et (hq33) (et (congrArg (fun q => locks_Table_next_L0 p0 q) hd40) (et (ip h46) (et (bnd_of hr54) (ip h61)))))
 obtain ⟨rfl, rfl⟩ := pj2 (e.symm.trans hr)
 exact ⟨rfl, H66⟩
 refine jF (dF h61) (Wp.skip (bN (Fin.then ?_)))
 have H67 := H57.pk [1, 3]
 refine Wp.region (fw (.int .i64 ((k24 + 1 : Nat) : Int)) (Yl.int (e := IntKind.i64.wrap (((k24 : Nat) : Int) + 1)) yk (by rw [IntWalk.i64_in _ (by omega)]; omega)) (Mz rfl (WL.nil ?_)))
 have H68 := H67.pk [1, 0]
 exact Fin.round (k24 + 1) ⟨rfl, rfl, rfl, rfl, rfl, rfl, trivial⟩ (dm32.2 ⟨H68, by omega, et (hq33) (et (congrArg (fun q => locks_Table_next_L0 p0 q) hd40) (et (ip h46) (et (bnd_of hr54) (iN h61))))⟩) (by show p0.xrows.ls.length - (k24 + 1) < p0.xrows.ls.length - k24; omega)
 refine Sz h46 (Sz h46 (Sz h46 (Sz h46 (Sz h46 (Sz h46 (Sz h46 (Sz h46 (fw (.bool false) (Yl.pickF rfl h46 rfl) (nt (jf (Wp.skip (bN (Fin.then ?_)))))))))))))
 have H69 := H45.pk [1, 2]
 refine Wp.region (fw (.int .i64 ((k24 + 1 : Nat) : Int)) (Yl.int (e := IntKind.i64.wrap (((k24 : Nat) : Int) + 1)) yk (by rw [IntWalk.i64_in _ (by omega)]; omega)) (Mz rfl (WL.nil ?_)))
 have H70 := H69.pk [0, 1]
 exact Fin.round (k24 + 1) ⟨rfl, rfl, rfl, rfl, rfl, rfl, trivial⟩ (dm32.2 ⟨H70, by omega, et (hq33) (et (congrArg (fun q => locks_Table_next_L0 p0 q) hd40) (ifF h46))⟩) (by show p0.xrows.ls.length - (k24 + 1) < p0.xrows.ls.length - k24; omega)
 refine jF (dF h35) (Wp.exit (Fin.thenX ?_))
 have hL71 : locks_Table_next_L0 p0 p0.xrows.ls = Sum.inl () := et (hq33) (et (congrArg (fun q => locks_Table_next_L0 p0 q) (drop_end (ls := p0.xrows.ls) (i := k24) (by omega))) rfl)
 refine Fin.thenX (Fin.blockX (Fin.then (sr (Kz (.agg #[.int .u64 0, .string ⟨List.toArray ([])⟩, .string ⟨List.toArray ([])⟩, .bool false]) ?_))))
 refine sto [.int .u64 0, .string ⟨List.toArray ([])⟩, .string ⟨List.toArray ([])⟩, .bool false] 0 H28 Try.sizeOf51 ?_
 intro w72 H73
 refine An rfl (rt (Fin.res (resN (vs := [.agg #[.int .u64 0, .string ⟨List.toArray ([])⟩, .string ⟨List.toArray ([])⟩, .bool false], .bool false]) rfl (ResV.cell rfl (Lds.agg (cs := [.int .u64 0, .string ⟨List.toArray ([])⟩, .string ⟨List.toArray ([])⟩, .bool false]) Try.isAgg51 Try.sizeOf51 ((H73.cls (i := 0) rfl).lit (k := 0) (m := 4) rfl)) (ResV.tmp rfl ResV.nil)) (Nat.le_of_ble_eq_true rfl)) ?_))
 have H74 := H73.pk [1]
 have e : locks_Table_next p0 = (AskD.mk 0 (LockD.mk (RangeD.mk ([]) ([])) false), false) := lp_l hL71
 obtain ⟨rfl, rfl⟩ := pj2 (e.symm.trans hr)
 exact ⟨rfl, H74⟩
def slices_Clone_api_Lock_api_Lock (l0 : List LockD) : (List LockD) :=
 l0
set_option maxRecDepth 100000 in
theorem slices_Clone_api_Lock_api_Lock_ok (w : World) (D : Nat → Prop) (A0 : Option Addr) (n0 c0 : Nat) (l0 : List LockD) (r0 : List LockD) (H : Own w D w []) (hx0 : Ro w D fun w' => Rds w' 3 A0 n0 (List.flatMap LockD.cells l0)) (hn0 : n0 = l0.length) (hl0 : l0.length * 40 ≤ 211106232532992) (hr : slices_Clone_api_Lock_api_Lock l0 = r0) :
    Calls Try.prog 42 #[.slice A0 n0 c0] w (Ret fun v w' => ∃ (B0 : Option Addr) (b0 : Nat), v = .slice B0 r0.length b0 ∧ Own w D w' [row B0 r0.length b0 (List.flatMap LockD.cells r0) 34 3]) := by
 subst hn0
 refine Calls.body (args := [.slice A0 l0.length c0]) Try.func42 rfl rfl rfl ?_
 show Wp _ _ _ [(0, .slice A0 l0.length c0)] _ _
 refine sr (An rfl (Wp.seq (sr (Mz rfl (fw (.bool (Option.isNone A0)) (Yl.sliceNil Try.underlying46 rfl rfl) (nt ?_))))))
 rcases Bool.eq_false_or_eq_true (Option.isNone A0) with h21 | h21
 obtain rfl : l0 = [] := rds_none (enc := LockD.cells) (H.ro hx0) h21
 refine jT h21 (sr (An rfl (rt (tR (rs ?_)))))
 have H22 : Own w D w [row none 0 0 (List.flatMap LockD.cells ([])) 34 3] := H.free (row_nil 34 3)
 have H23 := H22.pk [0]
 obtain rfl : _ = ([]) := hr.symm.trans rfl
 exact ⟨none, 0, rfl, H23⟩
 refine jF h21 (sk (sr ?_))
 refine nrw [] 34 3 0 H ?_
 intro A24 w25 H26
 replace H26 : Own w D w25 [row A24 0 0 (List.flatMap LockD.cells ([])) 34 3] := H26
 refine Mz rfl ?_
 refine WL.do rfl (Do.appendW (k := 0) (m := l0.length) (El46) H26 rfl rfl (src_of Try.underlying46 (H26.ro hx0) (flat_one LockD.one l0)) rfl (by omega) (s := l0.length) (by omega) rfl ?_)
 intro A27 c28 w29 H30
 refine An rfl (rt (rs ?_))
 have H31 := H30.pk [0]
 obtain rfl : _ = l0 := hr.symm.trans rfl
 exact ⟨A27, c28, rfl, H31⟩
def locks_Table_Holds (p0 : TableT) (p1 : Nat) : (List LockD) :=
 bnd (locks_Table_find p0 p1) fun yr26 => if yr26.2 = true then bnd (List.getD p0.xrows.ls (Int.toNat yr26.1) default) fun yx35 => yx35.xheld.ls else []
set_option maxRecDepth 100000 in
theorem locks_Table_Holds_ok (w : World) (D : Nat → Prop) (g0 : Nat) (p0 : TableT) (A0x0 : Option Addr) (c0x0 : Nat) (d0x0 : List rowD) (p1 : Nat) (r0 : List LockD) (H : Own w D w [blk g0 [.slice A0x0 p0.xrows.ls.length c0x0] 59]) (hd0x0 : List.map rowD.abs d0x0 = p0.xrows.ls) (hx0x0 : Ro w D fun w' => Rds w' 6 A0x0 p0.xrows.ls.length (List.flatMap rowD.cells d0x0)) (hb0x0 : p0.xrows.ls.length ≤ c0x0 ∧ p0.xrows.ls.length ≤ 9223372036854775807) (hm0x0 : ∀ x ∈ d0x0, Ro w D (fun w' => Rds w' 3 x.xheld.A x.xheld.ls.length (List.flatMap LockD.cells x.xheld.ls)) ∧ (x.xheld.ls.length ≤ x.xheld.c ∧ x.xheld.ls.length ≤ 9223372036854775807)) (hh0 : p0.xrows.ls.length ≤ 1000000) (hh1 : Hd p0.xrows.ls) (hr : locks_Table_Holds p0 p1 = r0) :
    Calls Try.prog 17 #[.pointer (some ⟨g0, 0, none⟩), .int .u64 ((p1 : Nat) : Int)] w (Ret fun v w' => ∃ (B0 : Option Addr) (b0 : Nat), v = .slice B0 r0.length b0 ∧ Own w D w' [row B0 r0.length b0 (List.flatMap LockD.cells r0) 34 3, blk g0 [.slice A0x0 p0.xrows.ls.length c0x0] 59]) := by
 have hdl0x0 := abs_len hd0x0
 refine Calls.body (args := [.pointer (some ⟨g0, 0, none⟩), .int .u64 ((p1 : Nat) : Int)]) Try.func17 rfl rfl rfl ?_
 show Wp _ _ _ [(0, .pointer (some ⟨g0, 0, none⟩)), (1, .int .u64 ((p1 : Nat) : Int))] _ _
 refine sr (Ar rfl (Mz rfl (Mz rfl ?_)))
 obtain ⟨⟨r26, r27⟩, hr28⟩ : ∃ q : Int × Bool, locks_Table_find p0 p1 = q := ⟨_, rfl⟩
 obtain ⟨D21, HP22, ro23, bk24, rr25⟩ := Own.enter1 H
 refine cl Try.call43 (locks_Table_find_ok _ _ g0 p0 A0x0 c0x0 d0x0 p1 r26 r27 HP22 hd0x0 (ro23 _ hx0x0) (show p0.xrows.ls.length ≤ c0x0 ∧ p0.xrows.ls.length ≤ 9223372036854775807 from by omega) (fun x9 h9 => ⟨ro23 _ (hm0x0 x9 h9).1, (hm0x0 x9 h9).2⟩) (by first | omega | (dsimp only; omega)) hr28) ?_
 rintro _ w29 ⟨rfl, HQ30, hk32, hk33⟩
 have H31 := bk24 _ _ HQ30
 replace hk32 : 0 ≤ r26 ∧ r26 ≤ ((p0.xrows.ls.length : Nat) : Int) := hk32
 replace hk33 : Bool.toNat r27 = 0 ∨ r26 < ((p0.xrows.ls.length : Nat) : Int) := hk33
 refine Mz rfl (Kz (.int .i64 r26) (Kz (.bool r27) (Az rfl (An rfl (Wp.seq (sr (Mz rfl (Kz (.bool (!r27)) (nt ?_)))))))))
 rcases Bool.eq_false_or_eq_true (r27) with h34 | h34
 have h34t : Bool.toNat r27 = 1 := by rw [h34]; rfl
 refine jF (cn h34) (sk (sr (Mz rfl (Kz (.pointer (some ⟨g0, 0, none⟩)) (Kz (.pointer (some ⟨g0, 0, none⟩)) (Lz (.slice A0x0 p0.xrows.ls.length c0x0) H31 0 Try.isAgg57 (fw (.int .i64 ((Int.toNat r26 : Nat) : Int)) (Yl.int (e := r26) (Yl.move rfl) (by omega)) ?_)))))))
 obtain ⟨x35, hx36⟩ := rds_at (ls := d0x0) (i := Int.toNat r26) rowD.len (by decide) (H31.ro hx0x0) (by first | omega | (simp; done) | (simp; omega))
 have hX37 := abs_at hd0x0 hx36
 have hb38 := (hm0x0 _ (List.mem_of_getElem? hx36)).2
 have hz39 : x35.xheld.ls.length ≤ 1000000 := by have q9 := hh1 _ (List.mem_of_getElem? hX37); exact Nat.le_trans (Nat.le_of_eq (by simp only [rowD.abs])) q9
 refine fw (.pointer (some ⟨ab A0x0, ao A0x0 + (Int.toNat r26) * 6, none⟩)) (Yl.indexAddr (El57) rfl rfl ((H31.ro hx0x0).addr (i := Int.toNat r26) (by omega)) (by omega)) (Kz (.pointer (some ⟨ab A0x0, ao A0x0 + (Int.toNat r26) * 6 + 1, none⟩)) (fw (.slice x35.xheld.A x35.xheld.ls.length x35.xheld.c) (Yl.load rfl (Lds.one Try.isAgg46 (((H31.ro hx0x0).elem rowD.len hx36 (by decide)).at_ (k := 1) rfl))) ?_))
 obtain ⟨D40, HP41, ro42, bk43, rr44⟩ := Own.enter0 H31
 refine cl Try.call42 (slices_Clone_api_Lock_api_Lock_ok _ _ x35.xheld.A x35.xheld.ls.length x35.xheld.c x35.xheld.ls x35.xheld.ls HP41 (ro42 _ (hm0x0 _ (List.mem_of_getElem? hx36)).1) rfl (by omega) rfl) ?_
 rintro _ w45 ⟨A48, c49, rfl, HQ46⟩
 have H47 := bk43 _ _ HQ46
 have hb50 := H47.rowC (i := 0) rfl
 refine An rfl (rt (rs ?_))
 have H51 := H47.pk [0, 1]
 obtain rfl : _ = x35.xheld.ls := hr.symm.trans (et (bnd_of hr28) (et (ip h34) (bnd_of (getD_of hX37))))
 exact ⟨A48, c49, rfl, H51⟩
 have h34t : Bool.toNat r27 = 0 := by rw [h34]; rfl
 refine jT (cn h34) (sr (An rfl (rt (tR (rs ?_)))))
 have H52 : Own w D w29 [row none 0 0 (List.flatMap LockD.cells ([])) 34 3, blk g0 [.slice A0x0 p0.xrows.ls.length c0x0] 59] := H31.free (row_nil 34 3)
 have H53 := H52.pk [0, 1]
 obtain rfl : _ = [] := hr.symm.trans (et (bnd_of hr28) (ifF h34))
 exact ⟨none, 0, rfl, H53⟩
theorem El48 : Elem Try.prog 48 51 4 48 := elem_of (z := .agg #[.int .u64 0, .string ⟨List.toArray ([])⟩, .string ⟨List.toArray ([])⟩, .bool false]) Try.underlying48 (by kernel_rfl) rfl (by decide)
def locks_Table_Waiting_L0 : List rowT → List AskD → (List AskD)
  | [], l24 => l24
  | x38 :: q26, l24 => if x38.xwaits = true then locks_Table_Waiting_L0 q26 (l24 ++ [(AskD.mk x38.xtxn x38.xwant)]) else locks_Table_Waiting_L0 q26 l24
def locks_Table_Waiting (p0 : TableT) : (List AskD) :=
 bnd (locks_Table_Waiting_L0 p0.xrows.ls ([])) fun sLrL => sLrL
set_option maxRecDepth 100000 in
theorem locks_Table_Waiting_ok (w : World) (D : Nat → Prop) (g0 : Nat) (p0 : TableT) (A0x0 : Option Addr) (c0x0 : Nat) (d0x0 : List rowD) (r0 : List AskD) (H : Own w D w [blk g0 [.slice A0x0 p0.xrows.ls.length c0x0] 59]) (hd0x0 : List.map rowD.abs d0x0 = p0.xrows.ls) (hx0x0 : Ro w D fun w' => Rds w' 6 A0x0 p0.xrows.ls.length (List.flatMap rowD.cells d0x0)) (hb0x0 : p0.xrows.ls.length ≤ c0x0 ∧ p0.xrows.ls.length ≤ 9223372036854775807) (hm0x0 : ∀ x ∈ d0x0, Ro w D (fun w' => Rds w' 3 x.xheld.A x.xheld.ls.length (List.flatMap LockD.cells x.xheld.ls)) ∧ (x.xheld.ls.length ≤ x.xheld.c ∧ x.xheld.ls.length ≤ 9223372036854775807)) (hh0 : p0.xrows.ls.length ≤ 1000000) (hr : locks_Table_Waiting p0 = r0) :
    Calls Try.prog 18 #[.pointer (some ⟨g0, 0, none⟩)] w (Ret fun v w' => ∃ (B0 : Option Addr) (b0 : Nat), v = .slice B0 r0.length b0 ∧ Own w D w' [row B0 r0.length b0 (List.flatMap AskD.cells r0) 51 4, blk g0 [.slice A0x0 p0.xrows.ls.length c0x0] 59]) := by
 have hdl0x0 := abs_len hd0x0
 refine Calls.body (args := [.pointer (some ⟨g0, 0, none⟩)]) Try.func18 rfl rfl rfl ?_
 show Wp _ _ _ [(0, .pointer (some ⟨g0, 0, none⟩))] _ _
 refine sr (Ar rfl (An rfl (Wp.seq (sr (Mz rfl (Kz (.pointer (some ⟨g0, 0, none⟩)) (Kz (.pointer (some ⟨g0, 0, none⟩)) (Lz (.slice A0x0 p0.xrows.ls.length c0x0) H 0 Try.isAgg57 (Kz (.int .i64 ((p0.xrows.ls.length : Nat) : Int)) (Mn rfl (bo ?_)))))))))))
 have H21 : Own w D w [row none 0 0 (List.flatMap AskD.cells ([])) 51 4, blk g0 [.slice A0x0 p0.xrows.ls.length c0x0] 59] := H.free (row_nil 51 4)
 have H27 := H21.pk [1, 0]
 obtain ⟨I31, hI32⟩ : ∃ q : ((Option Addr) × Nat × (List AskD) × Nat) → World → Prop, q = fun (i : (Option Addr) × Nat × (List AskD) × Nat) w' => Own w D w' [blk g0 [.slice A0x0 p0.xrows.ls.length c0x0] 59, row i.1 i.2.2.1.length i.2.1 (List.flatMap AskD.cells i.2.2.1) 51 4] ∧ (i.2.2.2 ≤ p0.xrows.ls.length ∧ i.2.2.1.length ≤ i.2.2.2 ∧ locks_Table_Waiting_L0 p0.xrows.ls ([]) = locks_Table_Waiting_L0 (List.drop i.2.2.2 p0.xrows.ls) i.2.2.1) := ⟨_, rfl⟩
 have dm33 : ∀ {A22 : Option Addr} {c23 : Nat} {l24 : List AskD} {k25 : Nat} {w' : World}, I31 (A22, c23, l24, k25) w' ↔ Own w D w' [blk g0 [.slice A0x0 p0.xrows.ls.length c0x0] 59, row A22 l24.length c23 (List.flatMap AskD.cells l24) 51 4] ∧ k25 ≤ p0.xrows.ls.length ∧ l24.length ≤ k25 ∧ locks_Table_Waiting_L0 p0.xrows.ls ([]) = locks_Table_Waiting_L0 (List.drop k25 p0.xrows.ls) l24 := by intros; subst hI32; exact Iff.rfl
 refine Wp.loop (fun i : (Option Addr) × Nat × (List AskD) × Nat => [(3, .slice i.1 i.2.2.1.length i.2.1), (11, .int .i64 ((i.2.2.2 : Nat) : Int)), (10, .int .i64 ((p0.xrows.ls.length : Nat) : Int)), (9, .slice A0x0 p0.xrows.ls.length c0x0), (2, .slice none 0 0)]) I31 (fun i => p0.xrows.ls.length - i.2.2.2) (none, 0, [], 0) ⟨rfl, rfl, rfl, rfl, rfl, trivial⟩ (dm33.2 ⟨H27, (show 0 ≤ p0.xrows.ls.length ∧ 0 ≤ 0 ∧ locks_Table_Waiting_L0 p0.xrows.ls ([]) = locks_Table_Waiting_L0 (List.drop 0 p0.xrows.ls) ([]) from ⟨by omega, by omega, rfl⟩)⟩) ?_
 rintro ⟨A22, c23, l24, k25⟩ w28 hf30
 show Wp _ _ _ [(3, .slice A22 l24.length c23), (11, .int .i64 ((k25 : Nat) : Int)), (10, .int .i64 ((p0.xrows.ls.length : Nat) : Int)), (9, .slice A0x0 p0.xrows.ls.length c0x0), (2, .slice none 0 0)] _ _
 obtain ⟨H29, hi35, hi36, hq34⟩ := dm33.1 hf30
 refine sr (Kz (.bool (decide (((k25 : Nat) : Int) < ((p0.xrows.ls.length : Nat) : Int)))) (nt (Wp.seq ?_)))
 by_cases h37 : ((k25 : Nat) : Int) < ((p0.xrows.ls.length : Nat) : Int)
 obtain ⟨x38, hx39⟩ := rds_at (ls := d0x0) (i := k25) rowD.len (by decide) (H29.ro hx0x0) (by first | omega | (simp; done) | (simp; omega))
 have hX40 := abs_at hd0x0 hx39
 have hb41 := (hm0x0 _ (List.mem_of_getElem? hx39)).2
 have hd42 := drop_at hX40
 refine jT (dT h37) (sk (Wp.seq (bo (sr (fw (.pointer (some ⟨ab A0x0, ao A0x0 + k25 * 6, none⟩)) (Yl.indexAddr (El57) rfl rfl ((H29.ro hx0x0).addr (i := k25) (by omega)) (by omega)) (fw (.agg (rowD.cells x38).toArray) (Yl.load rfl (Lds.agg (cs := (rowD.cells x38)) Try.isAgg72 Try.sizeOf72 ((H29.ro hx0x0).elem rowD.len hx39 (by decide)))) ?_))))))
 refine npw [.int .u64 0, .slice none 0 0, .bool false, .string ⟨List.toArray ([])⟩, .string ⟨List.toArray ([])⟩, .bool false] 72 H29 ?_
 intro g43 w44 H45
 refine sto (rowD.cells x38) 0 H45 Try.sizeOf72 ?_
 intro w46 H47
 refine ns (Kz (.pointer (some ⟨g43, 2, none⟩)) (Lz (.bool x38.xwaits) H47 0 Try.isAgg4 (nt ?_)))
 rcases Bool.eq_false_or_eq_true (x38.xwaits) with h48 | h48
 refine jT h48 (Wp.region (Mz rfl (Kz (.pointer (some ⟨g43, 0, none⟩)) (Lz (.int .u64 ((x38.xtxn : Nat) : Int)) H47 0 Try.isAgg30 (Kz (.pointer (some ⟨g43, 3, none⟩)) (La (LockD.cells x38.xwant) H47 0 Try.isAgg34 Try.sizeOf34 (Kz (.agg #[.int .u64 ((x38.xtxn : Nat) : Int), .string ⟨List.toArray x38.xwant.xRange.xLo⟩, .string ⟨List.toArray x38.xwant.xRange.xHi⟩, .bool x38.xwant.xWrite]) ?_)))))))
 refine nrw [.int .u64 ((x38.xtxn : Nat) : Int), .string ⟨List.toArray x38.xwant.xRange.xLo⟩, .string ⟨List.toArray x38.xwant.xRange.xHi⟩, .bool x38.xwant.xWrite] 51 4 1 H47 ?_
 intro A49 w50 H51
 replace H51 := Own.reh (y := row A49 1 1 (List.flatMap AskD.cells ([(AskD.mk x38.xtxn x38.xwant)])) 51 4) rfl H51
 have H52 := H51.pk [3, 0, 1, 2]
 refine WL.do rfl (Do.appendW (k := l24.length) (m := 1) (El48) H52 rfl rfl (src_of Try.underlying48 (H52.rds (i := 1) rfl) (flat_one AskD.one ([(AskD.mk x38.xtxn x38.xwant)]))) rfl (by omega) (s := List.length (l24 ++ [(AskD.mk x38.xtxn x38.xwant)])) (by first | omega | (simp only [List.length_append, List.length_cons, List.length_nil] <;> omega)) (List.flatMap_append).symm ?_)
 intro A53 c54 w55 H56
 have hl57 : List.length (l24 ++ [(AskD.mk x38.xtxn x38.xwant)]) = l24.length + 1 := by simp only [List.length_append, List.length_cons, List.length_nil]
 refine Az rfl (WL.nil (bN (Fin.then ?_)))
 have H58 := H56.pk [0, 3]
 refine Wp.region (fw (.int .i64 ((k25 + 1 : Nat) : Int)) (Yl.int (e := IntKind.i64.wrap (((k25 : Nat) : Int) + 1)) yk (by rw [IntWalk.i64_in _ (by omega)]; omega)) (Mz rfl (WL.nil ?_)))
 have H59 := H58.pk [1, 0]
 exact Fin.round (A53, c54, (l24 ++ [(AskD.mk x38.xtxn x38.xwant)]), k25 + 1) ⟨rfl, rfl, rfl, rfl, rfl, trivial⟩ (dm33.2 ⟨H59, by omega, by omega, et (hq34) (et (congrArg (fun q => locks_Table_Waiting_L0 q l24) hd42) (ip h48))⟩) (by show p0.xrows.ls.length - (k25 + 1) < p0.xrows.ls.length - k25; omega)
 refine jF h48 (Wp.skip (bN (Fin.then ?_)))
 have H60 := H47.pk [1, 2]
 refine Wp.region (fw (.int .i64 ((k25 + 1 : Nat) : Int)) (Yl.int (e := IntKind.i64.wrap (((k25 : Nat) : Int) + 1)) yk (by rw [IntWalk.i64_in _ (by omega)]; omega)) (Mz rfl (WL.nil ?_)))
 have H61 := H60.pk [0, 1]
 exact Fin.round (A22, c23, l24, k25 + 1) ⟨rfl, rfl, rfl, rfl, rfl, trivial⟩ (dm33.2 ⟨H61, by omega, by omega, et (hq34) (et (congrArg (fun q => locks_Table_Waiting_L0 q l24) hd42) (ifF h48))⟩) (by show p0.xrows.ls.length - (k25 + 1) < p0.xrows.ls.length - k25; omega)
 refine jF (dF h37) (Wp.exit (Fin.thenX ?_))
 have hL62 : locks_Table_Waiting_L0 p0.xrows.ls ([]) = l24 := et (hq34) (et (congrArg (fun q => locks_Table_Waiting_L0 q l24) (drop_end (ls := p0.xrows.ls) (i := k25) (by omega))) rfl)
 refine Fin.thenX (Fin.blockX (Fin.then (sr (Mz rfl (An rfl (rt (rs ?_)))))))
 have H63 := H29.pk [1, 0]
 obtain rfl : _ = l24 := hr.symm.trans (bnd_of hL62)
 exact ⟨A22, c23, rfl, H63⟩
def locks_Table_Txns_L0 : List rowT → List Nat → (List Nat)
  | [], l24 => l24
  | x39 :: q26, l24 => locks_Table_Txns_L0 q26 (l24 ++ [x39.xtxn])
def locks_Table_Txns (p0 : TableT) : (List Nat) :=
 bnd (locks_Table_Txns_L0 p0.xrows.ls ([])) fun sLrL => sLrL
set_option maxRecDepth 100000 in
theorem locks_Table_Txns_ok (w : World) (D : Nat → Prop) (g0 : Nat) (p0 : TableT) (A0x0 : Option Addr) (c0x0 : Nat) (d0x0 : List rowD) (r0 : List Nat) (H : Own w D w [blk g0 [.slice A0x0 p0.xrows.ls.length c0x0] 59]) (hd0x0 : List.map rowD.abs d0x0 = p0.xrows.ls) (hx0x0 : Ro w D fun w' => Rds w' 6 A0x0 p0.xrows.ls.length (List.flatMap rowD.cells d0x0)) (hb0x0 : p0.xrows.ls.length ≤ c0x0 ∧ p0.xrows.ls.length ≤ 9223372036854775807) (hm0x0 : ∀ x ∈ d0x0, Ro w D (fun w' => Rds w' 3 x.xheld.A x.xheld.ls.length (List.flatMap LockD.cells x.xheld.ls)) ∧ (x.xheld.ls.length ≤ x.xheld.c ∧ x.xheld.ls.length ≤ 9223372036854775807)) (hh0 : p0.xrows.ls.length ≤ 1000000) (hr : locks_Table_Txns p0 = r0) :
    Calls Try.prog 20 #[.pointer (some ⟨g0, 0, none⟩)] w (Ret fun v w' => ∃ (B0 : Option Addr) (b0 : Nat), v = .slice B0 r0.length b0 ∧ Own w D w' [row B0 r0.length b0 (List.flatMap (eN .u64) r0) 30 1, blk g0 [.slice A0x0 p0.xrows.ls.length c0x0] 59] ∧ (r0.length = p0.xrows.ls.length)) := by
 have hdl0x0 := abs_len hd0x0
 refine Calls.body (args := [.pointer (some ⟨g0, 0, none⟩)]) Try.func20 rfl rfl rfl ?_
 show Wp _ _ _ [(0, .pointer (some ⟨g0, 0, none⟩))] _ _
 refine sr (Ar rfl (An rfl (Wp.seq (sr (Mz rfl (Kz (.pointer (some ⟨g0, 0, none⟩)) (Kz (.pointer (some ⟨g0, 0, none⟩)) (Lz (.slice A0x0 p0.xrows.ls.length c0x0) H 0 Try.isAgg57 (Kz (.int .i64 ((p0.xrows.ls.length : Nat) : Int)) (Mn rfl (bo ?_)))))))))))
 have H21 : Own w D w [row none 0 0 (List.flatMap (eN .u64) ([])) 30 1, blk g0 [.slice A0x0 p0.xrows.ls.length c0x0] 59] := H.free (row_nil 30 1)
 have H27 := H21.pk [1, 0]
 obtain ⟨I31, hI32⟩ : ∃ q : ((Option Addr) × Nat × (List Nat) × Nat) → World → Prop, q = fun (i : (Option Addr) × Nat × (List Nat) × Nat) w' => Own w D w' [blk g0 [.slice A0x0 p0.xrows.ls.length c0x0] 59, row i.1 i.2.2.1.length i.2.1 (List.flatMap (eN .u64) i.2.2.1) 30 1] ∧ (i.2.2.2 ≤ p0.xrows.ls.length ∧ i.2.2.1.length = i.2.2.2 ∧ i.2.2.1.length ≤ i.2.2.2 ∧ locks_Table_Txns_L0 p0.xrows.ls ([]) = locks_Table_Txns_L0 (List.drop i.2.2.2 p0.xrows.ls) i.2.2.1) := ⟨_, rfl⟩
 have dm33 : ∀ {A22 : Option Addr} {c23 : Nat} {l24 : List Nat} {k25 : Nat} {w' : World}, I31 (A22, c23, l24, k25) w' ↔ Own w D w' [blk g0 [.slice A0x0 p0.xrows.ls.length c0x0] 59, row A22 l24.length c23 (List.flatMap (eN .u64) l24) 30 1] ∧ k25 ≤ p0.xrows.ls.length ∧ l24.length = k25 ∧ l24.length ≤ k25 ∧ locks_Table_Txns_L0 p0.xrows.ls ([]) = locks_Table_Txns_L0 (List.drop k25 p0.xrows.ls) l24 := by intros; subst hI32; exact Iff.rfl
 refine Wp.loop (fun i : (Option Addr) × Nat × (List Nat) × Nat => [(3, .slice i.1 i.2.2.1.length i.2.1), (11, .int .i64 ((i.2.2.2 : Nat) : Int)), (10, .int .i64 ((p0.xrows.ls.length : Nat) : Int)), (9, .slice A0x0 p0.xrows.ls.length c0x0), (2, .slice none 0 0)]) I31 (fun i => p0.xrows.ls.length - i.2.2.2) (none, 0, [], 0) ⟨rfl, rfl, rfl, rfl, rfl, trivial⟩ (dm33.2 ⟨H27, (show 0 ≤ p0.xrows.ls.length ∧ 0 = 0 ∧ 0 ≤ 0 ∧ locks_Table_Txns_L0 p0.xrows.ls ([]) = locks_Table_Txns_L0 (List.drop 0 p0.xrows.ls) ([]) from ⟨by omega, by omega, by omega, rfl⟩)⟩) ?_
 rintro ⟨A22, c23, l24, k25⟩ w28 hf30
 show Wp _ _ _ [(3, .slice A22 l24.length c23), (11, .int .i64 ((k25 : Nat) : Int)), (10, .int .i64 ((p0.xrows.ls.length : Nat) : Int)), (9, .slice A0x0 p0.xrows.ls.length c0x0), (2, .slice none 0 0)] _ _
 obtain ⟨H29, hi35, hi36, hi37, hq34⟩ := dm33.1 hf30
 refine sr (Kz (.bool (decide (((k25 : Nat) : Int) < ((p0.xrows.ls.length : Nat) : Int)))) (nt (Wp.seq ?_)))
 by_cases h38 : ((k25 : Nat) : Int) < ((p0.xrows.ls.length : Nat) : Int)
 obtain ⟨x39, hx40⟩ := rds_at (ls := d0x0) (i := k25) rowD.len (by decide) (H29.ro hx0x0) (by first | omega | (simp; done) | (simp; omega))
 have hX41 := abs_at hd0x0 hx40
 have hb42 := (hm0x0 _ (List.mem_of_getElem? hx40)).2
 have hd43 := drop_at hX41
 refine jT (dT h38) (sk (Wp.seq (bo (sr (fw (.pointer (some ⟨ab A0x0, ao A0x0 + k25 * 6, none⟩)) (Yl.indexAddr (El57) rfl rfl ((H29.ro hx0x0).addr (i := k25) (by omega)) (by omega)) (fw (.agg (rowD.cells x39).toArray) (Yl.load rfl (Lds.agg (cs := (rowD.cells x39)) Try.isAgg72 Try.sizeOf72 ((H29.ro hx0x0).elem rowD.len hx40 (by decide)))) ?_))))))
 refine npw [.int .u64 0, .slice none 0 0, .bool false, .string ⟨List.toArray ([])⟩, .string ⟨List.toArray ([])⟩, .bool false] 72 H29 ?_
 intro g44 w45 H46
 refine sto (rowD.cells x39) 0 H46 Try.sizeOf72 ?_
 intro w47 H48
 refine nt (Wp.region (Mz rfl (Kz (.pointer (some ⟨g44, 0, none⟩)) (Lz (.int .u64 ((x39.xtxn : Nat) : Int)) H48 0 Try.isAgg30 ?_))))
 refine nrw [.int .u64 ((x39.xtxn : Nat) : Int)] 30 1 1 H48 ?_
 intro A49 w50 H51
 replace H51 := Own.reh (y := row A49 1 1 (List.flatMap (eN .u64) ([x39.xtxn])) 30 1) rfl H51
 have H52 := H51.pk [3, 0, 1, 2]
 refine WL.do rfl (Do.appendW (k := l24.length) (m := 1) (El37) H52 rfl rfl (src_of Try.underlying37 (H52.rds (i := 1) rfl) (flat_one eN_one ([x39.xtxn]))) rfl (by omega) (s := List.length (l24 ++ [x39.xtxn])) (by first | omega | (simp only [List.length_append, List.length_cons, List.length_nil] <;> omega)) (List.flatMap_append).symm ?_)
 intro A53 c54 w55 H56
 have hl57 : List.length (l24 ++ [x39.xtxn]) = l24.length + 1 := by simp only [List.length_append, List.length_cons, List.length_nil]
 refine Az rfl (WL.nil (bN (Fin.then ?_)))
 have H58 := H56.pk [0, 3]
 refine Wp.region (fw (.int .i64 ((k25 + 1 : Nat) : Int)) (Yl.int (e := IntKind.i64.wrap (((k25 : Nat) : Int) + 1)) yk (by rw [IntWalk.i64_in _ (by omega)]; omega)) (Mz rfl (WL.nil ?_)))
 have H59 := H58.pk [1, 0]
 exact Fin.round (A53, c54, (l24 ++ [x39.xtxn]), k25 + 1) ⟨rfl, rfl, rfl, rfl, rfl, trivial⟩ (dm33.2 ⟨H59, by omega, by omega, by omega, et (hq34) (et (congrArg (fun q => locks_Table_Txns_L0 q l24) hd43) rfl)⟩) (by show p0.xrows.ls.length - (k25 + 1) < p0.xrows.ls.length - k25; omega)
 refine jF (dF h38) (Wp.exit (Fin.thenX ?_))
 have hL60 : locks_Table_Txns_L0 p0.xrows.ls ([]) = l24 := et (hq34) (et (congrArg (fun q => locks_Table_Txns_L0 q l24) (drop_end (ls := p0.xrows.ls) (i := k25) (by omega))) rfl)
 refine Fin.thenX (Fin.blockX (Fin.then (sr (Mz rfl (An rfl (rt (rs ?_)))))))
 have H61 := H29.pk [1, 0]
 obtain rfl : _ = l24 := hr.symm.trans (bnd_of hL60)
 exact ⟨A22, c23, rfl, H61, (by omega)⟩
end Go.Proofs.Ytggnajpokhaaiaa
