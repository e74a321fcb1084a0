/-
 judge: what may be.
-/
import Derived.Test.YtjcdgofegkngpaaOc
import Derived.Test.YtjcdgofegkngpaaKz
import Derived.Test.YtjcdgofegkngpaaKy
namespace Go.Proofs.Ytjcdgofegkngpaa
open Go.RowKit
set_option linter.unusedVariables false
set_option linter.unusedSectionVars false
set_option linter.unusedSimpArgs false

structure SeenD where
 xKind : Int
 xClient : Int
 xReq : Nat
 xCode : Int
 xOps : Sv OpD
 xResults : Sv ResultD

def SeenD.cells (x : SeenD) : List Value := [.int .i64 x.xKind, .int .i64 x.xClient, .int .u64 ((x.xReq : Nat) : Int), .int .i64 x.xCode, .slice x.xOps.A x.xOps.ls.length x.xOps.c, .slice x.xResults.A x.xResults.ls.length x.xResults.c]

instance : Bk SeenD := ⟨fun x _ => bk x.xKind + (bk x.xClient + (bk x.xReq + (bk x.xCode + (bk x.xOps + (bk x.xResults + (0))))))⟩

theorem SeenD.len : ∀ x, (SeenD.cells x).length = 6 := fun _ => rfl

theorem SeenD.one : ∀ x, ∀ u ∈ SeenD.cells x, u.oneCell' = true := fun x u hu => by
 simp only [SeenD.cells, List.mem_cons, List.not_mem_nil, or_false] at hu
 rcases hu with rfl | rfl | rfl | rfl | rfl | rfl <;> rfl

def SeenD.Ok (w : World) (x : SeenD) : Prop := ((-9223372036854775808) ≤ x.xKind ∧ x.xKind ≤ 9223372036854775807) ∧ ((-9223372036854775808) ≤ x.xClient ∧ x.xClient ≤ 9223372036854775807) ∧ (x.xReq ≤ 18446744073709551615) ∧ ((-9223372036854775808) ≤ x.xCode ∧ x.xCode ≤ 9223372036854775807) ∧ (SvOk w 6 80 OpD.cells (OpD.Ok w) x.xOps) ∧ (SvOk w 3 48 ResultD.cells (ResultD.Ok w) x.xResults)

set_option maxRecDepth 100000 in
theorem opens_SeenD (w : World) : Opens Try.prog w 39 6 SeenD.cells (SeenD.Ok w) :=
 (opens_struct (sz := 6) Try.underlying39 (by kernel_rfl) (OpensF.cons (i := 0) (off := 0) (s := 1) rfl rfl (opens_int (k := .i64) (lo := -9223372036854775808) (hi := 9223372036854775807) Try.underlying3 (by kernel_rfl) (by decide) (by decide)) (OpensF.cons (i := 1) (off := 1) (s := 1) rfl rfl (opens_int (k := .i64) (lo := -9223372036854775808) (hi := 9223372036854775807) Try.underlying3 (by kernel_rfl) (by decide) (by decide)) (OpensF.cons (i := 2) (off := 2) (s := 1) rfl rfl (opens_nat (k := .u64) (hi := 18446744073709551615) Try.underlying35 (by kernel_rfl) (by decide) (by decide)) (OpensF.cons (i := 3) (off := 3) (s := 1) rfl rfl (opens_int (k := .i64) (lo := -9223372036854775808) (hi := 9223372036854775807) Try.underlying3 (by kernel_rfl) (by decide) (by decide)) (OpensF.cons (i := 4) (off := 4) (s := 1) rfl rfl (opens_slice (bytes := 80) Try.underlying36 (by kernel_rfl) (by kernel_rfl) (by decide) (opens_OpD w)) (OpensF.cons (i := 5) (off := 5) (s := 1) rfl rfl (opens_slice (bytes := 48) Try.underlying37 (by kernel_rfl) (by kernel_rfl) (by decide) (opens_ResultD w)) OpensF.nil))))))).map (fun p => ⟨p.1, p.2.1, p.2.2.1, p.2.2.2.1, p.2.2.2.2.1, p.2.2.2.2.2.1⟩) SeenD.len (fun _ => rfl) (fun _ h => ⟨h.1, h.2.1, h.2.2.1, h.2.2.2.1, h.2.2.2.2.1, h.2.2.2.2.2.1⟩) fun _ => Nat.le_refl _

instance : Inhabited SeenD := ⟨⟨default, default, default, default, default, default⟩⟩

structure SeenT where
 xKind : Int
 xClient : Int
 xReq : Nat
 xCode : Int
 xOps : Ll OpD
 xResults : Ll ResultT

instance : Inhabited SeenT := ⟨⟨default, default, default, default, default, default⟩⟩

def SeenD.abs (x : SeenD) : SeenT := ⟨x.xKind, x.xClient, x.xReq, x.xCode, ⟨x.xOps.ls⟩, ⟨List.map ResultD.abs x.xResults.ls⟩⟩

def SeenD.own (x : SeenD) : List HP := [row x.xOps.A x.xOps.ls.length x.xOps.c (List.flatMap OpD.cells x.xOps.ls) 53 6, row x.xResults.A x.xResults.ls.length x.xResults.c (List.flatMap ResultD.cells x.xResults.ls) 84 3, sepL (List.flatMap ResultD.own x.xResults.ls)]

def judge_check (p0 : SeenT) : Int :=
 if p0.xKind = 1 then if p0.xClient < 1 then 1 else if p0.xClient > 4 then 1 else bnd (op_Check p0.xOps.ls) fun yr34 => if yr34 = 0 then 0 else 1 else if p0.xKind = 2 then if p0.xClient < 1 then 1 else if p0.xClient > 4 then 1 else 0 else if p0.xKind = 3 then if p0.xClient < 1 then 1 else if p0.xClient > 4 then 1 else if p0.xCode = 1 then 0 else if p0.xCode = 2 then 0 else 1 else 1

set_option maxRecDepth 100000 in
theorem judge_check_ok (w : World) (D : Nat → Prop) (p0 : SeenT) (A0x0 : Option Addr) (n0x0 c0x0 : Nat) (A0x1 : Option Addr) (n0x1 c0x1 : Nat) (d0x1 : List ResultD) (r0 : Int) (H : Own w D w []) (hn0x0 : n0x0 = p0.xOps.ls.length) (hx0x0 : Ro w D fun w' => Rds w' 6 A0x0 p0.xOps.ls.length (List.flatMap OpD.cells p0.xOps.ls)) (hb0x0 : p0.xOps.ls.length ≤ c0x0 ∧ p0.xOps.ls.length ≤ 9223372036854775807) (hd0x1 : List.map ResultD.abs d0x1 = p0.xResults.ls) (hn0x1 : n0x1 = p0.xResults.ls.length) (hx0x1 : Ro w D fun w' => Rds w' 3 A0x1 p0.xResults.ls.length (List.flatMap ResultD.cells d0x1)) (hb0x1 : p0.xResults.ls.length ≤ c0x1 ∧ p0.xResults.ls.length ≤ 9223372036854775807) (hm0x1 : ∀ x ∈ d0x1, Ro w D (fun w' => Rds w' 2 x.xPairs.A x.xPairs.ls.length (List.flatMap PairD.cells x.xPairs.ls)) ∧ (x.xPairs.ls.length ≤ x.xPairs.c ∧ x.xPairs.ls.length ≤ 9223372036854775807)) (hr : judge_check p0 = r0) :
    Calls Try.prog 33 #[.agg #[.int .i64 p0.xKind, .int .i64 p0.xClient, .int .u64 ((p0.xReq : Nat) : Int), .int .i64 p0.xCode, .slice A0x0 n0x0 c0x0, .slice A0x1 n0x1 c0x1]] w (Ret fun v w' => v = .int .i64 r0 ∧ Own w D w' [] ∧ (¬ (r0 = 0) ∨ ¬ (p0.xKind = 1) ∨ p0.xOps.ls.length ≤ 24)) := by
 subst hn0x0 hn0x1
 have hdl0x1 := abs_len hd0x1
 refine Calls.body (args := [.agg #[.int .i64 p0.xKind, .int .i64 p0.xClient, .int .u64 ((p0.xReq : Nat) : Int), .int .i64 p0.xCode, .slice A0x0 p0.xOps.ls.length c0x0, .slice A0x1 p0.xResults.ls.length c0x1]]) Try.func33 rfl rfl rfl ?_
 show Wp _ _ _ [(0, .agg #[.int .i64 p0.xKind, .int .i64 p0.xClient, .int .u64 ((p0.xReq : Nat) : Int), .int .i64 p0.xCode, .slice A0x0 p0.xOps.ls.length c0x0, .slice A0x1 p0.xResults.ls.length c0x1])] _ _
 refine sr ?_
 refine npw [.int .i64 p0.xKind, .int .i64 p0.xClient, .int .u64 ((p0.xReq : Nat) : Int), .int .i64 p0.xCode, .slice A0x0 p0.xOps.ls.length c0x0, .slice A0x1 p0.xResults.ls.length c0x1] 39 H ?_
 intro g21 w22 H23
 refine Ar rfl (Kz (.pointer (some ⟨g21, 0, none⟩)) (Lz (.int .i64 p0.xKind) H23 0 Try.isAgg3 (Kz (.bool (decide (p0.xKind = 1))) (Mz rfl ?_))))
 by_cases h24 : p0.xKind = 1
 refine Sz (dT h24) (Sz (dT h24) (Sz (dT h24) (fw (.bool true) (Yl.pickT rfl (dT h24) rfl) (Mz rfl (Sz rfl (Sz rfl (Sz rfl (fw (.bool true) (Yl.pickT rfl rfl rfl) (An rfl (Wp.seq (sr (Mz rfl (Kz (.bool false) (Mz rfl (Gz (.pointer (some ⟨g21, 1, none⟩)) rfl (Gl (.int .i64 p0.xClient) rfl H23 0 Try.isAgg3 (Gz (.bool (decide (p0.xClient < 1))) rfl (fw (.bool (decide (p0.xClient < 1))) (Yl.pickF rfl rfl rfl) (Mz rfl ?_)))))))))))))))))))
 by_cases h25 : p0.xClient < 1
 refine Sz (dT h25) (Sz (dT h25) (Sz (dT h25) (fw (.bool true) (Yl.pickT rfl (dT h25) rfl) (nt (jt (sr (An rfl (rt (tR (rs ?_))))))))))
 have H26 := H23.pk []
 obtain rfl : _ = 1 := hr.symm.trans (et (ip h24) (ip h25))
 exact ⟨rfl, H26, (by first | omega | (dsimp only; omega))⟩
 refine Gz (.pointer (some ⟨g21, 1, none⟩)) (dF h25) (Gl (.int .i64 p0.xClient) (dF h25) H23 0 Try.isAgg3 (Gz (.bool (decide (p0.xClient > 4))) (dF h25) (fw (.bool (decide (p0.xClient > 4))) (Yl.pickF rfl (dF h25) rfl) (nt ?_))))
 by_cases h27 : p0.xClient > 4
 refine jT (dT h27) (sr (An rfl (rt (tR (rs ?_)))))
 have H28 := H23.pk []
 obtain rfl : _ = 1 := hr.symm.trans (et (ip h24) (et (iN h25) (ip h27)))
 exact ⟨rfl, H28, (by first | omega | (dsimp only; omega))⟩
 refine jF (dF h27) (sk (Wp.seq (sr (Kz (.pointer (some ⟨g21, 0, none⟩)) (Lz (.int .i64 p0.xKind) H23 0 Try.isAgg3 (Kz (.bool (decide (p0.xKind = 1))) (Mz rfl (Gz (.pointer (some ⟨g21, 4, none⟩)) (dT h24) (Gl (.slice A0x0 p0.xOps.ls.length c0x0) (dT h24) H23 0 Try.isAgg36 ?_)))))))))
 obtain ⟨r34, hr35⟩ : ∃ q, op_Check p0.xOps.ls = q := ⟨_, rfl⟩
 obtain ⟨D29, HP30, ro31, bk32, rr33⟩ := Own.enter0 H23
 refine clG (dT h24) Try.call40 (op_Check_ok _ _ A0x0 p0.xOps.ls.length c0x0 p0.xOps.ls r34 HP30 (ro31 _ hx0x0) rfl (by omega) hr35) ?_
 rintro _ w36 ⟨rfl, HQ37, hk39⟩
 have H38 := bk32 _ _ HQ37
 replace hk39 : ¬ (r34 = 0) ∨ p0.xOps.ls.length ≤ 24 := hk39
 refine gw (.bool (decide (¬ (r34 = 0)))) (dT h24) (Yl.bool (e := !(decide (r34 = 0))) yk decide_not.symm) (fw (.bool (decide (¬ (r34 = 0)))) (Yl.pickT rfl (dT h24) rfl) (nt ?_))
 by_cases h40 : r34 = 0
 refine jF (dF (not_not_intro h40)) (sk (Wp.seq (sr (Kz (.pointer (some ⟨g21, 0, none⟩)) (Lz (.int .i64 p0.xKind) H38 0 Try.isAgg3 (Kz (.bool (decide (p0.xKind = 3))) (Mz rfl ?_)))))))
 have hb41 : (decide (p0.xKind = 3)) = false := (dF (by omega))
 refine Sz hb41 (Sz hb41 (Sz hb41 (fw (.bool false) (Yl.pickF rfl hb41 rfl) (Mz rfl (Sz rfl (Sz rfl (Sz rfl (fw (.bool false) (Yl.pickF rfl rfl rfl) (nt (jf (sk (sr (An rfl (rt (rs ?_)))))))))))))))
 have H42 := H38.pk []
 obtain rfl : _ = 0 := hr.symm.trans (et (ip h24) (et (iN h25) (et (iN h27) (et (bnd_of hr35) (ip h40)))))
 exact ⟨rfl, H42, (by first | omega | (dsimp only; omega))⟩
 refine jT (dT h40) (sr (An rfl (rt (tR (rs ?_)))))
 have H43 := H38.pk []
 obtain rfl : _ = 1 := hr.symm.trans (et (ip h24) (et (iN h25) (et (iN h27) (et (bnd_of hr35) (iN h40)))))
 exact ⟨rfl, H43, (by first | omega | (dsimp only; omega))⟩
 refine Gz (.pointer (some ⟨g21, 0, none⟩)) (dF h24) (Gl (.int .i64 p0.xKind) (dF h24) H23 0 Try.isAgg3 (Gz (.bool (decide (p0.xKind = 2))) (dF h24) (fw (.bool (decide (p0.xKind = 2))) (Yl.pickF rfl (dF h24) rfl) (Mz rfl ?_))))
 by_cases h44 : p0.xKind = 2
 refine Sz (dT h44) (Sz (dT h44) (Sz (dT h44) (fw (.bool true) (Yl.pickT rfl (dT h44) rfl) (An rfl (Wp.seq (sr (Mz rfl (Kz (.bool false) (Mz rfl (Gz (.pointer (some ⟨g21, 1, none⟩)) rfl (Gl (.int .i64 p0.xClient) rfl H23 0 Try.isAgg3 (Gz (.bool (decide (p0.xClient < 1))) rfl (fw (.bool (decide (p0.xClient < 1))) (Yl.pickF rfl rfl rfl) (Mz rfl ?_))))))))))))))
 by_cases h45 : p0.xClient < 1
 refine Sz (dT h45) (Sz (dT h45) (Sz (dT h45) (fw (.bool true) (Yl.pickT rfl (dT h45) rfl) (nt (jt (sr (An rfl (rt (tR (rs ?_))))))))))
 have H46 := H23.pk []
 obtain rfl : _ = 1 := hr.symm.trans (et (iN h24) (et (ip h44) (ip h45)))
 exact ⟨rfl, H46, (by first | omega | (dsimp only; omega))⟩
 refine Gz (.pointer (some ⟨g21, 1, none⟩)) (dF h45) (Gl (.int .i64 p0.xClient) (dF h45) H23 0 Try.isAgg3 (Gz (.bool (decide (p0.xClient > 4))) (dF h45) (fw (.bool (decide (p0.xClient > 4))) (Yl.pickF rfl (dF h45) rfl) (nt ?_))))
 by_cases h47 : p0.xClient > 4
 refine jT (dT h47) (sr (An rfl (rt (tR (rs ?_)))))
 have H48 := H23.pk []
 obtain rfl : _ = 1 := hr.symm.trans (et (iN h24) (et (ip h44) (et (iN h45) (ip h47))))
 exact ⟨rfl, H48, (by first | omega | (dsimp only; omega))⟩
 refine jF (dF h47) (sk (Wp.seq (sr (Kz (.pointer (some ⟨g21, 0, none⟩)) (Lz (.int .i64 p0.xKind) H23 0 Try.isAgg3 (Kz (.bool (decide (p0.xKind = 1))) (Mz rfl (Sz (dF h24) (Sz (dF h24) (Sz (dF h24) (Sz (dF h24) (fw (.bool false) (Yl.pickF rfl (dF h24) rfl) (nt (jf (sk (Wp.seq (sr (Kz (.pointer (some ⟨g21, 0, none⟩)) (Lz (.int .i64 p0.xKind) H23 0 Try.isAgg3 (Kz (.bool (decide (p0.xKind = 3))) (Mz rfl ?_)))))))))))))))))))))
 have hb49 : (decide (p0.xKind = 3)) = false := (dF (by omega))
 refine Sz hb49 (Sz hb49 (Sz hb49 (fw (.bool false) (Yl.pickF rfl hb49 rfl) (Mz rfl (Sz rfl (Sz rfl (Sz rfl (fw (.bool false) (Yl.pickF rfl rfl rfl) (nt (jf (sk (sr (An rfl (rt (rs ?_)))))))))))))))
 have H50 := H23.pk []
 obtain rfl : _ = 0 := hr.symm.trans (et (iN h24) (et (ip h44) (et (iN h45) (iN h47))))
 exact ⟨rfl, H50, (by first | omega | (dsimp only; omega))⟩
 refine Gz (.pointer (some ⟨g21, 0, none⟩)) (dF h44) (Gl (.int .i64 p0.xKind) (dF h44) H23 0 Try.isAgg3 (Gz (.bool (decide (p0.xKind = 3))) (dF h44) (fw (.bool (decide (p0.xKind = 3))) (Yl.pickF rfl (dF h44) rfl) (An rfl (Wp.seq (sr (Mz rfl (fw (.bool (decide (¬ (p0.xKind = 3)))) (Yl.bool (e := !(decide (p0.xKind = 3))) yk decide_not.symm) (Mz rfl ?_)))))))))
 by_cases h51 : p0.xKind = 3
 refine gw (.pointer (some ⟨g21, 1, none⟩)) (dF (not_not_intro h51)) yk (gw (.int .i64 p0.xClient) (dF (not_not_intro h51)) (Yl.load rfl (Lds.one Try.isAgg3 (Cls.of (H23.cls (i := 0) rfl) rfl))) (gw (.bool (decide (p0.xClient < 1))) (dF (not_not_intro h51)) yk (fw (.bool (decide (p0.xClient < 1))) (Yl.pickF rfl (dF (not_not_intro h51)) rfl) (Mz rfl ?_))))
 by_cases h52 : p0.xClient < 1
 refine Sz (dT h52) (Sz (dT h52) (Sz (dT h52) (fw (.bool true) (Yl.pickT rfl (dT h52) rfl) (nt (jt (sr (An rfl (rt (tR (rs ?_))))))))))
 have H53 := H23.pk []
 obtain rfl : _ = 1 := hr.symm.trans (et (iN h24) (et (iN h44) (et (ip h51) (ip h52))))
 exact ⟨rfl, H53, (by first | omega | (dsimp only; omega))⟩
 refine Gz (.pointer (some ⟨g21, 1, none⟩)) (dF h52) (Gl (.int .i64 p0.xClient) (dF h52) H23 0 Try.isAgg3 (Gz (.bool (decide (p0.xClient > 4))) (dF h52) (fw (.bool (decide (p0.xClient > 4))) (Yl.pickF rfl (dF h52) rfl) (nt ?_))))
 by_cases h54 : p0.xClient > 4
 refine jT (dT h54) (sr (An rfl (rt (tR (rs ?_)))))
 have H55 := H23.pk []
 obtain rfl : _ = 1 := hr.symm.trans (et (iN h24) (et (iN h44) (et (ip h51) (et (iN h52) (ip h54)))))
 exact ⟨rfl, H55, (by first | omega | (dsimp only; omega))⟩
 refine jF (dF h54) (sk (Wp.seq (sr (Kz (.pointer (some ⟨g21, 0, none⟩)) (Lz (.int .i64 p0.xKind) H23 0 Try.isAgg3 (Kz (.bool (decide (p0.xKind = 1))) (Mz rfl (Sz (dF h24) (Sz (dF h24) (Sz (dF h24) (Sz (dF h24) (fw (.bool false) (Yl.pickF rfl (dF h24) rfl) (nt (jf (sk (Wp.seq (sr (Kz (.pointer (some ⟨g21, 0, none⟩)) (Lz (.int .i64 p0.xKind) H23 0 Try.isAgg3 (Kz (.bool (decide (p0.xKind = 3))) (Mz rfl (Gz (.pointer (some ⟨g21, 3, none⟩)) (dT h51) (Gl (.int .i64 p0.xCode) (dT h51) H23 0 Try.isAgg3 (gw (.bool (decide (¬ (p0.xCode = 1)))) (dT h51) (Yl.bool (e := !(decide (p0.xCode = 1))) yk decide_not.symm) (fw (.bool (decide (¬ (p0.xCode = 1)))) (Yl.pickT rfl (dT h51) rfl) (Mz rfl ?_))))))))))))))))))))))))))
 by_cases h56 : p0.xCode = 1
 refine Sk rfl rfl (dF (not_not_intro h56)) rfl (Sk rfl rfl (dF (not_not_intro h56)) rfl (Sk rfl rfl (dF (not_not_intro h56)) rfl (fw (.bool false) (Yl.pickF rfl (dF (not_not_intro h56)) rfl) (nt (jf (sk (sr (An rfl (rt (rs ?_))))))))))
 have H57 := H23.pk []
 obtain rfl : _ = 0 := hr.symm.trans (et (iN h24) (et (iN h44) (et (ip h51) (et (iN h52) (et (iN h54) (ip h56))))))
 exact ⟨rfl, H57, (by first | omega | (dsimp only; omega))⟩
 refine Gz (.pointer (some ⟨g21, 3, none⟩)) (dT h56) (Gl (.int .i64 p0.xCode) (dT h56) H23 0 Try.isAgg3 (gw (.bool (decide (¬ (p0.xCode = 2)))) (dT h56) (Yl.bool (e := !(decide (p0.xCode = 2))) yk decide_not.symm) (fw (.bool (decide (¬ (p0.xCode = 2)))) (Yl.pickT rfl (dT h56) rfl) (nt ?_))))
 by_cases h58 : p0.xCode = 2
 refine jF (dF (not_not_intro h58)) (sk (sr (An rfl (rt (rs ?_)))))
 have H59 := H23.pk []
 obtain rfl : _ = 0 := hr.symm.trans (et (iN h24) (et (iN h44) (et (ip h51) (et (iN h52) (et (iN h54) (et (iN h56) (ip h58)))))))
 exact ⟨rfl, H59, (by first | omega | (dsimp only; omega))⟩
 refine jT (dT h58) (sr (An rfl (rt (tR (rs ?_)))))
 have H60 := H23.pk []
 obtain rfl : _ = 1 := hr.symm.trans (et (iN h24) (et (iN h44) (et (ip h51) (et (iN h52) (et (iN h54) (et (iN h56) (iN h58)))))))
 exact ⟨rfl, H60, (by first | omega | (dsimp only; omega))⟩
 refine Sz (dT h51) (Sz (dT h51) (Sz (dT h51) (fw (.bool true) (Yl.pickT rfl (dT h51) rfl) (Mz rfl (Sz rfl (Sz rfl (Sz rfl (fw (.bool true) (Yl.pickT rfl rfl rfl) (nt (jt (sr (An rfl (rt (tR (rs ?_)))))))))))))))
 have H61 := H23.pk []
 obtain rfl : _ = 1 := hr.symm.trans (et (iN h24) (et (iN h44) (iN h51)))
 exact ⟨rfl, H61, (by first | omega | (dsimp only; omega))⟩

def slices_Equal_api_Pair_api_Pair_L0 (l1 : List PairD) : List PairD → Nat → Unit ⊕ Bool
  | [], k22 => Sum.inl ()
  | x34 :: q23, k22 => bnd (List.getD l1 k22 default) fun yx39 => if (x34.xKey = yx39.xKey) ∧ (x34.xValue = yx39.xValue) then slices_Equal_api_Pair_api_Pair_L0 l1 q23 (k22 + 1) else Sum.inr (false)

def slices_Equal_api_Pair_api_Pair (l0 : List PairD) (l1 : List PairD) : Bool :=
 if ((l0.length : Nat) : Int) = ((l1.length : Nat) : Int) then lp (slices_Equal_api_Pair_api_Pair_L0 l1 l0 0) fun _ => true else false

set_option maxRecDepth 100000 in
theorem slices_Equal_api_Pair_api_Pair_ok (w : World) (D : Nat → Prop) (A0 : Option Addr) (n0 c0 : Nat) (l0 : List PairD) (A1 : Option Addr) (n1 c1 : Nat) (l1 : List PairD) (r0 : Bool) (H : Own w D w []) (hx0 : Ro w D fun w' => Rds w' 2 A0 n0 (List.flatMap PairD.cells l0)) (hn0 : n0 = l0.length) (hl0 : l0.length ≤ 9223372036854775807) (hx1 : Ro w D fun w' => Rds w' 2 A1 n1 (List.flatMap PairD.cells l1)) (hn1 : n1 = l1.length) (hl1 : l1.length ≤ 9223372036854775807) (hr : slices_Equal_api_Pair_api_Pair l0 l1 = r0) :
    Calls Try.prog 51 #[.slice A0 n0 c0, .slice A1 n1 c1] w (Ret fun v w' => v = .bool r0 ∧ Own w D w' []) := by
 subst hn0 hn1
 refine Calls.body (args := [.slice A0 l0.length c0, .slice A1 l1.length c1]) Try.func51 rfl rfl rfl ?_
 show Wp _ _ _ [(0, .slice A0 l0.length c0), (1, .slice A1 l1.length c1)] _ _
 refine sr (An rfl (Wp.seq (sr (Mz rfl (Kz (.int .i64 ((l0.length : Nat) : Int)) (Mz rfl (Kz (.int .i64 ((l1.length : Nat) : Int)) (fw (.bool (decide (¬ (((l0.length : Nat) : Int) = ((l1.length : Nat) : Int))))) (Yl.bool (e := !(decide (((l0.length : Nat) : Int) = ((l1.length : Nat) : Int)))) yk decide_not.symm) (nt ?_)))))))))
 by_cases h21 : ((l0.length : Nat) : Int) = ((l1.length : Nat) : Int)
 refine jF (dF (not_not_intro h21)) (sk (Wp.seq (sr (Mz rfl (Kz (.int .i64 ((l0.length : Nat) : Int)) (Mn rfl (bo ?_)))))))
 have H24 : Own w D w [] := H.pk []
 obtain ⟨I28, hI29⟩ : ∃ q : Nat → World → Prop, q = fun (i : Nat) w' => Own w D w' [] ∧ (i ≤ l0.length ∧ slices_Equal_api_Pair_api_Pair_L0 l1 l0 0 = slices_Equal_api_Pair_api_Pair_L0 l1 (List.drop i l0) i) := ⟨_, rfl⟩
 have dm30 : ∀ {k22 : Nat} {w' : World}, I28 k22 w' ↔ Own w D w' [] ∧ k22 ≤ l0.length ∧ slices_Equal_api_Pair_api_Pair_L0 l1 l0 0 = slices_Equal_api_Pair_api_Pair_L0 l1 (List.drop k22 l0) k22 := by intros; subst hI29; exact Iff.rfl
 refine Wp.loop (fun i : Nat => [(4, .bool false), (13, .int .i64 ((i : Nat) : Int)), (12, .int .i64 ((l0.length : Nat) : Int)), (0, .slice A0 l0.length c0), (1, .slice A1 l1.length c1)]) I28 (fun i => l0.length - i) 0 ⟨rfl, rfl, rfl, rfl, rfl, trivial⟩ (dm30.2 ⟨H24, by omega, rfl⟩) ?_
 rintro k22 w25 hf27
 show Wp _ _ _ [(4, .bool false), (13, .int .i64 ((k22 : Nat) : Int)), (12, .int .i64 ((l0.length : Nat) : Int)), (0, .slice A0 l0.length c0), (1, .slice A1 l1.length c1)] _ _
 obtain ⟨H26, hi32, hq31⟩ := dm30.1 hf27
 refine sr (Kz (.bool (decide (((k22 : Nat) : Int) < ((l0.length : Nat) : Int)))) (nt (Wp.seq ?_)))
 by_cases h33 : ((k22 : Nat) : Int) < ((l0.length : Nat) : Int)
 obtain ⟨x34, hx35⟩ := rds_at (ls := l0) (i := k22) PairD.len (by decide) (H26.ro hx0) (by first | omega | (simp; done) | (simp; omega))
 have hd36 := drop_at hx35
 refine jT (dT h33) (sk (Wp.seq (bo (sr (Mz rfl (An rfl (Wp.seq ?_)))))))
 have H38 := H26.drew
 refine Wp.drawnX [] (fun W => ∃ L', Own w D W ([] ++ L')) (by kernel_rfl) (by kernel_rfl) (NoP.then (NoP.block (NoP.then (NoP.then (NoP.block (NoP.then NoP.base)))))) ⟨_, H38⟩ ?_
 revert H38
 generalize World.drew w25 = w37
 intro H38
 refine GX.take (v := .slice A0 l0.length c0) (rs := []) 0 rfl (by kernel_rfl) (fun _ _ => Yl.move rfl) (GX.take (v := .int .i64 ((k22 : Nat) : Int)) (rs := []) 1 rfl (by kernel_rfl) (fun _ _ => Yl.move rfl) (GX.take (v := .pointer (some ⟨ab A0, ao A0 + k22 * 2, none⟩)) (rs := []) 2 rfl (by kernel_rfl) (fun _ ⟨_, H9⟩ => Yl.indexAddr (El27) rfl rfl ((H9.ro hx0).addr (i := k22) (by omega)) (by omega)) (GX.take (v := .agg (PairD.cells x34).toArray) (rs := []) 3 rfl (by kernel_rfl) (fun _ ⟨_, H9⟩ => Yl.load rfl (Lds.agg (cs := (PairD.cells x34)) Try.isAgg32 Try.sizeOf32 ((H9.ro hx0).elem PairD.len hx35 (by decide)))) (GX.take (v := .slice A1 l1.length c1) (rs := []) 4 rfl (by kernel_rfl) (fun _ _ => Yl.move rfl) (GX.take (v := .int .i64 ((k22 : Nat) : Int)) (rs := []) 5 rfl (by kernel_rfl) (fun _ _ => Yl.move rfl) ?_)))))
 obtain ⟨x39, hx40⟩ := at_of (ls := l1) (i := k22) (by first | omega | (simp; done) | (simp; omega))
 refine GX.take (v := .pointer (some ⟨ab A1, ao A1 + k22 * 2, none⟩)) (rs := []) 6 rfl (by kernel_rfl) (fun _ ⟨_, H9⟩ => Yl.indexAddr (El27) rfl rfl ((H9.ro hx1).addr (i := k22) (by omega)) (by omega)) (GX.take (v := .agg (PairD.cells x39).toArray) (rs := []) 7 rfl (by kernel_rfl) (fun _ ⟨_, H9⟩ => Yl.load rfl (Lds.agg (cs := (PairD.cells x39)) Try.isAgg32 Try.sizeOf32 ((H9.ro hx1).elem PairD.len hx40 (by decide)))) (GX.take (v := .bool (decide (¬ ((x34.xKey = x39.xKey) ∧ (x34.xValue = x39.xValue))))) (rs := []) 8 rfl (by kernel_rfl) (fun _ _ => Yl.bool (e := !(decide ((x34.xKey = x39.xKey) ∧ (x34.xValue = x39.xValue)))) (Yl.neAgg rfl rfl (by kernel_rfl) rfl (Eqv.struct Try.underlying32 (by kernel_rfl) (EqF.dec (EqF.cons (u := .string ⟨List.toArray x34.xKey⟩) (v := .string ⟨List.toArray x39.xKey⟩) (by decide) (fun _ => by kernel_rfl) (fun _ => by kernel_rfl) (Eqv.string Try.underlying9) (EqF.cons (u := .string ⟨List.toArray x34.xValue⟩) (v := .string ⟨List.toArray x39.xValue⟩) (by decide) (fun _ => by kernel_rfl) (fun _ => by kernel_rfl) (Eqv.string Try.underlying9) (EqF.nil.up (Nat.zero_le _)))) ((congrArg (decide (x34.xKey = x39.xKey) && ·) and_dec1).trans and_dec)))) decide_not.symm) (GX.done (by kernel_rfl) (Fin.then ?_))))
 by_cases h41 : (x34.xKey = x39.xKey) ∧ (x34.xValue = x39.xValue)
 refine jF (dF (not_not_intro h41)) (Wp.skip (bN (Fin.then (Wp.region (fw (.int .i64 ((k22 + 1 : Nat) : Int)) (Yl.int (e := IntKind.i64.wrap (((k22 : Nat) : Int) + 1)) yk (by rw [IntWalk.i64_in _ (by omega)]; omega)) (Mz rfl (WL.nil ?_)))))))
 have H42 := H38.pk []
 exact Fin.round (k22 + 1) ⟨rfl, rfl, rfl, rfl, rfl, trivial⟩ (dm30.2 ⟨H42, by omega, et (hq31) (et (congrArg (fun q => slices_Equal_api_Pair_api_Pair_L0 l1 q k22) hd36) (et (bnd_of (getD_of hx40)) (ip h41)))⟩) (by show l0.length - (k22 + 1) < l0.length - k22; omega)
 refine jT (dT h41) (sr (An rfl (rt (bR (tR (tR (bR (tR (rs ?_)))))))))
 have H43 := H38.pk []
 obtain rfl : _ = false := hr.symm.trans (et (ip h21) (lp_r (et (hq31) (et (congrArg (fun q => slices_Equal_api_Pair_api_Pair_L0 l1 q k22) hd36) (et (bnd_of (getD_of hx40)) (iN h41))))))
 exact ⟨rfl, H43⟩
 refine jF (dF h33) (Wp.exit (Fin.thenX ?_))
 have hL44 : slices_Equal_api_Pair_api_Pair_L0 l1 l0 0 = Sum.inl () := et (hq31) (et (congrArg (fun q => slices_Equal_api_Pair_api_Pair_L0 l1 q k22) (drop_end (ls := l0) (i := k22) (by omega))) rfl)
 refine Fin.thenX (Fin.blockX (Fin.then (sr (An rfl (rt (rs ?_))))))
 have H45 := H26.pk []
 obtain rfl : _ = true := hr.symm.trans (et (ip h21) (lp_l hL44))
 exact ⟨rfl, H45⟩
 refine jT (dT h21) (sr (An rfl (rt (tR (rs ?_)))))
 have H46 : Own w D w [] := H.pk []
 obtain rfl : _ = false := hr.symm.trans (iN h21)
 exact ⟨rfl, H46⟩

def judge_same (p0 : ResultT) (p1 : ResultT) : Bool :=
 if p0.xFound = p1.xFound then if p0.xValue = p1.xValue then bnd (slices_Equal_api_Pair_api_Pair p0.xPairs.ls p1.xPairs.ls) fun yr34 => yr34 else false else false

set_option maxRecDepth 100000 in
theorem judge_same_ok (w : World) (D : Nat → Prop) (p0 : ResultT) (A0x0 : Option Addr) (n0x0 c0x0 : Nat) (p1 : ResultT) (A1x0 : Option Addr) (n1x0 c1x0 : Nat) (r0 : Bool) (H : Own w D w []) (hn0x0 : n0x0 = p0.xPairs.ls.length) (hx0x0 : Ro w D fun w' => Rds w' 2 A0x0 p0.xPairs.ls.length (List.flatMap PairD.cells p0.xPairs.ls)) (hb0x0 : p0.xPairs.ls.length ≤ c0x0 ∧ p0.xPairs.ls.length ≤ 9223372036854775807) (hn1x0 : n1x0 = p1.xPairs.ls.length) (hx1x0 : Ro w D fun w' => Rds w' 2 A1x0 p1.xPairs.ls.length (List.flatMap PairD.cells p1.xPairs.ls)) (hb1x0 : p1.xPairs.ls.length ≤ c1x0 ∧ p1.xPairs.ls.length ≤ 9223372036854775807) (hr : judge_same p0 p1 = r0) :
    Calls Try.prog 43 #[.agg #[.bool p0.xFound, .string ⟨List.toArray p0.xValue⟩, .slice A0x0 n0x0 c0x0], .agg #[.bool p1.xFound, .string ⟨List.toArray p1.xValue⟩, .slice A1x0 n1x0 c1x0]] w (Ret fun v w' => v = .bool r0 ∧ Own w D w' []) := by
 subst hn0x0 hn1x0
 refine Calls.body (args := [.agg #[.bool p0.xFound, .string ⟨List.toArray p0.xValue⟩, .slice A0x0 p0.xPairs.ls.length c0x0], .agg #[.bool p1.xFound, .string ⟨List.toArray p1.xValue⟩, .slice A1x0 p1.xPairs.ls.length c1x0]]) Try.func43 rfl rfl rfl ?_
 show Wp _ _ _ [(0, .agg #[.bool p0.xFound, .string ⟨List.toArray p0.xValue⟩, .slice A0x0 p0.xPairs.ls.length c0x0]), (1, .agg #[.bool p1.xFound, .string ⟨List.toArray p1.xValue⟩, .slice A1x0 p1.xPairs.ls.length c1x0])] _ _
 refine sr ?_
 refine npw [.bool p0.xFound, .string ⟨List.toArray p0.xValue⟩, .slice A0x0 p0.xPairs.ls.length c0x0] 84 H ?_
 intro g21 w22 H23
 refine npw [.bool p1.xFound, .string ⟨List.toArray p1.xValue⟩, .slice A1x0 p1.xPairs.ls.length c1x0] 84 H23 ?_
 intro g24 w25 H26
 refine Ar rfl (Kz (.pointer (some ⟨g21, 0, none⟩)) (Lz (.bool p0.xFound) H26 1 Try.isAgg4 (Kz (.pointer (some ⟨g24, 0, none⟩)) (Lz (.bool p1.xFound) H26 0 Try.isAgg4 (fw (.bool (decide (p0.xFound = p1.xFound))) (Yl.bool (e := (p0.xFound == p1.xFound)) yk (by first | exact Bool.beq_eq_decide_eq _ _ | (by_cases q : p0.xFound = p1.xFound <;> simp [q]))) (Mz rfl ?_))))))
 by_cases h27 : p0.xFound = p1.xFound
 refine Gz (.pointer (some ⟨g21, 1, none⟩)) (dT h27) (Gl (.string ⟨List.toArray p0.xValue⟩) (dT h27) H26 1 Try.isAgg9 (Gz (.pointer (some ⟨g24, 1, none⟩)) (dT h27) (Gl (.string ⟨List.toArray p1.xValue⟩) (dT h27) H26 0 Try.isAgg9 (gw (.bool (decide (p0.xValue = p1.xValue))) (dT h27) (Yl.strEq rfl rfl) (fw (.bool (decide (p0.xValue = p1.xValue))) (Yl.pickT rfl (dT h27) rfl) (Mz rfl ?_))))))
 by_cases h28 : p0.xValue = p1.xValue
 refine Gz (.pointer (some ⟨g21, 2, none⟩)) (dT h28) (Gl (.slice A0x0 p0.xPairs.ls.length c0x0) (dT h28) H26 1 Try.isAgg27 (Gz (.pointer (some ⟨g24, 2, none⟩)) (dT h28) (Gl (.slice A1x0 p1.xPairs.ls.length c1x0) (dT h28) H26 0 Try.isAgg27 ?_)))
 obtain ⟨r34, hr35⟩ : ∃ q, slices_Equal_api_Pair_api_Pair p0.xPairs.ls p1.xPairs.ls = q := ⟨_, rfl⟩
 obtain ⟨D29, HP30, ro31, bk32, rr33⟩ := Own.enter0 H26
 refine clG (dT h28) Try.call51 (slices_Equal_api_Pair_api_Pair_ok _ _ A0x0 p0.xPairs.ls.length c0x0 p0.xPairs.ls A1x0 p1.xPairs.ls.length c1x0 p1.xPairs.ls r34 HP30 (ro31 _ hx0x0) rfl (by omega) (ro31 _ hx1x0) rfl (by omega) hr35) ?_
 rintro _ w36 ⟨rfl, HQ37⟩
 have H38 := bk32 _ _ HQ37
 refine fw (.bool r34) (Yl.pickT rfl (dT h28) rfl) (An rfl (rt (rs ?_)))
 have H39 := H38.pk []
 obtain rfl : _ = r34 := hr.symm.trans (et (ip h27) (et (ip h28) (bnd_of hr35)))
 exact ⟨rfl, H39⟩
 refine Sz (dF h28) (Sz (dF h28) (Sz (dF h28) (Sz (dF h28) (Sz (dF h28) (fw (.bool false) (Yl.pickF rfl (dF h28) rfl) (An rfl (rt (rs ?_))))))))
 have H40 := H26.pk []
 obtain rfl : _ = false := hr.symm.trans (et (ip h27) (iN h28))
 exact ⟨rfl, H40⟩
 refine Sz (dF h27) (Sz (dF h27) (Sz (dF h27) (Sz (dF h27) (Sz (dF h27) (fw (.bool false) (Yl.pickF rfl (dF h27) rfl) (Mz rfl (Sz rfl (Sz rfl (Sz rfl (Sz rfl (Sz rfl (fw (.bool false) (Yl.pickF rfl rfl rfl) (An rfl (rt (rs ?_)))))))))))))))
 have H41 := H26.pk []
 obtain rfl : _ = false := hr.symm.trans (iN h27)
 exact ⟨rfl, H41⟩

structure requestD where
 xclient : Int
 xreq : Nat

def requestD.cells (x : requestD) : List Value := [.int .i64 x.xclient, .int .u64 ((x.xreq : Nat) : Int)]

instance : Bk requestD := ⟨fun x _ => bk x.xclient + (bk x.xreq + (0))⟩

theorem requestD.len : ∀ x, (requestD.cells x).length = 2 := fun _ => rfl

theorem requestD.one : ∀ x, ∀ u ∈ requestD.cells x, u.oneCell' = true := fun x u hu => by
 simp only [requestD.cells, List.mem_cons, List.not_mem_nil, or_false] at hu
 rcases hu with rfl | rfl <;> rfl

def requestD.Ok (w : World) (x : requestD) : Prop := ((-9223372036854775808) ≤ x.xclient ∧ x.xclient ≤ 9223372036854775807) ∧ (x.xreq ≤ 18446744073709551615)

set_option maxRecDepth 100000 in
theorem opens_requestD (w : World) : Opens Try.prog w 75 2 requestD.cells (requestD.Ok w) :=
 (opens_struct (sz := 2) Try.underlying75 (by kernel_rfl) (OpensF.cons (i := 0) (off := 0) (s := 1) rfl rfl (opens_int (k := .i64) (lo := -9223372036854775808) (hi := 9223372036854775807) Try.underlying3 (by kernel_rfl) (by decide) (by decide)) (OpensF.cons (i := 1) (off := 1) (s := 1) rfl rfl (opens_nat (k := .u64) (hi := 18446744073709551615) Try.underlying35 (by kernel_rfl) (by decide) (by decide)) OpensF.nil))).map (fun p => ⟨p.1, p.2.1⟩) requestD.len (fun _ => rfl) (fun _ h => ⟨h.1, h.2.1⟩) fun _ => Nat.le_refl _

instance : Inhabited requestD := ⟨⟨default, default⟩⟩

instance : DecidableEq requestD := fun a b => if h : a.xclient = b.xclient ∧ a.xreq = b.xreq then isTrue (by cases a; cases b; obtain ⟨h1, h2⟩ := h; simp only at h1 h2; subst h1; subst h2; rfl) else isFalse (fun e => h (by rw [e]; exact ⟨rfl, rfl⟩))

def requestD.key (q : requestD) : Value := .agg (List.toArray (requestD.cells q))

theorem kg_requestD : KeyG Try.prog 75 requestD.key := keyG_two (x := fun q => q.xclient) (y := fun q => ((q.xreq : Nat) : Int)) (fun _ => rfl) (fun a b h1 h2 => by
 cases a; cases b
 have e1 := h1
 have e2 := (Int.ofNat.inj h2)
 simp only at e1 e2
 subst e1; subst e2; rfl) Try.underlying75 rfl rfl Try.underlying3 Try.underlying35 (by decide) (by decide) (by kernel_rfl)

structure fateD where
 xops : Sv OpD
 xdecided : Bool
 xtold : Bool
 xresults : Sv ResultD

def fateD.cells (x : fateD) : List Value := [.slice x.xops.A x.xops.ls.length x.xops.c, .bool x.xdecided, .bool x.xtold, .slice x.xresults.A x.xresults.ls.length x.xresults.c]

instance : Bk fateD := ⟨fun x _ => bk x.xops + (bk x.xdecided + (bk x.xtold + (bk x.xresults + (0))))⟩

theorem fateD.len : ∀ x, (fateD.cells x).length = 4 := fun _ => rfl

theorem fateD.one : ∀ x, ∀ u ∈ fateD.cells x, u.oneCell' = true := fun x u hu => by
 simp only [fateD.cells, List.mem_cons, List.not_mem_nil, or_false] at hu
 rcases hu with rfl | rfl | rfl | rfl <;> rfl

def fateD.Ok (w : World) (x : fateD) : Prop := (SvOk w 6 80 OpD.cells (OpD.Ok w) x.xops) ∧ (True) ∧ (True) ∧ (SvOk w 3 48 ResultD.cells (ResultD.Ok w) x.xresults)

set_option maxRecDepth 100000 in
theorem opens_fateD (w : World) : Opens Try.prog w 77 4 fateD.cells (fateD.Ok w) :=
 (opens_struct (sz := 4) Try.underlying77 (by kernel_rfl) (OpensF.cons (i := 0) (off := 0) (s := 1) rfl rfl (opens_slice (bytes := 80) Try.underlying36 (by kernel_rfl) (by kernel_rfl) (by decide) (opens_OpD w)) (OpensF.cons (i := 1) (off := 1) (s := 1) rfl rfl (opens_bool Try.underlying4 (by kernel_rfl)) (OpensF.cons (i := 2) (off := 2) (s := 1) rfl rfl (opens_bool Try.underlying4 (by kernel_rfl)) (OpensF.cons (i := 3) (off := 3) (s := 1) rfl rfl (opens_slice (bytes := 48) Try.underlying37 (by kernel_rfl) (by kernel_rfl) (by decide) (opens_ResultD w)) OpensF.nil))))).map (fun p => ⟨p.1, p.2.1, p.2.2.1, p.2.2.2.1⟩) fateD.len (fun _ => rfl) (fun _ h => ⟨h.1, h.2.1, h.2.2.1, h.2.2.2.1⟩) fun _ => Nat.le_refl _

instance : Inhabited fateD := ⟨⟨default, default, default, default⟩⟩

structure fateT where
 xops : Ll OpD
 xdecided : Bool
 xtold : Bool
 xresults : Ll ResultT

instance : Inhabited fateT := ⟨⟨default, default, default, default⟩⟩

def fateD.abs (x : fateD) : fateT := ⟨⟨x.xops.ls⟩, x.xdecided, x.xtold, ⟨List.map ResultD.abs x.xresults.ls⟩⟩

def fateD.own (x : fateD) : List HP := [row x.xops.A x.xops.ls.length x.xops.c (List.flatMap OpD.cells x.xops.ls) 53 6, row x.xresults.A x.xresults.ls.length x.xresults.c (List.flatMap ResultD.cells x.xresults.ls) 84 3, sepL (List.flatMap ResultD.own x.xresults.ls)]

def fateD.val (q : fateD) : Value := .agg (List.toArray (fateD.cells q))

def fateD.zero : fateD := (fateD.mk (Sv.mk none 0 []) false false (Sv.mk none 0 []))

def OpsOk (m : List (requestD × fateT)) : Prop := ∀ p ∈ m, p.2.xops.ls.length ≤ 24

theorem ops_put {m : List (requestD × fateT)} {k : requestD} {v : fateT} (h : OpsOk m) (hv : v.xops.ls.length ≤ 24) : OpsOk (mput m k v) := by
 induction m with
  | nil => intro p hp; simp only [mput, List.mem_singleton] at hp; subst hp; exact hv
  | cons q r ih =>
    obtain ⟨a, b⟩ := q
    intro p hp
    unfold mput at hp
    by_cases e : a = k
    · rw [ip e] at hp
      rcases List.mem_cons.1 hp with rfl | hp
      · exact hv
      · exact h p (.tail _ hp)
    · rw [iN e] at hp
      rcases List.mem_cons.1 hp with rfl | hp
      · exact h _ (.head _)
      · exact ih (fun q hq => h q (.tail _ hq)) p hp

theorem ops_get {m : List (requestD × fateT)} {k : requestD} {v : fateT} (h : OpsOk m) (hg : mget m k = some v) : v.xops.ls.length ≤ 24 := by
 obtain ⟨j, hj⟩ := mget_some hg
 exact h _ (List.mem_of_getElem? hj)
end Go.Proofs.Ytjcdgofegkngpaa
