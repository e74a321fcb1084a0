/-
 sorting numbers of 64 bits: how it is broken up.
-/
import Derived.Test.YtggnajpokhaaiaaTbA
namespace Go.Proofs.Ytggnajpokhaaiaa
open Go.RowKit
set_option linter.unusedVariables false
set_option linter.unusedSectionVars false
set_option linter.unusedSimpArgs false
def slices_nextPowerOfTwo (p0 : Int) : Nat :=
 bShl64 1 (Go.Sort.bitsLen (Int.toNat p0))
set_option maxRecDepth 100000 in
theorem slices_nextPowerOfTwo_ok (w : World) (D : Nat → Prop) (p0 : Int) (r0 : Nat) (H : Own w D w []) (hh0 : 1 ≤ p0 ∧ p0 ≤ 4611686018427387904) (hr : slices_nextPowerOfTwo p0 = r0) :
    Calls Try.prog 85 #[.int .i64 p0] w (Ret fun v w' => v = .int .u64 ((r0 : Nat) : Int) ∧ Own w D w' [] ∧ (1 ≤ r0 ∧ ((r0 : Nat) : Int) ≤ 2 * p0)) := by
 refine Calls.body (args := [.int .i64 p0]) Try.func85 rfl rfl rfl ?_
 show Wp _ _ _ [(0, .int .i64 p0)] _ _
 refine sr (Ar rfl (Mz rfl (fw (.int .u64 ((Int.toNat p0 : Nat) : Int)) (Yl.int (e := IntKind.u64.wrap p0) yk (by rw [IntWalk.u64_in _ (by omega)]; omega)) ?_)))
 obtain ⟨D21, HP22, ro23, bk24, rr25⟩ := Own.enter (L1 := []) (L2 := []) H
 refine cl Try.call66 (bits_len _ _ (Int.toNat p0) HP22 (by omega)) ?_
 rintro _ w26 ⟨rfl, HQ27⟩
 have H28 := bk24 _ _ HQ27
 have hz29 : Go.Sort.bitsLen (Int.toNat p0) ≤ 63 := bits_len_le (by omega)
 have hz30 : bShl64 1 (Go.Sort.bitsLen (Int.toNat p0)) ≤ 18446744073709551615 := bShl64_le _ _
 refine fw (.int .u64 ((bShl64 1 (Go.Sort.bitsLen (Int.toNat p0)) : Nat) : Int)) (Yl.int (Yl.shl (m := Go.Sort.bitsLen (Int.toNat p0)) rfl rfl) (wrap_nat_u64 _)) (An rfl (rt (rs ?_)))
 have H31 := H28.pk []
 obtain rfl : _ = bShl64 1 (Go.Sort.bitsLen (Int.toNat p0)) := hr.symm.trans rfl
 exact ⟨rfl, H31, (by (have q9 := np_eq (n := Int.toNat p0) (by omega) (by omega); rw [q9.1]; omega))⟩
def slices_xorshift_Next (p0 : Nat) : Nat × Nat :=
 (bXor64 (bXor64 (bXor64 p0 (bShl64 p0 13)) ((bXor64 p0 (bShl64 p0 13)) / 128)) (bShl64 (bXor64 (bXor64 p0 (bShl64 p0 13)) ((bXor64 p0 (bShl64 p0 13)) / 128)) 17), bXor64 (bXor64 (bXor64 p0 (bShl64 p0 13)) ((bXor64 p0 (bShl64 p0 13)) / 128)) (bShl64 (bXor64 (bXor64 p0 (bShl64 p0 13)) ((bXor64 p0 (bShl64 p0 13)) / 128)) 17))
set_option maxRecDepth 100000 in
theorem slices_xorshift_Next_ok (w : World) (D : Nat → Prop) (g0 : Nat) (p0 : Nat) (r0 : Nat) (r1 : Nat) (H : Own w D w [blk g0 [.int .u64 ((p0 : Nat) : Int)] 123])  (hr : slices_xorshift_Next p0 = (r0, r1)) :
    Calls Try.prog 86 #[.pointer (some ⟨g0, 0, none⟩)] w (Ret fun v w' => v = .int .u64 ((r0 : Nat) : Int) ∧ Own w D w' [blk g0 [.int .u64 ((r1 : Nat) : Int)] 123]) := by
 refine Calls.body (args := [.pointer (some ⟨g0, 0, none⟩)]) Try.func86 rfl rfl rfl ?_
 show Wp _ _ _ [(0, .pointer (some ⟨g0, 0, none⟩))] _ _
 refine sr (An rfl (Wp.seq ?_))
 have H22 := H.drew
 refine Wp.drawnX [9] (fun W => ∃ L', Own w D W ([blk g0 [.int .u64 ((p0 : Nat) : Int)] 123] ++ L')) (by kernel_rfl) (by kernel_rfl) (NoP.then NoP.base) ⟨_, H22⟩ ?_
 revert H22
 generalize World.drew w = w21
 intro H22
 refine GX.take (v := .pointer (some ⟨g0, 0, none⟩)) (rs := [[]]) 0 rfl (by kernel_rfl) (fun _ _ => Yl.move rfl) (GX.take (v := .pointer (some ⟨g0, 0, none⟩)) (rs := [[]]) 1 rfl (by kernel_rfl) (fun _ _ => yk) (GX.take (v := .int .u64 ((p0 : Nat) : Int)) (rs := [[]]) 2 rfl (by kernel_rfl) (fun _ ⟨_, H9⟩ => Yl.load rfl (Lds.one Try.isAgg123 (Cls.of (H9.cls (i := 0) rfl) rfl))) (GX.take (v := .pointer (some ⟨g0, 0, none⟩)) (rs := [[]]) 3 rfl (by kernel_rfl) (fun _ _ => Yl.move rfl) (GX.take (v := .pointer (some ⟨g0, 0, none⟩)) (rs := [[]]) 4 rfl (by kernel_rfl) (fun _ _ => yk) (GX.take (v := .int .u64 ((p0 : Nat) : Int)) (rs := [[]]) 5 rfl (by kernel_rfl) (fun _ ⟨_, H9⟩ => Yl.load rfl (Lds.one Try.isAgg123 (Cls.of (H9.cls (i := 0) rfl) rfl))) ?_)))))
 have hz23 : bShl64 p0 13 ≤ 18446744073709551615 := bShl64_le _ _
 refine GX.take (v := .int .u64 ((bShl64 p0 13 : Nat) : Int)) (rs := [[]]) 6 rfl (by kernel_rfl) (fun _ _ => Yl.int (Yl.shl (m := 13) rfl rfl) (wrap_nat_u64 _)) ?_
 have hz24 : bXor64 p0 (bShl64 p0 13) ≤ 18446744073709551615 := bXor64_le _ _
 refine GX.take (v := .int .u64 ((bXor64 p0 (bShl64 p0 13) : Nat) : Int)) (rs := [[]]) 7 rfl (by kernel_rfl) (fun _ _ => Yl.int (e := IntKind.u64.wrap (((BitVec.ofInt 64 ((p0 : Nat) : Int) ^^^ BitVec.ofInt 64 ((bShl64 p0 13 : Nat) : Int)).toNat : Nat) : Int)) yk (wrap_nat_u64 _)) (GX.take (v := .pointer (some ⟨g0, 0, none⟩)) (rs := [[]]) 8 rfl (by kernel_rfl) (fun _ _ => yk) ?_)
 refine GX.do0 9 rfl (by kernel_rfl) (Do.store (vs := [.int .u64 ((bXor64 p0 (bShl64 p0 13) : Nat) : Int)]) (o := 0) H22 rfl rfl Try.sizeOf123 rfl rfl rfl rfl ?_)
 intro w25 H26
 refine ⟨.inl (by kernel_rfl), ?_⟩
 refine GX.done (by kernel_rfl) (Fin.then (Wp.seq ?_))
 have H28 := H26.drew
 refine Wp.drawnX [9] (fun W => ∃ L', Own w D W ([blk g0 [.int .u64 ((bXor64 p0 (bShl64 p0 13) : Nat) : Int)] 123] ++ L')) (by kernel_rfl) (by kernel_rfl) (NoP.then NoP.base) ⟨_, H28⟩ ?_
 revert H28
 generalize World.drew w25 = w27
 intro H28
 refine GX.take (v := .pointer (some ⟨g0, 0, none⟩)) (rs := [[]]) 0 rfl (by kernel_rfl) (fun _ _ => Yl.move rfl) (GX.take (v := .pointer (some ⟨g0, 0, none⟩)) (rs := [[]]) 1 rfl (by kernel_rfl) (fun _ _ => yk) (GX.take (v := .int .u64 ((bXor64 p0 (bShl64 p0 13) : Nat) : Int)) (rs := [[]]) 2 rfl (by kernel_rfl) (fun _ ⟨_, H9⟩ => Yl.load rfl (Lds.one Try.isAgg123 (Cls.of (H9.cls (i := 0) rfl) rfl))) (GX.take (v := .pointer (some ⟨g0, 0, none⟩)) (rs := [[]]) 3 rfl (by kernel_rfl) (fun _ _ => Yl.move rfl) (GX.take (v := .pointer (some ⟨g0, 0, none⟩)) (rs := [[]]) 4 rfl (by kernel_rfl) (fun _ _ => yk) (GX.take (v := .int .u64 ((bXor64 p0 (bShl64 p0 13) : Nat) : Int)) (rs := [[]]) 5 rfl (by kernel_rfl) (fun _ ⟨_, H9⟩ => Yl.load rfl (Lds.one Try.isAgg123 (Cls.of (H9.cls (i := 0) rfl) rfl))) (GX.take (v := .int .u64 (((bXor64 p0 (bShl64 p0 13)) / 128 : Nat) : Int)) (rs := [[]]) 6 rfl (by kernel_rfl) (fun _ _ => Yl.int (e := Int.fdiv ((bXor64 p0 (bShl64 p0 13) : Nat) : Int) 128) yk (shr_nat _ 7 _ (by decide))) ?_))))))
 have hz29 : bXor64 (bXor64 p0 (bShl64 p0 13)) ((bXor64 p0 (bShl64 p0 13)) / 128) ≤ 18446744073709551615 := bXor64_le _ _
 refine GX.take (v := .int .u64 ((bXor64 (bXor64 p0 (bShl64 p0 13)) ((bXor64 p0 (bShl64 p0 13)) / 128) : Nat) : Int)) (rs := [[]]) 7 rfl (by kernel_rfl) (fun _ _ => Yl.int (e := IntKind.u64.wrap (((BitVec.ofInt 64 ((bXor64 p0 (bShl64 p0 13) : Nat) : Int) ^^^ BitVec.ofInt 64 (((bXor64 p0 (bShl64 p0 13)) / 128 : Nat) : Int)).toNat : Nat) : Int)) yk (wrap_nat_u64 _)) (GX.take (v := .pointer (some ⟨g0, 0, none⟩)) (rs := [[]]) 8 rfl (by kernel_rfl) (fun _ _ => yk) ?_)
 refine GX.do0 9 rfl (by kernel_rfl) (Do.store (vs := [.int .u64 ((bXor64 (bXor64 p0 (bShl64 p0 13)) ((bXor64 p0 (bShl64 p0 13)) / 128) : Nat) : Int)]) (o := 0) H28 rfl rfl Try.sizeOf123 rfl rfl rfl rfl ?_)
 intro w30 H31
 refine ⟨.inl (by kernel_rfl), ?_⟩
 refine GX.done (by kernel_rfl) (Fin.then (Wp.seq ?_))
 have H33 := H31.drew
 refine Wp.drawnX [9] (fun W => ∃ L', Own w D W ([blk g0 [.int .u64 ((bXor64 (bXor64 p0 (bShl64 p0 13)) ((bXor64 p0 (bShl64 p0 13)) / 128) : Nat) : Int)] 123] ++ L')) (by kernel_rfl) (by kernel_rfl) (NoP.then NoP.base) ⟨_, H33⟩ ?_
 revert H33
 generalize World.drew w30 = w32
 intro H33
 refine GX.take (v := .pointer (some ⟨g0, 0, none⟩)) (rs := [[]]) 0 rfl (by kernel_rfl) (fun _ _ => Yl.move rfl) (GX.take (v := .pointer (some ⟨g0, 0, none⟩)) (rs := [[]]) 1 rfl (by kernel_rfl) (fun _ _ => yk) (GX.take (v := .int .u64 ((bXor64 (bXor64 p0 (bShl64 p0 13)) ((bXor64 p0 (bShl64 p0 13)) / 128) : Nat) : Int)) (rs := [[]]) 2 rfl (by kernel_rfl) (fun _ ⟨_, H9⟩ => Yl.load rfl (Lds.one Try.isAgg123 (Cls.of (H9.cls (i := 0) rfl) rfl))) (GX.take (v := .pointer (some ⟨g0, 0, none⟩)) (rs := [[]]) 3 rfl (by kernel_rfl) (fun _ _ => Yl.move rfl) (GX.take (v := .pointer (some ⟨g0, 0, none⟩)) (rs := [[]]) 4 rfl (by kernel_rfl) (fun _ _ => yk) (GX.take (v := .int .u64 ((bXor64 (bXor64 p0 (bShl64 p0 13)) ((bXor64 p0 (bShl64 p0 13)) / 128) : Nat) : Int)) (rs := [[]]) 5 rfl (by kernel_rfl) (fun _ ⟨_, H9⟩ => Yl.load rfl (Lds.one Try.isAgg123 (Cls.of (H9.cls (i := 0) rfl) rfl))) ?_)))))
 have hz34 : bShl64 (bXor64 (bXor64 p0 (bShl64 p0 13)) ((bXor64 p0 (bShl64 p0 13)) / 128)) 17 ≤ 18446744073709551615 := bShl64_le _ _
 refine GX.take (v := .int .u64 ((bShl64 (bXor64 (bXor64 p0 (bShl64 p0 13)) ((bXor64 p0 (bShl64 p0 13)) / 128)) 17 : Nat) : Int)) (rs := [[]]) 6 rfl (by kernel_rfl) (fun _ _ => Yl.int (Yl.shl (m := 17) rfl rfl) (wrap_nat_u64 _)) ?_
 have hz35 : bXor64 (bXor64 (bXor64 p0 (bShl64 p0 13)) ((bXor64 p0 (bShl64 p0 13)) / 128)) (bShl64 (bXor64 (bXor64 p0 (bShl64 p0 13)) ((bXor64 p0 (bShl64 p0 13)) / 128)) 17) ≤ 18446744073709551615 := bXor64_le _ _
 refine GX.take (v := .int .u64 ((bXor64 (bXor64 (bXor64 p0 (bShl64 p0 13)) ((bXor64 p0 (bShl64 p0 13)) / 128)) (bShl64 (bXor64 (bXor64 p0 (bShl64 p0 13)) ((bXor64 p0 (bShl64 p0 13)) / 128)) 17) : Nat) : Int)) (rs := [[]]) 7 rfl (by kernel_rfl) (fun _ _ => Yl.int (e := IntKind.u64.wrap (((BitVec.ofInt 64 ((bXor64 (bXor64 p0 (bShl64 p0 13)) ((bXor64 p0 (bShl64 p0 13)) / 128) : Nat) : Int) ^^^ BitVec.ofInt 64 ((bShl64 (bXor64 (bXor64 p0 (bShl64 p0 13)) ((bXor64 p0 (bShl64 p0 13)) / 128)) 17 : Nat) : Int)).toNat : Nat) : Int)) yk (wrap_nat_u64 _)) (GX.take (v := .pointer (some ⟨g0, 0, none⟩)) (rs := [[]]) 8 rfl (by kernel_rfl) (fun _ _ => yk) ?_)
 refine GX.do0 9 rfl (by kernel_rfl) (Do.store (vs := [.int .u64 ((bXor64 (bXor64 (bXor64 p0 (bShl64 p0 13)) ((bXor64 p0 (bShl64 p0 13)) / 128)) (bShl64 (bXor64 (bXor64 p0 (bShl64 p0 13)) ((bXor64 p0 (bShl64 p0 13)) / 128)) 17) : Nat) : Int)]) (o := 0) H33 rfl rfl Try.sizeOf123 rfl rfl rfl rfl ?_)
 intro w36 H37
 refine ⟨.inl (by kernel_rfl), ?_⟩
 refine GX.done (by kernel_rfl) (Fin.then (sr (Mz rfl (Kz (.pointer (some ⟨g0, 0, none⟩)) (Lz (.int .u64 ((bXor64 (bXor64 (bXor64 p0 (bShl64 p0 13)) ((bXor64 p0 (bShl64 p0 13)) / 128)) (bShl64 (bXor64 (bXor64 p0 (bShl64 p0 13)) ((bXor64 p0 (bShl64 p0 13)) / 128)) 17) : Nat) : Int)) H37 0 Try.isAgg123 (An rfl (rt (rs ?_))))))))
 have H38 := H37.pk [0]
 have e : slices_xorshift_Next p0 = (bXor64 (bXor64 (bXor64 p0 (bShl64 p0 13)) ((bXor64 p0 (bShl64 p0 13)) / 128)) (bShl64 (bXor64 (bXor64 p0 (bShl64 p0 13)) ((bXor64 p0 (bShl64 p0 13)) / 128)) 17), bXor64 (bXor64 (bXor64 p0 (bShl64 p0 13)) ((bXor64 p0 (bShl64 p0 13)) / 128)) (bShl64 (bXor64 (bXor64 p0 (bShl64 p0 13)) ((bXor64 p0 (bShl64 p0 13)) / 128)) 17)) := rfl
 obtain ⟨rfl, rfl⟩ := pj2 (e.symm.trans hr)
 exact ⟨rfl, H38⟩
def slices_breakPatternsOrdered_uint64_L0 (p1 : Int) (p2 : Int) (r32 : Nat) : Nat → Int → Nat → List Nat → (List Nat)
  | 0, z39, k40, l41 => default
  | q42 + 1, z39, k40, l41 => if z39 ≤ (p1 + ((((Int.toNat (p2 - p1)) / 4) * 2 : Nat) : Int)) + 1 then bnd (slices_xorshift_Next k40) fun yr64 => bnd (if ((bAnd64 yr64.1 (r32 - 1) : Nat) : Int) ≥ p2 - p1 then ((bAnd64 yr64.1 (r32 - 1) : Nat) : Int) - (p2 - p1) else ((bAnd64 yr64.1 (r32 - 1) : Nat) : Int)) fun sJrtbLstbJ => bnd (List.getD l41 (Int.toNat (p1 + sJrtbLstbJ)) default) fun yx87 => bnd (List.getD l41 (Int.toNat z39) default) fun yx89 => slices_breakPatternsOrdered_uint64_L0 p1 p2 r32 q42 (z39 + 1) yr64.2 (List.set (List.set l41 (Int.toNat z39) yx87) (Int.toNat (p1 + sJrtbLstbJ)) yx89) else l41
def slices_breakPatternsOrdered_uint64 (l0 : List Nat) (p1 : Int) (p2 : Int) : (List Nat) :=
 if p2 - p1 ≥ 8 then bnd (slices_nextPowerOfTwo (p2 - p1)) fun yr32 => bnd (slices_breakPatternsOrdered_uint64_L0 p1 p2 yr32 ((Int.toNat (p2 - ((p1 + ((((Int.toNat (p2 - p1)) / 4) * 2 : Nat) : Int)) - 1))) + 1) ((p1 + ((((Int.toNat (p2 - p1)) / 4) * 2 : Nat) : Int)) - 1) (Int.toNat (p2 - p1)) l0) fun sLrtbL => sLrtbL else l0
set_option maxRecDepth 100000 in
theorem slices_breakPatternsOrdered_uint64_ok (w : World) (D : Nat → Prop) (A0 : Option Addr) (n0 c0 : Nat) (l0 : List Nat) (p1 : Int) (p2 : Int) (r0 : List Nat) (H : Own w D w [row A0 n0 c0 (List.flatMap (eN .u64) l0) 30 1]) (hn0 : n0 = l0.length) (hl0 : l0.length * 8 ≤ 211106232532992) (hh0 : 0 ≤ p1 ∧ p1 ≤ p2 ∧ p2 ≤ ((l0.length : Nat) : Int)) (hr : slices_breakPatternsOrdered_uint64 l0 p1 p2 = r0) :
    Calls Try.prog 74 #[.slice A0 n0 c0, .int .i64 p1, .int .i64 p2] w (Ret fun v w' => v = .tuple #[] ∧ Own w D w' [row A0 n0 c0 (List.flatMap (eN .u64) r0) 30 1] ∧ (r0.length = l0.length)) := by
 subst hn0
 have hc0 := H.rowC (i := 0) rfl
 refine Calls.body (args := [.slice A0 l0.length c0, .int .i64 p1, .int .i64 p2]) Try.func74 rfl rfl rfl ?_
 show Wp _ _ _ [(0, .slice A0 l0.length c0), (1, .int .i64 p1), (2, .int .i64 p2)] _ _
 refine sr (Mz rfl (Mz rfl (fw (.int .i64 (p2 - p1)) (Yl.int (e := IntKind.i64.wrap (p2 - p1)) yk (by rw [IntWalk.i64_in _ (by omega)])) (Ar rfl (Mz rfl (Kz (.bool (decide (p2 - p1 ≥ 8))) (nt ?_)))))))
 by_cases h21 : p2 - p1 ≥ 8
 refine jT (dT h21) (sr (Mz rfl (fw (.int .u64 ((Int.toNat (p2 - p1) : Nat) : Int)) (Yl.int (e := IntKind.u64.wrap (p2 - p1)) yk (by rw [IntWalk.u64_in _ (by omega)]; omega)) ?_)))
 refine npw [.int .u64 0] 123 H ?_
 intro g22 w23 H24
 refine sto [.int .u64 ((Int.toNat (p2 - p1) : Nat) : Int)] 0 H24 Try.sizeOf123 ?_
 intro w25 H26
 refine ns (Mz rfl ?_)
 obtain ⟨r32, hr33⟩ : ∃ q, slices_nextPowerOfTwo (p2 - p1) = q := ⟨_, rfl⟩
 obtain ⟨D27, HP28, ro29, bk30, rr31⟩ := Own.enter0 H26
 refine cl Try.call85 (slices_nextPowerOfTwo_ok _ _ (p2 - p1) r32 HP28 (by omega) hr33) ?_
 rintro _ w34 ⟨rfl, HQ35, hk37⟩
 have H36 := bk30 _ _ HQ35
 replace hk37 : 1 ≤ r32 ∧ ((r32 : Nat) : Int) ≤ 2 * (p2 - p1) := hk37
 refine Ar rfl (Mz rfl (Mz rfl ?_))
 have hz38 : ((Int.toNat (p2 - p1) : Nat) : Int) = p2 - p1 := by omega
 refine fw (.int .i64 (((Int.toNat (p2 - p1)) / 4 : Nat) : Int)) (Yl.int (e := IntKind.i64.wrap (Int.tdiv (p2 - p1) 4)) yk (by rw [show Int.tdiv (p2 - p1) 4 = (((Int.toNat (p2 - p1)) / 4 : Nat) : Int) from tdivT (n := 4) (by omega), IntWalk.i64_in _ (by omega)])) (fw (.int .i64 ((((Int.toNat (p2 - p1)) / 4) * 2 : Nat) : Int)) (Yl.int (e := IntKind.i64.wrap ((((Int.toNat (p2 - p1)) / 4 : Nat) : Int) * 2)) yk (by rw [IntWalk.i64_in _ (by omega)]; omega)) (fw (.int .i64 (p1 + ((((Int.toNat (p2 - p1)) / 4) * 2 : Nat) : Int))) (Yl.int (e := IntKind.i64.wrap (p1 + ((((Int.toNat (p2 - p1)) / 4) * 2 : Nat) : Int))) yk (by rw [IntWalk.i64_in _ (by omega)])) (fw (.int .i64 ((p1 + ((((Int.toNat (p2 - p1)) / 4) * 2 : Nat) : Int)) - 1)) (Yl.int (e := IntKind.i64.wrap ((p1 + ((((Int.toNat (p2 - p1)) / 4) * 2 : Nat) : Int)) - 1)) yk (by rw [IntWalk.i64_in _ (by omega)])) (An rfl (bo ?_)))))
 have H44 := H36.pk [0, 1]
 obtain ⟨I48, hI49⟩ : ∃ q : (Int × Nat × (List Nat) × Nat) → World → Prop, q = fun (i : Int × Nat × (List Nat) × Nat) w' => Own w D w' [blk g22 [.int .u64 ((i.2.1 : Nat) : Int)] 123, row A0 l0.length c0 (List.flatMap (eN .u64) i.2.2.1) 30 1] ∧ (i.2.2.1.length = l0.length ∧ p1 ≤ i.1 ∧ Int.toNat (p2 - i.1) < i.2.2.2 ∧ slices_breakPatternsOrdered_uint64_L0 p1 p2 r32 ((Int.toNat (p2 - ((p1 + ((((Int.toNat (p2 - p1)) / 4) * 2 : Nat) : Int)) - 1))) + 1) ((p1 + ((((Int.toNat (p2 - p1)) / 4) * 2 : Nat) : Int)) - 1) (Int.toNat (p2 - p1)) l0 = slices_breakPatternsOrdered_uint64_L0 p1 p2 r32 i.2.2.2 i.1 i.2.1 i.2.2.1) := ⟨_, rfl⟩
 have dm50 : ∀ {z39 : Int} {k40 : Nat} {l41 : List Nat} {f43 : Nat} {w' : World}, I48 (z39, k40, l41, f43) w' ↔ Own w D w' [blk g22 [.int .u64 ((k40 : Nat) : Int)] 123, row A0 l0.length c0 (List.flatMap (eN .u64) l41) 30 1] ∧ l41.length = l0.length ∧ p1 ≤ z39 ∧ Int.toNat (p2 - z39) < f43 ∧ slices_breakPatternsOrdered_uint64_L0 p1 p2 r32 ((Int.toNat (p2 - ((p1 + ((((Int.toNat (p2 - p1)) / 4) * 2 : Nat) : Int)) - 1))) + 1) ((p1 + ((((Int.toNat (p2 - p1)) / 4) * 2 : Nat) : Int)) - 1) (Int.toNat (p2 - p1)) l0 = slices_breakPatternsOrdered_uint64_L0 p1 p2 r32 f43 z39 k40 l41 := by intros; subst hI49; exact Iff.rfl
 refine Wp.loop (fun i : Int × Nat × (List Nat) × Nat => [(9, .int .i64 i.1), (8, .int .u64 ((r32 : Nat) : Int)), (7, .pointer (some ⟨g22, 0, none⟩)), (6, .int .i64 (p2 - p1)), (0, .slice A0 l0.length c0), (1, .int .i64 p1)]) I48 (fun i => i.2.2.2) ((p1 + ((((Int.toNat (p2 - p1)) / 4) * 2 : Nat) : Int)) - 1, Int.toNat (p2 - p1), l0, (Int.toNat (p2 - ((p1 + ((((Int.toNat (p2 - p1)) / 4) * 2 : Nat) : Int)) - 1))) + 1) ⟨rfl, rfl, rfl, rfl, rfl, rfl, trivial⟩ (dm50.2 ⟨H44, by first | omega | (simp only [List.length_set] <;> omega) | (simp only [List.length_replicate]), by omega, by omega, rfl⟩) ?_
 rintro ⟨z39, k40, l41, f43⟩ w45 hf47
 show Wp _ _ _ [(9, .int .i64 z39), (8, .int .u64 ((r32 : Nat) : Int)), (7, .pointer (some ⟨g22, 0, none⟩)), (6, .int .i64 (p2 - p1)), (0, .slice A0 l0.length c0), (1, .int .i64 p1)] _ _
 obtain ⟨H46, hi52, hi53, hi54, hq51⟩ := dm50.1 hf47
 obtain ⟨f55, hf56⟩ : ∃ q, f43 = q + 1 := ⟨f43 - 1, by omega⟩
 subst hf56
 refine Wp.seq (sr (Mz rfl (Mz rfl (Mz rfl ?_))))
 have hz57 : ((Int.toNat (p2 - p1) : Nat) : Int) = p2 - p1 := by omega
 refine fw (.int .i64 (((Int.toNat (p2 - p1)) / 4 : Nat) : Int)) (Yl.int (e := IntKind.i64.wrap (Int.tdiv (p2 - p1) 4)) yk (by rw [show Int.tdiv (p2 - p1) 4 = (((Int.toNat (p2 - p1)) / 4 : Nat) : Int) from tdivT (n := 4) (by omega), IntWalk.i64_in _ (by omega)])) (fw (.int .i64 ((((Int.toNat (p2 - p1)) / 4) * 2 : Nat) : Int)) (Yl.int (e := IntKind.i64.wrap ((((Int.toNat (p2 - p1)) / 4 : Nat) : Int) * 2)) yk (by rw [IntWalk.i64_in _ (by omega)]; omega)) (fw (.int .i64 (p1 + ((((Int.toNat (p2 - p1)) / 4) * 2 : Nat) : Int))) (Yl.int (e := IntKind.i64.wrap (p1 + ((((Int.toNat (p2 - p1)) / 4) * 2 : Nat) : Int))) yk (by rw [IntWalk.i64_in _ (by omega)])) (fw (.int .i64 ((p1 + ((((Int.toNat (p2 - p1)) / 4) * 2 : Nat) : Int)) + 1)) (Yl.int (e := IntKind.i64.wrap ((p1 + ((((Int.toNat (p2 - p1)) / 4) * 2 : Nat) : Int)) + 1)) yk (by rw [IntWalk.i64_in _ (by omega)])) (Kz (.bool (decide (z39 ≤ (p1 + ((((Int.toNat (p2 - p1)) / 4) * 2 : Nat) : Int)) + 1))) (nt ?_)))))
 by_cases h58 : z39 ≤ (p1 + ((((Int.toNat (p2 - p1)) / 4) * 2 : Nat) : Int)) + 1
 refine jT (dT h58) (sk (Wp.seq (bo (sr ?_))))
 obtain ⟨⟨r64, r65⟩, hr66⟩ : ∃ q : Nat × Nat, slices_xorshift_Next k40 = q := ⟨_, rfl⟩
 obtain ⟨D59, HP60, ro61, bk62, rr63⟩ := Own.enter1 H46
 refine cl Try.call86 (slices_xorshift_Next_ok _ _ g22 k40 r64 r65 HP60 hr66) ?_
 rintro _ w67 ⟨rfl, HQ68⟩
 have H69 := bk62 _ _ HQ68
 refine Mz rfl (fw (.int .u64 ((r32 - 1 : Nat) : Int)) (Yl.int (e := IntKind.u64.wrap (((r32 : Nat) : Int) - 1)) yk (by rw [IntWalk.u64_in _ (by omega)]; omega)) ?_)
 have hz70 : bAnd64 r64 (r32 - 1) ≤ 18446744073709551615 := bAnd64_le _ _
 have hz71 : bAnd64 r64 (r32 - 1) ≤ r32 - 1 := bAnd64_right _ (by omega)
 refine fw (.int .u64 ((bAnd64 r64 (r32 - 1) : Nat) : Int)) (Yl.int (e := IntKind.u64.wrap (((BitVec.ofInt 64 ((r64 : Nat) : Int) &&& BitVec.ofInt 64 ((r32 - 1 : Nat) : Int)).toNat : Nat) : Int)) yk (wrap_nat_u64 _)) (fw (.int .i64 ((bAnd64 r64 (r32 - 1) : Nat) : Int)) (Yl.int (e := IntKind.i64.wrap ((bAnd64 r64 (r32 - 1) : Nat) : Int)) yk (IntWalk.i64_in _ (by omega))) (An rfl (Wp.seq (sr (Mz rfl (Mz rfl (Kz (.bool (decide (((bAnd64 r64 (r32 - 1) : Nat) : Int) ≥ p2 - p1))) (nt ?_))))))))
 obtain ⟨I73, hI74⟩ : ∃ q : Int → World → Prop, q = fun (i : Int) w' => Own w D w' [blk g22 [.int .u64 ((r65 : Nat) : Int)] 123, row A0 l0.length c0 (List.flatMap (eN .u64) l41) 30 1] ∧ ((-9223372036854775808 ≤ i ∧ i ≤ 9223372036854775807) ∧ (0 ≤ i ∧ i < p2 - p1) ∧ (if ((bAnd64 r64 (r32 - 1) : Nat) : Int) ≥ p2 - p1 then ((bAnd64 r64 (r32 - 1) : Nat) : Int) - (p2 - p1) else ((bAnd64 r64 (r32 - 1) : Nat) : Int)) = i) := ⟨_, rfl⟩
 have dm75 : ∀ {z72 : Int} {w' : World}, I73 z72 w' ↔ Own w D w' [blk g22 [.int .u64 ((r65 : Nat) : Int)] 123, row A0 l0.length c0 (List.flatMap (eN .u64) l41) 30 1] ∧ (-9223372036854775808 ≤ z72 ∧ z72 ≤ 9223372036854775807) ∧ (0 ≤ z72 ∧ z72 < p2 - p1) ∧ (if ((bAnd64 r64 (r32 - 1) : Nat) : Int) ≥ p2 - p1 then ((bAnd64 r64 (r32 - 1) : Nat) : Int) - (p2 - p1) else ((bAnd64 r64 (r32 - 1) : Nat) : Int)) = z72 := by intros; subst hI74; exact Iff.rfl
 refine Wp.joinT (fun i : Int => [(10, .int .i64 i), (9, .int .i64 z39), (8, .int .u64 ((r32 : Nat) : Int)), (7, .pointer (some ⟨g22, 0, none⟩)), (6, .int .i64 (p2 - p1)), (0, .slice A0 l0.length c0), (1, .int .i64 p1)]) I73 ?_ ?_
 by_cases h76 : ((bAnd64 r64 (r32 - 1) : Nat) : Int) ≥ p2 - p1
 refine jT (dT h76) (Wp.region (Mz rfl (Mz rfl (fw (.int .i64 (((bAnd64 r64 (r32 - 1) : Nat) : Int) - (p2 - p1))) (Yl.int (e := IntKind.i64.wrap (((bAnd64 r64 (r32 - 1) : Nat) : Int) - (p2 - p1))) yk (by rw [IntWalk.i64_in _ (by omega)])) (Az rfl (WL.nil ?_))))))
 have H77 := H69.pk [0, 1]
 exact Fin.join (((bAnd64 r64 (r32 - 1) : Nat) : Int) - (p2 - p1)) ⟨rfl, rfl, rfl, rfl, rfl, rfl, rfl, trivial⟩ (dm75.2 ⟨H77, by omega, by omega, ip h76⟩)
 refine jF (dF h76) (Wp.skip ?_)
 have H78 := H69.pk [0, 1]
 exact Fin.join ((bAnd64 r64 (r32 - 1) : Nat) : Int) ⟨rfl, rfl, rfl, rfl, rfl, rfl, rfl, trivial⟩ (dm75.2 ⟨H78, by omega, by omega, iN h76⟩)
 rintro z72 w79 hf81
 show Wp _ _ _ [(10, .int .i64 z72), (9, .int .i64 z39), (8, .int .u64 ((r32 : Nat) : Int)), (7, .pointer (some ⟨g22, 0, none⟩)), (6, .int .i64 (p2 - p1)), (0, .slice A0 l0.length c0), (1, .int .i64 p1)] _ _
 obtain ⟨H80, hi83, hi84, hj82⟩ := dm75.1 hf81
 have H86 := H80.drew
 refine Wp.drawnX [17, 19] (fun W => ∃ L', Own w D W ([blk g22 [.int .u64 ((r65 : Nat) : Int)] 123, row A0 l0.length c0 (List.flatMap (eN .u64) l41) 30 1] ++ L')) (by kernel_rfl) (by kernel_rfl) (NoP.block (NoP.then (NoP.then (NoP.block NoP.base)))) ⟨_, H86⟩ ?_
 revert H86
 generalize World.drew w79 = w85
 intro H86
 refine GX.take (v := .slice A0 l0.length c0) (rs := [[], []]) 0 rfl (by kernel_rfl) (fun _ _ => Yl.move rfl) (GX.take (v := .int .i64 ((Int.toNat z39 : Nat) : Int)) (rs := [[], []]) 1 rfl (by kernel_rfl) (fun _ _ => Yl.int (e := z39) (Yl.move rfl) (by omega)) (GX.takeA (v := .slice A0 l0.length c0) 2 rfl (by kernel_rfl) (fun _ => Yl.move rfl) (GX.takeA (v := .int .i64 p1) 3 rfl (by kernel_rfl) (fun _ => Yl.move rfl) (GX.takeA (v := .int .i64 z72) 4 rfl (by kernel_rfl) (fun _ => Yl.move rfl) (GX.takeA (v := .int .i64 ((Int.toNat (p1 + z72) : Nat) : Int)) 5 rfl (by kernel_rfl) (fun _ => Yl.int (e := IntKind.i64.wrap (p1 + z72)) yk (by rw [IntWalk.i64_in _ (by omega)]; omega)) (GX.take (v := .slice A0 l0.length c0) (rs := [[], []]) 6 rfl (by kernel_rfl) (fun _ _ => Yl.move rfl) (GX.take (v := .int .i64 p1) (rs := [[], []]) 7 rfl (by kernel_rfl) (fun _ _ => Yl.move rfl) (GX.take (v := .int .i64 z72) (rs := [[], []]) 8 rfl (by kernel_rfl) (fun _ _ => Yl.move rfl) (GX.take (v := .int .i64 ((Int.toNat (p1 + z72) : Nat) : Int)) (rs := [[], []]) 9 rfl (by kernel_rfl) (fun _ _ => Yl.int (e := IntKind.i64.wrap (p1 + z72)) yk (by rw [IntWalk.i64_in _ (by omega)]; omega)) ?_)))))))))
 obtain ⟨x87, hx88⟩ := at_of (ls := l41) (i := Int.toNat (p1 + z72)) (by first | omega | (simp; done) | (simp; omega))
 refine GX.take (v := .pointer (some ⟨ab A0, ao A0 + (Int.toNat (p1 + z72)) * 1, none⟩)) (rs := [[], []]) 10 rfl (by kernel_rfl) (fun _ ⟨_, H9⟩ => Yl.indexAddr (El37) rfl rfl ((H9.rds (i := 1) rfl).addr (i := Int.toNat (p1 + z72)) (by omega)) (by omega)) (GX.take (v := .int .u64 ((x87 : Nat) : Int)) (rs := [[], []]) 11 rfl (by kernel_rfl) (fun _ ⟨_, H9⟩ => Yl.load rfl (Lds.one Try.isAgg30 (((H9.rds (i := 1) rfl).elem eN_len hx88 (by decide)).at_ (k := 0) rfl))) (GX.take (v := .slice A0 l0.length c0) (rs := [[15, 14], []]) 12 rfl (by kernel_rfl) (fun _ _ => Yl.move rfl) (GX.take (v := .int .i64 ((Int.toNat z39 : Nat) : Int)) (rs := [[15, 14], []]) 13 rfl (by kernel_rfl) (fun _ _ => Yl.int (e := z39) (Yl.move rfl) (by omega)) ?_)))
 obtain ⟨x89, hx90⟩ := at_of (ls := l41) (i := Int.toNat z39) (by first | omega | (simp; done) | (simp; omega))
 refine GX.take (v := .pointer (some ⟨ab A0, ao A0 + (Int.toNat z39) * 1, none⟩)) (rs := [[15], []]) 14 rfl (by kernel_rfl) (fun _ ⟨_, H9⟩ => Yl.indexAddr (El37) rfl rfl ((H9.rds (i := 1) rfl).addr (i := Int.toNat z39) (by omega)) (by omega)) (GX.take (v := .int .u64 ((x89 : Nat) : Int)) (rs := [[], []]) 15 rfl (by kernel_rfl) (fun _ ⟨_, H9⟩ => Yl.load rfl (Lds.one Try.isAgg30 (((H9.rds (i := 1) rfl).elem eN_len hx90 (by decide)).at_ (k := 0) rfl))) (GX.take (v := .pointer (some ⟨ab A0, ao A0 + (Int.toNat z39) * 1, none⟩)) (rs := [[], []]) 16 rfl (by kernel_rfl) (fun _ ⟨_, H9⟩ => Yl.indexAddr (El37) rfl rfl ((H9.rds (i := 1) rfl).addr (i := Int.toNat z39) (by omega)) (by omega)) ?_))
 have H91 := H86.pk [1, 0]
 refine GX.do0 17 rfl (by kernel_rfl) (Do.storeRow (vs := [.int .u64 ((x87 : Nat) : Int)]) (o := (Int.toNat z39) * 1 + 0) (q := ao A0 + (Int.toNat z39) * 1) H91 rfl (by omega) rfl Try.sizeOf30 rfl rfl (Nat.le_of_ble_eq_true rfl) (store_fits eN_len hx90 (Nat.le_of_ble_eq_true rfl)) (flat_set (y := x87) eN_len rfl (Nat.le_of_ble_eq_true rfl) hx90) ?_)
 intro w92 H93
 refine ⟨.inl (by kernel_rfl), ?_⟩
 obtain ⟨x94, hx95⟩ := at_of (ls := l41) (i := Int.toNat (p1 + z72)) (by first | omega | (simp; done) | (simp; omega))
 obtain ⟨x96, hx97⟩ := rds_at (ls := (List.set l41 (Int.toNat z39) x87)) (i := Int.toNat (p1 + z72)) eN_len (by decide) (H93.rds (i := 0) rfl) (by first | omega | (simp; done) | (simp; omega))
 refine GX.takeA (v := .pointer (some ⟨ab A0, ao A0 + (Int.toNat (p1 + z72)) * 1, none⟩)) 18 rfl (by kernel_rfl) (fun _ => Yl.indexAddr (El37) rfl rfl ((H93.rds (i := 0) rfl).addr (i := Int.toNat (p1 + z72)) (by omega)) (by omega)) ?_
 obtain ⟨x98, hx99⟩ := at_of (ls := (List.set l41 (Int.toNat z39) x87)) (i := Int.toNat (p1 + z72)) (by first | omega | (simp; done) | (simp; omega))
 refine GX.do0 19 rfl (by kernel_rfl) (Do.storeRow (vs := [.int .u64 ((x89 : Nat) : Int)]) (o := (Int.toNat (p1 + z72)) * 1 + 0) (q := ao A0 + (Int.toNat (p1 + z72)) * 1) H93 rfl (by omega) rfl Try.sizeOf30 rfl rfl (Nat.le_of_ble_eq_true rfl) (store_fits eN_len hx99 (Nat.le_of_ble_eq_true rfl)) (flat_set (y := x89) eN_len rfl (Nat.le_of_ble_eq_true rfl) hx99) ?_)
 intro w100 H101
 refine ⟨.inl (by kernel_rfl), ?_⟩
 refine GX.done (by kernel_rfl) (bN (Fin.then (Wp.region (Mz rfl (fw (.int .i64 (z39 + 1)) (Yl.int (e := IntKind.i64.wrap (z39 + 1)) yk (by rw [IntWalk.i64_in _ (by omega)])) (Az rfl (WL.nil ?_)))))))
 have H102 := H101.pk [1, 0]
 exact Fin.round (z39 + 1, r65, (List.set (List.set l41 (Int.toNat z39) x87) (Int.toNat (p1 + z72)) x89), f55) ⟨rfl, rfl, rfl, rfl, rfl, rfl, trivial⟩ (dm50.2 ⟨H102, by first | omega | (simp only [List.length_set] <;> omega) | (simp only [List.length_replicate]), by omega, by omega, Eq.trans (hq51) (Eq.trans (if_pos h58) (Eq.trans (bnd_of hr66) (Eq.trans (bnd_of hj82) (Eq.trans (bnd_of (getD_of hx88)) (bnd_of (getD_of hx90))))))⟩) (by show f55 < f55 + 1; omega)
 refine jF (dF h58) (Wp.exit (Fin.thenX ?_))
 have hL103 : slices_breakPatternsOrdered_uint64_L0 p1 p2 r32 ((Int.toNat (p2 - ((p1 + ((((Int.toNat (p2 - p1)) / 4) * 2 : Nat) : Int)) - 1))) + 1) ((p1 + ((((Int.toNat (p2 - p1)) / 4) * 2 : Nat) : Int)) - 1) (Int.toNat (p2 - p1)) l0 = l41 := et (hq51) (iN h58)
 refine Fin.thenX (Fin.blockX (Fin.res0 (res0 rfl) ?_))
 have H104 := H46.pk [1]
 obtain rfl : _ = l41 := hr.symm.trans (et (ip h21) (et (bnd_of hr33) (bnd_of hL103)))
 exact ⟨rfl, H104, (by first | rfl | omega | (simp only [List.length_set] <;> omega))⟩
 refine jF (dF h21) (Wp.skip (Fin.res0 (res0 rfl) ?_))
 have H105 : Own w D w [row A0 l0.length c0 (List.flatMap (eN .u64) l0) 30 1] := H.pk [0]
 obtain rfl : _ = l0 := hr.symm.trans (iN h21)
 exact ⟨rfl, H105, (by first | rfl | omega | (simp only [List.length_set] <;> omega))⟩
def slices_pdqsortOrdered_uint64_L0 : Nat → Int → Int → Int → Bool → Bool → List Nat → Unit ⊕ (List Nat)
  | 0, z21, z22, z23, b24, b25, l26 => Sum.inl default
  | q27 + 1, z21, z22, z23, b24, b25, l26 => if z22 - z21 ≤ 12 then bnd (slices_insertionSortOrdered_uint64 l26 z21 z22) fun yr48 => Sum.inr (yr48) else if z23 = 0 then bnd (slices_heapSortOrdered_uint64 l26 z21 z22) fun yr62 => Sum.inr (yr62) else bnd (if b24 = true then (z23, l26) else bnd (slices_breakPatternsOrdered_uint64 l26 z21 z22) fun yr82 => (z23 - 1, yr82)) fun sJrLsffJ => bnd (slices_choosePivotOrdered_uint64 sJrLsffJ.2 z21 z22) fun yr102 => bnd (if yr102.2 = 2 then bnd (slices_reverseRangeOrdered_uint64 sJrLsffJ.2 z21 z22) fun yr121 => ((z22 - 1) - (yr102.1 - z21), 1, yr121) else (yr102.1, yr102.2, sJrLsffJ.2)) fun sJrLsffJabJ => if b24 = true then if b25 = true then lpS (if sJrLsffJabJ.2.1 = 1 then bnd (slices_partialInsertionSortOrdered_uint64 sJrLsffJabJ.2.2 z21 z22) fun yr149 => if yr149.1 = true then Sum.inr (yr149.2) else Sum.inl yr149.2 else Sum.inl sJrLsffJabJ.2.2) fun sJrLsffJabJattJ => if z21 > 0 then bnd (List.getD sJrLsffJabJattJ (Int.toNat (z21 - 1)) default) fun yx169 => bnd (List.getD sJrLsffJabJattJ (Int.toNat sJrLsffJabJ.1) default) fun yx171 => bnd (cmp_Less_uint64 yx169 yx171) fun yr178 => if yr178 = true then bnd (slices_partitionOrdered_uint64 sJrLsffJabJattJ z21 z22 sJrLsffJabJ.1) fun yr189 => if yr189.1 - z21 < z22 - yr189.1 then bnd (pdqT yr189.2.2 z21 yr189.1 sJrLsffJ.1) fun yr206 => slices_pdqsortOrdered_uint64_L0 q27 (yr189.1 + 1) z22 sJrLsffJ.1 (decide (yr189.1 - z21 ≥ (((Int.toNat (z22 - z21)) / 8 : Nat) : Int))) yr189.2.1 yr206 else bnd (pdqT yr189.2.2 (yr189.1 + 1) z22 sJrLsffJ.1) fun yr219 => slices_pdqsortOrdered_uint64_L0 q27 z21 yr189.1 sJrLsffJ.1 (decide (z22 - yr189.1 ≥ (((Int.toNat (z22 - z21)) / 8 : Nat) : Int))) yr189.2.1 yr219 else bnd (slices_partitionEqualOrdered_uint64 sJrLsffJabJattJ z21 z22 sJrLsffJabJ.1) fun yr232 => slices_pdqsortOrdered_uint64_L0 q27 yr232.1 z22 sJrLsffJ.1 b24 b25 yr232.2 else bnd (slices_partitionOrdered_uint64 sJrLsffJabJattJ z21 z22 sJrLsffJabJ.1) fun yr247 => if yr247.1 - z21 < z22 - yr247.1 then bnd (pdqT yr247.2.2 z21 yr247.1 sJrLsffJ.1) fun yr264 => slices_pdqsortOrdered_uint64_L0 q27 (yr247.1 + 1) z22 sJrLsffJ.1 (decide (yr247.1 - z21 ≥ (((Int.toNat (z22 - z21)) / 8 : Nat) : Int))) yr247.2.1 yr264 else bnd (pdqT yr247.2.2 (yr247.1 + 1) z22 sJrLsffJ.1) fun yr277 => slices_pdqsortOrdered_uint64_L0 q27 z21 yr247.1 sJrLsffJ.1 (decide (z22 - yr247.1 ≥ (((Int.toNat (z22 - z21)) / 8 : Nat) : Int))) yr247.2.1 yr277 else if z21 > 0 then bnd (List.getD sJrLsffJabJ.2.2 (Int.toNat (z21 - 1)) default) fun yx288 => bnd (List.getD sJrLsffJabJ.2.2 (Int.toNat sJrLsffJabJ.1) default) fun yx290 => bnd (cmp_Less_uint64 yx288 yx290) fun yr297 => if yr297 = true then bnd (slices_partitionOrdered_uint64 sJrLsffJabJ.2.2 z21 z22 sJrLsffJabJ.1) fun yr308 => if yr308.1 - z21 < z22 - yr308.1 then bnd (pdqT yr308.2.2 z21 yr308.1 sJrLsffJ.1) fun yr325 => slices_pdqsortOrdered_uint64_L0 q27 (yr308.1 + 1) z22 sJrLsffJ.1 (decide (yr308.1 - z21 ≥ (((Int.toNat (z22 - z21)) / 8 : Nat) : Int))) yr308.2.1 yr325 else bnd (pdqT yr308.2.2 (yr308.1 + 1) z22 sJrLsffJ.1) fun yr338 => slices_pdqsortOrdered_uint64_L0 q27 z21 yr308.1 sJrLsffJ.1 (decide (z22 - yr308.1 ≥ (((Int.toNat (z22 - z21)) / 8 : Nat) : Int))) yr308.2.1 yr338 else bnd (slices_partitionEqualOrdered_uint64 sJrLsffJabJ.2.2 z21 z22 sJrLsffJabJ.1) fun yr351 => slices_pdqsortOrdered_uint64_L0 q27 yr351.1 z22 sJrLsffJ.1 b24 b25 yr351.2 else bnd (slices_partitionOrdered_uint64 sJrLsffJabJ.2.2 z21 z22 sJrLsffJabJ.1) fun yr366 => if yr366.1 - z21 < z22 - yr366.1 then bnd (pdqT yr366.2.2 z21 yr366.1 sJrLsffJ.1) fun yr383 => slices_pdqsortOrdered_uint64_L0 q27 (yr366.1 + 1) z22 sJrLsffJ.1 (decide (yr366.1 - z21 ≥ (((Int.toNat (z22 - z21)) / 8 : Nat) : Int))) yr366.2.1 yr383 else bnd (pdqT yr366.2.2 (yr366.1 + 1) z22 sJrLsffJ.1) fun yr396 => slices_pdqsortOrdered_uint64_L0 q27 z21 yr366.1 sJrLsffJ.1 (decide (z22 - yr366.1 ≥ (((Int.toNat (z22 - z21)) / 8 : Nat) : Int))) yr366.2.1 yr396 else if z21 > 0 then bnd (List.getD sJrLsffJabJ.2.2 (Int.toNat (z21 - 1)) default) fun yx407 => bnd (List.getD sJrLsffJabJ.2.2 (Int.toNat sJrLsffJabJ.1) default) fun yx409 => bnd (cmp_Less_uint64 yx407 yx409) fun yr416 => if yr416 = true then bnd (slices_partitionOrdered_uint64 sJrLsffJabJ.2.2 z21 z22 sJrLsffJabJ.1) fun yr427 => if yr427.1 - z21 < z22 - yr427.1 then bnd (pdqT yr427.2.2 z21 yr427.1 sJrLsffJ.1) fun yr444 => slices_pdqsortOrdered_uint64_L0 q27 (yr427.1 + 1) z22 sJrLsffJ.1 (decide (yr427.1 - z21 ≥ (((Int.toNat (z22 - z21)) / 8 : Nat) : Int))) yr427.2.1 yr444 else bnd (pdqT yr427.2.2 (yr427.1 + 1) z22 sJrLsffJ.1) fun yr457 => slices_pdqsortOrdered_uint64_L0 q27 z21 yr427.1 sJrLsffJ.1 (decide (z22 - yr427.1 ≥ (((Int.toNat (z22 - z21)) / 8 : Nat) : Int))) yr427.2.1 yr457 else bnd (slices_partitionEqualOrdered_uint64 sJrLsffJabJ.2.2 z21 z22 sJrLsffJabJ.1) fun yr470 => slices_pdqsortOrdered_uint64_L0 q27 yr470.1 z22 sJrLsffJ.1 b24 b25 yr470.2 else bnd (slices_partitionOrdered_uint64 sJrLsffJabJ.2.2 z21 z22 sJrLsffJabJ.1) fun yr485 => if yr485.1 - z21 < z22 - yr485.1 then bnd (pdqT yr485.2.2 z21 yr485.1 sJrLsffJ.1) fun yr502 => slices_pdqsortOrdered_uint64_L0 q27 (yr485.1 + 1) z22 sJrLsffJ.1 (decide (yr485.1 - z21 ≥ (((Int.toNat (z22 - z21)) / 8 : Nat) : Int))) yr485.2.1 yr502 else bnd (pdqT yr485.2.2 (yr485.1 + 1) z22 sJrLsffJ.1) fun yr515 => slices_pdqsortOrdered_uint64_L0 q27 z21 yr485.1 sJrLsffJ.1 (decide (z22 - yr485.1 ≥ (((Int.toNat (z22 - z21)) / 8 : Nat) : Int))) yr485.2.1 yr515
def slices_pdqsortOrdered_uint64 (l0 : List Nat) (p1 : Int) (p2 : Int) (p3 : Int) : (List Nat) :=
 lp (slices_pdqsortOrdered_uint64_L0 ((Int.toNat (p2 - p1)) + 1) p1 p2 p3 true true l0) fun _ => default
set_option maxRecDepth 100000 in
theorem slices_pdqsortOrdered_uint64_ok (w : World) (D : Nat → Prop) (A0 : Option Addr) (n0 c0 : Nat) (l0 : List Nat) (p1 : Int) (p2 : Int) (p3 : Int) (r0 : List Nat) (H : Own w D w [row A0 n0 c0 (List.flatMap (eN .u64) l0) 30 1]) (hn0 : n0 = l0.length) (hl0 : l0.length * 8 ≤ 211106232532992) (hh0 : 0 ≤ p1 ∧ p1 ≤ p2 ∧ p2 ≤ ((l0.length : Nat) : Int)) (hh1 : 0 ≤ p3 ∧ p3 ≤ 63) (hr : slices_pdqsortOrdered_uint64 l0 p1 p2 p3 = r0) (pm : Nat) (hpm : pm = Int.toNat (p2 - p1))
    (self_ : ∀ (w : World) (D : Nat → Prop) (A0 : Option Addr) (n0 c0 : Nat) (l0 : List Nat) (p1 : Int) (p2 : Int) (p3 : Int) (r0 : List Nat) (H : Own w D w [row A0 n0 c0 (List.flatMap (eN .u64) l0) 30 1]) (hn0 : n0 = l0.length) (hl0 : l0.length * 8 ≤ 211106232532992) (hh0 : 0 ≤ p1 ∧ p1 ≤ p2 ∧ p2 ≤ ((l0.length : Nat) : Int)) (hh1 : 0 ≤ p3 ∧ p3 ≤ 63) (hh_ : Int.toNat (p2 - p1) < pm) (hr : pdqT l0 p1 p2 p3 = r0), Calls Try.prog 65 #[.slice A0 n0 c0, .int .i64 p1, .int .i64 p2, .int .i64 p3] w (Ret fun v w' => v = .tuple #[] ∧ Own w D w' [row A0 n0 c0 (List.flatMap (eN .u64) r0) 30 1] ∧ (r0.length = l0.length))) :
    Calls Try.prog 65 #[.slice A0 n0 c0, .int .i64 p1, .int .i64 p2, .int .i64 p3] w (Ret fun v w' => v = .tuple #[] ∧ Own w D w' [row A0 n0 c0 (List.flatMap (eN .u64) r0) 30 1] ∧ (r0.length = l0.length)) := by
 subst hn0
 have hc0 := H.rowC (i := 0) rfl
 refine Calls.body (args := [.slice A0 l0.length c0, .int .i64 p1, .int .i64 p2, .int .i64 p3]) Try.func65 rfl rfl rfl ?_
 show Wp _ _ _ [(0, .slice A0 l0.length c0), (1, .int .i64 p1), (2, .int .i64 p2), (3, .int .i64 p3)] _ _
 refine sr (Ar rfl (An rfl (bo ?_)))
 have H29 : Own w D w [row A0 l0.length c0 (List.flatMap (eN .u64) l0) 30 1] := H.pk [0]
 obtain ⟨I33, hI34⟩ : ∃ q : (Int × Int × Int × Bool × Bool × (List Nat) × Nat) → World → Prop, q = fun (i : Int × Int × Int × Bool × Bool × (List Nat) × Nat) w' => Own w D w' [row A0 l0.length c0 (List.flatMap (eN .u64) i.2.2.2.2.2.1) 30 1] ∧ (i.2.2.2.2.2.1.length = l0.length ∧ (0 ≤ i.1 ∧ i.1 ≤ i.2.1 ∧ i.2.1 ≤ ((l0.length : Nat) : Int) ∧ 0 ≤ i.2.2.1 ∧ i.2.2.1 ≤ 63 ∧ i.2.1 - i.1 ≤ p2 - p1) ∧ Int.toNat (i.2.1 - i.1) < i.2.2.2.2.2.2 ∧ slices_pdqsortOrdered_uint64_L0 ((Int.toNat (p2 - p1)) + 1) p1 p2 p3 true true l0 = slices_pdqsortOrdered_uint64_L0 i.2.2.2.2.2.2 i.1 i.2.1 i.2.2.1 i.2.2.2.1 i.2.2.2.2.1 i.2.2.2.2.2.1) := ⟨_, rfl⟩
 have dm35 : ∀ {z21 : Int} {z22 : Int} {z23 : Int} {b24 : Bool} {b25 : Bool} {l26 : List Nat} {f28 : Nat} {w' : World}, I33 (z21, z22, z23, b24, b25, l26, f28) w' ↔ Own w D w' [row A0 l0.length c0 (List.flatMap (eN .u64) l26) 30 1] ∧ l26.length = l0.length ∧ (0 ≤ z21 ∧ z21 ≤ z22 ∧ z22 ≤ ((l0.length : Nat) : Int) ∧ 0 ≤ z23 ∧ z23 ≤ 63 ∧ z22 - z21 ≤ p2 - p1) ∧ Int.toNat (z22 - z21) < f28 ∧ slices_pdqsortOrdered_uint64_L0 ((Int.toNat (p2 - p1)) + 1) p1 p2 p3 true true l0 = slices_pdqsortOrdered_uint64_L0 f28 z21 z22 z23 b24 b25 l26 := by intros; subst hI34; exact Iff.rfl
 refine Wp.loop (fun i : Int × Int × Int × Bool × Bool × (List Nat) × Nat => [(1, .int .i64 i.1), (2, .int .i64 i.2.1), (3, .int .i64 i.2.2.1), (8, .bool i.2.2.2.1), (9, .bool i.2.2.2.2.1), (0, .slice A0 l0.length c0)]) I33 (fun i => i.2.2.2.2.2.2) (p1, p2, p3, true, true, l0, (Int.toNat (p2 - p1)) + 1) ⟨rfl, rfl, rfl, rfl, rfl, rfl, trivial⟩ (dm35.2 ⟨H29, (show l0.length = l0.length ∧ (0 ≤ p1 ∧ p1 ≤ p2 ∧ p2 ≤ ((l0.length : Nat) : Int) ∧ 0 ≤ p3 ∧ p3 ≤ 63 ∧ p2 - p1 ≤ p2 - p1) ∧ Int.toNat (p2 - p1) < ((Int.toNat (p2 - p1)) + 1) ∧ slices_pdqsortOrdered_uint64_L0 ((Int.toNat (p2 - p1)) + 1) p1 p2 p3 true true l0 = slices_pdqsortOrdered_uint64_L0 ((Int.toNat (p2 - p1)) + 1) p1 p2 p3 true true l0 from ⟨by first | omega | (simp only [List.length_set] <;> omega) | (simp only [List.length_replicate]), by omega, by omega, rfl⟩)⟩) ?_
 rintro ⟨z21, z22, z23, b24, b25, l26, f28⟩ w30 hf32
 show Wp _ _ _ [(1, .int .i64 z21), (2, .int .i64 z22), (3, .int .i64 z23), (8, .bool b24), (9, .bool b25), (0, .slice A0 l0.length c0)] _ _
 obtain ⟨H31, hi37, hi38, hi39, hq36⟩ := dm35.1 hf32
 obtain ⟨f40, hf41⟩ : ∃ q, f28 = q + 1 := ⟨f28 - 1, by omega⟩
 subst hf41
 refine bo (sr (Mz rfl (Mz rfl (fw (.int .i64 (z22 - z21)) (Yl.int (e := IntKind.i64.wrap (z22 - z21)) yk (by rw [IntWalk.i64_in _ (by omega)])) (An rfl (Wp.seq (sr (Mz rfl (Kz (.bool (decide (z22 - z21 ≤ 12))) (nt ?_))))))))))
 by_cases h42 : z22 - z21 ≤ 12
 refine jT (dT h42) (sr (Mz rfl (Mz rfl (Mz rfl ?_))))
 obtain ⟨r48, hr49⟩ : ∃ q, slices_insertionSortOrdered_uint64 l26 z21 z22 = q := ⟨_, rfl⟩
 obtain ⟨D43, HP44, ro45, bk46, rr47⟩ := Own.enter1 H31
 refine cl Try.call72 (slices_insertionSortOrdered_uint64_ok _ _ A0 l0.length c0 l26 z21 z22 r48 HP44 (by first | rfl | omega | (simp only [List.length_append, List.length_cons, List.length_nil, List.length_take, List.length_drop, List.length_set, List.length_replicate, List.length_map] <;> omega)) (by omega) (by omega) hr49) ?_
 rintro _ w50 ⟨rfl, HQ51, hk53⟩
 have H52 := bk46 _ _ HQ51
 have hb54 := H52.rowC (i := 0) rfl
 replace hk53 : r48.length = l26.length := hk53
 refine nt (rt (tR (bR (tR (bR (Fin.res (res0 rfl) ?_))))))
 have H55 := H52.pk [0]
 obtain rfl : _ = r48 := hr.symm.trans (lp_r (et (hq36) (et (ip h42) (bnd_of hr49))))
 exact ⟨rfl, H55, (by first | rfl | omega | (simp only [List.length_set] <;> omega))⟩
 refine jF (dF h42) (sk (Wp.seq (sr (Mz rfl (Kz (.bool (decide (z23 = 0))) (nt ?_))))))
 by_cases h56 : z23 = 0
 refine jT (dT h56) (sr (Mz rfl (Mz rfl (Mz rfl ?_))))
 obtain ⟨r62, hr63⟩ : ∃ q, slices_heapSortOrdered_uint64 l26 z21 z22 = q := ⟨_, rfl⟩
 obtain ⟨D57, HP58, ro59, bk60, rr61⟩ := Own.enter1 H31
 refine cl Try.call73 (slices_heapSortOrdered_uint64_ok _ _ A0 l0.length c0 l26 z21 z22 r62 HP58 (by first | rfl | omega | (simp only [List.length_append, List.length_cons, List.length_nil, List.length_take, List.length_drop, List.length_set, List.length_replicate, List.length_map] <;> omega)) (by omega) (by omega) (by omega) hr63) ?_
 rintro _ w64 ⟨rfl, HQ65, hk67⟩
 have H66 := bk60 _ _ HQ65
 have hb68 := H66.rowC (i := 0) rfl
 replace hk67 : r62.length = l26.length := hk67
 refine nt (rt (tR (bR (tR (bR (Fin.res (res0 rfl) ?_))))))
 have H69 := H66.pk [0]
 obtain rfl : _ = r62 := hr.symm.trans (lp_r (et (hq36) (et (iN h42) (et (ip h56) (bnd_of hr63)))))
 exact ⟨rfl, H69, (by first | rfl | omega | (simp only [List.length_set] <;> omega))⟩
 refine jF (dF h56) (sk (Wp.seq (sr (Mz rfl (Kz (.bool (!b24)) (nt ?_))))))
 obtain ⟨I72, hI73⟩ : ∃ q : (Int × (List Nat)) → World → Prop, q = fun (i : Int × (List Nat)) w' => Own w D w' [row A0 l0.length c0 (List.flatMap (eN .u64) i.2) 30 1] ∧ (i.2.length = l0.length ∧ (-9223372036854775808 ≤ i.1 ∧ i.1 ≤ 9223372036854775807) ∧ (0 ≤ i.1 ∧ i.1 ≤ 63) ∧ (if b24 = true then (z23, l26) else bnd (slices_breakPatternsOrdered_uint64 l26 z21 z22) fun yr82 => (z23 - 1, yr82)) = (i.1, i.2)) := ⟨_, rfl⟩
 have dm74 : ∀ {z70 : Int} {l71 : List Nat} {w' : World}, I72 (z70, l71) w' ↔ Own w D w' [row A0 l0.length c0 (List.flatMap (eN .u64) l71) 30 1] ∧ l71.length = l0.length ∧ (-9223372036854775808 ≤ z70 ∧ z70 ≤ 9223372036854775807) ∧ (0 ≤ z70 ∧ z70 ≤ 63) ∧ (if b24 = true then (z23, l26) else bnd (slices_breakPatternsOrdered_uint64 l26 z21 z22) fun yr82 => (z23 - 1, yr82)) = (z70, l71) := by intros; subst hI73; exact Iff.rfl
 refine Wp.joinT (fun i : Int × (List Nat) => [(3, .int .i64 i.1), (10, .int .i64 (z22 - z21)), (1, .int .i64 z21), (2, .int .i64 z22), (8, .bool b24), (9, .bool b25), (0, .slice A0 l0.length c0)]) I72 ?_ ?_
 rcases Bool.eq_false_or_eq_true (b24) with h75 | h75
 refine jF (cn h75) (Wp.skip ?_)
 have H76 := H31.pk [0]
 exact Fin.join (z23, l26) ⟨rfl, rfl, rfl, rfl, rfl, rfl, rfl, trivial⟩ (dm74.2 ⟨H76, by first | omega | (simp only [List.length_set] <;> omega) | (simp only [List.length_replicate]), by omega, by omega, if_pos h75⟩)
 refine jT (cn h75) (sr (Mz rfl (Mz rfl (Mz rfl ?_))))
 obtain ⟨r82, hr83⟩ : ∃ q, slices_breakPatternsOrdered_uint64 l26 z21 z22 = q := ⟨_, rfl⟩
 obtain ⟨D77, HP78, ro79, bk80, rr81⟩ := Own.enter1 H31
 refine cl Try.call74 (slices_breakPatternsOrdered_uint64_ok _ _ A0 l0.length c0 l26 z21 z22 r82 HP78 (by first | rfl | omega | (simp only [List.length_append, List.length_cons, List.length_nil, List.length_take, List.length_drop, List.length_set, List.length_replicate, List.length_map] <;> omega)) (by omega) (by omega) hr83) ?_
 rintro _ w84 ⟨rfl, HQ85, hk87⟩
 have H86 := bk80 _ _ HQ85
 have hb88 := H86.rowC (i := 0) rfl
 replace hk87 : r82.length = l26.length := hk87
 refine nt (Wp.region (Mz rfl (fw (.int .i64 (z23 - 1)) (Yl.int (e := IntKind.i64.wrap (z23 - 1)) yk (by rw [IntWalk.i64_in _ (by omega)])) (Az rfl (WL.nil ?_)))))
 have H89 := H86.pk [0]
 exact Fin.join (z23 - 1, r82) ⟨rfl, rfl, rfl, rfl, rfl, rfl, rfl, trivial⟩ (dm74.2 ⟨H89, by first | omega | (simp only [List.length_set] <;> omega) | (simp only [List.length_replicate]), by omega, by omega, Eq.trans (ifF h75) (bnd_of hr83)⟩)
 rintro ⟨z70, l71⟩ w90 hf92
 show Wp _ _ _ [(3, .int .i64 z70), (10, .int .i64 (z22 - z21)), (1, .int .i64 z21), (2, .int .i64 z22), (8, .bool b24), (9, .bool b25), (0, .slice A0 l0.length c0)] _ _
 obtain ⟨H91, hi94, hi95, hi96, hj93⟩ := dm74.1 hf92
 refine sr (Mz rfl (Mz rfl (Mz rfl ?_)))
 obtain ⟨⟨r102, r103⟩, hr104⟩ : ∃ q : Int × Int, slices_choosePivotOrdered_uint64 l71 z21 z22 = q := ⟨_, rfl⟩
 obtain ⟨D97, HP98, ro99, bk100, rr101⟩ := Own.enter0 H91
 refine cl Try.call75 (slices_choosePivotOrdered_uint64_ok _ _ A0 l0.length c0 l71 z21 z22 r102 r103 HP98 (rr101 _ 0 _ rfl row_rds) (by first | rfl | omega | (simp only [List.length_append, List.length_cons, List.length_nil, List.length_take, List.length_drop, List.length_set, List.length_replicate, List.length_map] <;> omega)) (by omega) (by omega) (by omega) hr104) ?_
 rintro _ w105 ⟨rfl, HQ106, hk108⟩
 have H107 := bk100 _ _ HQ106
 replace hk108 : z21 ≤ r102 ∧ r102 < z22 := hk108
 refine Mz rfl (Kz (.int .i64 r102) (Kz (.int .i64 r103) (Az rfl (An rfl (Wp.seq (sr (Mz rfl (Kz (.bool (decide (r103 = 2))) (nt ?_)))))))))
 obtain ⟨I112, hI113⟩ : ∃ q : (Int × Int × (List Nat)) → World → Prop, q = fun (i : Int × Int × (List Nat)) w' => Own w D w' [row A0 l0.length c0 (List.flatMap (eN .u64) i.2.2) 30 1] ∧ (i.2.2.length = l0.length ∧ (-9223372036854775808 ≤ i.1 ∧ i.1 ≤ 9223372036854775807) ∧ (z21 ≤ i.1 ∧ i.1 < z22) ∧ (if r103 = 2 then bnd (slices_reverseRangeOrdered_uint64 l71 z21 z22) fun yr121 => ((z22 - 1) - (r102 - z21), 1, yr121) else (r102, r103, l71)) = (i.1, i.2.1, i.2.2)) := ⟨_, rfl⟩
 have dm114 : ∀ {z109 : Int} {z110 : Int} {l111 : List Nat} {w' : World}, I112 (z109, z110, l111) w' ↔ Own w D w' [row A0 l0.length c0 (List.flatMap (eN .u64) l111) 30 1] ∧ l111.length = l0.length ∧ (-9223372036854775808 ≤ z109 ∧ z109 ≤ 9223372036854775807) ∧ (z21 ≤ z109 ∧ z109 < z22) ∧ (if r103 = 2 then bnd (slices_reverseRangeOrdered_uint64 l71 z21 z22) fun yr121 => ((z22 - 1) - (r102 - z21), 1, yr121) else (r102, r103, l71)) = (z109, z110, l111) := by intros; subst hI113; exact Iff.rfl
 refine Wp.joinT (fun i : Int × Int × (List Nat) => [(11, .int .i64 i.1), (12, .int .i64 i.2.1), (3, .int .i64 z70), (10, .int .i64 (z22 - z21)), (1, .int .i64 z21), (2, .int .i64 z22), (8, .bool b24), (9, .bool b25), (0, .slice A0 l0.length c0)]) I112 ?_ ?_
 by_cases h115 : r103 = 2
 refine jT (dT h115) (sr (Mz rfl (Mz rfl (Mz rfl ?_))))
 obtain ⟨r121, hr122⟩ : ∃ q, slices_reverseRangeOrdered_uint64 l71 z21 z22 = q := ⟨_, rfl⟩
 obtain ⟨D116, HP117, ro118, bk119, rr120⟩ := Own.enter1 H107
 refine cl Try.call76 (slices_reverseRangeOrdered_uint64_ok _ _ A0 l0.length c0 l71 z21 z22 r121 HP117 (by first | rfl | omega | (simp only [List.length_append, List.length_cons, List.length_nil, List.length_take, List.length_drop, List.length_set, List.length_replicate, List.length_map] <;> omega)) (by omega) (by omega) hr122) ?_
 rintro _ w123 ⟨rfl, HQ124, hk126⟩
 have H125 := bk119 _ _ HQ124
 have hb127 := H125.rowC (i := 0) rfl
 replace hk126 : r121.length = l71.length := hk126
 refine ns (Mz rfl (fw (.int .i64 (z22 - 1)) (Yl.int (e := IntKind.i64.wrap (z22 - 1)) yk (by rw [IntWalk.i64_in _ (by omega)])) (Mz rfl (Mz rfl (fw (.int .i64 (r102 - z21)) (Yl.int (e := IntKind.i64.wrap (r102 - z21)) yk (by rw [IntWalk.i64_in _ (by omega)])) (fw (.int .i64 ((z22 - 1) - (r102 - z21))) (Yl.int (e := IntKind.i64.wrap ((z22 - 1) - (r102 - z21))) yk (by rw [IntWalk.i64_in _ (by omega)])) (An rfl (Wp.region (Az rfl (WL.nil ?_))))))))))
 have H128 := H125.pk [0]
 exact Fin.join ((z22 - 1) - (r102 - z21), 1, r121) ⟨rfl, rfl, rfl, rfl, rfl, rfl, rfl, rfl, rfl, trivial⟩ (dm114.2 ⟨H128, by first | omega | (simp only [List.length_set] <;> omega) | (simp only [List.length_replicate]), by omega, by omega, Eq.trans (if_pos h115) (bnd_of hr122)⟩)
 refine jF (dF h115) (Wp.skip ?_)
 have H129 := H107.pk [0]
 exact Fin.join (r102, r103, l71) ⟨rfl, rfl, rfl, rfl, rfl, rfl, rfl, rfl, rfl, trivial⟩ (dm114.2 ⟨H129, by first | omega | (simp only [List.length_set] <;> omega) | (simp only [List.length_replicate]), by omega, by omega, if_neg h115⟩)
 rintro ⟨z109, z110, l111⟩ w130 hf132
 show Wp _ _ _ [(11, .int .i64 z109), (12, .int .i64 z110), (3, .int .i64 z70), (10, .int .i64 (z22 - z21)), (1, .int .i64 z21), (2, .int .i64 z22), (8, .bool b24), (9, .bool b25), (0, .slice A0 l0.length c0)] _ _
 obtain ⟨H131, hi134, hi135, hi136, hj133⟩ := dm114.1 hf132
 refine Wp.seq (sr (Mz rfl (Mz rfl ?_)))
 rcases Bool.eq_false_or_eq_true (b24) with h137 | h137
 refine WL.valG (v := .bool b25) rfl rfl h137 rfl (Yl.move rfl) (fw (.bool b25) (Yl.pickT rfl h137 rfl) (Mz rfl ?_))
 rcases Bool.eq_false_or_eq_true (b25) with h138 | h138
 refine WL.valG (v := .int .i64 z110) rfl rfl h138 rfl (Yl.move rfl) (Gz (.bool (decide (z110 = 1))) h138 (fw (.bool (decide (z110 = 1))) (Yl.pickT rfl h138 rfl) (nt ?_)))
 obtain ⟨I140, hI141⟩ : ∃ q : (List Nat) → World → Prop, q = fun (i : (List Nat)) w' => Own w D w' [row A0 l0.length c0 (List.flatMap (eN .u64) i) 30 1] ∧ (i.length = l0.length ∧ (if z110 = 1 then bnd (slices_partialInsertionSortOrdered_uint64 l111 z21 z22) fun yr149 => if yr149.1 = true then Sum.inr (yr149.2) else Sum.inl yr149.2 else Sum.inl l111) = Sum.inl i) := ⟨_, rfl⟩
 have dm142 : ∀ {l139 : List Nat} {w' : World}, I140 l139 w' ↔ Own w D w' [row A0 l0.length c0 (List.flatMap (eN .u64) l139) 30 1] ∧ l139.length = l0.length ∧ (if z110 = 1 then bnd (slices_partialInsertionSortOrdered_uint64 l111 z21 z22) fun yr149 => if yr149.1 = true then Sum.inr (yr149.2) else Sum.inl yr149.2 else Sum.inl l111) = Sum.inl l139 := by intros; subst hI141; exact Iff.rfl
 refine Wp.joinT (fun i : (List Nat) => [(11, .int .i64 z109), (3, .int .i64 z70), (10, .int .i64 (z22 - z21)), (1, .int .i64 z21), (2, .int .i64 z22), (8, .bool b24), (9, .bool b25), (0, .slice A0 l0.length c0)]) I140 ?_ ?_
 by_cases h143 : z110 = 1
 refine jT (dT h143) (sr (Mz rfl (Mz rfl (Mz rfl ?_))))
 obtain ⟨⟨r149, r150⟩, hr151⟩ : ∃ q : Bool × (List Nat), slices_partialInsertionSortOrdered_uint64 l111 z21 z22 = q := ⟨_, rfl⟩
 obtain ⟨D144, HP145, ro146, bk147, rr148⟩ := Own.enter1 H131
 refine cl Try.call77 (slices_partialInsertionSortOrdered_uint64_ok _ _ A0 l0.length c0 l111 z21 z22 r149 r150 HP145 (by first | rfl | omega | (simp only [List.length_append, List.length_cons, List.length_nil, List.length_take, List.length_drop, List.length_set, List.length_replicate, List.length_map] <;> omega)) (by omega) (by omega) (by omega) hr151) ?_
 rintro _ w152 ⟨rfl, HQ153, hk155⟩
 have H154 := bk147 _ _ HQ153
 have hb156 := H154.rowC (i := 0) rfl
 replace hk155 : r150.length = l111.length := hk155
 refine nt ?_
 rcases Bool.eq_false_or_eq_true (r149) with h157 | h157
 refine jT h157 (rt (tR (bR (tR (bR (Fin.res (res0 rfl) ?_))))))
 have H158 := H154.pk [0]
 obtain rfl : _ = r150 := hr.symm.trans (lp_r (et (hq36) (et (iN h42) (et (iN h56) (et (bnd_of hj93) (et (bnd_of hr104) (et (bnd_of hj133) (et (ip h137) (et (ip h138) (lpS_r (et (ip h143) (et (bnd_of hr151) (ip h157)))))))))))))
 exact ⟨rfl, H158, (by first | rfl | omega | (simp only [List.length_set] <;> omega))⟩
 refine jF h157 (Wp.skip ?_)
 have H159 := H154.pk [0]
 exact Fin.join r150 ⟨rfl, rfl, rfl, rfl, rfl, rfl, rfl, rfl, trivial⟩ (dm142.2 ⟨H159, by first | omega | (simp only [List.length_set] <;> omega) | (simp only [List.length_replicate]), Eq.trans (if_pos h143) (Eq.trans (bnd_of hr151) (ifF h157))⟩)
 refine jF (dF h143) (Wp.skip ?_)
 have H160 := H131.pk [0]
 exact Fin.join l111 ⟨rfl, rfl, rfl, rfl, rfl, rfl, rfl, rfl, trivial⟩ (dm142.2 ⟨H160, by first | omega | (simp only [List.length_set] <;> omega) | (simp only [List.length_replicate]), if_neg h143⟩)
 rintro l139 w161 hf163
 show Wp _ _ _ [(11, .int .i64 z109), (3, .int .i64 z70), (10, .int .i64 (z22 - z21)), (1, .int .i64 z21), (2, .int .i64 z22), (8, .bool b24), (9, .bool b25), (0, .slice A0 l0.length c0)] _ _
 obtain ⟨H162, hi165, hj164⟩ := dm142.1 hf163
 refine Wp.seq (Wp.seq ?_)
 have H167 := H162.drew
 refine Wp.drawnX [] (fun W => ∃ L', Own w D W ([row A0 l0.length c0 (List.flatMap (eN .u64) l139) 30 1] ++ L')) (by kernel_rfl) (by kernel_rfl) (NoP.then (NoP.then (NoP.block (NoP.then (NoP.block NoP.base))))) ⟨_, H167⟩ ?_
 revert H167
 generalize World.drew w161 = w166
 intro H167
 refine GX.take (v := .int .i64 z21) (rs := []) 0 rfl (by kernel_rfl) (fun _ _ => Yl.move rfl) (GX.take (v := .bool (decide (z21 > 0))) (rs := []) 1 rfl (by kernel_rfl) (fun _ _ => yk) (GX.take (v := .bool (decide (z21 > 0))) (rs := []) 2 rfl (by kernel_rfl) (fun _ _ => Yl.move rfl) ?_))
 by_cases h168 : z21 > 0
 refine GX.takeG (v := .slice A0 l0.length c0) (rs := []) 3 rfl rfl rfl (dT h168) (by kernel_rfl) (fun _ _ => Yl.move rfl) (GX.takeG (v := .int .i64 z21) (rs := []) 4 rfl rfl rfl (dT h168) (by kernel_rfl) (fun _ _ => Yl.move rfl) (GX.takeG (v := .int .i64 ((Int.toNat (z21 - 1) : Nat) : Int)) (rs := []) 5 rfl rfl rfl (dT h168) (by kernel_rfl) (fun _ _ => Yl.int (e := IntKind.i64.wrap (z21 - 1)) yk (by rw [IntWalk.i64_in _ (by omega)]; omega)) ?_))
 obtain ⟨x169, hx170⟩ := at_of (ls := l139) (i := Int.toNat (z21 - 1)) (by first | omega | (simp; done) | (simp; omega))
 refine GX.takeG (v := .pointer (some ⟨ab A0, ao A0 + (Int.toNat (z21 - 1)) * 1, none⟩)) (rs := []) 6 rfl rfl rfl (dT h168) (by kernel_rfl) (fun _ ⟨_, H9⟩ => Yl.indexAddr (El37) rfl rfl ((H9.rds (i := 0) rfl).addr (i := Int.toNat (z21 - 1)) (by omega)) (by omega)) (GX.takeG (v := .int .u64 ((x169 : Nat) : Int)) (rs := []) 7 rfl rfl rfl (dT h168) (by kernel_rfl) (fun _ ⟨_, H9⟩ => Yl.load rfl (Lds.one Try.isAgg30 (((H9.rds (i := 0) rfl).elem eN_len hx170 (by decide)).at_ (k := 0) rfl))) (GX.takeG (v := .slice A0 l0.length c0) (rs := []) 8 rfl rfl rfl (dT h168) (by kernel_rfl) (fun _ _ => Yl.move rfl) (GX.takeG (v := .int .i64 ((Int.toNat z109 : Nat) : Int)) (rs := []) 9 rfl rfl rfl (dT h168) (by kernel_rfl) (fun _ _ => Yl.int (e := z109) (Yl.move rfl) (by omega)) ?_)))
 obtain ⟨x171, hx172⟩ := at_of (ls := l139) (i := Int.toNat z109) (by first | omega | (simp; done) | (simp; omega))
 refine GX.takeG (v := .pointer (some ⟨ab A0, ao A0 + (Int.toNat z109) * 1, none⟩)) (rs := []) 10 rfl rfl rfl (dT h168) (by kernel_rfl) (fun _ ⟨_, H9⟩ => Yl.indexAddr (El37) rfl rfl ((H9.rds (i := 0) rfl).addr (i := Int.toNat z109) (by omega)) (by omega)) (GX.takeG (v := .int .u64 ((x171 : Nat) : Int)) (rs := []) 11 rfl rfl rfl (dT h168) (by kernel_rfl) (fun _ ⟨_, H9⟩ => Yl.load rfl (Lds.one Try.isAgg30 (((H9.rds (i := 0) rfl).elem eN_len hx172 (by decide)).at_ (k := 0) rfl))) ?_)
 obtain ⟨r178, hr179⟩ : ∃ q, cmp_Less_uint64 x169 x171 = q := ⟨_, rfl⟩
 obtain ⟨D173, HP174, ro175, bk176, rr177⟩ := Own.enter0 H167
 refine GX.doG 12 rfl rfl rfl (dT h168) (by kernel_rfl) (Do.call Try.call78 rfl (cmp_Less_uint64_ok _ _ x169 x171 r178 HP174 hr179) ?_)
 rintro _ w180 ⟨rfl, HQ181⟩
 have H182 := bk176 _ _ HQ181
 refine ⟨.inr ⟨_, H182⟩, ?_⟩
 refine GX.takeG (v := .bool (!r178)) (rs := []) 13 rfl rfl rfl (dT h168) (by kernel_rfl) (fun _ _ => yk) (GX.take (v := .bool (!r178)) (rs := []) 14 rfl (by kernel_rfl) (fun _ _ => Yl.pickT rfl (dT h168) rfl) (GX.done (by kernel_rfl) (Fin.then ?_)))
 rcases Bool.eq_false_or_eq_true (r178) with h183 | h183
 refine jF (cn h183) (sk (sr (Mz rfl (Mz rfl (Mz rfl (Mz rfl ?_))))))
 obtain ⟨⟨r189, r190, r191⟩, hr192⟩ : ∃ q : Int × Bool × (List Nat), slices_partitionOrdered_uint64 l139 z21 z22 z109 = q := ⟨_, rfl⟩
 obtain ⟨D184, HP185, ro186, bk187, rr188⟩ := Own.enter1 H182
 refine cl Try.call80 (slices_partitionOrdered_uint64_ok _ _ A0 l0.length c0 l139 z21 z22 z109 r189 r190 r191 HP185 (by first | rfl | omega | (simp only [List.length_append, List.length_cons, List.length_nil, List.length_take, List.length_drop, List.length_set, List.length_replicate, List.length_map] <;> omega)) (by omega) (by omega) (by omega) hr192) ?_
 rintro _ w193 ⟨rfl, HQ194, hk196, hk197⟩
 have H195 := bk187 _ _ HQ194
 have hb198 := H195.rowC (i := 0) rfl
 replace hk196 : r191.length = l139.length := hk196
 replace hk197 : z21 ≤ r189 ∧ r189 < z22 := hk197
 refine Mz rfl (Kz (.int .i64 r189) (Kz (.bool r190) (Az rfl (Ar rfl (Mz rfl (Ar rfl (Mz rfl (Mz rfl (fw (.int .i64 (r189 - z21)) (Yl.int (e := IntKind.i64.wrap (r189 - z21)) yk (by rw [IntWalk.i64_in _ (by omega)])) (Mz rfl (Mz rfl (fw (.int .i64 (z22 - r189)) (Yl.int (e := IntKind.i64.wrap (z22 - r189)) yk (by rw [IntWalk.i64_in _ (by omega)])) (Az rfl (Ar rfl (Mz rfl ?_)))))))))))))))
 have hz199 : ((Int.toNat (z22 - z21) : Nat) : Int) = z22 - z21 := by omega
 refine fw (.int .i64 (((Int.toNat (z22 - z21)) / 8 : Nat) : Int)) (Yl.int (e := IntKind.i64.wrap (Int.tdiv (z22 - z21) 8)) yk (by rw [show Int.tdiv (z22 - z21) 8 = (((Int.toNat (z22 - z21)) / 8 : Nat) : Int) from tdivT (n := 8) (by omega), IntWalk.i64_in _ (by omega)])) (Ar rfl (Mz rfl (Mz rfl (Kz (.bool (decide (r189 - z21 < z22 - r189))) (nt ?_)))))
 by_cases h200 : r189 - z21 < z22 - r189
 refine jT (dT h200) (sr (Mz rfl (Mz rfl (Kz (.bool (decide (r189 - z21 ≥ (((Int.toNat (z22 - z21)) / 8 : Nat) : Int)))) (Ar rfl (Mz rfl (Mz rfl (Mz rfl (Mz rfl ?_)))))))))
 obtain ⟨r206, hr207⟩ : ∃ q, pdqT r191 z21 r189 z70 = q := ⟨_, rfl⟩
 obtain ⟨D201, HP202, ro203, bk204, rr205⟩ := Own.enter1 H195
 refine cl Try.call65 (self_ _ _ A0 l0.length c0 r191 z21 r189 z70 r206 HP202 (by first | rfl | omega | (simp only [List.length_append, List.length_cons, List.length_nil, List.length_take, List.length_drop, List.length_set, List.length_replicate, List.length_map] <;> omega)) (by omega) (by omega) (by omega) (by omega) hr207) ?_
 rintro _ w208 ⟨rfl, HQ209, hk211⟩
 have H210 := bk204 _ _ HQ209
 have hb212 := H210.rowC (i := 0) rfl
 replace hk211 : r206.length = r191.length := hk211
 refine nt (Wp.region (Mz rfl (fw (.int .i64 (r189 + 1)) (Yl.int (e := IntKind.i64.wrap (r189 + 1)) yk (by rw [IntWalk.i64_in _ (by omega)])) (Az rfl (WL.nil (bN ?_))))))
 have H213 := H210.pk [0]
 exact Fin.round (r189 + 1, z22, z70, decide (r189 - z21 ≥ (((Int.toNat (z22 - z21)) / 8 : Nat) : Int)), r190, r206, f40) ⟨rfl, rfl, rfl, rfl, rfl, rfl, trivial⟩ (dm35.2 ⟨H213, by first | omega | (simp only [List.length_set] <;> omega) | (simp only [List.length_replicate]), by omega, by omega, Eq.trans (hq36) (Eq.trans (if_neg h42) (Eq.trans (if_neg h56) (Eq.trans (bnd_of hj93) (Eq.trans (bnd_of hr104) (Eq.trans (bnd_of hj133) (Eq.trans (if_pos h137) (Eq.trans (if_pos h138) (Eq.trans (lpS_l hj164) (Eq.trans (if_pos h168) (Eq.trans (bnd_of (getD_of hx170)) (Eq.trans (bnd_of (getD_of hx172)) (Eq.trans (bnd_of hr179) (Eq.trans (if_pos h183) (Eq.trans (bnd_of hr192) (Eq.trans (if_pos h200) (bnd_of hr207))))))))))))))))⟩) (by show f40 < f40 + 1; omega)
 refine jF (dF h200) (sr (Mz rfl (Mz rfl (Kz (.bool (decide (z22 - r189 ≥ (((Int.toNat (z22 - z21)) / 8 : Nat) : Int)))) (Ar rfl (Mz rfl (Mz rfl (fw (.int .i64 (r189 + 1)) (Yl.int (e := IntKind.i64.wrap (r189 + 1)) yk (by rw [IntWalk.i64_in _ (by omega)])) (Mz rfl (Mz rfl ?_))))))))))
 obtain ⟨r219, hr220⟩ : ∃ q, pdqT r191 (r189 + 1) z22 z70 = q := ⟨_, rfl⟩
 obtain ⟨D214, HP215, ro216, bk217, rr218⟩ := Own.enter1 H195
 refine cl Try.call65 (self_ _ _ A0 l0.length c0 r191 (r189 + 1) z22 z70 r219 HP215 (by first | rfl | omega | (simp only [List.length_append, List.length_cons, List.length_nil, List.length_take, List.length_drop, List.length_set, List.length_replicate, List.length_map] <;> omega)) (by omega) (by omega) (by omega) (by omega) hr220) ?_
 rintro _ w221 ⟨rfl, HQ222, hk224⟩
 have H223 := bk217 _ _ HQ222
 have hb225 := H223.rowC (i := 0) rfl
 replace hk224 : r219.length = r191.length := hk224
 refine nt (Wp.region (Mz rfl (Az rfl (WL.nil (bN ?_)))))
 have H226 := H223.pk [0]
 exact Fin.round (z21, r189, z70, decide (z22 - r189 ≥ (((Int.toNat (z22 - z21)) / 8 : Nat) : Int)), r190, r219, f40) ⟨rfl, rfl, rfl, rfl, rfl, rfl, trivial⟩ (dm35.2 ⟨H226, by first | omega | (simp only [List.length_set] <;> omega) | (simp only [List.length_replicate]), by omega, by omega, Eq.trans (hq36) (Eq.trans (if_neg h42) (Eq.trans (if_neg h56) (Eq.trans (bnd_of hj93) (Eq.trans (bnd_of hr104) (Eq.trans (bnd_of hj133) (Eq.trans (if_pos h137) (Eq.trans (if_pos h138) (Eq.trans (lpS_l hj164) (Eq.trans (if_pos h168) (Eq.trans (bnd_of (getD_of hx170)) (Eq.trans (bnd_of (getD_of hx172)) (Eq.trans (bnd_of hr179) (Eq.trans (if_pos h183) (Eq.trans (bnd_of hr192) (Eq.trans (if_neg h200) (bnd_of hr220))))))))))))))))⟩) (by show f40 < f40 + 1; omega)
 refine jT (cn h183) (sr (Mz rfl (Mz rfl (Mz rfl (Mz rfl ?_)))))
 obtain ⟨⟨r232, r233⟩, hr234⟩ : ∃ q : Int × (List Nat), slices_partitionEqualOrdered_uint64 l139 z21 z22 z109 = q := ⟨_, rfl⟩
 obtain ⟨D227, HP228, ro229, bk230, rr231⟩ := Own.enter1 H182
 refine cl Try.call79 (slices_partitionEqualOrdered_uint64_ok _ _ A0 l0.length c0 l139 z21 z22 z109 r232 r233 HP228 (by first | rfl | omega | (simp only [List.length_append, List.length_cons, List.length_nil, List.length_take, List.length_drop, List.length_set, List.length_replicate, List.length_map] <;> omega)) (by omega) (by omega) (by omega) hr234) ?_
 rintro _ w235 ⟨rfl, HQ236, hk238, hk239⟩
 have H237 := bk230 _ _ HQ236
 have hb240 := H237.rowC (i := 0) rfl
 replace hk238 : r233.length = l139.length := hk238
 replace hk239 : z21 < r232 ∧ r232 ≤ z22 := hk239
 refine Ar rfl (Mz rfl (An rfl (Wp.exit (Fin.thenX (Fin.blockX ?_)))))
 have H241 := H237.pk [0]
 exact Fin.round (r232, z22, z70, b24, b25, r233, f40) ⟨rfl, rfl, rfl, rfl, rfl, rfl, trivial⟩ (dm35.2 ⟨H241, by first | omega | (simp only [List.length_set] <;> omega) | (simp only [List.length_replicate]), by omega, by omega, Eq.trans (hq36) (Eq.trans (if_neg h42) (Eq.trans (if_neg h56) (Eq.trans (bnd_of hj93) (Eq.trans (bnd_of hr104) (Eq.trans (bnd_of hj133) (Eq.trans (if_pos h137) (Eq.trans (if_pos h138) (Eq.trans (lpS_l hj164) (Eq.trans (if_pos h168) (Eq.trans (bnd_of (getD_of hx170)) (Eq.trans (bnd_of (getD_of hx172)) (Eq.trans (bnd_of hr179) (Eq.trans (ifF h183) (bnd_of hr234))))))))))))))⟩) (by show f40 < f40 + 1; omega)
 refine GX.skipG (rs := []) 3 rfl rfl rfl (dF h168) (by kernel_rfl) (GX.skipG (rs := []) 4 rfl rfl rfl (dF h168) (by kernel_rfl) (GX.skipG (rs := []) 5 rfl rfl rfl (dF h168) (by kernel_rfl) (GX.skipG (rs := []) 6 rfl rfl rfl (dF h168) (by kernel_rfl) (GX.skipG (rs := []) 7 rfl rfl rfl (dF h168) (by kernel_rfl) (GX.skipG (rs := []) 8 rfl rfl rfl (dF h168) (by kernel_rfl) (GX.skipG (rs := []) 9 rfl rfl rfl (dF h168) (by kernel_rfl) (GX.skipG (rs := []) 10 rfl rfl rfl (dF h168) (by kernel_rfl) (GX.skipG (rs := []) 11 rfl rfl rfl (dF h168) (by kernel_rfl) (GX.skipG (rs := []) 12 rfl rfl rfl (dF h168) (by kernel_rfl) (GX.skipG (rs := []) 13 rfl rfl rfl (dF h168) (by kernel_rfl) (GX.take (v := .bool false) (rs := []) 14 rfl (by kernel_rfl) (fun _ _ => Yl.pickF rfl (dF h168) rfl) (GX.done (by kernel_rfl) (Fin.then (jf (sk (sr (Mz rfl (Mz rfl (Mz rfl (Mz rfl ?_))))))))))))))))))))
 obtain ⟨⟨r247, r248, r249⟩, hr250⟩ : ∃ q : Int × Bool × (List Nat), slices_partitionOrdered_uint64 l139 z21 z22 z109 = q := ⟨_, rfl⟩
 obtain ⟨D242, HP243, ro244, bk245, rr246⟩ := Own.enter1 H167
 refine cl Try.call80 (slices_partitionOrdered_uint64_ok _ _ A0 l0.length c0 l139 z21 z22 z109 r247 r248 r249 HP243 (by first | rfl | omega | (simp only [List.length_append, List.length_cons, List.length_nil, List.length_take, List.length_drop, List.length_set, List.length_replicate, List.length_map] <;> omega)) (by omega) (by omega) (by omega) hr250) ?_
 rintro _ w251 ⟨rfl, HQ252, hk254, hk255⟩
 have H253 := bk245 _ _ HQ252
 have hb256 := H253.rowC (i := 0) rfl
 replace hk254 : r249.length = l139.length := hk254
 replace hk255 : z21 ≤ r247 ∧ r247 < z22 := hk255
 refine Mz rfl (Kz (.int .i64 r247) (Kz (.bool r248) (Az rfl (Ar rfl (Mz rfl (Ar rfl (Mz rfl (Mz rfl (fw (.int .i64 (r247 - z21)) (Yl.int (e := IntKind.i64.wrap (r247 - z21)) yk (by rw [IntWalk.i64_in _ (by omega)])) (Mz rfl (Mz rfl (fw (.int .i64 (z22 - r247)) (Yl.int (e := IntKind.i64.wrap (z22 - r247)) yk (by rw [IntWalk.i64_in _ (by omega)])) (Az rfl (Ar rfl (Mz rfl ?_)))))))))))))))
 have hz257 : ((Int.toNat (z22 - z21) : Nat) : Int) = z22 - z21 := by omega
 refine fw (.int .i64 (((Int.toNat (z22 - z21)) / 8 : Nat) : Int)) (Yl.int (e := IntKind.i64.wrap (Int.tdiv (z22 - z21) 8)) yk (by rw [show Int.tdiv (z22 - z21) 8 = (((Int.toNat (z22 - z21)) / 8 : Nat) : Int) from tdivT (n := 8) (by omega), IntWalk.i64_in _ (by omega)])) (Ar rfl (Mz rfl (Mz rfl (Kz (.bool (decide (r247 - z21 < z22 - r247))) (nt ?_)))))
 by_cases h258 : r247 - z21 < z22 - r247
 refine jT (dT h258) (sr (Mz rfl (Mz rfl (Kz (.bool (decide (r247 - z21 ≥ (((Int.toNat (z22 - z21)) / 8 : Nat) : Int)))) (Ar rfl (Mz rfl (Mz rfl (Mz rfl (Mz rfl ?_)))))))))
 obtain ⟨r264, hr265⟩ : ∃ q, pdqT r249 z21 r247 z70 = q := ⟨_, rfl⟩
 obtain ⟨D259, HP260, ro261, bk262, rr263⟩ := Own.enter1 H253
 refine cl Try.call65 (self_ _ _ A0 l0.length c0 r249 z21 r247 z70 r264 HP260 (by first | rfl | omega | (simp only [List.length_append, List.length_cons, List.length_nil, List.length_take, List.length_drop, List.length_set, List.length_replicate, List.length_map] <;> omega)) (by omega) (by omega) (by omega) (by omega) hr265) ?_
 rintro _ w266 ⟨rfl, HQ267, hk269⟩
 have H268 := bk262 _ _ HQ267
 have hb270 := H268.rowC (i := 0) rfl
 replace hk269 : r264.length = r249.length := hk269
 refine nt (Wp.region (Mz rfl (fw (.int .i64 (r247 + 1)) (Yl.int (e := IntKind.i64.wrap (r247 + 1)) yk (by rw [IntWalk.i64_in _ (by omega)])) (Az rfl (WL.nil (bN ?_))))))
 have H271 := H268.pk [0]
 exact Fin.round (r247 + 1, z22, z70, decide (r247 - z21 ≥ (((Int.toNat (z22 - z21)) / 8 : Nat) : Int)), r248, r264, f40) ⟨rfl, rfl, rfl, rfl, rfl, rfl, trivial⟩ (dm35.2 ⟨H271, by first | omega | (simp only [List.length_set] <;> omega) | (simp only [List.length_replicate]), by omega, by omega, Eq.trans (hq36) (Eq.trans (if_neg h42) (Eq.trans (if_neg h56) (Eq.trans (bnd_of hj93) (Eq.trans (bnd_of hr104) (Eq.trans (bnd_of hj133) (Eq.trans (if_pos h137) (Eq.trans (if_pos h138) (Eq.trans (lpS_l hj164) (Eq.trans (if_neg h168) (Eq.trans (bnd_of hr250) (Eq.trans (if_pos h258) (bnd_of hr265))))))))))))⟩) (by show f40 < f40 + 1; omega)
 refine jF (dF h258) (sr (Mz rfl (Mz rfl (Kz (.bool (decide (z22 - r247 ≥ (((Int.toNat (z22 - z21)) / 8 : Nat) : Int)))) (Ar rfl (Mz rfl (Mz rfl (fw (.int .i64 (r247 + 1)) (Yl.int (e := IntKind.i64.wrap (r247 + 1)) yk (by rw [IntWalk.i64_in _ (by omega)])) (Mz rfl (Mz rfl ?_))))))))))
 obtain ⟨r277, hr278⟩ : ∃ q, pdqT r249 (r247 + 1) z22 z70 = q := ⟨_, rfl⟩
 obtain ⟨D272, HP273, ro274, bk275, rr276⟩ := Own.enter1 H253
 refine cl Try.call65 (self_ _ _ A0 l0.length c0 r249 (r247 + 1) z22 z70 r277 HP273 (by first | rfl | omega | (simp only [List.length_append, List.length_cons, List.length_nil, List.length_take, List.length_drop, List.length_set, List.length_replicate, List.length_map] <;> omega)) (by omega) (by omega) (by omega) (by omega) hr278) ?_
 rintro _ w279 ⟨rfl, HQ280, hk282⟩
 have H281 := bk275 _ _ HQ280
 have hb283 := H281.rowC (i := 0) rfl
 replace hk282 : r277.length = r249.length := hk282
 refine nt (Wp.region (Mz rfl (Az rfl (WL.nil (bN ?_)))))
 have H284 := H281.pk [0]
 exact Fin.round (z21, r247, z70, decide (z22 - r247 ≥ (((Int.toNat (z22 - z21)) / 8 : Nat) : Int)), r248, r277, f40) ⟨rfl, rfl, rfl, rfl, rfl, rfl, trivial⟩ (dm35.2 ⟨H284, by first | omega | (simp only [List.length_set] <;> omega) | (simp only [List.length_replicate]), by omega, by omega, Eq.trans (hq36) (Eq.trans (if_neg h42) (Eq.trans (if_neg h56) (Eq.trans (bnd_of hj93) (Eq.trans (bnd_of hr104) (Eq.trans (bnd_of hj133) (Eq.trans (if_pos h137) (Eq.trans (if_pos h138) (Eq.trans (lpS_l hj164) (Eq.trans (if_neg h168) (Eq.trans (bnd_of hr250) (Eq.trans (if_neg h258) (bnd_of hr278))))))))))))⟩) (by show f40 < f40 + 1; omega)
 refine Sz h138 (Sz h138 (fw (.bool false) (Yl.pickF rfl h138 rfl) (nt (jf (sk (Wp.seq (Wp.seq ?_)))))))
 have H286 := H131.drew
 refine Wp.drawnX [] (fun W => ∃ L', Own w D W ([row A0 l0.length c0 (List.flatMap (eN .u64) l111) 30 1] ++ L')) (by kernel_rfl) (by kernel_rfl) (NoP.then (NoP.then (NoP.block (NoP.then (NoP.block NoP.base))))) ⟨_, H286⟩ ?_
 revert H286
 generalize World.drew w130 = w285
 intro H286
 refine GX.take (v := .int .i64 z21) (rs := []) 0 rfl (by kernel_rfl) (fun _ _ => Yl.move rfl) (GX.take (v := .bool (decide (z21 > 0))) (rs := []) 1 rfl (by kernel_rfl) (fun _ _ => yk) (GX.take (v := .bool (decide (z21 > 0))) (rs := []) 2 rfl (by kernel_rfl) (fun _ _ => Yl.move rfl) ?_))
 by_cases h287 : z21 > 0
 refine GX.takeG (v := .slice A0 l0.length c0) (rs := []) 3 rfl rfl rfl (dT h287) (by kernel_rfl) (fun _ _ => Yl.move rfl) (GX.takeG (v := .int .i64 z21) (rs := []) 4 rfl rfl rfl (dT h287) (by kernel_rfl) (fun _ _ => Yl.move rfl) (GX.takeG (v := .int .i64 ((Int.toNat (z21 - 1) : Nat) : Int)) (rs := []) 5 rfl rfl rfl (dT h287) (by kernel_rfl) (fun _ _ => Yl.int (e := IntKind.i64.wrap (z21 - 1)) yk (by rw [IntWalk.i64_in _ (by omega)]; omega)) ?_))
 obtain ⟨x288, hx289⟩ := at_of (ls := l111) (i := Int.toNat (z21 - 1)) (by first | omega | (simp; done) | (simp; omega))
 refine GX.takeG (v := .pointer (some ⟨ab A0, ao A0 + (Int.toNat (z21 - 1)) * 1, none⟩)) (rs := []) 6 rfl rfl rfl (dT h287) (by kernel_rfl) (fun _ ⟨_, H9⟩ => Yl.indexAddr (El37) rfl rfl ((H9.rds (i := 0) rfl).addr (i := Int.toNat (z21 - 1)) (by omega)) (by omega)) (GX.takeG (v := .int .u64 ((x288 : Nat) : Int)) (rs := []) 7 rfl rfl rfl (dT h287) (by kernel_rfl) (fun _ ⟨_, H9⟩ => Yl.load rfl (Lds.one Try.isAgg30 (((H9.rds (i := 0) rfl).elem eN_len hx289 (by decide)).at_ (k := 0) rfl))) (GX.takeG (v := .slice A0 l0.length c0) (rs := []) 8 rfl rfl rfl (dT h287) (by kernel_rfl) (fun _ _ => Yl.move rfl) (GX.takeG (v := .int .i64 ((Int.toNat z109 : Nat) : Int)) (rs := []) 9 rfl rfl rfl (dT h287) (by kernel_rfl) (fun _ _ => Yl.int (e := z109) (Yl.move rfl) (by omega)) ?_)))
 obtain ⟨x290, hx291⟩ := at_of (ls := l111) (i := Int.toNat z109) (by first | omega | (simp; done) | (simp; omega))
 refine GX.takeG (v := .pointer (some ⟨ab A0, ao A0 + (Int.toNat z109) * 1, none⟩)) (rs := []) 10 rfl rfl rfl (dT h287) (by kernel_rfl) (fun _ ⟨_, H9⟩ => Yl.indexAddr (El37) rfl rfl ((H9.rds (i := 0) rfl).addr (i := Int.toNat z109) (by omega)) (by omega)) (GX.takeG (v := .int .u64 ((x290 : Nat) : Int)) (rs := []) 11 rfl rfl rfl (dT h287) (by kernel_rfl) (fun _ ⟨_, H9⟩ => Yl.load rfl (Lds.one Try.isAgg30 (((H9.rds (i := 0) rfl).elem eN_len hx291 (by decide)).at_ (k := 0) rfl))) ?_)
 obtain ⟨r297, hr298⟩ : ∃ q, cmp_Less_uint64 x288 x290 = q := ⟨_, rfl⟩
 obtain ⟨D292, HP293, ro294, bk295, rr296⟩ := Own.enter0 H286
 refine GX.doG 12 rfl rfl rfl (dT h287) (by kernel_rfl) (Do.call Try.call78 rfl (cmp_Less_uint64_ok _ _ x288 x290 r297 HP293 hr298) ?_)
 rintro _ w299 ⟨rfl, HQ300⟩
 have H301 := bk295 _ _ HQ300
 refine ⟨.inr ⟨_, H301⟩, ?_⟩
 refine GX.takeG (v := .bool (!r297)) (rs := []) 13 rfl rfl rfl (dT h287) (by kernel_rfl) (fun _ _ => yk) (GX.take (v := .bool (!r297)) (rs := []) 14 rfl (by kernel_rfl) (fun _ _ => Yl.pickT rfl (dT h287) rfl) (GX.done (by kernel_rfl) (Fin.then ?_)))
 rcases Bool.eq_false_or_eq_true (r297) with h302 | h302
 refine jF (cn h302) (sk (sr (Mz rfl (Mz rfl (Mz rfl (Mz rfl ?_))))))
 obtain ⟨⟨r308, r309, r310⟩, hr311⟩ : ∃ q : Int × Bool × (List Nat), slices_partitionOrdered_uint64 l111 z21 z22 z109 = q := ⟨_, rfl⟩
 obtain ⟨D303, HP304, ro305, bk306, rr307⟩ := Own.enter1 H301
 refine cl Try.call80 (slices_partitionOrdered_uint64_ok _ _ A0 l0.length c0 l111 z21 z22 z109 r308 r309 r310 HP304 (by first | rfl | omega | (simp only [List.length_append, List.length_cons, List.length_nil, List.length_take, List.length_drop, List.length_set, List.length_replicate, List.length_map] <;> omega)) (by omega) (by omega) (by omega) hr311) ?_
 rintro _ w312 ⟨rfl, HQ313, hk315, hk316⟩
 have H314 := bk306 _ _ HQ313
 have hb317 := H314.rowC (i := 0) rfl
 replace hk315 : r310.length = l111.length := hk315
 replace hk316 : z21 ≤ r308 ∧ r308 < z22 := hk316
 refine Mz rfl (Kz (.int .i64 r308) (Kz (.bool r309) (Az rfl (Ar rfl (Mz rfl (Ar rfl (Mz rfl (Mz rfl (fw (.int .i64 (r308 - z21)) (Yl.int (e := IntKind.i64.wrap (r308 - z21)) yk (by rw [IntWalk.i64_in _ (by omega)])) (Mz rfl (Mz rfl (fw (.int .i64 (z22 - r308)) (Yl.int (e := IntKind.i64.wrap (z22 - r308)) yk (by rw [IntWalk.i64_in _ (by omega)])) (Az rfl (Ar rfl (Mz rfl ?_)))))))))))))))
 have hz318 : ((Int.toNat (z22 - z21) : Nat) : Int) = z22 - z21 := by omega
 refine fw (.int .i64 (((Int.toNat (z22 - z21)) / 8 : Nat) : Int)) (Yl.int (e := IntKind.i64.wrap (Int.tdiv (z22 - z21) 8)) yk (by rw [show Int.tdiv (z22 - z21) 8 = (((Int.toNat (z22 - z21)) / 8 : Nat) : Int) from tdivT (n := 8) (by omega), IntWalk.i64_in _ (by omega)])) (Ar rfl (Mz rfl (Mz rfl (Kz (.bool (decide (r308 - z21 < z22 - r308))) (nt ?_)))))
 by_cases h319 : r308 - z21 < z22 - r308
 refine jT (dT h319) (sr (Mz rfl (Mz rfl (Kz (.bool (decide (r308 - z21 ≥ (((Int.toNat (z22 - z21)) / 8 : Nat) : Int)))) (Ar rfl (Mz rfl (Mz rfl (Mz rfl (Mz rfl ?_)))))))))
 obtain ⟨r325, hr326⟩ : ∃ q, pdqT r310 z21 r308 z70 = q := ⟨_, rfl⟩
 obtain ⟨D320, HP321, ro322, bk323, rr324⟩ := Own.enter1 H314
 refine cl Try.call65 (self_ _ _ A0 l0.length c0 r310 z21 r308 z70 r325 HP321 (by first | rfl | omega | (simp only [List.length_append, List.length_cons, List.length_nil, List.length_take, List.length_drop, List.length_set, List.length_replicate, List.length_map] <;> omega)) (by omega) (by omega) (by omega) (by omega) hr326) ?_
 rintro _ w327 ⟨rfl, HQ328, hk330⟩
 have H329 := bk323 _ _ HQ328
 have hb331 := H329.rowC (i := 0) rfl
 replace hk330 : r325.length = r310.length := hk330
 refine nt (Wp.region (Mz rfl (fw (.int .i64 (r308 + 1)) (Yl.int (e := IntKind.i64.wrap (r308 + 1)) yk (by rw [IntWalk.i64_in _ (by omega)])) (Az rfl (WL.nil (bN ?_))))))
 have H332 := H329.pk [0]
 exact Fin.round (r308 + 1, z22, z70, decide (r308 - z21 ≥ (((Int.toNat (z22 - z21)) / 8 : Nat) : Int)), r309, r325, f40) ⟨rfl, rfl, rfl, rfl, rfl, rfl, trivial⟩ (dm35.2 ⟨H332, by first | omega | (simp only [List.length_set] <;> omega) | (simp only [List.length_replicate]), by omega, by omega, Eq.trans (hq36) (Eq.trans (if_neg h42) (Eq.trans (if_neg h56) (Eq.trans (bnd_of hj93) (Eq.trans (bnd_of hr104) (Eq.trans (bnd_of hj133) (Eq.trans (if_pos h137) (Eq.trans (ifF h138) (Eq.trans (if_pos h287) (Eq.trans (bnd_of (getD_of hx289)) (Eq.trans (bnd_of (getD_of hx291)) (Eq.trans (bnd_of hr298) (Eq.trans (if_pos h302) (Eq.trans (bnd_of hr311) (Eq.trans (if_pos h319) (bnd_of hr326)))))))))))))))⟩) (by show f40 < f40 + 1; omega)
 refine jF (dF h319) (sr (Mz rfl (Mz rfl (Kz (.bool (decide (z22 - r308 ≥ (((Int.toNat (z22 - z21)) / 8 : Nat) : Int)))) (Ar rfl (Mz rfl (Mz rfl (fw (.int .i64 (r308 + 1)) (Yl.int (e := IntKind.i64.wrap (r308 + 1)) yk (by rw [IntWalk.i64_in _ (by omega)])) (Mz rfl (Mz rfl ?_))))))))))
 obtain ⟨r338, hr339⟩ : ∃ q, pdqT r310 (r308 + 1) z22 z70 = q := ⟨_, rfl⟩
 obtain ⟨D333, HP334, ro335, bk336, rr337⟩ := Own.enter1 H314
 refine cl Try.call65 (self_ _ _ A0 l0.length c0 r310 (r308 + 1) z22 z70 r338 HP334 (by first | rfl | omega | (simp only [List.length_append, List.length_cons, List.length_nil, List.length_take, List.length_drop, List.length_set, List.length_replicate, List.length_map] <;> omega)) (by omega) (by omega) (by omega) (by omega) hr339) ?_
 rintro _ w340 ⟨rfl, HQ341, hk343⟩
 have H342 := bk336 _ _ HQ341
 have hb344 := H342.rowC (i := 0) rfl
 replace hk343 : r338.length = r310.length := hk343
 refine nt (Wp.region (Mz rfl (Az rfl (WL.nil (bN ?_)))))
 have H345 := H342.pk [0]
 exact Fin.round (z21, r308, z70, decide (z22 - r308 ≥ (((Int.toNat (z22 - z21)) / 8 : Nat) : Int)), r309, r338, f40) ⟨rfl, rfl, rfl, rfl, rfl, rfl, trivial⟩ (dm35.2 ⟨H345, by first | omega | (simp only [List.length_set] <;> omega) | (simp only [List.length_replicate]), by omega, by omega, Eq.trans (hq36) (Eq.trans (if_neg h42) (Eq.trans (if_neg h56) (Eq.trans (bnd_of hj93) (Eq.trans (bnd_of hr104) (Eq.trans (bnd_of hj133) (Eq.trans (if_pos h137) (Eq.trans (ifF h138) (Eq.trans (if_pos h287) (Eq.trans (bnd_of (getD_of hx289)) (Eq.trans (bnd_of (getD_of hx291)) (Eq.trans (bnd_of hr298) (Eq.trans (if_pos h302) (Eq.trans (bnd_of hr311) (Eq.trans (if_neg h319) (bnd_of hr339)))))))))))))))⟩) (by show f40 < f40 + 1; omega)
 refine jT (cn h302) (sr (Mz rfl (Mz rfl (Mz rfl (Mz rfl ?_)))))
 obtain ⟨⟨r351, r352⟩, hr353⟩ : ∃ q : Int × (List Nat), slices_partitionEqualOrdered_uint64 l111 z21 z22 z109 = q := ⟨_, rfl⟩
 obtain ⟨D346, HP347, ro348, bk349, rr350⟩ := Own.enter1 H301
 refine cl Try.call79 (slices_partitionEqualOrdered_uint64_ok _ _ A0 l0.length c0 l111 z21 z22 z109 r351 r352 HP347 (by first | rfl | omega | (simp only [List.length_append, List.length_cons, List.length_nil, List.length_take, List.length_drop, List.length_set, List.length_replicate, List.length_map] <;> omega)) (by omega) (by omega) (by omega) hr353) ?_
 rintro _ w354 ⟨rfl, HQ355, hk357, hk358⟩
 have H356 := bk349 _ _ HQ355
 have hb359 := H356.rowC (i := 0) rfl
 replace hk357 : r352.length = l111.length := hk357
 replace hk358 : z21 < r351 ∧ r351 ≤ z22 := hk358
 refine Ar rfl (Mz rfl (An rfl (Wp.exit (Fin.thenX (Fin.blockX ?_)))))
 have H360 := H356.pk [0]
 exact Fin.round (r351, z22, z70, b24, b25, r352, f40) ⟨rfl, rfl, rfl, rfl, rfl, rfl, trivial⟩ (dm35.2 ⟨H360, by first | omega | (simp only [List.length_set] <;> omega) | (simp only [List.length_replicate]), by omega, by omega, Eq.trans (hq36) (Eq.trans (if_neg h42) (Eq.trans (if_neg h56) (Eq.trans (bnd_of hj93) (Eq.trans (bnd_of hr104) (Eq.trans (bnd_of hj133) (Eq.trans (if_pos h137) (Eq.trans (ifF h138) (Eq.trans (if_pos h287) (Eq.trans (bnd_of (getD_of hx289)) (Eq.trans (bnd_of (getD_of hx291)) (Eq.trans (bnd_of hr298) (Eq.trans (ifF h302) (bnd_of hr353)))))))))))))⟩) (by show f40 < f40 + 1; omega)
 refine GX.skipG (rs := []) 3 rfl rfl rfl (dF h287) (by kernel_rfl) (GX.skipG (rs := []) 4 rfl rfl rfl (dF h287) (by kernel_rfl) (GX.skipG (rs := []) 5 rfl rfl rfl (dF h287) (by kernel_rfl) (GX.skipG (rs := []) 6 rfl rfl rfl (dF h287) (by kernel_rfl) (GX.skipG (rs := []) 7 rfl rfl rfl (dF h287) (by kernel_rfl) (GX.skipG (rs := []) 8 rfl rfl rfl (dF h287) (by kernel_rfl) (GX.skipG (rs := []) 9 rfl rfl rfl (dF h287) (by kernel_rfl) (GX.skipG (rs := []) 10 rfl rfl rfl (dF h287) (by kernel_rfl) (GX.skipG (rs := []) 11 rfl rfl rfl (dF h287) (by kernel_rfl) (GX.skipG (rs := []) 12 rfl rfl rfl (dF h287) (by kernel_rfl) (GX.skipG (rs := []) 13 rfl rfl rfl (dF h287) (by kernel_rfl) (GX.take (v := .bool false) (rs := []) 14 rfl (by kernel_rfl) (fun _ _ => Yl.pickF rfl (dF h287) rfl) (GX.done (by kernel_rfl) (Fin.then (jf (sk (sr (Mz rfl (Mz rfl (Mz rfl (Mz rfl ?_))))))))))))))))))))
 obtain ⟨⟨r366, r367, r368⟩, hr369⟩ : ∃ q : Int × Bool × (List Nat), slices_partitionOrdered_uint64 l111 z21 z22 z109 = q := ⟨_, rfl⟩
 obtain ⟨D361, HP362, ro363, bk364, rr365⟩ := Own.enter1 H286
 refine cl Try.call80 (slices_partitionOrdered_uint64_ok _ _ A0 l0.length c0 l111 z21 z22 z109 r366 r367 r368 HP362 (by first | rfl | omega | (simp only [List.length_append, List.length_cons, List.length_nil, List.length_take, List.length_drop, List.length_set, List.length_replicate, List.length_map] <;> omega)) (by omega) (by omega) (by omega) hr369) ?_
 rintro _ w370 ⟨rfl, HQ371, hk373, hk374⟩
 have H372 := bk364 _ _ HQ371
 have hb375 := H372.rowC (i := 0) rfl
 replace hk373 : r368.length = l111.length := hk373
 replace hk374 : z21 ≤ r366 ∧ r366 < z22 := hk374
 refine Mz rfl (Kz (.int .i64 r366) (Kz (.bool r367) (Az rfl (Ar rfl (Mz rfl (Ar rfl (Mz rfl (Mz rfl (fw (.int .i64 (r366 - z21)) (Yl.int (e := IntKind.i64.wrap (r366 - z21)) yk (by rw [IntWalk.i64_in _ (by omega)])) (Mz rfl (Mz rfl (fw (.int .i64 (z22 - r366)) (Yl.int (e := IntKind.i64.wrap (z22 - r366)) yk (by rw [IntWalk.i64_in _ (by omega)])) (Az rfl (Ar rfl (Mz rfl ?_)))))))))))))))
 have hz376 : ((Int.toNat (z22 - z21) : Nat) : Int) = z22 - z21 := by omega
 refine fw (.int .i64 (((Int.toNat (z22 - z21)) / 8 : Nat) : Int)) (Yl.int (e := IntKind.i64.wrap (Int.tdiv (z22 - z21) 8)) yk (by rw [show Int.tdiv (z22 - z21) 8 = (((Int.toNat (z22 - z21)) / 8 : Nat) : Int) from tdivT (n := 8) (by omega), IntWalk.i64_in _ (by omega)])) (Ar rfl (Mz rfl (Mz rfl (Kz (.bool (decide (r366 - z21 < z22 - r366))) (nt ?_)))))
 by_cases h377 : r366 - z21 < z22 - r366
 refine jT (dT h377) (sr (Mz rfl (Mz rfl (Kz (.bool (decide (r366 - z21 ≥ (((Int.toNat (z22 - z21)) / 8 : Nat) : Int)))) (Ar rfl (Mz rfl (Mz rfl (Mz rfl (Mz rfl ?_)))))))))
 obtain ⟨r383, hr384⟩ : ∃ q, pdqT r368 z21 r366 z70 = q := ⟨_, rfl⟩
 obtain ⟨D378, HP379, ro380, bk381, rr382⟩ := Own.enter1 H372
 refine cl Try.call65 (self_ _ _ A0 l0.length c0 r368 z21 r366 z70 r383 HP379 (by first | rfl | omega | (simp only [List.length_append, List.length_cons, List.length_nil, List.length_take, List.length_drop, List.length_set, List.length_replicate, List.length_map] <;> omega)) (by omega) (by omega) (by omega) (by omega) hr384) ?_
 rintro _ w385 ⟨rfl, HQ386, hk388⟩
 have H387 := bk381 _ _ HQ386
 have hb389 := H387.rowC (i := 0) rfl
 replace hk388 : r383.length = r368.length := hk388
 refine nt (Wp.region (Mz rfl (fw (.int .i64 (r366 + 1)) (Yl.int (e := IntKind.i64.wrap (r366 + 1)) yk (by rw [IntWalk.i64_in _ (by omega)])) (Az rfl (WL.nil (bN ?_))))))
 have H390 := H387.pk [0]
 exact Fin.round (r366 + 1, z22, z70, decide (r366 - z21 ≥ (((Int.toNat (z22 - z21)) / 8 : Nat) : Int)), r367, r383, f40) ⟨rfl, rfl, rfl, rfl, rfl, rfl, trivial⟩ (dm35.2 ⟨H390, by first | omega | (simp only [List.length_set] <;> omega) | (simp only [List.length_replicate]), by omega, by omega, Eq.trans (hq36) (Eq.trans (if_neg h42) (Eq.trans (if_neg h56) (Eq.trans (bnd_of hj93) (Eq.trans (bnd_of hr104) (Eq.trans (bnd_of hj133) (Eq.trans (if_pos h137) (Eq.trans (ifF h138) (Eq.trans (if_neg h287) (Eq.trans (bnd_of hr369) (Eq.trans (if_pos h377) (bnd_of hr384)))))))))))⟩) (by show f40 < f40 + 1; omega)
 refine jF (dF h377) (sr (Mz rfl (Mz rfl (Kz (.bool (decide (z22 - r366 ≥ (((Int.toNat (z22 - z21)) / 8 : Nat) : Int)))) (Ar rfl (Mz rfl (Mz rfl (fw (.int .i64 (r366 + 1)) (Yl.int (e := IntKind.i64.wrap (r366 + 1)) yk (by rw [IntWalk.i64_in _ (by omega)])) (Mz rfl (Mz rfl ?_))))))))))
 obtain ⟨r396, hr397⟩ : ∃ q, pdqT r368 (r366 + 1) z22 z70 = q := ⟨_, rfl⟩
 obtain ⟨D391, HP392, ro393, bk394, rr395⟩ := Own.enter1 H372
 refine cl Try.call65 (self_ _ _ A0 l0.length c0 r368 (r366 + 1) z22 z70 r396 HP392 (by first | rfl | omega | (simp only [List.length_append, List.length_cons, List.length_nil, List.length_take, List.length_drop, List.length_set, List.length_replicate, List.length_map] <;> omega)) (by omega) (by omega) (by omega) (by omega) hr397) ?_
 rintro _ w398 ⟨rfl, HQ399, hk401⟩
 have H400 := bk394 _ _ HQ399
 have hb402 := H400.rowC (i := 0) rfl
 replace hk401 : r396.length = r368.length := hk401
 refine nt (Wp.region (Mz rfl (Az rfl (WL.nil (bN ?_)))))
 have H403 := H400.pk [0]
 exact Fin.round (z21, r366, z70, decide (z22 - r366 ≥ (((Int.toNat (z22 - z21)) / 8 : Nat) : Int)), r367, r396, f40) ⟨rfl, rfl, rfl, rfl, rfl, rfl, trivial⟩ (dm35.2 ⟨H403, by first | omega | (simp only [List.length_set] <;> omega) | (simp only [List.length_replicate]), by omega, by omega, Eq.trans (hq36) (Eq.trans (if_neg h42) (Eq.trans (if_neg h56) (Eq.trans (bnd_of hj93) (Eq.trans (bnd_of hr104) (Eq.trans (bnd_of hj133) (Eq.trans (if_pos h137) (Eq.trans (ifF h138) (Eq.trans (if_neg h287) (Eq.trans (bnd_of hr369) (Eq.trans (if_neg h377) (bnd_of hr397)))))))))))⟩) (by show f40 < f40 + 1; omega)
 refine Sz h137 (fw (.bool false) (Yl.pickF rfl h137 rfl) (Mz rfl (Sz rfl (Sz rfl (fw (.bool false) (Yl.pickF rfl rfl rfl) (nt (jf (sk (Wp.seq (Wp.seq ?_))))))))))
 have H405 := H131.drew
 refine Wp.drawnX [] (fun W => ∃ L', Own w D W ([row A0 l0.length c0 (List.flatMap (eN .u64) l111) 30 1] ++ L')) (by kernel_rfl) (by kernel_rfl) (NoP.then (NoP.then (NoP.block (NoP.then (NoP.block NoP.base))))) ⟨_, H405⟩ ?_
 revert H405
 generalize World.drew w130 = w404
 intro H405
 refine GX.take (v := .int .i64 z21) (rs := []) 0 rfl (by kernel_rfl) (fun _ _ => Yl.move rfl) (GX.take (v := .bool (decide (z21 > 0))) (rs := []) 1 rfl (by kernel_rfl) (fun _ _ => yk) (GX.take (v := .bool (decide (z21 > 0))) (rs := []) 2 rfl (by kernel_rfl) (fun _ _ => Yl.move rfl) ?_))
 by_cases h406 : z21 > 0
 refine GX.takeG (v := .slice A0 l0.length c0) (rs := []) 3 rfl rfl rfl (dT h406) (by kernel_rfl) (fun _ _ => Yl.move rfl) (GX.takeG (v := .int .i64 z21) (rs := []) 4 rfl rfl rfl (dT h406) (by kernel_rfl) (fun _ _ => Yl.move rfl) (GX.takeG (v := .int .i64 ((Int.toNat (z21 - 1) : Nat) : Int)) (rs := []) 5 rfl rfl rfl (dT h406) (by kernel_rfl) (fun _ _ => Yl.int (e := IntKind.i64.wrap (z21 - 1)) yk (by rw [IntWalk.i64_in _ (by omega)]; omega)) ?_))
 obtain ⟨x407, hx408⟩ := at_of (ls := l111) (i := Int.toNat (z21 - 1)) (by first | omega | (simp; done) | (simp; omega))
 refine GX.takeG (v := .pointer (some ⟨ab A0, ao A0 + (Int.toNat (z21 - 1)) * 1, none⟩)) (rs := []) 6 rfl rfl rfl (dT h406) (by kernel_rfl) (fun _ ⟨_, H9⟩ => Yl.indexAddr (El37) rfl rfl ((H9.rds (i := 0) rfl).addr (i := Int.toNat (z21 - 1)) (by omega)) (by omega)) (GX.takeG (v := .int .u64 ((x407 : Nat) : Int)) (rs := []) 7 rfl rfl rfl (dT h406) (by kernel_rfl) (fun _ ⟨_, H9⟩ => Yl.load rfl (Lds.one Try.isAgg30 (((H9.rds (i := 0) rfl).elem eN_len hx408 (by decide)).at_ (k := 0) rfl))) (GX.takeG (v := .slice A0 l0.length c0) (rs := []) 8 rfl rfl rfl (dT h406) (by kernel_rfl) (fun _ _ => Yl.move rfl) (GX.takeG (v := .int .i64 ((Int.toNat z109 : Nat) : Int)) (rs := []) 9 rfl rfl rfl (dT h406) (by kernel_rfl) (fun _ _ => Yl.int (e := z109) (Yl.move rfl) (by omega)) ?_)))
 obtain ⟨x409, hx410⟩ := at_of (ls := l111) (i := Int.toNat z109) (by first | omega | (simp; done) | (simp; omega))
 refine GX.takeG (v := .pointer (some ⟨ab A0, ao A0 + (Int.toNat z109) * 1, none⟩)) (rs := []) 10 rfl rfl rfl (dT h406) (by kernel_rfl) (fun _ ⟨_, H9⟩ => Yl.indexAddr (El37) rfl rfl ((H9.rds (i := 0) rfl).addr (i := Int.toNat z109) (by omega)) (by omega)) (GX.takeG (v := .int .u64 ((x409 : Nat) : Int)) (rs := []) 11 rfl rfl rfl (dT h406) (by kernel_rfl) (fun _ ⟨_, H9⟩ => Yl.load rfl (Lds.one Try.isAgg30 (((H9.rds (i := 0) rfl).elem eN_len hx410 (by decide)).at_ (k := 0) rfl))) ?_)
 obtain ⟨r416, hr417⟩ : ∃ q, cmp_Less_uint64 x407 x409 = q := ⟨_, rfl⟩
 obtain ⟨D411, HP412, ro413, bk414, rr415⟩ := Own.enter0 H405
 refine GX.doG 12 rfl rfl rfl (dT h406) (by kernel_rfl) (Do.call Try.call78 rfl (cmp_Less_uint64_ok _ _ x407 x409 r416 HP412 hr417) ?_)
 rintro _ w418 ⟨rfl, HQ419⟩
 have H420 := bk414 _ _ HQ419
 refine ⟨.inr ⟨_, H420⟩, ?_⟩
 refine GX.takeG (v := .bool (!r416)) (rs := []) 13 rfl rfl rfl (dT h406) (by kernel_rfl) (fun _ _ => yk) (GX.take (v := .bool (!r416)) (rs := []) 14 rfl (by kernel_rfl) (fun _ _ => Yl.pickT rfl (dT h406) rfl) (GX.done (by kernel_rfl) (Fin.then ?_)))
 rcases Bool.eq_false_or_eq_true (r416) with h421 | h421
 refine jF (cn h421) (sk (sr (Mz rfl (Mz rfl (Mz rfl (Mz rfl ?_))))))
 obtain ⟨⟨r427, r428, r429⟩, hr430⟩ : ∃ q : Int × Bool × (List Nat), slices_partitionOrdered_uint64 l111 z21 z22 z109 = q := ⟨_, rfl⟩
 obtain ⟨D422, HP423, ro424, bk425, rr426⟩ := Own.enter1 H420
 refine cl Try.call80 (slices_partitionOrdered_uint64_ok _ _ A0 l0.length c0 l111 z21 z22 z109 r427 r428 r429 HP423 (by first | rfl | omega | (simp only [List.length_append, List.length_cons, List.length_nil, List.length_take, List.length_drop, List.length_set, List.length_replicate, List.length_map] <;> omega)) (by omega) (by omega) (by omega) hr430) ?_
 rintro _ w431 ⟨rfl, HQ432, hk434, hk435⟩
 have H433 := bk425 _ _ HQ432
 have hb436 := H433.rowC (i := 0) rfl
 replace hk434 : r429.length = l111.length := hk434
 replace hk435 : z21 ≤ r427 ∧ r427 < z22 := hk435
 refine Mz rfl (Kz (.int .i64 r427) (Kz (.bool r428) (Az rfl (Ar rfl (Mz rfl (Ar rfl (Mz rfl (Mz rfl (fw (.int .i64 (r427 - z21)) (Yl.int (e := IntKind.i64.wrap (r427 - z21)) yk (by rw [IntWalk.i64_in _ (by omega)])) (Mz rfl (Mz rfl (fw (.int .i64 (z22 - r427)) (Yl.int (e := IntKind.i64.wrap (z22 - r427)) yk (by rw [IntWalk.i64_in _ (by omega)])) (Az rfl (Ar rfl (Mz rfl ?_)))))))))))))))
 have hz437 : ((Int.toNat (z22 - z21) : Nat) : Int) = z22 - z21 := by omega
 refine fw (.int .i64 (((Int.toNat (z22 - z21)) / 8 : Nat) : Int)) (Yl.int (e := IntKind.i64.wrap (Int.tdiv (z22 - z21) 8)) yk (by rw [show Int.tdiv (z22 - z21) 8 = (((Int.toNat (z22 - z21)) / 8 : Nat) : Int) from tdivT (n := 8) (by omega), IntWalk.i64_in _ (by omega)])) (Ar rfl (Mz rfl (Mz rfl (Kz (.bool (decide (r427 - z21 < z22 - r427))) (nt ?_)))))
 by_cases h438 : r427 - z21 < z22 - r427
 refine jT (dT h438) (sr (Mz rfl (Mz rfl (Kz (.bool (decide (r427 - z21 ≥ (((Int.toNat (z22 - z21)) / 8 : Nat) : Int)))) (Ar rfl (Mz rfl (Mz rfl (Mz rfl (Mz rfl ?_)))))))))
 obtain ⟨r444, hr445⟩ : ∃ q, pdqT r429 z21 r427 z70 = q := ⟨_, rfl⟩
 obtain ⟨D439, HP440, ro441, bk442, rr443⟩ := Own.enter1 H433
 refine cl Try.call65 (self_ _ _ A0 l0.length c0 r429 z21 r427 z70 r444 HP440 (by first | rfl | omega | (simp only [List.length_append, List.length_cons, List.length_nil, List.length_take, List.length_drop, List.length_set, List.length_replicate, List.length_map] <;> omega)) (by omega) (by omega) (by omega) (by omega) hr445) ?_
 rintro _ w446 ⟨rfl, HQ447, hk449⟩
 have H448 := bk442 _ _ HQ447
 have hb450 := H448.rowC (i := 0) rfl
 replace hk449 : r444.length = r429.length := hk449
 refine nt (Wp.region (Mz rfl (fw (.int .i64 (r427 + 1)) (Yl.int (e := IntKind.i64.wrap (r427 + 1)) yk (by rw [IntWalk.i64_in _ (by omega)])) (Az rfl (WL.nil (bN ?_))))))
 have H451 := H448.pk [0]
 exact Fin.round (r427 + 1, z22, z70, decide (r427 - z21 ≥ (((Int.toNat (z22 - z21)) / 8 : Nat) : Int)), r428, r444, f40) ⟨rfl, rfl, rfl, rfl, rfl, rfl, trivial⟩ (dm35.2 ⟨H451, by first | omega | (simp only [List.length_set] <;> omega) | (simp only [List.length_replicate]), by omega, by omega, Eq.trans (hq36) (Eq.trans (if_neg h42) (Eq.trans (if_neg h56) (Eq.trans (bnd_of hj93) (Eq.trans (bnd_of hr104) (Eq.trans (bnd_of hj133) (Eq.trans (ifF h137) (Eq.trans (if_pos h406) (Eq.trans (bnd_of (getD_of hx408)) (Eq.trans (bnd_of (getD_of hx410)) (Eq.trans (bnd_of hr417) (Eq.trans (if_pos h421) (Eq.trans (bnd_of hr430) (Eq.trans (if_pos h438) (bnd_of hr445))))))))))))))⟩) (by show f40 < f40 + 1; omega)
 refine jF (dF h438) (sr (Mz rfl (Mz rfl (Kz (.bool (decide (z22 - r427 ≥ (((Int.toNat (z22 - z21)) / 8 : Nat) : Int)))) (Ar rfl (Mz rfl (Mz rfl (fw (.int .i64 (r427 + 1)) (Yl.int (e := IntKind.i64.wrap (r427 + 1)) yk (by rw [IntWalk.i64_in _ (by omega)])) (Mz rfl (Mz rfl ?_))))))))))
 obtain ⟨r457, hr458⟩ : ∃ q, pdqT r429 (r427 + 1) z22 z70 = q := ⟨_, rfl⟩
 obtain ⟨D452, HP453, ro454, bk455, rr456⟩ := Own.enter1 H433
 refine cl Try.call65 (self_ _ _ A0 l0.length c0 r429 (r427 + 1) z22 z70 r457 HP453 (by first | rfl | omega | (simp only [List.length_append, List.length_cons, List.length_nil, List.length_take, List.length_drop, List.length_set, List.length_replicate, List.length_map] <;> omega)) (by omega) (by omega) (by omega) (by omega) hr458) ?_
 rintro _ w459 ⟨rfl, HQ460, hk462⟩
 have H461 := bk455 _ _ HQ460
 have hb463 := H461.rowC (i := 0) rfl
 replace hk462 : r457.length = r429.length := hk462
 refine nt (Wp.region (Mz rfl (Az rfl (WL.nil (bN ?_)))))
 have H464 := H461.pk [0]
 exact Fin.round (z21, r427, z70, decide (z22 - r427 ≥ (((Int.toNat (z22 - z21)) / 8 : Nat) : Int)), r428, r457, f40) ⟨rfl, rfl, rfl, rfl, rfl, rfl, trivial⟩ (dm35.2 ⟨H464, by first | omega | (simp only [List.length_set] <;> omega) | (simp only [List.length_replicate]), by omega, by omega, Eq.trans (hq36) (Eq.trans (if_neg h42) (Eq.trans (if_neg h56) (Eq.trans (bnd_of hj93) (Eq.trans (bnd_of hr104) (Eq.trans (bnd_of hj133) (Eq.trans (ifF h137) (Eq.trans (if_pos h406) (Eq.trans (bnd_of (getD_of hx408)) (Eq.trans (bnd_of (getD_of hx410)) (Eq.trans (bnd_of hr417) (Eq.trans (if_pos h421) (Eq.trans (bnd_of hr430) (Eq.trans (if_neg h438) (bnd_of hr458))))))))))))))⟩) (by show f40 < f40 + 1; omega)
 refine jT (cn h421) (sr (Mz rfl (Mz rfl (Mz rfl (Mz rfl ?_)))))
 obtain ⟨⟨r470, r471⟩, hr472⟩ : ∃ q : Int × (List Nat), slices_partitionEqualOrdered_uint64 l111 z21 z22 z109 = q := ⟨_, rfl⟩
 obtain ⟨D465, HP466, ro467, bk468, rr469⟩ := Own.enter1 H420
 refine cl Try.call79 (slices_partitionEqualOrdered_uint64_ok _ _ A0 l0.length c0 l111 z21 z22 z109 r470 r471 HP466 (by first | rfl | omega | (simp only [List.length_append, List.length_cons, List.length_nil, List.length_take, List.length_drop, List.length_set, List.length_replicate, List.length_map] <;> omega)) (by omega) (by omega) (by omega) hr472) ?_
 rintro _ w473 ⟨rfl, HQ474, hk476, hk477⟩
 have H475 := bk468 _ _ HQ474
 have hb478 := H475.rowC (i := 0) rfl
 replace hk476 : r471.length = l111.length := hk476
 replace hk477 : z21 < r470 ∧ r470 ≤ z22 := hk477
 refine Ar rfl (Mz rfl (An rfl (Wp.exit (Fin.thenX (Fin.blockX ?_)))))
 have H479 := H475.pk [0]
 exact Fin.round (r470, z22, z70, b24, b25, r471, f40) ⟨rfl, rfl, rfl, rfl, rfl, rfl, trivial⟩ (dm35.2 ⟨H479, by first | omega | (simp only [List.length_set] <;> omega) | (simp only [List.length_replicate]), by omega, by omega, Eq.trans (hq36) (Eq.trans (if_neg h42) (Eq.trans (if_neg h56) (Eq.trans (bnd_of hj93) (Eq.trans (bnd_of hr104) (Eq.trans (bnd_of hj133) (Eq.trans (ifF h137) (Eq.trans (if_pos h406) (Eq.trans (bnd_of (getD_of hx408)) (Eq.trans (bnd_of (getD_of hx410)) (Eq.trans (bnd_of hr417) (Eq.trans (ifF h421) (bnd_of hr472))))))))))))⟩) (by show f40 < f40 + 1; omega)
 refine GX.skipG (rs := []) 3 rfl rfl rfl (dF h406) (by kernel_rfl) (GX.skipG (rs := []) 4 rfl rfl rfl (dF h406) (by kernel_rfl) (GX.skipG (rs := []) 5 rfl rfl rfl (dF h406) (by kernel_rfl) (GX.skipG (rs := []) 6 rfl rfl rfl (dF h406) (by kernel_rfl) (GX.skipG (rs := []) 7 rfl rfl rfl (dF h406) (by kernel_rfl) (GX.skipG (rs := []) 8 rfl rfl rfl (dF h406) (by kernel_rfl) (GX.skipG (rs := []) 9 rfl rfl rfl (dF h406) (by kernel_rfl) (GX.skipG (rs := []) 10 rfl rfl rfl (dF h406) (by kernel_rfl) (GX.skipG (rs := []) 11 rfl rfl rfl (dF h406) (by kernel_rfl) (GX.skipG (rs := []) 12 rfl rfl rfl (dF h406) (by kernel_rfl) (GX.skipG (rs := []) 13 rfl rfl rfl (dF h406) (by kernel_rfl) (GX.take (v := .bool false) (rs := []) 14 rfl (by kernel_rfl) (fun _ _ => Yl.pickF rfl (dF h406) rfl) (GX.done (by kernel_rfl) (Fin.then (jf (sk (sr (Mz rfl (Mz rfl (Mz rfl (Mz rfl ?_))))))))))))))))))))
 obtain ⟨⟨r485, r486, r487⟩, hr488⟩ : ∃ q : Int × Bool × (List Nat), slices_partitionOrdered_uint64 l111 z21 z22 z109 = q := ⟨_, rfl⟩
 obtain ⟨D480, HP481, ro482, bk483, rr484⟩ := Own.enter1 H405
 refine cl Try.call80 (slices_partitionOrdered_uint64_ok _ _ A0 l0.length c0 l111 z21 z22 z109 r485 r486 r487 HP481 (by first | rfl | omega | (simp only [List.length_append, List.length_cons, List.length_nil, List.length_take, List.length_drop, List.length_set, List.length_replicate, List.length_map] <;> omega)) (by omega) (by omega) (by omega) hr488) ?_
 rintro _ w489 ⟨rfl, HQ490, hk492, hk493⟩
 have H491 := bk483 _ _ HQ490
 have hb494 := H491.rowC (i := 0) rfl
 replace hk492 : r487.length = l111.length := hk492
 replace hk493 : z21 ≤ r485 ∧ r485 < z22 := hk493
 refine Mz rfl (Kz (.int .i64 r485) (Kz (.bool r486) (Az rfl (Ar rfl (Mz rfl (Ar rfl (Mz rfl (Mz rfl (fw (.int .i64 (r485 - z21)) (Yl.int (e := IntKind.i64.wrap (r485 - z21)) yk (by rw [IntWalk.i64_in _ (by omega)])) (Mz rfl (Mz rfl (fw (.int .i64 (z22 - r485)) (Yl.int (e := IntKind.i64.wrap (z22 - r485)) yk (by rw [IntWalk.i64_in _ (by omega)])) (Az rfl (Ar rfl (Mz rfl ?_)))))))))))))))
 have hz495 : ((Int.toNat (z22 - z21) : Nat) : Int) = z22 - z21 := by omega
 refine fw (.int .i64 (((Int.toNat (z22 - z21)) / 8 : Nat) : Int)) (Yl.int (e := IntKind.i64.wrap (Int.tdiv (z22 - z21) 8)) yk (by rw [show Int.tdiv (z22 - z21) 8 = (((Int.toNat (z22 - z21)) / 8 : Nat) : Int) from tdivT (n := 8) (by omega), IntWalk.i64_in _ (by omega)])) (Ar rfl (Mz rfl (Mz rfl (Kz (.bool (decide (r485 - z21 < z22 - r485))) (nt ?_)))))
 by_cases h496 : r485 - z21 < z22 - r485
 refine jT (dT h496) (sr (Mz rfl (Mz rfl (Kz (.bool (decide (r485 - z21 ≥ (((Int.toNat (z22 - z21)) / 8 : Nat) : Int)))) (Ar rfl (Mz rfl (Mz rfl (Mz rfl (Mz rfl ?_)))))))))
 obtain ⟨r502, hr503⟩ : ∃ q, pdqT r487 z21 r485 z70 = q := ⟨_, rfl⟩
 obtain ⟨D497, HP498, ro499, bk500, rr501⟩ := Own.enter1 H491
 refine cl Try.call65 (self_ _ _ A0 l0.length c0 r487 z21 r485 z70 r502 HP498 (by first | rfl | omega | (simp only [List.length_append, List.length_cons, List.length_nil, List.length_take, List.length_drop, List.length_set, List.length_replicate, List.length_map] <;> omega)) (by omega) (by omega) (by omega) (by omega) hr503) ?_
 rintro _ w504 ⟨rfl, HQ505, hk507⟩
 have H506 := bk500 _ _ HQ505
 have hb508 := H506.rowC (i := 0) rfl
 replace hk507 : r502.length = r487.length := hk507
 refine nt (Wp.region (Mz rfl (fw (.int .i64 (r485 + 1)) (Yl.int (e := IntKind.i64.wrap (r485 + 1)) yk (by rw [IntWalk.i64_in _ (by omega)])) (Az rfl (WL.nil (bN ?_))))))
 have H509 := H506.pk [0]
 exact Fin.round (r485 + 1, z22, z70, decide (r485 - z21 ≥ (((Int.toNat (z22 - z21)) / 8 : Nat) : Int)), r486, r502, f40) ⟨rfl, rfl, rfl, rfl, rfl, rfl, trivial⟩ (dm35.2 ⟨H509, by first | omega | (simp only [List.length_set] <;> omega) | (simp only [List.length_replicate]), by omega, by omega, Eq.trans (hq36) (Eq.trans (if_neg h42) (Eq.trans (if_neg h56) (Eq.trans (bnd_of hj93) (Eq.trans (bnd_of hr104) (Eq.trans (bnd_of hj133) (Eq.trans (ifF h137) (Eq.trans (if_neg h406) (Eq.trans (bnd_of hr488) (Eq.trans (if_pos h496) (bnd_of hr503))))))))))⟩) (by show f40 < f40 + 1; omega)
 refine jF (dF h496) (sr (Mz rfl (Mz rfl (Kz (.bool (decide (z22 - r485 ≥ (((Int.toNat (z22 - z21)) / 8 : Nat) : Int)))) (Ar rfl (Mz rfl (Mz rfl (fw (.int .i64 (r485 + 1)) (Yl.int (e := IntKind.i64.wrap (r485 + 1)) yk (by rw [IntWalk.i64_in _ (by omega)])) (Mz rfl (Mz rfl ?_))))))))))
 obtain ⟨r515, hr516⟩ : ∃ q, pdqT r487 (r485 + 1) z22 z70 = q := ⟨_, rfl⟩
 obtain ⟨D510, HP511, ro512, bk513, rr514⟩ := Own.enter1 H491
 refine cl Try.call65 (self_ _ _ A0 l0.length c0 r487 (r485 + 1) z22 z70 r515 HP511 (by first | rfl | omega | (simp only [List.length_append, List.length_cons, List.length_nil, List.length_take, List.length_drop, List.length_set, List.length_replicate, List.length_map] <;> omega)) (by omega) (by omega) (by omega) (by omega) hr516) ?_
 rintro _ w517 ⟨rfl, HQ518, hk520⟩
 have H519 := bk513 _ _ HQ518
 have hb521 := H519.rowC (i := 0) rfl
 replace hk520 : r515.length = r487.length := hk520
 refine nt (Wp.region (Mz rfl (Az rfl (WL.nil (bN ?_)))))
 have H522 := H519.pk [0]
 exact Fin.round (z21, r485, z70, decide (z22 - r485 ≥ (((Int.toNat (z22 - z21)) / 8 : Nat) : Int)), r486, r515, f40) ⟨rfl, rfl, rfl, rfl, rfl, rfl, trivial⟩ (dm35.2 ⟨H522, by first | omega | (simp only [List.length_set] <;> omega) | (simp only [List.length_replicate]), by omega, by omega, Eq.trans (hq36) (Eq.trans (if_neg h42) (Eq.trans (if_neg h56) (Eq.trans (bnd_of hj93) (Eq.trans (bnd_of hr104) (Eq.trans (bnd_of hj133) (Eq.trans (ifF h137) (Eq.trans (if_neg h406) (Eq.trans (bnd_of hr488) (Eq.trans (if_neg h496) (bnd_of hr516))))))))))⟩) (by show f40 < f40 + 1; omega)
end Go.Proofs.Ytggnajpokhaaiaa
