/-
 cache: what a cache writes back to.
-/
import Derived.Test.YtkekaemfokmhdaaCaI
namespace Go.Proofs.Ytkekaemfokmhdaa
open Go.RowKit
set_option linter.unusedVariables false
set_option linter.unusedSectionVars false
set_option linter.unusedSimpArgs false

theorem El46 : Elem Try.prog 46 57 4 40 := elem_of (z := .agg #[.int .i64 0, .int .i64 0, .int .u64 0, .string ⟨List.toArray ([])⟩]) Try.underlying46 (by kernel_rfl) rfl (by decide)

structure CallD where
 xKind : Int
 xId : Int
 xLsn : Nat
 xBytes : List UInt8

def CallD.cells (x : CallD) : List Value := [.int .i64 x.xKind, .int .i64 x.xId, .int .u64 ((x.xLsn : Nat) : Int), .string ⟨List.toArray x.xBytes⟩]

instance : Bk CallD := ⟨fun x _ => bk x.xKind + (bk x.xId + (bk x.xLsn + (bk x.xBytes + (0))))⟩

theorem CallD.len : ∀ x, (CallD.cells x).length = 4 := fun _ => rfl

theorem CallD.one : ∀ x, ∀ u ∈ CallD.cells x, u.oneCell' = true := fun x u hu => by
 simp only [CallD.cells, List.mem_cons, List.not_mem_nil, or_false] at hu
 rcases hu with rfl | rfl | rfl | rfl <;> rfl

def CallD.Ok (w : World) (x : CallD) : Prop := ((-9223372036854775808) ≤ x.xKind ∧ x.xKind ≤ 9223372036854775807) ∧ ((-9223372036854775808) ≤ x.xId ∧ x.xId ≤ 9223372036854775807) ∧ (x.xLsn ≤ 18446744073709551615) ∧ (x.xBytes.length ≤ 140737488351232)

set_option maxRecDepth 100000 in
theorem opens_CallD (w : World) : Opens Try.prog w 57 4 CallD.cells (CallD.Ok w) :=
 (opens_struct (sz := 4) Try.underlying57 (by kernel_rfl) (OpensF.cons (i := 0) (off := 0) (s := 1) rfl rfl (opens_int (k := .i64) (lo := -9223372036854775808) (hi := 9223372036854775807) Try.underlying3 (by kernel_rfl) (by decide) (by decide)) (OpensF.cons (i := 1) (off := 1) (s := 1) rfl rfl (opens_int (k := .i64) (lo := -9223372036854775808) (hi := 9223372036854775807) Try.underlying3 (by kernel_rfl) (by decide) (by decide)) (OpensF.cons (i := 2) (off := 2) (s := 1) rfl rfl (opens_nat (k := .u64) (hi := 18446744073709551615) Try.underlying33 (by kernel_rfl) (by decide) (by decide)) (OpensF.cons (i := 3) (off := 3) (s := 1) rfl rfl (opens_string Try.underlying9 (by kernel_rfl)) OpensF.nil))))).map (fun p => ⟨p.1, p.2.1, p.2.2.1, p.2.2.2.1⟩) CallD.len (fun _ => rfl) (fun _ h => ⟨h.1, h.2.1, h.2.2.1, h.2.2.2.1⟩) fun _ => Nat.le_refl _

instance : Inhabited CallD := ⟨⟨default, default, default, default⟩⟩

theorem El65 : Elem Try.prog 65 75 7 64 := elem_of (z := .agg #[.bool false, .int .i64 0, .slice none 0 0, .int .i64 0, .bool false, .bool false, .int .u64 0]) Try.underlying65 (by kernel_rfl) rfl (by decide)

theorem El36 : Elem Try.prog 36 5 1 1 := elem_of (z := .int .u8 0) Try.underlying36 (by kernel_rfl) rfl (by decide)

structure placeD where
 xfull : Bool
 xid : Int
 xbytes : Sv UInt8
 xpins : Int
 xtouched : Bool
 xdirty : Bool
 xlsn : Nat

def placeD.cells (x : placeD) : List Value := [.bool x.xfull, .int .i64 x.xid, .slice x.xbytes.A x.xbytes.ls.length x.xbytes.c, .int .i64 x.xpins, .bool x.xtouched, .bool x.xdirty, .int .u64 ((x.xlsn : Nat) : Int)]

instance : Bk placeD := ⟨fun x _ => bk x.xfull + (bk x.xid + (bk x.xbytes + (bk x.xpins + (bk x.xtouched + (bk x.xdirty + (bk x.xlsn + (0)))))))⟩

theorem placeD.len : ∀ x, (placeD.cells x).length = 7 := fun _ => rfl

theorem placeD.one : ∀ x, ∀ u ∈ placeD.cells x, u.oneCell' = true := fun x u hu => by
 simp only [placeD.cells, List.mem_cons, List.not_mem_nil, or_false] at hu
 rcases hu with rfl | rfl | rfl | rfl | rfl | rfl | rfl <;> rfl

def placeD.Ok (w : World) (x : placeD) : Prop := (True) ∧ ((-9223372036854775808) ≤ x.xid ∧ x.xid ≤ 9223372036854775807) ∧ (SvOk w 1 1 eB (fun _ => True) x.xbytes) ∧ ((-9223372036854775808) ≤ x.xpins ∧ x.xpins ≤ 9223372036854775807) ∧ (True) ∧ (True) ∧ (x.xlsn ≤ 18446744073709551615)

set_option maxRecDepth 100000 in
theorem opens_placeD (w : World) : Opens Try.prog w 75 7 placeD.cells (placeD.Ok w) :=
 (opens_struct (sz := 7) Try.underlying75 (by kernel_rfl) (OpensF.cons (i := 0) (off := 0) (s := 1) rfl rfl (opens_bool Try.underlying4 (by kernel_rfl)) (OpensF.cons (i := 1) (off := 1) (s := 1) rfl rfl (opens_int (k := .i64) (lo := -9223372036854775808) (hi := 9223372036854775807) Try.underlying3 (by kernel_rfl) (by decide) (by decide)) (OpensF.cons (i := 2) (off := 2) (s := 1) rfl rfl (opens_slice (bytes := 1) Try.underlying36 (by kernel_rfl) (by kernel_rfl) (by decide) (opens_u8 Try.underlying5 (by kernel_rfl))) (OpensF.cons (i := 3) (off := 3) (s := 1) rfl rfl (opens_int (k := .i64) (lo := -9223372036854775808) (hi := 9223372036854775807) Try.underlying3 (by kernel_rfl) (by decide) (by decide)) (OpensF.cons (i := 4) (off := 4) (s := 1) rfl rfl (opens_bool Try.underlying4 (by kernel_rfl)) (OpensF.cons (i := 5) (off := 5) (s := 1) rfl rfl (opens_bool Try.underlying4 (by kernel_rfl)) (OpensF.cons (i := 6) (off := 6) (s := 1) rfl rfl (opens_nat (k := .u64) (hi := 18446744073709551615) Try.underlying33 (by kernel_rfl) (by decide) (by decide)) OpensF.nil)))))))).map (fun p => ⟨p.1, p.2.1, p.2.2.1, p.2.2.2.1, p.2.2.2.2.1, p.2.2.2.2.2.1, p.2.2.2.2.2.2.1⟩) placeD.len (fun _ => rfl) (fun _ h => ⟨h.1, h.2.1, h.2.2.1, h.2.2.2.1, h.2.2.2.2.1, h.2.2.2.2.2.1, h.2.2.2.2.2.2.1⟩) fun _ => Nat.le_refl _

instance : Inhabited placeD := ⟨⟨default, default, default, default, default, default, default⟩⟩

structure placeT where
 xfull : Bool
 xid : Int
 xbytes : Ll UInt8
 xpins : Int
 xtouched : Bool
 xdirty : Bool
 xlsn : Nat

instance : Inhabited placeT := ⟨⟨default, default, default, default, default, default, default⟩⟩

def placeD.abs (x : placeD) : placeT := ⟨x.xfull, x.xid, ⟨x.xbytes.ls⟩, x.xpins, x.xtouched, x.xdirty, x.xlsn⟩

def placeD.own (x : placeD) : List HP := [row x.xbytes.A x.xbytes.ls.length x.xbytes.c (List.flatMap eB x.xbytes.ls) 5 1]

theorem El49 : Elem Try.prog 49 78 7 56 := elem_of (z := .agg #[.bool false, .int .i64 0, .int .i64 0, .string ⟨List.toArray ([])⟩, .bool false, .bool false, .int .u64 0]) Try.underlying49 (by kernel_rfl) rfl (by decide)

structure PlaceD where
 xFull : Bool
 xId : Int
 xPins : Int
 xBytes : List UInt8
 xTouched : Bool
 xDirty : Bool
 xLsn : Nat

def PlaceD.cells (x : PlaceD) : List Value := [.bool x.xFull, .int .i64 x.xId, .int .i64 x.xPins, .string ⟨List.toArray x.xBytes⟩, .bool x.xTouched, .bool x.xDirty, .int .u64 ((x.xLsn : Nat) : Int)]

instance : Bk PlaceD := ⟨fun x _ => bk x.xFull + (bk x.xId + (bk x.xPins + (bk x.xBytes + (bk x.xTouched + (bk x.xDirty + (bk x.xLsn + (0)))))))⟩

theorem PlaceD.len : ∀ x, (PlaceD.cells x).length = 7 := fun _ => rfl

theorem PlaceD.one : ∀ x, ∀ u ∈ PlaceD.cells x, u.oneCell' = true := fun x u hu => by
 simp only [PlaceD.cells, List.mem_cons, List.not_mem_nil, or_false] at hu
 rcases hu with rfl | rfl | rfl | rfl | rfl | rfl | rfl <;> rfl

def PlaceD.Ok (w : World) (x : PlaceD) : Prop := (True) ∧ ((-9223372036854775808) ≤ x.xId ∧ x.xId ≤ 9223372036854775807) ∧ ((-9223372036854775808) ≤ x.xPins ∧ x.xPins ≤ 9223372036854775807) ∧ (x.xBytes.length ≤ 140737488351232) ∧ (True) ∧ (True) ∧ (x.xLsn ≤ 18446744073709551615)

set_option maxRecDepth 100000 in
theorem opens_PlaceD (w : World) : Opens Try.prog w 78 7 PlaceD.cells (PlaceD.Ok w) :=
 (opens_struct (sz := 7) Try.underlying78 (by kernel_rfl) (OpensF.cons (i := 0) (off := 0) (s := 1) rfl rfl (opens_bool Try.underlying4 (by kernel_rfl)) (OpensF.cons (i := 1) (off := 1) (s := 1) rfl rfl (opens_int (k := .i64) (lo := -9223372036854775808) (hi := 9223372036854775807) Try.underlying3 (by kernel_rfl) (by decide) (by decide)) (OpensF.cons (i := 2) (off := 2) (s := 1) rfl rfl (opens_int (k := .i64) (lo := -9223372036854775808) (hi := 9223372036854775807) Try.underlying3 (by kernel_rfl) (by decide) (by decide)) (OpensF.cons (i := 3) (off := 3) (s := 1) rfl rfl (opens_string Try.underlying9 (by kernel_rfl)) (OpensF.cons (i := 4) (off := 4) (s := 1) rfl rfl (opens_bool Try.underlying4 (by kernel_rfl)) (OpensF.cons (i := 5) (off := 5) (s := 1) rfl rfl (opens_bool Try.underlying4 (by kernel_rfl)) (OpensF.cons (i := 6) (off := 6) (s := 1) rfl rfl (opens_nat (k := .u64) (hi := 18446744073709551615) Try.underlying33 (by kernel_rfl) (by decide) (by decide)) OpensF.nil)))))))).map (fun p => ⟨p.1, p.2.1, p.2.2.1, p.2.2.2.1, p.2.2.2.2.1, p.2.2.2.2.2.1, p.2.2.2.2.2.2.1⟩) PlaceD.len (fun _ => rfl) (fun _ h => ⟨h.1, h.2.1, h.2.2.1, h.2.2.2.1, h.2.2.2.2.1, h.2.2.2.2.2.1, h.2.2.2.2.2.2.1⟩) fun _ => Nat.le_refl _

instance : Inhabited PlaceD := ⟨⟨default, default, default, default, default, default, default⟩⟩

structure BackT where
 xPages : List (Int × List UInt8)
 xLog : Nat
 xCalls : List CallD
 xLeft : Int
instance : Inhabited BackT := ⟨⟨[], 0, [], 0⟩⟩

def BackO (b : Nat) (d : BackT) : HP := exS (fun g : Nat × (Option Addr) × Nat => PgOk d.xPages) (fun g => [blk b [.map (some g.1), .int .u64 ((d.xLog : Nat) : Int), .slice g.2.1 d.xCalls.length g.2.2, .int .i64 d.xLeft] 48, mapr g.1 kI kS d.xPages, row g.2.1 d.xCalls.length g.2.2 (List.flatMap CallD.cells d.xCalls) 57 4])

def bytes_Clone (l0 : List UInt8) : (List UInt8) :=
 l0

set_option maxRecDepth 100000 in
theorem bytes_Clone_ok (w : World) (D : Nat → Prop) (A0 : Option Addr) (n0 c0 : Nat) (l0 : List UInt8) (r0 : List UInt8) (H : Own w D w []) (hx0 : Ro w D fun w' => Rds w' 1 A0 n0 (List.flatMap eB l0)) (hn0 : n0 = l0.length) (hl0 : l0.length * 1 ≤ 211106232532992) (hr : bytes_Clone l0 = r0) :
    Calls Try.prog 23 #[.slice A0 n0 c0] w (Ret fun v w' => ∃ (B0 : Option Addr) (b0 : Nat), v = .slice B0 r0.length b0 ∧ Own w D w' [row B0 r0.length b0 (List.flatMap eB r0) 5 1] ∧ (r0.length = l0.length)) := by
 subst hn0
 refine Calls.body (args := [.slice A0 l0.length c0]) Try.func23 rfl rfl rfl ?_
 show Wp _ _ _ [(0, .slice A0 l0.length c0)] _ _
 refine sr (An rfl (Wp.seq (sr (Mz rfl (fw (.bool (Option.isNone A0)) (Yl.sliceNil Try.underlying36 rfl rfl) (nt ?_))))))
 rcases Bool.eq_false_or_eq_true (Option.isNone A0) with h21 | h21
 obtain rfl : l0 = [] := rds_none (enc := eB) (H.ro hx0) h21
 refine jT h21 (sr (An rfl (rt (tR (rs ?_)))))
 have H22 : Own w D w [row none 0 0 (List.flatMap eB ([])) 5 1] := H.free (row_nil 5 1)
 have H23 := H22.pk [0]
 obtain rfl : _ = ([]) := hr.symm.trans rfl
 exact ⟨none, 0, rfl, H23, (by first | rfl | omega | simp)⟩
 refine jF h21 (sk (sr ?_))
 refine nrw [] 5 1 0 H ?_
 intro A24 w25 H26
 replace H26 : Own w D w25 [row A24 0 0 (List.flatMap eB ([])) 5 1] := H26
 refine Mz rfl ?_
 refine WL.do rfl (Do.appendW (k := 0) (m := l0.length) (El36) H26 rfl rfl (src_of Try.underlying36 (H26.ro hx0) (flat_one eB_one l0)) rfl (by omega) (s := l0.length) (by omega) rfl ?_)
 intro A27 c28 w29 H30
 refine An rfl (rt (rs ?_))
 have H31 := H30.pk [0]
 obtain rfl : _ = l0 := hr.symm.trans rfl
 exact ⟨A27, c28, rfl, H31, (by first | rfl | omega | simp)⟩

def r10_Back_Load (p0 : BackT) (p1 : Int) : (List UInt8) × Int × BackT :=
 if p0.xLeft = 0 then (([] : List UInt8), 60, (BackT.mk p0.xPages p0.xLog (p0.xCalls ++ [(CallD.mk 1 p1 0 ([]))]) p0.xLeft)) else if p0.xLeft > 0 then bnd (mget p0.xPages p1) fun yo54 => if Option.isSome yo54 = true then ((Option.getD yo54 []), 0, (BackT.mk p0.xPages p0.xLog (p0.xCalls ++ [(CallD.mk 1 p1 0 ([]))]) (IntKind.i64.wrap (p0.xLeft - 1)))) else (([] : List UInt8), 90, (BackT.mk p0.xPages p0.xLog (p0.xCalls ++ [(CallD.mk 1 p1 0 ([]))]) (IntKind.i64.wrap (p0.xLeft - 1)))) else bnd (mget p0.xPages p1) fun yo69 => if Option.isSome yo69 = true then ((Option.getD yo69 []), 0, (BackT.mk p0.xPages p0.xLog (p0.xCalls ++ [(CallD.mk 1 p1 0 ([]))]) p0.xLeft)) else (([] : List UInt8), 90, (BackT.mk p0.xPages p0.xLog (p0.xCalls ++ [(CallD.mk 1 p1 0 ([]))]) p0.xLeft))

set_option maxRecDepth 100000 in
theorem r10_Back_Load_ok (w : World) (D : Nat → Prop) (g0 : Nat) (p0 : BackT) (p1 : Int) (r0 : List UInt8) (r1 : Int) (r2 : BackT) (H : Own w D w [BackO g0 p0]) (hh0 : p0.xCalls.length ≤ 1000000) (hr : r10_Back_Load p0 p1 = (r0, r1, r2)) :
    Calls Try.prog 26 #[.pointer (some ⟨g0, 0, none⟩), .int .i64 p1] w (Ret fun v w' => ∃ (B0 : Option Addr) (b0 : Nat), v = .tuple #[.slice B0 r0.length b0, .int .i64 r1] ∧ Own w D w' [row B0 r0.length b0 (List.flatMap eB r0) 5 1, BackO g0 r2] ∧ (r2.xCalls.length = p0.xCalls.length + 1) ∧ (r0.length ≤ 140737488351232)) := by
 refine Calls.body (args := [.pointer (some ⟨g0, 0, none⟩), .int .i64 p1]) Try.func26 rfl rfl rfl ?_
 show Wp _ _ _ [(0, .pointer (some ⟨g0, 0, none⟩)), (1, .int .i64 p1)] _ _
 obtain ⟨⟨gm21, A22, c23⟩, hf24, H25⟩ := Own.exOpen H
 replace hf24 : PgOk p0.xPages := hf24
 have H26 : Own w D w [blk g0 [.map (some gm21), .int .u64 ((p0.xLog : Nat) : Int), .slice A22 p0.xCalls.length c23, .int .i64 p0.xLeft] 48, mapr gm21 kI kS p0.xPages, row A22 p0.xCalls.length c23 (List.flatMap CallD.cells p0.xCalls) 57 4] := H25
 refine sr (Az rfl (An rfl (Wp.seq (sr (Mz rfl (Mz rfl (Kz (.agg #[.int .i64 1, .int .i64 p1, .int .u64 0, .string ⟨List.toArray ([])⟩]) ?_)))))))
 refine WL.do rfl (Do.call Try.call33 rfl ?_ (fun _ _ k => k))
 refine Calls.body (args := [.pointer (some ⟨g0, 0, none⟩), .agg #[.int .i64 1, .int .i64 p1, .int .u64 0, .string ⟨List.toArray ([])⟩]]) Try.func33 rfl rfl rfl ?_
 show Wp _ _ _ [(0, .pointer (some ⟨g0, 0, none⟩)), (1, .agg #[.int .i64 1, .int .i64 p1, .int .u64 0, .string ⟨List.toArray ([])⟩])] _ _
 refine sr ?_
 refine npw [.int .i64 1, .int .i64 p1, .int .u64 0, .string ⟨List.toArray ([])⟩] 57 H26 ?_
 intro g27 w28 H29
 refine An rfl (Wp.seq ?_)
 have H31 := H29.drew
 refine Wp.drawnX [7, 10] (fun W => ∃ L', Own w D W ([blk g27 [.int .i64 1, .int .i64 p1, .int .u64 0, .string ⟨List.toArray ([])⟩] 57, blk g0 [.map (some gm21), .int .u64 ((p0.xLog : Nat) : Int), .slice A22 p0.xCalls.length c23, .int .i64 p0.xLeft] 48, mapr gm21 kI kS p0.xPages, row A22 p0.xCalls.length c23 (List.flatMap CallD.cells p0.xCalls) 57 4] ++ L')) (by kernel_rfl) (by kernel_rfl) (NoP.then NoP.base) ⟨_, H31⟩ ?_
 revert H31
 generalize World.drew w28 = w30
 intro H31
 refine GX.takeA (v := .pointer (some ⟨g0, 0, none⟩)) 0 rfl (by kernel_rfl) (fun _ => Yl.move rfl) (GX.take (v := .pointer (some ⟨g0, 0, none⟩)) (rs := [[4, 3, 2], []]) 1 rfl (by kernel_rfl) (fun _ _ => Yl.move rfl) (GX.take (v := .pointer (some ⟨g0, 0, none⟩)) (rs := [[4, 3], []]) 2 rfl (by kernel_rfl) (fun _ _ => yk) (GX.take (v := .pointer (some ⟨g0, 2, none⟩)) (rs := [[4], []]) 3 rfl (by kernel_rfl) (fun _ _ => yk) (GX.take (v := .slice A22 p0.xCalls.length c23) (rs := [[], []]) 4 rfl (by kernel_rfl) (fun _ ⟨_, H9⟩ => Yl.load rfl (Lds.one Try.isAgg46 (Cls.of (H9.cls (i := 1) rfl) rfl))) (GX.take (v := .agg #[.int .i64 1, .int .i64 p1, .int .u64 0, .string ⟨List.toArray ([])⟩]) (rs := [[6], []]) 5 rfl (by kernel_rfl) (fun _ ⟨_, H9⟩ => Yl.load rfl (Lds.agg (cs := [.int .i64 1, .int .i64 p1, .int .u64 0, .string ⟨List.toArray ([])⟩]) Try.isAgg57 Try.sizeOf57 ((H9.cls (i := 0) rfl).lit (k := 0) (m := 4) rfl))) ?_)))))
 refine GX.do 6 rfl (by kernel_rfl) (Do.newRow (cs := [.int .i64 1, .int .i64 p1, .int .u64 0, .string ⟨List.toArray ([])⟩]) (t := 57) (sz := 4) (m := 1) H31 rfl rfl (fun _ => by kernel_rfl) rfl (by decide) ?_)
 intro A32 w33 H34
 replace H34 := Own.reh (y := row A32 1 1 (List.flatMap CallD.cells ([(CallD.mk 1 p1 0 ([]))])) 57 4) rfl H34
 have H35 := H34.pk [1, 2, 3, 4, 0]
 refine ⟨.inr ⟨_, H35⟩, ?_⟩
 have H36 := H35.pk [3, 0, 1, 2, 4]
 refine GX.do 7 rfl (by kernel_rfl) (Do.appendW (k := p0.xCalls.length) (m := 1) (El46) H36 rfl rfl (src_of Try.underlying46 (H36.rds (i := 4) rfl) (flat_one CallD.one ([(CallD.mk 1 p1 0 ([]))]))) rfl (by omega) (s := List.length (p0.xCalls ++ [(CallD.mk 1 p1 0 ([]))])) (by first | omega | (simp only [List.length_append, List.length_cons, List.length_nil] <;> omega)) (List.flatMap_append).symm ?_)
 intro A37 c38 w39 H40
 have hl41 : List.length (p0.xCalls ++ [(CallD.mk 1 p1 0 ([]))]) = p0.xCalls.length + 1 := by simp only [List.length_append, List.length_cons, List.length_nil]
 refine ⟨.inl (by kernel_rfl), ?_⟩
 refine GX.takeA (v := .pointer (some ⟨g0, 0, none⟩)) 8 rfl (by kernel_rfl) (fun _ => yk) (GX.takeA (v := .pointer (some ⟨g0, 2, none⟩)) 9 rfl (by kernel_rfl) (fun _ => yk) ?_)
 have H42 := H40.pk [2, 0, 1, 3, 4]
 refine GX.do0 10 rfl (by kernel_rfl) (Do.store (vs := [.slice A37 (List.length (p0.xCalls ++ [(CallD.mk 1 p1 0 ([]))])) c38]) (o := 2) H42 rfl rfl Try.sizeOf46 rfl rfl rfl rfl ?_)
 intro w43 H44
 refine ⟨.inl (by kernel_rfl), ?_⟩
 refine GX.done (by kernel_rfl) (Fin.then (Wp.seq (Wp.seq ?_)))
 have H45 := H44.pk [0, 1, 3]
 refine Wp.region (Mz rfl (Kz (.pointer (some ⟨g0, 0, none⟩)) (Kz (.pointer (some ⟨g0, 3, none⟩)) (Lz (.int .i64 p0.xLeft) H45 0 Try.isAgg3 (Kz (.bool (decide (p0.xLeft = 0))) (nt ?_))))))
 by_cases h46 : p0.xLeft = 0
 refine jT (dT h46) (sr (An rfl (rt (tR (rs (nt (jt (sr (Az rfl (An rfl (rt (tR (Fin.res (res2 rfl rfl rfl) ?_)))))))))))))
 have H47 := H45.pk [0, 2, 1]
 have H48 : Own w D w43 [BackO g0 (BackT.mk p0.xPages p0.xLog (p0.xCalls ++ [(CallD.mk 1 p1 0 ([]))]) p0.xLeft)] := Own.exFold (gm21, A37, c38) (show PgOk (BackT.mk p0.xPages p0.xLog (p0.xCalls ++ [(CallD.mk 1 p1 0 ([]))]) p0.xLeft).xPages from (show PgOk p0.xPages from (by first | assumption | exact pg_nil | exact pg_put (by assumption) (by omega)))) (show Own w D w43 [blk g0 [.map (some gm21), .int .u64 (((BackT.mk p0.xPages p0.xLog (p0.xCalls ++ [(CallD.mk 1 p1 0 ([]))]) p0.xLeft).xLog : Nat) : Int), .slice A37 (List.length (BackT.mk p0.xPages p0.xLog (p0.xCalls ++ [(CallD.mk 1 p1 0 ([]))]) p0.xLeft).xCalls) c38, .int .i64 ((BackT.mk p0.xPages p0.xLog (p0.xCalls ++ [(CallD.mk 1 p1 0 ([]))]) p0.xLeft).xLeft)] 48, mapr gm21 kI kS ((BackT.mk p0.xPages p0.xLog (p0.xCalls ++ [(CallD.mk 1 p1 0 ([]))]) p0.xLeft).xPages), row A37 (List.length (BackT.mk p0.xPages p0.xLog (p0.xCalls ++ [(CallD.mk 1 p1 0 ([]))]) p0.xLeft).xCalls) c38 (List.flatMap CallD.cells ((BackT.mk p0.xPages p0.xLog (p0.xCalls ++ [(CallD.mk 1 p1 0 ([]))]) p0.xLeft).xCalls)) 57 4] from H47)
 have H49 : Own w D w43 [row none 0 0 (List.flatMap eB ([])) 5 1, BackO g0 (BackT.mk p0.xPages p0.xLog (p0.xCalls ++ [(CallD.mk 1 p1 0 ([]))]) p0.xLeft)] := H48.free (row_nil 5 1)
 have H50 := H49.pk [0, 1]
 have e : r10_Back_Load p0 p1 = (([] : List UInt8), 60, (BackT.mk p0.xPages p0.xLog (p0.xCalls ++ [(CallD.mk 1 p1 0 ([]))]) p0.xLeft)) := ip h46
 obtain ⟨rfl, rfl, rfl⟩ := pj3 (e.symm.trans hr)
 exact ⟨none, 0, rfl, H50, (by first | omega | (simp only [List.length_append, List.length_cons, List.length_nil]; omega) | (dsimp only; simp only [List.length_append, List.length_cons, List.length_nil]; omega)), (by first | exact Nat.zero_le _ | omega | exact pg_get (by assumption) (by assumption))⟩
 refine jF (dF h46) (sk (Wp.seq (sr (Mz rfl (Kz (.pointer (some ⟨g0, 0, none⟩)) (Kz (.pointer (some ⟨g0, 3, none⟩)) (Lz (.int .i64 p0.xLeft) H45 0 Try.isAgg3 (Kz (.bool (decide (p0.xLeft > 0))) (nt ?_)))))))))
 by_cases h51 : p0.xLeft > 0
 refine jT (dT h51) (Wp.region (Mz rfl (Kz (.pointer (some ⟨g0, 0, none⟩)) (Kz (.pointer (some ⟨g0, 3, none⟩)) (Lz (.int .i64 p0.xLeft) H45 0 Try.isAgg3 (Kz (.int .i64 (IntKind.i64.wrap (p0.xLeft - 1))) (Kz (.pointer (some ⟨g0, 0, none⟩)) (Kz (.pointer (some ⟨g0, 3, none⟩)) ?_))))))))
 refine sto [.int .i64 (IntKind.i64.wrap (p0.xLeft - 1))] 3 H45 Try.sizeOf3 ?_
 intro w52 H53
 refine ns (An rfl (rt (rs (nt (jf (sk (sr (Mz rfl (Kz (.pointer (some ⟨g0, 0, none⟩)) (Kz (.pointer (some ⟨g0, 0, none⟩)) (Lz (.map (some gm21)) H53 0 Try.isAgg45 (Mz rfl ?_))))))))))))
 obtain ⟨o54, ho55⟩ : ∃ q, mget p0.xPages p1 = q := ⟨_, rfl⟩
 have hz56 : List.length (Option.getD o54 []) ≤ 140737488351232 := pg_get (by assumption) ho55
 refine fw (.tuple #[.string ⟨List.toArray (Option.getD o54 [])⟩, .bool (Option.isSome o54)]) (Yl.lookupOk (k := p1) (d0 := []) (i := 2) H53 rfl (eK_int Try.underlying3) Try.underlying45 (fun _ => by kernel_rfl) rfl rfl ho55) (Mz rfl (Kz (.string ⟨List.toArray (Option.getD o54 [])⟩) (Kz (.bool (Option.isSome o54)) (Az rfl (An rfl (Wp.seq (sr (Mz rfl (Kz (.bool (!(Option.isSome o54))) (nt ?_))))))))))
 rcases Bool.eq_false_or_eq_true (Option.isSome o54) with h57 | h57
 refine jF (cn h57) (sk (sr (Mz rfl ?_)))
 refine WL.do rfl (Do.toBytesE (l := (Option.getD o54 [])) Try.underlying9 Try.underlying36 Try.underlying5 H53 rfl (by unfold maxLen; omega) ?_)
 intro A58 c59 w60 H61
 refine Az rfl (An rfl (rt (Fin.res (res2 rfl rfl rfl) ?_)))
 have H62 := H61.pk [1, 3, 2, 0]
 have H63 : Own w D w60 [BackO g0 (BackT.mk p0.xPages p0.xLog (p0.xCalls ++ [(CallD.mk 1 p1 0 ([]))]) (IntKind.i64.wrap (p0.xLeft - 1))), row A58 (List.length (Option.getD o54 [])) c59 (List.flatMap eB (Option.getD o54 [])) 5 1] := Own.exFold (gm21, A37, c38) (show PgOk (BackT.mk p0.xPages p0.xLog (p0.xCalls ++ [(CallD.mk 1 p1 0 ([]))]) (IntKind.i64.wrap (p0.xLeft - 1))).xPages from (show PgOk p0.xPages from (by first | assumption | exact pg_nil | exact pg_put (by assumption) (by omega)))) (show Own w D w60 [blk g0 [.map (some gm21), .int .u64 (((BackT.mk p0.xPages p0.xLog (p0.xCalls ++ [(CallD.mk 1 p1 0 ([]))]) (IntKind.i64.wrap (p0.xLeft - 1))).xLog : Nat) : Int), .slice A37 (List.length (BackT.mk p0.xPages p0.xLog (p0.xCalls ++ [(CallD.mk 1 p1 0 ([]))]) (IntKind.i64.wrap (p0.xLeft - 1))).xCalls) c38, .int .i64 ((BackT.mk p0.xPages p0.xLog (p0.xCalls ++ [(CallD.mk 1 p1 0 ([]))]) (IntKind.i64.wrap (p0.xLeft - 1))).xLeft)] 48, mapr gm21 kI kS ((BackT.mk p0.xPages p0.xLog (p0.xCalls ++ [(CallD.mk 1 p1 0 ([]))]) (IntKind.i64.wrap (p0.xLeft - 1))).xPages), row A37 (List.length (BackT.mk p0.xPages p0.xLog (p0.xCalls ++ [(CallD.mk 1 p1 0 ([]))]) (IntKind.i64.wrap (p0.xLeft - 1))).xCalls) c38 (List.flatMap CallD.cells ((BackT.mk p0.xPages p0.xLog (p0.xCalls ++ [(CallD.mk 1 p1 0 ([]))]) (IntKind.i64.wrap (p0.xLeft - 1))).xCalls)) 57 4, row A58 (List.length (Option.getD o54 [])) c59 (List.flatMap eB (Option.getD o54 [])) 5 1] from H62)
 have H64 := H63.pk [1, 0]
 have e : r10_Back_Load p0 p1 = ((Option.getD o54 []), 0, (BackT.mk p0.xPages p0.xLog (p0.xCalls ++ [(CallD.mk 1 p1 0 ([]))]) (IntKind.i64.wrap (p0.xLeft - 1)))) := et (iN h46) (et (ip h51) (et (bnd_of ho55) (ip h57)))
 obtain ⟨rfl, rfl, rfl⟩ := pj3 (e.symm.trans hr)
 exact ⟨A58, c59, rfl, H64, (by first | omega | (simp only [List.length_append, List.length_cons, List.length_nil]; omega) | (dsimp only; simp only [List.length_append, List.length_cons, List.length_nil]; omega)), (by first | exact Nat.zero_le _ | omega | exact pg_get (by assumption) (by assumption))⟩
 refine jT (cn h57) (sr (Az rfl (An rfl (rt (tR (Fin.res (res2 rfl rfl rfl) ?_))))))
 have H65 := H53.pk [0, 2, 1]
 have H66 : Own w D w52 [BackO g0 (BackT.mk p0.xPages p0.xLog (p0.xCalls ++ [(CallD.mk 1 p1 0 ([]))]) (IntKind.i64.wrap (p0.xLeft - 1)))] := Own.exFold (gm21, A37, c38) (show PgOk (BackT.mk p0.xPages p0.xLog (p0.xCalls ++ [(CallD.mk 1 p1 0 ([]))]) (IntKind.i64.wrap (p0.xLeft - 1))).xPages from (show PgOk p0.xPages from (by first | assumption | exact pg_nil | exact pg_put (by assumption) (by omega)))) (show Own w D w52 [blk g0 [.map (some gm21), .int .u64 (((BackT.mk p0.xPages p0.xLog (p0.xCalls ++ [(CallD.mk 1 p1 0 ([]))]) (IntKind.i64.wrap (p0.xLeft - 1))).xLog : Nat) : Int), .slice A37 (List.length (BackT.mk p0.xPages p0.xLog (p0.xCalls ++ [(CallD.mk 1 p1 0 ([]))]) (IntKind.i64.wrap (p0.xLeft - 1))).xCalls) c38, .int .i64 ((BackT.mk p0.xPages p0.xLog (p0.xCalls ++ [(CallD.mk 1 p1 0 ([]))]) (IntKind.i64.wrap (p0.xLeft - 1))).xLeft)] 48, mapr gm21 kI kS ((BackT.mk p0.xPages p0.xLog (p0.xCalls ++ [(CallD.mk 1 p1 0 ([]))]) (IntKind.i64.wrap (p0.xLeft - 1))).xPages), row A37 (List.length (BackT.mk p0.xPages p0.xLog (p0.xCalls ++ [(CallD.mk 1 p1 0 ([]))]) (IntKind.i64.wrap (p0.xLeft - 1))).xCalls) c38 (List.flatMap CallD.cells ((BackT.mk p0.xPages p0.xLog (p0.xCalls ++ [(CallD.mk 1 p1 0 ([]))]) (IntKind.i64.wrap (p0.xLeft - 1))).xCalls)) 57 4] from H65)
 have H67 : Own w D w52 [row none 0 0 (List.flatMap eB ([])) 5 1, BackO g0 (BackT.mk p0.xPages p0.xLog (p0.xCalls ++ [(CallD.mk 1 p1 0 ([]))]) (IntKind.i64.wrap (p0.xLeft - 1)))] := H66.free (row_nil 5 1)
 have H68 := H67.pk [0, 1]
 have e : r10_Back_Load p0 p1 = (([] : List UInt8), 90, (BackT.mk p0.xPages p0.xLog (p0.xCalls ++ [(CallD.mk 1 p1 0 ([]))]) (IntKind.i64.wrap (p0.xLeft - 1)))) := et (iN h46) (et (ip h51) (et (bnd_of ho55) (ifF h57)))
 obtain ⟨rfl, rfl, rfl⟩ := pj3 (e.symm.trans hr)
 exact ⟨none, 0, rfl, H68, (by first | omega | (simp only [List.length_append, List.length_cons, List.length_nil]; omega) | (dsimp only; simp only [List.length_append, List.length_cons, List.length_nil]; omega)), (by first | exact Nat.zero_le _ | omega | exact pg_get (by assumption) (by assumption))⟩
 refine jF (dF h51) (sk (sr (An rfl (rt (rs (nt (jf (sk (sr (Mz rfl (Kz (.pointer (some ⟨g0, 0, none⟩)) (Kz (.pointer (some ⟨g0, 0, none⟩)) (Lz (.map (some gm21)) H45 0 Try.isAgg45 (Mz rfl ?_))))))))))))))
 obtain ⟨o69, ho70⟩ : ∃ q, mget p0.xPages p1 = q := ⟨_, rfl⟩
 have hz71 : List.length (Option.getD o69 []) ≤ 140737488351232 := pg_get (by assumption) ho70
 refine fw (.tuple #[.string ⟨List.toArray (Option.getD o69 [])⟩, .bool (Option.isSome o69)]) (Yl.lookupOk (k := p1) (d0 := []) (i := 2) H45 rfl (eK_int Try.underlying3) Try.underlying45 (fun _ => by kernel_rfl) rfl rfl ho70) (Mz rfl (Kz (.string ⟨List.toArray (Option.getD o69 [])⟩) (Kz (.bool (Option.isSome o69)) (Az rfl (An rfl (Wp.seq (sr (Mz rfl (Kz (.bool (!(Option.isSome o69))) (nt ?_))))))))))
 rcases Bool.eq_false_or_eq_true (Option.isSome o69) with h72 | h72
 refine jF (cn h72) (sk (sr (Mz rfl ?_)))
 refine WL.do rfl (Do.toBytesE (l := (Option.getD o69 [])) Try.underlying9 Try.underlying36 Try.underlying5 H45 rfl (by unfold maxLen; omega) ?_)
 intro A73 c74 w75 H76
 refine Az rfl (An rfl (rt (Fin.res (res2 rfl rfl rfl) ?_)))
 have H77 := H76.pk [1, 3, 2, 0]
 have H78 : Own w D w75 [BackO g0 (BackT.mk p0.xPages p0.xLog (p0.xCalls ++ [(CallD.mk 1 p1 0 ([]))]) p0.xLeft), row A73 (List.length (Option.getD o69 [])) c74 (List.flatMap eB (Option.getD o69 [])) 5 1] := Own.exFold (gm21, A37, c38) (show PgOk (BackT.mk p0.xPages p0.xLog (p0.xCalls ++ [(CallD.mk 1 p1 0 ([]))]) p0.xLeft).xPages from (show PgOk p0.xPages from (by first | assumption | exact pg_nil | exact pg_put (by assumption) (by omega)))) (show Own w D w75 [blk g0 [.map (some gm21), .int .u64 (((BackT.mk p0.xPages p0.xLog (p0.xCalls ++ [(CallD.mk 1 p1 0 ([]))]) p0.xLeft).xLog : Nat) : Int), .slice A37 (List.length (BackT.mk p0.xPages p0.xLog (p0.xCalls ++ [(CallD.mk 1 p1 0 ([]))]) p0.xLeft).xCalls) c38, .int .i64 ((BackT.mk p0.xPages p0.xLog (p0.xCalls ++ [(CallD.mk 1 p1 0 ([]))]) p0.xLeft).xLeft)] 48, mapr gm21 kI kS ((BackT.mk p0.xPages p0.xLog (p0.xCalls ++ [(CallD.mk 1 p1 0 ([]))]) p0.xLeft).xPages), row A37 (List.length (BackT.mk p0.xPages p0.xLog (p0.xCalls ++ [(CallD.mk 1 p1 0 ([]))]) p0.xLeft).xCalls) c38 (List.flatMap CallD.cells ((BackT.mk p0.xPages p0.xLog (p0.xCalls ++ [(CallD.mk 1 p1 0 ([]))]) p0.xLeft).xCalls)) 57 4, row A73 (List.length (Option.getD o69 [])) c74 (List.flatMap eB (Option.getD o69 [])) 5 1] from H77)
 have H79 := H78.pk [1, 0]
 have e : r10_Back_Load p0 p1 = ((Option.getD o69 []), 0, (BackT.mk p0.xPages p0.xLog (p0.xCalls ++ [(CallD.mk 1 p1 0 ([]))]) p0.xLeft)) := et (iN h46) (et (iN h51) (et (bnd_of ho70) (ip h72)))
 obtain ⟨rfl, rfl, rfl⟩ := pj3 (e.symm.trans hr)
 exact ⟨A73, c74, rfl, H79, (by first | omega | (simp only [List.length_append, List.length_cons, List.length_nil]; omega) | (dsimp only; simp only [List.length_append, List.length_cons, List.length_nil]; omega)), (by first | exact Nat.zero_le _ | omega | exact pg_get (by assumption) (by assumption))⟩
 refine jT (cn h72) (sr (Az rfl (An rfl (rt (tR (Fin.res (res2 rfl rfl rfl) ?_))))))
 have H80 := H45.pk [0, 2, 1]
 have H81 : Own w D w43 [BackO g0 (BackT.mk p0.xPages p0.xLog (p0.xCalls ++ [(CallD.mk 1 p1 0 ([]))]) p0.xLeft)] := Own.exFold (gm21, A37, c38) (show PgOk (BackT.mk p0.xPages p0.xLog (p0.xCalls ++ [(CallD.mk 1 p1 0 ([]))]) p0.xLeft).xPages from (show PgOk p0.xPages from (by first | assumption | exact pg_nil | exact pg_put (by assumption) (by omega)))) (show Own w D w43 [blk g0 [.map (some gm21), .int .u64 (((BackT.mk p0.xPages p0.xLog (p0.xCalls ++ [(CallD.mk 1 p1 0 ([]))]) p0.xLeft).xLog : Nat) : Int), .slice A37 (List.length (BackT.mk p0.xPages p0.xLog (p0.xCalls ++ [(CallD.mk 1 p1 0 ([]))]) p0.xLeft).xCalls) c38, .int .i64 ((BackT.mk p0.xPages p0.xLog (p0.xCalls ++ [(CallD.mk 1 p1 0 ([]))]) p0.xLeft).xLeft)] 48, mapr gm21 kI kS ((BackT.mk p0.xPages p0.xLog (p0.xCalls ++ [(CallD.mk 1 p1 0 ([]))]) p0.xLeft).xPages), row A37 (List.length (BackT.mk p0.xPages p0.xLog (p0.xCalls ++ [(CallD.mk 1 p1 0 ([]))]) p0.xLeft).xCalls) c38 (List.flatMap CallD.cells ((BackT.mk p0.xPages p0.xLog (p0.xCalls ++ [(CallD.mk 1 p1 0 ([]))]) p0.xLeft).xCalls)) 57 4] from H80)
 have H82 : Own w D w43 [row none 0 0 (List.flatMap eB ([])) 5 1, BackO g0 (BackT.mk p0.xPages p0.xLog (p0.xCalls ++ [(CallD.mk 1 p1 0 ([]))]) p0.xLeft)] := H81.free (row_nil 5 1)
 have H83 := H82.pk [0, 1]
 have e : r10_Back_Load p0 p1 = (([] : List UInt8), 90, (BackT.mk p0.xPages p0.xLog (p0.xCalls ++ [(CallD.mk 1 p1 0 ([]))]) p0.xLeft)) := et (iN h46) (et (iN h51) (et (bnd_of ho70) (ifF h72)))
 obtain ⟨rfl, rfl, rfl⟩ := pj3 (e.symm.trans hr)
 exact ⟨none, 0, rfl, H83, (by first | omega | (simp only [List.length_append, List.length_cons, List.length_nil]; omega) | (dsimp only; simp only [List.length_append, List.length_cons, List.length_nil]; omega)), (by first | exact Nat.zero_le _ | omega | exact pg_get (by assumption) (by assumption))⟩

def r10_Back_Save (p0 : BackT) (p1 : Int) (l2 : List UInt8) : Int × BackT :=
 if p0.xLeft = 0 then (60, (BackT.mk p0.xPages p0.xLog (p0.xCalls ++ [(CallD.mk 2 p1 0 l2)]) p0.xLeft)) else if p0.xLeft > 0 then (0, (BackT.mk (mput p0.xPages p1 l2) p0.xLog (p0.xCalls ++ [(CallD.mk 2 p1 0 l2)]) (IntKind.i64.wrap (p0.xLeft - 1)))) else (0, (BackT.mk (mput p0.xPages p1 l2) p0.xLog (p0.xCalls ++ [(CallD.mk 2 p1 0 l2)]) p0.xLeft))

set_option maxRecDepth 100000 in
theorem r10_Back_Save_ok (w : World) (D : Nat → Prop) (g0 : Nat) (p0 : BackT) (p1 : Int) (A2 : Option Addr) (n2 c2 : Nat) (l2 : List UInt8) (r0 : Int) (r1 : BackT) (H : Own w D w [BackO g0 p0]) (hx2 : Ro w D fun w' => Rds w' 1 A2 n2 (List.flatMap eB l2)) (hn2 : n2 = l2.length) (hl2 : l2.length * 1 ≤ 211106232532992) (hh0 : p0.xCalls.length ≤ 1000000) (hh1 : l2.length ≤ 140737488351232) (hr : r10_Back_Save p0 p1 l2 = (r0, r1)) :
    Calls Try.prog 36 #[.pointer (some ⟨g0, 0, none⟩), .int .i64 p1, .slice A2 n2 c2] w (Ret fun v w' => v = .int .i64 r0 ∧ Own w D w' [BackO g0 r1] ∧ (r1.xCalls.length = p0.xCalls.length + 1)) := by
 subst hn2
 refine Calls.body (args := [.pointer (some ⟨g0, 0, none⟩), .int .i64 p1, .slice A2 l2.length c2]) Try.func36 rfl rfl rfl ?_
 show Wp _ _ _ [(0, .pointer (some ⟨g0, 0, none⟩)), (1, .int .i64 p1), (2, .slice A2 l2.length c2)] _ _
 obtain ⟨⟨gm21, A22, c23⟩, hf24, H25⟩ := Own.exOpen H
 replace hf24 : PgOk p0.xPages := hf24
 have H26 : Own w D w [blk g0 [.map (some gm21), .int .u64 ((p0.xLog : Nat) : Int), .slice A22 p0.xCalls.length c23, .int .i64 p0.xLeft] 48, mapr gm21 kI kS p0.xPages, row A22 p0.xCalls.length c23 (List.flatMap CallD.cells p0.xCalls) 57 4] := H25
 refine sr (An rfl (Wp.seq (sr (Mz rfl (Mz rfl (Mz rfl (fw (.string ⟨List.toArray l2⟩) (Yl.toStringE (l := l2) Try.underlying36 Try.underlying5 Try.underlying9 (H26.ro hx2) rfl) (Kz (.agg #[.int .i64 2, .int .i64 p1, .int .u64 0, .string ⟨List.toArray l2⟩]) ?_))))))))
 refine WL.do rfl (Do.call Try.call33 rfl ?_ (fun _ _ k => k))
 refine Calls.body (args := [.pointer (some ⟨g0, 0, none⟩), .agg #[.int .i64 2, .int .i64 p1, .int .u64 0, .string ⟨List.toArray l2⟩]]) Try.func33 rfl rfl rfl ?_
 show Wp _ _ _ [(0, .pointer (some ⟨g0, 0, none⟩)), (1, .agg #[.int .i64 2, .int .i64 p1, .int .u64 0, .string ⟨List.toArray l2⟩])] _ _
 refine sr ?_
 refine npw [.int .i64 2, .int .i64 p1, .int .u64 0, .string ⟨List.toArray l2⟩] 57 H26 ?_
 intro g27 w28 H29
 refine An rfl (Wp.seq ?_)
 have H31 := H29.drew
 refine Wp.drawnX [7, 10] (fun W => ∃ L', Own w D W ([blk g27 [.int .i64 2, .int .i64 p1, .int .u64 0, .string ⟨List.toArray l2⟩] 57, blk g0 [.map (some gm21), .int .u64 ((p0.xLog : Nat) : Int), .slice A22 p0.xCalls.length c23, .int .i64 p0.xLeft] 48, mapr gm21 kI kS p0.xPages, row A22 p0.xCalls.length c23 (List.flatMap CallD.cells p0.xCalls) 57 4] ++ L')) (by kernel_rfl) (by kernel_rfl) (NoP.then NoP.base) ⟨_, H31⟩ ?_
 revert H31
 generalize World.drew w28 = w30
 intro H31
 refine GX.takeA (v := .pointer (some ⟨g0, 0, none⟩)) 0 rfl (by kernel_rfl) (fun _ => Yl.move rfl) (GX.take (v := .pointer (some ⟨g0, 0, none⟩)) (rs := [[4, 3, 2], []]) 1 rfl (by kernel_rfl) (fun _ _ => Yl.move rfl) (GX.take (v := .pointer (some ⟨g0, 0, none⟩)) (rs := [[4, 3], []]) 2 rfl (by kernel_rfl) (fun _ _ => yk) (GX.take (v := .pointer (some ⟨g0, 2, none⟩)) (rs := [[4], []]) 3 rfl (by kernel_rfl) (fun _ _ => yk) (GX.take (v := .slice A22 p0.xCalls.length c23) (rs := [[], []]) 4 rfl (by kernel_rfl) (fun _ ⟨_, H9⟩ => Yl.load rfl (Lds.one Try.isAgg46 (Cls.of (H9.cls (i := 1) rfl) rfl))) (GX.take (v := .agg #[.int .i64 2, .int .i64 p1, .int .u64 0, .string ⟨List.toArray l2⟩]) (rs := [[6], []]) 5 rfl (by kernel_rfl) (fun _ ⟨_, H9⟩ => Yl.load rfl (Lds.agg (cs := [.int .i64 2, .int .i64 p1, .int .u64 0, .string ⟨List.toArray l2⟩]) Try.isAgg57 Try.sizeOf57 ((H9.cls (i := 0) rfl).lit (k := 0) (m := 4) rfl))) ?_)))))
 refine GX.do 6 rfl (by kernel_rfl) (Do.newRow (cs := [.int .i64 2, .int .i64 p1, .int .u64 0, .string ⟨List.toArray l2⟩]) (t := 57) (sz := 4) (m := 1) H31 rfl rfl (fun _ => by kernel_rfl) rfl (by decide) ?_)
 intro A32 w33 H34
 replace H34 := Own.reh (y := row A32 1 1 (List.flatMap CallD.cells ([(CallD.mk 2 p1 0 l2)])) 57 4) rfl H34
 have H35 := H34.pk [1, 2, 3, 4, 0]
 refine ⟨.inr ⟨_, H35⟩, ?_⟩
 have H36 := H35.pk [3, 0, 1, 2, 4]
 refine GX.do 7 rfl (by kernel_rfl) (Do.appendW (k := p0.xCalls.length) (m := 1) (El46) H36 rfl rfl (src_of Try.underlying46 (H36.rds (i := 4) rfl) (flat_one CallD.one ([(CallD.mk 2 p1 0 l2)]))) rfl (by omega) (s := List.length (p0.xCalls ++ [(CallD.mk 2 p1 0 l2)])) (by first | omega | (simp only [List.length_append, List.length_cons, List.length_nil] <;> omega)) (List.flatMap_append).symm ?_)
 intro A37 c38 w39 H40
 have hl41 : List.length (p0.xCalls ++ [(CallD.mk 2 p1 0 l2)]) = p0.xCalls.length + 1 := by simp only [List.length_append, List.length_cons, List.length_nil]
 refine ⟨.inl (by kernel_rfl), ?_⟩
 refine GX.takeA (v := .pointer (some ⟨g0, 0, none⟩)) 8 rfl (by kernel_rfl) (fun _ => yk) (GX.takeA (v := .pointer (some ⟨g0, 2, none⟩)) 9 rfl (by kernel_rfl) (fun _ => yk) ?_)
 have H42 := H40.pk [2, 0, 1, 3, 4]
 refine GX.do0 10 rfl (by kernel_rfl) (Do.store (vs := [.slice A37 (List.length (p0.xCalls ++ [(CallD.mk 2 p1 0 l2)])) c38]) (o := 2) H42 rfl rfl Try.sizeOf46 rfl rfl rfl rfl ?_)
 intro w43 H44
 refine ⟨.inl (by kernel_rfl), ?_⟩
 refine GX.done (by kernel_rfl) (Fin.then (Wp.seq (Wp.seq ?_)))
 have H45 := H44.pk [0, 1, 3]
 refine Wp.region (Mz rfl (Kz (.pointer (some ⟨g0, 0, none⟩)) (Kz (.pointer (some ⟨g0, 3, none⟩)) (Lz (.int .i64 p0.xLeft) H45 0 Try.isAgg3 (Kz (.bool (decide (p0.xLeft = 0))) (nt ?_))))))
 by_cases h46 : p0.xLeft = 0
 refine jT (dT h46) (sr (An rfl (rt (tR (rs (nt (jt (sr (An rfl (rt (tR (rs ?_))))))))))))
 have H47 := H45.pk [0, 2, 1]
 have H48 : Own w D w43 [BackO g0 (BackT.mk p0.xPages p0.xLog (p0.xCalls ++ [(CallD.mk 2 p1 0 l2)]) p0.xLeft)] := Own.exFold (gm21, A37, c38) (show PgOk (BackT.mk p0.xPages p0.xLog (p0.xCalls ++ [(CallD.mk 2 p1 0 l2)]) p0.xLeft).xPages from (show PgOk p0.xPages from (by first | assumption | exact pg_nil | exact pg_put (by assumption) (by omega)))) (show Own w D w43 [blk g0 [.map (some gm21), .int .u64 (((BackT.mk p0.xPages p0.xLog (p0.xCalls ++ [(CallD.mk 2 p1 0 l2)]) p0.xLeft).xLog : Nat) : Int), .slice A37 (List.length (BackT.mk p0.xPages p0.xLog (p0.xCalls ++ [(CallD.mk 2 p1 0 l2)]) p0.xLeft).xCalls) c38, .int .i64 ((BackT.mk p0.xPages p0.xLog (p0.xCalls ++ [(CallD.mk 2 p1 0 l2)]) p0.xLeft).xLeft)] 48, mapr gm21 kI kS ((BackT.mk p0.xPages p0.xLog (p0.xCalls ++ [(CallD.mk 2 p1 0 l2)]) p0.xLeft).xPages), row A37 (List.length (BackT.mk p0.xPages p0.xLog (p0.xCalls ++ [(CallD.mk 2 p1 0 l2)]) p0.xLeft).xCalls) c38 (List.flatMap CallD.cells ((BackT.mk p0.xPages p0.xLog (p0.xCalls ++ [(CallD.mk 2 p1 0 l2)]) p0.xLeft).xCalls)) 57 4] from H47)
 have H49 := H48.pk [0]
 have e : r10_Back_Save p0 p1 l2 = (60, (BackT.mk p0.xPages p0.xLog (p0.xCalls ++ [(CallD.mk 2 p1 0 l2)]) p0.xLeft)) := ip h46
 obtain ⟨rfl, rfl⟩ := pj2 (e.symm.trans hr)
 exact ⟨rfl, H49, (by first | omega | (simp only [List.length_append, List.length_cons, List.length_nil]; omega) | (dsimp only; simp only [List.length_append, List.length_cons, List.length_nil]; omega))⟩
 refine jF (dF h46) (sk (Wp.seq (sr (Mz rfl (Kz (.pointer (some ⟨g0, 0, none⟩)) (Kz (.pointer (some ⟨g0, 3, none⟩)) (Lz (.int .i64 p0.xLeft) H45 0 Try.isAgg3 (Kz (.bool (decide (p0.xLeft > 0))) (nt ?_)))))))))
 by_cases h50 : p0.xLeft > 0
 refine jT (dT h50) (Wp.region (Mz rfl (Kz (.pointer (some ⟨g0, 0, none⟩)) (Kz (.pointer (some ⟨g0, 3, none⟩)) (Lz (.int .i64 p0.xLeft) H45 0 Try.isAgg3 (Kz (.int .i64 (IntKind.i64.wrap (p0.xLeft - 1))) (Kz (.pointer (some ⟨g0, 0, none⟩)) (Kz (.pointer (some ⟨g0, 3, none⟩)) ?_))))))))
 refine sto [.int .i64 (IntKind.i64.wrap (p0.xLeft - 1))] 3 H45 Try.sizeOf3 ?_
 intro w51 H52
 refine ns (An rfl (rt (rs (nt (jf (sk (Wp.seq ?_)))))))
 have H54 := H52.drew
 refine Wp.drawnX [] (fun W => ∃ L', Own w D W ([blk g0 [.map (some gm21), .int .u64 ((p0.xLog : Nat) : Int), .slice A37 (List.length (p0.xCalls ++ [(CallD.mk 2 p1 0 l2)])) c38, .int .i64 (IntKind.i64.wrap (p0.xLeft - 1))] 48, row A37 (List.length (p0.xCalls ++ [(CallD.mk 2 p1 0 l2)])) c38 (List.flatMap CallD.cells (p0.xCalls ++ [(CallD.mk 2 p1 0 l2)])) 57 4] ++ L')) (by kernel_rfl) (by kernel_rfl) (NoP.then NoP.base) ⟨_, H54⟩ ?_
 revert H54
 generalize World.drew w51 = w53
 intro H54
 refine GX.take (v := .pointer (some ⟨g0, 0, none⟩)) (rs := []) 0 rfl (by kernel_rfl) (fun _ _ => Yl.move rfl) (GX.take (v := .pointer (some ⟨g0, 0, none⟩)) (rs := []) 1 rfl (by kernel_rfl) (fun _ _ => yk) (GX.take (v := .pointer (some ⟨g0, 0, none⟩)) (rs := []) 2 rfl (by kernel_rfl) (fun _ _ => yk) (GX.take (v := .map (some gm21)) (rs := []) 3 rfl (by kernel_rfl) (fun _ ⟨_, H9⟩ => Yl.load rfl (Lds.one Try.isAgg45 (Cls.of (H9.cls (i := 0) rfl) rfl))) (GX.take (v := .int .i64 p1) (rs := []) 4 rfl (by kernel_rfl) (fun _ _ => Yl.move rfl) (GX.take (v := .slice A2 l2.length c2) (rs := []) 5 rfl (by kernel_rfl) (fun _ _ => Yl.move rfl) (GX.take (v := .string ⟨List.toArray l2⟩) (rs := []) 6 rfl (by kernel_rfl) (fun _ ⟨_, H9⟩ => Yl.toStringE (l := l2) Try.underlying36 Try.underlying5 Try.underlying9 (H9.ro hx2) rfl) ?_))))))
 have H55 := H54.pk [2, 0, 1]
 refine GX.do0 7 rfl (by kernel_rfl) (Do.mapUpdate (k := p1) (v := l2) H55 (eK_int Try.underlying3) Try.underlying45 rfl rfl rfl ?_)
 intro w56 H57
 have H58 := H57.pk [1, 2, 0]
 refine ⟨.inr ⟨_, H58⟩, ?_⟩
 refine GX.done (by kernel_rfl) (Fin.then (sr (An rfl (rt (rs ?_)))))
 have H59 := H58.pk [0, 2, 1]
 have H60 : Own w D w56 [BackO g0 (BackT.mk (mput p0.xPages p1 l2) p0.xLog (p0.xCalls ++ [(CallD.mk 2 p1 0 l2)]) (IntKind.i64.wrap (p0.xLeft - 1)))] := Own.exFold (gm21, A37, c38) (show PgOk (BackT.mk (mput p0.xPages p1 l2) p0.xLog (p0.xCalls ++ [(CallD.mk 2 p1 0 l2)]) (IntKind.i64.wrap (p0.xLeft - 1))).xPages from (show PgOk (mput p0.xPages p1 l2) from (by first | assumption | exact pg_nil | exact pg_put (by assumption) (by omega)))) (show Own w D w56 [blk g0 [.map (some gm21), .int .u64 (((BackT.mk (mput p0.xPages p1 l2) p0.xLog (p0.xCalls ++ [(CallD.mk 2 p1 0 l2)]) (IntKind.i64.wrap (p0.xLeft - 1))).xLog : Nat) : Int), .slice A37 (List.length (BackT.mk (mput p0.xPages p1 l2) p0.xLog (p0.xCalls ++ [(CallD.mk 2 p1 0 l2)]) (IntKind.i64.wrap (p0.xLeft - 1))).xCalls) c38, .int .i64 ((BackT.mk (mput p0.xPages p1 l2) p0.xLog (p0.xCalls ++ [(CallD.mk 2 p1 0 l2)]) (IntKind.i64.wrap (p0.xLeft - 1))).xLeft)] 48, mapr gm21 kI kS ((BackT.mk (mput p0.xPages p1 l2) p0.xLog (p0.xCalls ++ [(CallD.mk 2 p1 0 l2)]) (IntKind.i64.wrap (p0.xLeft - 1))).xPages), row A37 (List.length (BackT.mk (mput p0.xPages p1 l2) p0.xLog (p0.xCalls ++ [(CallD.mk 2 p1 0 l2)]) (IntKind.i64.wrap (p0.xLeft - 1))).xCalls) c38 (List.flatMap CallD.cells ((BackT.mk (mput p0.xPages p1 l2) p0.xLog (p0.xCalls ++ [(CallD.mk 2 p1 0 l2)]) (IntKind.i64.wrap (p0.xLeft - 1))).xCalls)) 57 4] from H59)
 have H61 := H60.pk [0]
 have e : r10_Back_Save p0 p1 l2 = (0, (BackT.mk (mput p0.xPages p1 l2) p0.xLog (p0.xCalls ++ [(CallD.mk 2 p1 0 l2)]) (IntKind.i64.wrap (p0.xLeft - 1)))) := et (iN h46) (ip h50)
 obtain ⟨rfl, rfl⟩ := pj2 (e.symm.trans hr)
 exact ⟨rfl, H61, (by first | omega | (simp only [List.length_append, List.length_cons, List.length_nil]; omega) | (dsimp only; simp only [List.length_append, List.length_cons, List.length_nil]; omega))⟩
 refine jF (dF h50) (sk (sr (An rfl (rt (rs (nt (jf (sk (Wp.seq ?_)))))))))
 have H63 := H45.drew
 refine Wp.drawnX [] (fun W => ∃ L', Own w D W ([blk g0 [.map (some gm21), .int .u64 ((p0.xLog : Nat) : Int), .slice A37 (List.length (p0.xCalls ++ [(CallD.mk 2 p1 0 l2)])) c38, .int .i64 p0.xLeft] 48, row A37 (List.length (p0.xCalls ++ [(CallD.mk 2 p1 0 l2)])) c38 (List.flatMap CallD.cells (p0.xCalls ++ [(CallD.mk 2 p1 0 l2)])) 57 4] ++ L')) (by kernel_rfl) (by kernel_rfl) (NoP.then NoP.base) ⟨_, H63⟩ ?_
 revert H63
 generalize World.drew w43 = w62
 intro H63
 refine GX.take (v := .pointer (some ⟨g0, 0, none⟩)) (rs := []) 0 rfl (by kernel_rfl) (fun _ _ => Yl.move rfl) (GX.take (v := .pointer (some ⟨g0, 0, none⟩)) (rs := []) 1 rfl (by kernel_rfl) (fun _ _ => yk) (GX.take (v := .pointer (some ⟨g0, 0, none⟩)) (rs := []) 2 rfl (by kernel_rfl) (fun _ _ => yk) (GX.take (v := .map (some gm21)) (rs := []) 3 rfl (by kernel_rfl) (fun _ ⟨_, H9⟩ => Yl.load rfl (Lds.one Try.isAgg45 (Cls.of (H9.cls (i := 0) rfl) rfl))) (GX.take (v := .int .i64 p1) (rs := []) 4 rfl (by kernel_rfl) (fun _ _ => Yl.move rfl) (GX.take (v := .slice A2 l2.length c2) (rs := []) 5 rfl (by kernel_rfl) (fun _ _ => Yl.move rfl) (GX.take (v := .string ⟨List.toArray l2⟩) (rs := []) 6 rfl (by kernel_rfl) (fun _ ⟨_, H9⟩ => Yl.toStringE (l := l2) Try.underlying36 Try.underlying5 Try.underlying9 (H9.ro hx2) rfl) ?_))))))
 have H64 := H63.pk [2, 0, 1]
 refine GX.do0 7 rfl (by kernel_rfl) (Do.mapUpdate (k := p1) (v := l2) H64 (eK_int Try.underlying3) Try.underlying45 rfl rfl rfl ?_)
 intro w65 H66
 have H67 := H66.pk [1, 2, 0]
 refine ⟨.inr ⟨_, H67⟩, ?_⟩
 refine GX.done (by kernel_rfl) (Fin.then (sr (An rfl (rt (rs ?_)))))
 have H68 := H67.pk [0, 2, 1]
 have H69 : Own w D w65 [BackO g0 (BackT.mk (mput p0.xPages p1 l2) p0.xLog (p0.xCalls ++ [(CallD.mk 2 p1 0 l2)]) p0.xLeft)] := Own.exFold (gm21, A37, c38) (show PgOk (BackT.mk (mput p0.xPages p1 l2) p0.xLog (p0.xCalls ++ [(CallD.mk 2 p1 0 l2)]) p0.xLeft).xPages from (show PgOk (mput p0.xPages p1 l2) from (by first | assumption | exact pg_nil | exact pg_put (by assumption) (by omega)))) (show Own w D w65 [blk g0 [.map (some gm21), .int .u64 (((BackT.mk (mput p0.xPages p1 l2) p0.xLog (p0.xCalls ++ [(CallD.mk 2 p1 0 l2)]) p0.xLeft).xLog : Nat) : Int), .slice A37 (List.length (BackT.mk (mput p0.xPages p1 l2) p0.xLog (p0.xCalls ++ [(CallD.mk 2 p1 0 l2)]) p0.xLeft).xCalls) c38, .int .i64 ((BackT.mk (mput p0.xPages p1 l2) p0.xLog (p0.xCalls ++ [(CallD.mk 2 p1 0 l2)]) p0.xLeft).xLeft)] 48, mapr gm21 kI kS ((BackT.mk (mput p0.xPages p1 l2) p0.xLog (p0.xCalls ++ [(CallD.mk 2 p1 0 l2)]) p0.xLeft).xPages), row A37 (List.length (BackT.mk (mput p0.xPages p1 l2) p0.xLog (p0.xCalls ++ [(CallD.mk 2 p1 0 l2)]) p0.xLeft).xCalls) c38 (List.flatMap CallD.cells ((BackT.mk (mput p0.xPages p1 l2) p0.xLog (p0.xCalls ++ [(CallD.mk 2 p1 0 l2)]) p0.xLeft).xCalls)) 57 4] from H68)
 have H70 := H69.pk [0]
 have e : r10_Back_Save p0 p1 l2 = (0, (BackT.mk (mput p0.xPages p1 l2) p0.xLog (p0.xCalls ++ [(CallD.mk 2 p1 0 l2)]) p0.xLeft)) := et (iN h46) (iN h50)
 obtain ⟨rfl, rfl⟩ := pj2 (e.symm.trans hr)
 exact ⟨rfl, H70, (by first | omega | (simp only [List.length_append, List.length_cons, List.length_nil]; omega) | (dsimp only; simp only [List.length_append, List.length_cons, List.length_nil]; omega))⟩

def r10_Back_Safe (p0 : BackT) : Nat :=
 p0.xLog

set_option maxRecDepth 100000 in
theorem r10_Back_Safe_ok (w : World) (D : Nat → Prop) (g0 : Nat) (p0 : BackT) (r0 : Nat) (H : Own w D w [BackO g0 p0])  (hr : r10_Back_Safe p0 = r0) :
    Calls Try.prog 34 #[.pointer (some ⟨g0, 0, none⟩)] w (Ret fun v w' => v = .int .u64 ((r0 : Nat) : Int) ∧ Own w D w' [BackO g0 p0]) := by
 refine Calls.body (args := [.pointer (some ⟨g0, 0, none⟩)]) Try.func34 rfl rfl rfl ?_
 show Wp _ _ _ [(0, .pointer (some ⟨g0, 0, none⟩))] _ _
 obtain ⟨⟨gm21, A22, c23⟩, hf24, H25⟩ := Own.exOpen H
 replace hf24 : PgOk p0.xPages := hf24
 have H26 : Own w D w [blk g0 [.map (some gm21), .int .u64 ((p0.xLog : Nat) : Int), .slice A22 p0.xCalls.length c23, .int .i64 p0.xLeft] 48, mapr gm21 kI kS p0.xPages, row A22 p0.xCalls.length c23 (List.flatMap CallD.cells p0.xCalls) 57 4] := H25
 refine sr (Ar rfl (Mz rfl (Kz (.pointer (some ⟨g0, 0, none⟩)) (Kz (.pointer (some ⟨g0, 1, none⟩)) (Lz (.int .u64 ((p0.xLog : Nat) : Int)) H26 0 Try.isAgg33 (An rfl (rt (rs ?_))))))))
 have H27 : Own w D w [BackO g0 p0] := Own.exFold (gm21, A22, c23) (show PgOk p0.xPages from (show PgOk p0.xPages from (by first | assumption | exact pg_nil | exact pg_put (by assumption) (by omega)))) (show Own w D w [blk g0 [.map (some gm21), .int .u64 ((p0.xLog : Nat) : Int), .slice A22 p0.xCalls.length c23, .int .i64 p0.xLeft] 48, mapr gm21 kI kS p0.xPages, row A22 p0.xCalls.length c23 (List.flatMap CallD.cells p0.xCalls) 57 4] from H26)
 have H28 := H27.pk [0]
 obtain rfl : _ = p0.xLog := hr.symm.trans rfl
 exact ⟨rfl, H28⟩

def r10_Back_Force (p0 : BackT) (p1 : Nat) : Int × BackT :=
 if p0.xLeft = 0 then (60, (BackT.mk p0.xPages p0.xLog (p0.xCalls ++ [(CallD.mk 3 0 p1 ([]))]) p0.xLeft)) else if p0.xLeft > 0 then (0, (BackT.mk p0.xPages (max p0.xLog p1) (p0.xCalls ++ [(CallD.mk 3 0 p1 ([]))]) (IntKind.i64.wrap (p0.xLeft - 1)))) else (0, (BackT.mk p0.xPages (max p0.xLog p1) (p0.xCalls ++ [(CallD.mk 3 0 p1 ([]))]) p0.xLeft))

set_option maxRecDepth 100000 in
theorem r10_Back_Force_ok (w : World) (D : Nat → Prop) (g0 : Nat) (p0 : BackT) (p1 : Nat) (r0 : Int) (r1 : BackT) (H : Own w D w [BackO g0 p0]) (hh0 : p0.xCalls.length ≤ 1000000) (hr : r10_Back_Force p0 p1 = (r0, r1)) :
    Calls Try.prog 35 #[.pointer (some ⟨g0, 0, none⟩), .int .u64 ((p1 : Nat) : Int)] w (Ret fun v w' => v = .int .i64 r0 ∧ Own w D w' [BackO g0 r1] ∧ (r1.xCalls.length = p0.xCalls.length + 1)) := by
 refine Calls.body (args := [.pointer (some ⟨g0, 0, none⟩), .int .u64 ((p1 : Nat) : Int)]) Try.func35 rfl rfl rfl ?_
 show Wp _ _ _ [(0, .pointer (some ⟨g0, 0, none⟩)), (1, .int .u64 ((p1 : Nat) : Int))] _ _
 obtain ⟨⟨gm21, A22, c23⟩, hf24, H25⟩ := Own.exOpen H
 replace hf24 : PgOk p0.xPages := hf24
 have H26 : Own w D w [blk g0 [.map (some gm21), .int .u64 ((p0.xLog : Nat) : Int), .slice A22 p0.xCalls.length c23, .int .i64 p0.xLeft] 48, mapr gm21 kI kS p0.xPages, row A22 p0.xCalls.length c23 (List.flatMap CallD.cells p0.xCalls) 57 4] := H25
 refine sr (An rfl (Wp.seq (sr (Mz rfl (Mz rfl (Kz (.agg #[.int .i64 3, .int .i64 0, .int .u64 ((p1 : Nat) : Int), .string ⟨List.toArray ([])⟩]) ?_))))))
 refine WL.do rfl (Do.call Try.call33 rfl ?_ (fun _ _ k => k))
 refine Calls.body (args := [.pointer (some ⟨g0, 0, none⟩), .agg #[.int .i64 3, .int .i64 0, .int .u64 ((p1 : Nat) : Int), .string ⟨List.toArray ([])⟩]]) Try.func33 rfl rfl rfl ?_
 show Wp _ _ _ [(0, .pointer (some ⟨g0, 0, none⟩)), (1, .agg #[.int .i64 3, .int .i64 0, .int .u64 ((p1 : Nat) : Int), .string ⟨List.toArray ([])⟩])] _ _
 refine sr ?_
 refine npw [.int .i64 3, .int .i64 0, .int .u64 ((p1 : Nat) : Int), .string ⟨List.toArray ([])⟩] 57 H26 ?_
 intro g27 w28 H29
 refine An rfl (Wp.seq ?_)
 have H31 := H29.drew
 refine Wp.drawnX [7, 10] (fun W => ∃ L', Own w D W ([blk g27 [.int .i64 3, .int .i64 0, .int .u64 ((p1 : Nat) : Int), .string ⟨List.toArray ([])⟩] 57, blk g0 [.map (some gm21), .int .u64 ((p0.xLog : Nat) : Int), .slice A22 p0.xCalls.length c23, .int .i64 p0.xLeft] 48, mapr gm21 kI kS p0.xPages, row A22 p0.xCalls.length c23 (List.flatMap CallD.cells p0.xCalls) 57 4] ++ L')) (by kernel_rfl) (by kernel_rfl) (NoP.then NoP.base) ⟨_, H31⟩ ?_
 revert H31
 generalize World.drew w28 = w30
 intro H31
 refine GX.takeA (v := .pointer (some ⟨g0, 0, none⟩)) 0 rfl (by kernel_rfl) (fun _ => Yl.move rfl) (GX.take (v := .pointer (some ⟨g0, 0, none⟩)) (rs := [[4, 3, 2], []]) 1 rfl (by kernel_rfl) (fun _ _ => Yl.move rfl) (GX.take (v := .pointer (some ⟨g0, 0, none⟩)) (rs := [[4, 3], []]) 2 rfl (by kernel_rfl) (fun _ _ => yk) (GX.take (v := .pointer (some ⟨g0, 2, none⟩)) (rs := [[4], []]) 3 rfl (by kernel_rfl) (fun _ _ => yk) (GX.take (v := .slice A22 p0.xCalls.length c23) (rs := [[], []]) 4 rfl (by kernel_rfl) (fun _ ⟨_, H9⟩ => Yl.load rfl (Lds.one Try.isAgg46 (Cls.of (H9.cls (i := 1) rfl) rfl))) (GX.take (v := .agg #[.int .i64 3, .int .i64 0, .int .u64 ((p1 : Nat) : Int), .string ⟨List.toArray ([])⟩]) (rs := [[6], []]) 5 rfl (by kernel_rfl) (fun _ ⟨_, H9⟩ => Yl.load rfl (Lds.agg (cs := [.int .i64 3, .int .i64 0, .int .u64 ((p1 : Nat) : Int), .string ⟨List.toArray ([])⟩]) Try.isAgg57 Try.sizeOf57 ((H9.cls (i := 0) rfl).lit (k := 0) (m := 4) rfl))) ?_)))))
 refine GX.do 6 rfl (by kernel_rfl) (Do.newRow (cs := [.int .i64 3, .int .i64 0, .int .u64 ((p1 : Nat) : Int), .string ⟨List.toArray ([])⟩]) (t := 57) (sz := 4) (m := 1) H31 rfl rfl (fun _ => by kernel_rfl) rfl (by decide) ?_)
 intro A32 w33 H34
 replace H34 := Own.reh (y := row A32 1 1 (List.flatMap CallD.cells ([(CallD.mk 3 0 p1 ([]))])) 57 4) rfl H34
 have H35 := H34.pk [1, 2, 3, 4, 0]
 refine ⟨.inr ⟨_, H35⟩, ?_⟩
 have H36 := H35.pk [3, 0, 1, 2, 4]
 refine GX.do 7 rfl (by kernel_rfl) (Do.appendW (k := p0.xCalls.length) (m := 1) (El46) H36 rfl rfl (src_of Try.underlying46 (H36.rds (i := 4) rfl) (flat_one CallD.one ([(CallD.mk 3 0 p1 ([]))]))) rfl (by omega) (s := List.length (p0.xCalls ++ [(CallD.mk 3 0 p1 ([]))])) (by first | omega | (simp only [List.length_append, List.length_cons, List.length_nil] <;> omega)) (List.flatMap_append).symm ?_)
 intro A37 c38 w39 H40
 have hl41 : List.length (p0.xCalls ++ [(CallD.mk 3 0 p1 ([]))]) = p0.xCalls.length + 1 := by simp only [List.length_append, List.length_cons, List.length_nil]
 refine ⟨.inl (by kernel_rfl), ?_⟩
 refine GX.takeA (v := .pointer (some ⟨g0, 0, none⟩)) 8 rfl (by kernel_rfl) (fun _ => yk) (GX.takeA (v := .pointer (some ⟨g0, 2, none⟩)) 9 rfl (by kernel_rfl) (fun _ => yk) ?_)
 have H42 := H40.pk [2, 0, 1, 3, 4]
 refine GX.do0 10 rfl (by kernel_rfl) (Do.store (vs := [.slice A37 (List.length (p0.xCalls ++ [(CallD.mk 3 0 p1 ([]))])) c38]) (o := 2) H42 rfl rfl Try.sizeOf46 rfl rfl rfl rfl ?_)
 intro w43 H44
 refine ⟨.inl (by kernel_rfl), ?_⟩
 refine GX.done (by kernel_rfl) (Fin.then (Wp.seq (Wp.seq ?_)))
 have H45 := H44.pk [0, 1, 3]
 refine Wp.region (Mz rfl (Kz (.pointer (some ⟨g0, 0, none⟩)) (Kz (.pointer (some ⟨g0, 3, none⟩)) (Lz (.int .i64 p0.xLeft) H45 0 Try.isAgg3 (Kz (.bool (decide (p0.xLeft = 0))) (nt ?_))))))
 by_cases h46 : p0.xLeft = 0
 refine jT (dT h46) (sr (An rfl (rt (tR (rs (nt (jt (sr (An rfl (rt (tR (rs ?_))))))))))))
 have H47 := H45.pk [0, 2, 1]
 have H48 : Own w D w43 [BackO g0 (BackT.mk p0.xPages p0.xLog (p0.xCalls ++ [(CallD.mk 3 0 p1 ([]))]) p0.xLeft)] := Own.exFold (gm21, A37, c38) (show PgOk (BackT.mk p0.xPages p0.xLog (p0.xCalls ++ [(CallD.mk 3 0 p1 ([]))]) p0.xLeft).xPages from (show PgOk p0.xPages from (by first | assumption | exact pg_nil | exact pg_put (by assumption) (by omega)))) (show Own w D w43 [blk g0 [.map (some gm21), .int .u64 (((BackT.mk p0.xPages p0.xLog (p0.xCalls ++ [(CallD.mk 3 0 p1 ([]))]) p0.xLeft).xLog : Nat) : Int), .slice A37 (List.length (BackT.mk p0.xPages p0.xLog (p0.xCalls ++ [(CallD.mk 3 0 p1 ([]))]) p0.xLeft).xCalls) c38, .int .i64 ((BackT.mk p0.xPages p0.xLog (p0.xCalls ++ [(CallD.mk 3 0 p1 ([]))]) p0.xLeft).xLeft)] 48, mapr gm21 kI kS ((BackT.mk p0.xPages p0.xLog (p0.xCalls ++ [(CallD.mk 3 0 p1 ([]))]) p0.xLeft).xPages), row A37 (List.length (BackT.mk p0.xPages p0.xLog (p0.xCalls ++ [(CallD.mk 3 0 p1 ([]))]) p0.xLeft).xCalls) c38 (List.flatMap CallD.cells ((BackT.mk p0.xPages p0.xLog (p0.xCalls ++ [(CallD.mk 3 0 p1 ([]))]) p0.xLeft).xCalls)) 57 4] from H47)
 have H49 := H48.pk [0]
 have e : r10_Back_Force p0 p1 = (60, (BackT.mk p0.xPages p0.xLog (p0.xCalls ++ [(CallD.mk 3 0 p1 ([]))]) p0.xLeft)) := ip h46
 obtain ⟨rfl, rfl⟩ := pj2 (e.symm.trans hr)
 exact ⟨rfl, H49, (by first | omega | (simp only [List.length_append, List.length_cons, List.length_nil]; omega) | (dsimp only; simp only [List.length_append, List.length_cons, List.length_nil]; omega))⟩
 refine jF (dF h46) (sk (Wp.seq (sr (Mz rfl (Kz (.pointer (some ⟨g0, 0, none⟩)) (Kz (.pointer (some ⟨g0, 3, none⟩)) (Lz (.int .i64 p0.xLeft) H45 0 Try.isAgg3 (Kz (.bool (decide (p0.xLeft > 0))) (nt ?_)))))))))
 by_cases h50 : p0.xLeft > 0
 refine jT (dT h50) (Wp.region (Mz rfl (Kz (.pointer (some ⟨g0, 0, none⟩)) (Kz (.pointer (some ⟨g0, 3, none⟩)) (Lz (.int .i64 p0.xLeft) H45 0 Try.isAgg3 (Kz (.int .i64 (IntKind.i64.wrap (p0.xLeft - 1))) (Kz (.pointer (some ⟨g0, 0, none⟩)) (Kz (.pointer (some ⟨g0, 3, none⟩)) ?_))))))))
 refine sto [.int .i64 (IntKind.i64.wrap (p0.xLeft - 1))] 3 H45 Try.sizeOf3 ?_
 intro w51 H52
 refine ns (An rfl (rt (rs (nt (jf (sk (sr (Mz rfl (Mz rfl (Kz (.pointer (some ⟨g0, 0, none⟩)) (Kz (.pointer (some ⟨g0, 1, none⟩)) (Lz (.int .u64 ((p0.xLog : Nat) : Int)) H52 0 Try.isAgg33 (Mz rfl (fw (.int .u64 ((max p0.xLog p1 : Nat) : Int)) (Yl.int (e := if ((p1 : Nat) : Int) > ((p0.xLog : Nat) : Int) then ((p1 : Nat) : Int) else ((p0.xLog : Nat) : Int)) yk (by omega)) (Kz (.pointer (some ⟨g0, 0, none⟩)) (Kz (.pointer (some ⟨g0, 1, none⟩)) ?_))))))))))))))))
 refine sto [.int .u64 ((max p0.xLog p1 : Nat) : Int)] 1 H52 Try.sizeOf33 ?_
 intro w53 H54
 refine ns (An rfl (rt (rs ?_)))
 have H55 := H54.pk [0, 2, 1]
 have H56 : Own w D w53 [BackO g0 (BackT.mk p0.xPages (max p0.xLog p1) (p0.xCalls ++ [(CallD.mk 3 0 p1 ([]))]) (IntKind.i64.wrap (p0.xLeft - 1)))] := Own.exFold (gm21, A37, c38) (show PgOk (BackT.mk p0.xPages (max p0.xLog p1) (p0.xCalls ++ [(CallD.mk 3 0 p1 ([]))]) (IntKind.i64.wrap (p0.xLeft - 1))).xPages from (show PgOk p0.xPages from (by first | assumption | exact pg_nil | exact pg_put (by assumption) (by omega)))) (show Own w D w53 [blk g0 [.map (some gm21), .int .u64 (((BackT.mk p0.xPages (max p0.xLog p1) (p0.xCalls ++ [(CallD.mk 3 0 p1 ([]))]) (IntKind.i64.wrap (p0.xLeft - 1))).xLog : Nat) : Int), .slice A37 (List.length (BackT.mk p0.xPages (max p0.xLog p1) (p0.xCalls ++ [(CallD.mk 3 0 p1 ([]))]) (IntKind.i64.wrap (p0.xLeft - 1))).xCalls) c38, .int .i64 ((BackT.mk p0.xPages (max p0.xLog p1) (p0.xCalls ++ [(CallD.mk 3 0 p1 ([]))]) (IntKind.i64.wrap (p0.xLeft - 1))).xLeft)] 48, mapr gm21 kI kS ((BackT.mk p0.xPages (max p0.xLog p1) (p0.xCalls ++ [(CallD.mk 3 0 p1 ([]))]) (IntKind.i64.wrap (p0.xLeft - 1))).xPages), row A37 (List.length (BackT.mk p0.xPages (max p0.xLog p1) (p0.xCalls ++ [(CallD.mk 3 0 p1 ([]))]) (IntKind.i64.wrap (p0.xLeft - 1))).xCalls) c38 (List.flatMap CallD.cells ((BackT.mk p0.xPages (max p0.xLog p1) (p0.xCalls ++ [(CallD.mk 3 0 p1 ([]))]) (IntKind.i64.wrap (p0.xLeft - 1))).xCalls)) 57 4] from H55)
 have H57 := H56.pk [0]
 have e : r10_Back_Force p0 p1 = (0, (BackT.mk p0.xPages (max p0.xLog p1) (p0.xCalls ++ [(CallD.mk 3 0 p1 ([]))]) (IntKind.i64.wrap (p0.xLeft - 1)))) := et (iN h46) (ip h50)
 obtain ⟨rfl, rfl⟩ := pj2 (e.symm.trans hr)
 exact ⟨rfl, H57, (by first | omega | (simp only [List.length_append, List.length_cons, List.length_nil]; omega) | (dsimp only; simp only [List.length_append, List.length_cons, List.length_nil]; omega))⟩
 refine jF (dF h50) (sk (sr (An rfl (rt (rs (nt (jf (sk (sr (Mz rfl (Mz rfl (Kz (.pointer (some ⟨g0, 0, none⟩)) (Kz (.pointer (some ⟨g0, 1, none⟩)) (Lz (.int .u64 ((p0.xLog : Nat) : Int)) H45 0 Try.isAgg33 (Mz rfl (fw (.int .u64 ((max p0.xLog p1 : Nat) : Int)) (Yl.int (e := if ((p1 : Nat) : Int) > ((p0.xLog : Nat) : Int) then ((p1 : Nat) : Int) else ((p0.xLog : Nat) : Int)) yk (by omega)) (Kz (.pointer (some ⟨g0, 0, none⟩)) (Kz (.pointer (some ⟨g0, 1, none⟩)) ?_))))))))))))))))))
 refine sto [.int .u64 ((max p0.xLog p1 : Nat) : Int)] 1 H45 Try.sizeOf33 ?_
 intro w58 H59
 refine ns (An rfl (rt (rs ?_)))
 have H60 := H59.pk [0, 2, 1]
 have H61 : Own w D w58 [BackO g0 (BackT.mk p0.xPages (max p0.xLog p1) (p0.xCalls ++ [(CallD.mk 3 0 p1 ([]))]) p0.xLeft)] := Own.exFold (gm21, A37, c38) (show PgOk (BackT.mk p0.xPages (max p0.xLog p1) (p0.xCalls ++ [(CallD.mk 3 0 p1 ([]))]) p0.xLeft).xPages from (show PgOk p0.xPages from (by first | assumption | exact pg_nil | exact pg_put (by assumption) (by omega)))) (show Own w D w58 [blk g0 [.map (some gm21), .int .u64 (((BackT.mk p0.xPages (max p0.xLog p1) (p0.xCalls ++ [(CallD.mk 3 0 p1 ([]))]) p0.xLeft).xLog : Nat) : Int), .slice A37 (List.length (BackT.mk p0.xPages (max p0.xLog p1) (p0.xCalls ++ [(CallD.mk 3 0 p1 ([]))]) p0.xLeft).xCalls) c38, .int .i64 ((BackT.mk p0.xPages (max p0.xLog p1) (p0.xCalls ++ [(CallD.mk 3 0 p1 ([]))]) p0.xLeft).xLeft)] 48, mapr gm21 kI kS ((BackT.mk p0.xPages (max p0.xLog p1) (p0.xCalls ++ [(CallD.mk 3 0 p1 ([]))]) p0.xLeft).xPages), row A37 (List.length (BackT.mk p0.xPages (max p0.xLog p1) (p0.xCalls ++ [(CallD.mk 3 0 p1 ([]))]) p0.xLeft).xCalls) c38 (List.flatMap CallD.cells ((BackT.mk p0.xPages (max p0.xLog p1) (p0.xCalls ++ [(CallD.mk 3 0 p1 ([]))]) p0.xLeft).xCalls)) 57 4] from H60)
 have H62 := H61.pk [0]
 have e : r10_Back_Force p0 p1 = (0, (BackT.mk p0.xPages (max p0.xLog p1) (p0.xCalls ++ [(CallD.mk 3 0 p1 ([]))]) p0.xLeft)) := et (iN h46) (iN h50)
 obtain ⟨rfl, rfl⟩ := pj2 (e.symm.trans hr)
 exact ⟨rfl, H62, (by first | omega | (simp only [List.length_append, List.length_cons, List.length_nil]; omega) | (dsimp only; simp only [List.length_append, List.length_cons, List.length_nil]; omega))⟩

def r10_NewBack_L0 (p0 : Int) (p1 : Int) : Nat → Nat → List (Int × List UInt8) → (List (Int × List UInt8))
  | 0, k27, m28 => default
  | q29 + 1, k27, m28 => if ((k27 : Nat) : Int) ≤ p0 then r10_NewBack_L0 p0 p1 q29 (k27 + 1) (mput m28 ((k27 : Nat) : Int) ([(UInt8.ofNat (97 + k27))])) else m28

def r10_NewBack (p0 : Int) (p1 : Int) : BackT :=
 bnd (r10_NewBack_L0 p0 p1 ((Int.toNat (p0 + 1 - 1)) + 1) 1 ([])) fun sLrL => (BackT.mk sLrL 0 ([]) p1)

set_option maxRecDepth 100000 in
theorem r10_NewBack_ok (w : World) (D : Nat → Prop) (p0 : Int) (p1 : Int) (r0 : BackT) (H : Own w D w []) (hh0 : 0 ≤ p0 ∧ p0 ≤ 100) (hr : r10_NewBack p0 p1 = r0) :
    Calls Try.prog 7 #[.int .i64 p0, .int .i64 p1] w (Ret fun v w' => ∃ (G0 : Nat), v = .pointer (some ⟨G0, 0, none⟩) ∧ Own w D w' [BackO G0 r0] ∧ (r0.xCalls.length = 0)) := by
 refine Calls.body (args := [.int .i64 p0, .int .i64 p1]) Try.func7 rfl rfl rfl ?_
 show Wp _ _ _ [(0, .int .i64 p0), (1, .int .i64 p1)] _ _
 refine sr (Ar rfl ?_)
 refine WL.do rfl (Do.makeMap (κ := Int) (ν := List UInt8) kI kS H ?_)
 intro g21 w22 H23
 refine Mz rfl (Kz (.agg #[.map (some g21), .int .u64 0, .slice none 0 0, .int .i64 p1]) ?_)
 refine npw [.map (some g21), .int .u64 0, .slice none 0 0, .int .i64 p1] 48 H23 ?_
 intro g24 w25 H26
 refine An rfl (Wp.seq (sr (An rfl (bo ?_))))
 have H31 := H26.pk [0, 1]
 obtain ⟨I35, hI36⟩ : ∃ q : (Nat × (List (Int × List UInt8)) × Nat) → World → Prop, q = fun (i : Nat × (List (Int × List UInt8)) × Nat) w' => Own w D w' [blk g24 [.map (some g21), .int .u64 0, .slice none 0 0, .int .i64 p1] 48, mapr g21 kI kS i.2.1] ∧ ((1 ≤ i.1 ∧ i.1 ≤ p0 + 1) ∧ PgOk i.2.1 ∧ Int.toNat (p0 + 1 - i.1) < i.2.2 ∧ r10_NewBack_L0 p0 p1 ((Int.toNat (p0 + 1 - 1)) + 1) 1 ([]) = r10_NewBack_L0 p0 p1 i.2.2 i.1 i.2.1) := ⟨_, rfl⟩
 have dm37 : ∀ {k27 : Nat} {m28 : List (Int × List UInt8)} {f30 : Nat} {w' : World}, I35 (k27, m28, f30) w' ↔ Own w D w' [blk g24 [.map (some g21), .int .u64 0, .slice none 0 0, .int .i64 p1] 48, mapr g21 kI kS m28] ∧ (1 ≤ k27 ∧ k27 ≤ p0 + 1) ∧ PgOk m28 ∧ Int.toNat (p0 + 1 - k27) < f30 ∧ r10_NewBack_L0 p0 p1 ((Int.toNat (p0 + 1 - 1)) + 1) 1 ([]) = r10_NewBack_L0 p0 p1 f30 k27 m28 := by intros; subst hI36; exact Iff.rfl
 refine Wp.loop (fun i : Nat × (List (Int × List UInt8)) × Nat => [(6, .int .i64 ((i.1 : Nat) : Int)), (5, .pointer (some ⟨g24, 0, none⟩)), (4, .pointer none), (0, .int .i64 p0)]) I35 (fun i => i.2.2) (1, [], (Int.toNat (p0 + 1 - 1)) + 1) ⟨rfl, rfl, rfl, rfl, trivial⟩ (dm37.2 ⟨H31, (show (1 ≤ 1 ∧ 1 ≤ p0 + 1) ∧ PgOk ([]) ∧ Int.toNat (p0 + 1 - 1) < ((Int.toNat (p0 + 1 - 1)) + 1) ∧ r10_NewBack_L0 p0 p1 ((Int.toNat (p0 + 1 - 1)) + 1) 1 ([]) = r10_NewBack_L0 p0 p1 ((Int.toNat (p0 + 1 - 1)) + 1) 1 ([]) from ⟨by omega, by first | assumption | exact pg_nil | exact pg_put (by assumption) (by simp) | exact pg_put (by assumption) (by omega), by omega, rfl⟩)⟩) ?_
 rintro ⟨k27, m28, f30⟩ w32 hf34
 show Wp _ _ _ [(6, .int .i64 ((k27 : Nat) : Int)), (5, .pointer (some ⟨g24, 0, none⟩)), (4, .pointer none), (0, .int .i64 p0)] _ _
 obtain ⟨H33, hi39, hi40, hi41, hq38⟩ := dm37.1 hf34
 obtain ⟨f42, hf43⟩ : ∃ q, f30 = q + 1 := ⟨f30 - 1, by omega⟩
 subst hf43
 refine Wp.seq (sr (Mz rfl (Mz rfl (Kz (.bool (decide (((k27 : Nat) : Int) ≤ p0))) (nt ?_)))))
 by_cases h44 : ((k27 : Nat) : Int) ≤ p0
 refine jT (dT h44) (sk (Wp.seq (bo ?_)))
 have H46 := H33.drew
 refine Wp.drawnX [] (fun W => ∃ L', Own w D W ([blk g24 [.map (some g21), .int .u64 0, .slice none 0 0, .int .i64 p1] 48] ++ L')) (by kernel_rfl) (by kernel_rfl) (NoP.block (NoP.then (NoP.then (NoP.block (NoP.then NoP.base))))) ⟨_, H46⟩ ?_
 revert H46
 generalize World.drew w32 = w45
 intro H46
 refine GX.take (v := .pointer (some ⟨g24, 0, none⟩)) (rs := []) 0 rfl (by kernel_rfl) (fun _ _ => Yl.move rfl) (GX.take (v := .pointer (some ⟨g24, 0, none⟩)) (rs := []) 1 rfl (by kernel_rfl) (fun _ _ => yk) (GX.take (v := .pointer (some ⟨g24, 0, none⟩)) (rs := []) 2 rfl (by kernel_rfl) (fun _ _ => yk) (GX.take (v := .map (some g21)) (rs := []) 3 rfl (by kernel_rfl) (fun _ ⟨_, H9⟩ => Yl.load rfl (Lds.one Try.isAgg45 (Cls.of (H9.cls (i := 0) rfl) rfl))) (GX.take (v := .int .i64 ((k27 : Nat) : Int)) (rs := []) 4 rfl (by kernel_rfl) (fun _ _ => Yl.move rfl) (GX.take (v := .int .i64 ((k27 : Nat) : Int)) (rs := []) 5 rfl (by kernel_rfl) (fun _ _ => Yl.move rfl) (GX.take (v := .int .i64 ((97 + k27 : Nat) : Int)) (rs := []) 6 rfl (by kernel_rfl) (fun _ _ => Yl.int (e := IntKind.i64.wrap (97 + ((k27 : Nat) : Int))) yk (by rw [IntWalk.i64_in _ (by omega)]; omega)) (GX.take (v := .int .u8 (((UInt8.ofNat (97 + k27)).toNat : Nat) : Int)) (rs := []) 7 rfl (by kernel_rfl) (fun _ _ => Yl.int (e := IntKind.u8.wrap ((97 + k27 : Nat) : Int)) yk (u8_wrap _)) ?_)))))))
 refine GX.do 8 rfl (by kernel_rfl) (Do.newRow (cs := [.int .u8 (((UInt8.ofNat (97 + k27)).toNat : Nat) : Int)]) (t := 5) (sz := 1) (m := 1) H46 rfl rfl (fun _ => by kernel_rfl) rfl (by decide) ?_)
 intro A47 w48 H49
 replace H49 := Own.reh (y := row A47 1 1 (List.flatMap eB ([(UInt8.ofNat (97 + k27))])) 5 1) rfl H49
 have H50 := H49.pk [1, 0, 2]
 refine ⟨.inr ⟨_, H50⟩, ?_⟩
 refine GX.more (Good' := fun W => ∃ L', Own w D W ([blk g24 [.map (some g21), .int .u64 0, .slice none 0 0, .int .i64 p1] 48, row A47 1 1 (List.flatMap eB ([(UInt8.ofNat (97 + k27))])) 5 1] ++ L')) (fun _ ⟨L', h⟩ => ⟨[row A47 1 1 (List.flatMap eB ([(UInt8.ofNat (97 + k27))])) 5 1] ++ L', h⟩) ⟨_, H50⟩ (GX.take (v := .string ⟨List.toArray ([(UInt8.ofNat (97 + k27))])⟩) (rs := []) 9 rfl (by kernel_rfl) (fun _ ⟨_, H9⟩ => Yl.toStringE (l := [(UInt8.ofNat (97 + k27))]) Try.underlying36 Try.underlying5 Try.underlying9 (H9.rds (i := 1) rfl) rfl) ?_)
 have H51 := H50.pk [2, 0, 1]
 refine GX.do0 10 rfl (by kernel_rfl) (Do.mapUpdate (k := ((k27 : Nat) : Int)) (v := ([(UInt8.ofNat (97 + k27))])) H51 (eK_int Try.underlying3) Try.underlying45 rfl rfl rfl ?_)
 intro w52 H53
 have H54 := H53.pk [1, 2, 0]
 refine ⟨.inr ⟨_, H54⟩, ?_⟩
 refine GX.done (by kernel_rfl) (bN (Fin.then ?_))
 have H55 := H54.pk [0, 2]
 refine Wp.region (Mz rfl (fw (.int .i64 ((k27 + 1 : Nat) : Int)) (Yl.int (e := IntKind.i64.wrap (((k27 : Nat) : Int) + 1)) yk (by rw [IntWalk.i64_in _ (by omega)]; omega)) (Az rfl (WL.nil ?_))))
 have H56 := H55.pk [0, 1]
 exact Fin.round (k27 + 1, (mput m28 ((k27 : Nat) : Int) ([(UInt8.ofNat (97 + k27))])), f42) ⟨rfl, rfl, rfl, rfl, trivial⟩ (dm37.2 ⟨H56, by omega, by first | assumption | exact pg_nil | exact pg_put (by assumption) (by simp) | exact pg_put (by assumption) (by omega), by omega, Eq.trans (hq38) (if_pos h44)⟩) (by show f42 < f42 + 1; omega)
 refine jF (dF h44) (Wp.exit (Fin.thenX ?_))
 have hL57 : r10_NewBack_L0 p0 p1 ((Int.toNat (p0 + 1 - 1)) + 1) 1 ([]) = m28 := et (hq38) (iN h44)
 refine Fin.thenX (Fin.blockX (Fin.then (sr (Mz rfl (An rfl (rt (rs ?_)))))))
 have H58 : Own w D w32 [row none 0 0 (List.flatMap CallD.cells ([])) 57 4, blk g24 [.map (some g21), .int .u64 0, .slice none 0 0, .int .i64 p1] 48, mapr g21 kI kS m28] := H33.free (row_nil 57 4)
 have H59 := H58.pk [1, 2, 0]
 have H60 : Own w D w32 [BackO g24 (BackT.mk m28 0 ([]) p1)] := Own.exFold (g21, none, 0) (show PgOk (BackT.mk m28 0 ([]) p1).xPages from (show PgOk m28 from (by first | assumption | exact pg_nil | exact pg_put (by assumption) (by omega)))) (show Own w D w32 [blk g24 [.map (some g21), .int .u64 (((BackT.mk m28 0 ([]) p1).xLog : Nat) : Int), .slice none (List.length (BackT.mk m28 0 ([]) p1).xCalls) 0, .int .i64 ((BackT.mk m28 0 ([]) p1).xLeft)] 48, mapr g21 kI kS ((BackT.mk m28 0 ([]) p1).xPages), row none (List.length (BackT.mk m28 0 ([]) p1).xCalls) 0 (List.flatMap CallD.cells ((BackT.mk m28 0 ([]) p1).xCalls)) 57 4] from H59)
 have H61 := H60.pk [0]
 obtain rfl : _ = (BackT.mk m28 0 ([]) p1) := hr.symm.trans (bnd_of hL57)
 exact ⟨g24, rfl, H61, (by first | rfl | omega)⟩
end Go.Proofs.Ytkekaemfokmhdaa
