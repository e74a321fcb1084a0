/-
 disk: the law DiskSafe
-/
import Derived.Test.YtmhhmhaigmjekaaDl
namespace Go.Proofs.Ytmhhmhaigmjekaa
open Go.RowKit
set_option linter.unusedVariables false
set_option linter.unusedSectionVars false
set_option linter.unusedSimpArgs false

theorem El22 : Elem Try.prog 22 32 6 56 := elem_of (z := .agg #[.int .i64 0, .int .i64 0, .int .i64 0, .int .u8 0, .string ⟨List.toArray ([])⟩, .bool false]) Try.underlying22 (by kernel_rfl) rfl (by decide)

structure OpD where
 xDo : Int
 xN : Int
 xShort : Int
 xV : UInt8
 xMask : List UInt8
 xClone : Bool

def OpD.cells (x : OpD) : List Value := [.int .i64 x.xDo, .int .i64 x.xN, .int .i64 x.xShort, .int .u8 ((x.xV.toNat : Nat) : Int), .string ⟨List.toArray x.xMask⟩, .bool x.xClone]

instance : Bk OpD := ⟨fun x _ => bk x.xDo + (bk x.xN + (bk x.xShort + (bk x.xV + (bk x.xMask + (bk x.xClone + (0))))))⟩

theorem OpD.len : ∀ x, (OpD.cells x).length = 6 := fun _ => rfl

theorem OpD.one : ∀ x, ∀ u ∈ OpD.cells x, u.oneCell' = true := fun x u hu => by
 simp only [OpD.cells, List.mem_cons, List.not_mem_nil, or_false] at hu
 rcases hu with rfl | rfl | rfl | rfl | rfl | rfl <;> rfl

def OpD.Ok (w : World) (x : OpD) : Prop := ((-9223372036854775808) ≤ x.xDo ∧ x.xDo ≤ 9223372036854775807) ∧ ((-9223372036854775808) ≤ x.xN ∧ x.xN ≤ 9223372036854775807) ∧ ((-9223372036854775808) ≤ x.xShort ∧ x.xShort ≤ 9223372036854775807) ∧ (True) ∧ (x.xMask.length ≤ 140737488351232) ∧ (True)

set_option maxRecDepth 100000 in
theorem opens_OpD (w : World) : Opens Try.prog w 32 6 OpD.cells (OpD.Ok w) :=
 (opens_struct (sz := 6) Try.underlying32 (by kernel_rfl) (OpensF.cons (i := 0) (off := 0) (s := 1) rfl rfl (opens_int (k := .i64) (lo := -9223372036854775808) (hi := 9223372036854775807) Try.underlying3 (by kernel_rfl) (by decide) (by decide)) (OpensF.cons (i := 1) (off := 1) (s := 1) rfl rfl (opens_int (k := .i64) (lo := -9223372036854775808) (hi := 9223372036854775807) Try.underlying3 (by kernel_rfl) (by decide) (by decide)) (OpensF.cons (i := 2) (off := 2) (s := 1) rfl rfl (opens_int (k := .i64) (lo := -9223372036854775808) (hi := 9223372036854775807) Try.underlying3 (by kernel_rfl) (by decide) (by decide)) (OpensF.cons (i := 3) (off := 3) (s := 1) rfl rfl (opens_u8 Try.underlying5 (by kernel_rfl)) (OpensF.cons (i := 4) (off := 4) (s := 1) rfl rfl (opens_string Try.underlying9 (by kernel_rfl)) (OpensF.cons (i := 5) (off := 5) (s := 1) rfl rfl (opens_bool Try.underlying4 (by kernel_rfl)) OpensF.nil))))))).map (fun p => ⟨p.1, p.2.1, p.2.2.1, p.2.2.2.1, p.2.2.2.2.1, p.2.2.2.2.2.1⟩) OpD.len (fun _ => rfl) (fun _ h => ⟨h.1, h.2.1, h.2.2.1, h.2.2.2.1, h.2.2.2.2.1, h.2.2.2.2.2.1⟩) fun _ => Nat.le_refl _

instance : Inhabited OpD := ⟨⟨default, default, default, default, default, default⟩⟩

def w06_DiskSafe_L0 (l0 : List OpD) (l1 : List OpD) (p2 : List UInt8) (r26 : Bool) (m42 : DiskT) : Nat → Nat → List (List UInt8) → (List (List UInt8))
  | 0, k54, l55 => l55
  | q56 + 1, k54, l55 => w06_DiskSafe_L0 l0 l1 p2 r26 m42 q56 (k54 + 1) (List.set l55 k54 (List.replicate 64 (0 : UInt8)))

def w06_DiskSafe_L1 (l1 : List OpD) (p2 : List UInt8) (r26 : Bool) : List OpD → List (List UInt8) → DiskT → (List (List UInt8)) × DiskT
  | [], l80, m81 => (l80, m81)
  | x95 :: q82, l80, m81 => bnd (w06_full x95.xV) fun yr110 => bnd (disk_Disk_Write m81 x95.xN yr110) fun yr126 => if yr126.1 = 0 then bnd (w06_full x95.xV) fun yr143 => w06_DiskSafe_L1 l1 p2 r26 q82 (List.set l80 (Int.toNat x95.xN) yr143) yr126.2 else w06_DiskSafe_L1 l1 p2 r26 q82 l80 yr126.2

def w06_DiskSafe_L2 (p2 : List UInt8) (r26 : Bool) (l80 : List (List UInt8)) : List OpD → DiskT → List (List UInt8) → DiskT × (List (List UInt8))
  | [], m176, l177 => (m176, l177)
  | x191 :: q178, m176, l177 => bnd (w06_full x191.xV) fun yr207 => bnd (disk_Disk_Write m176 x191.xN yr207) fun yr223 => if yr223.1 = 0 then bnd (w06_full x191.xV) fun yr240 => w06_DiskSafe_L2 p2 r26 l80 q178 yr223.2 (List.set l177 (Int.toNat x191.xN) yr240) else w06_DiskSafe_L2 p2 r26 l80 q178 yr223.2 l177

def w06_DiskSafe_L3 (r26 : Bool) (l80 : List (List UInt8)) (l177 : List (List UInt8)) (r274 : DiskT) : Nat → Nat → Unit ⊕ Bool
  | 0, k280 => Sum.inl ()
  | q281 + 1, k280 => bnd (disk_Disk_Read r274 ((k280 : Nat) : Int)) fun yr297 => if yr297.2 = 0 then bnd (List.getD l80 k280 default) fun yx310 => if yr297.1 ≠ yx310 then bnd (List.getD l177 k280 default) fun yx313 => if yx313 = ([]) then Sum.inr (false) else if yr297.1 ≠ yx313 then Sum.inr (false) else w06_DiskSafe_L3 r26 l80 l177 r274 q281 (k280 + 1) else w06_DiskSafe_L3 r26 l80 l177 r274 q281 (k280 + 1) else Sum.inr (false)

def w06_DiskSafe (l0 : List OpD) (l1 : List OpD) (p2 : List UInt8) : Bool :=
 bnd (w06_live) fun yr26 => bnd ((DiskT.mk 12 ([]) ([]) true (-1))) fun ym42 => bnd (w06_DiskSafe_L0 l0 l1 p2 yr26 ym42 12 0 (List.replicate 12 ([] : List UInt8))) fun sLrbbL => bnd (w06_DiskSafe_L1 l1 p2 yr26 l0 sLrbbL ym42) fun sLrbbLaL => bnd (disk_Disk_Sync sLrbbLaL.2) fun yr167 => if yr167.1 = 0 then bnd (w06_DiskSafe_L2 p2 yr26 sLrbbLaL.1 l1 yr167.2 (List.replicate 12 ([] : List UInt8))) fun sLrbbLaLabtL => bnd (disk_Disk_Crash sLrbbLaLabtL.1 p2) fun yr263 => bnd (disk_Disk_Start yr263) fun yr274 => lp (w06_DiskSafe_L3 yr26 sLrbbLaL.1 sLrbbLaLabtL.2 yr274 12 0) fun _ => if yr26 = true then bnd (disk_Disk_Waits yr274) fun yr330 => decide (((yr330.length : Nat) : Int) = 0) else false else false

set_option maxRecDepth 100000 in
set_option maxHeartbeats 2000000 in
theorem w06_DiskSafe_ok (w : World) (D : Nat → Prop) (A0 : Option Addr) (n0 c0 : Nat) (l0 : List OpD) (A1 : Option Addr) (n1 c1 : Nat) (l1 : List OpD) (p2 : List UInt8) (r0 : Bool) (H : Own w D w []) (hx0 : Ro w D fun w' => Rds w' 6 A0 n0 (List.flatMap OpD.cells l0)) (hn0 : n0 = l0.length) (hl0 : l0.length * 56 ≤ 211106232532992) (hx1 : Ro w D fun w' => Rds w' 6 A1 n1 (List.flatMap OpD.cells l1)) (hn1 : n1 = l1.length) (hl1 : l1.length * 56 ≤ 211106232532992) (hh0 : l0.length * 56 ≤ 140737488351232) (hh1 : l1.length * 56 ≤ 140737488351232) (hh2 : p2.length ≤ 140737488351232) (hr : w06_DiskSafe l0 l1 p2 = r0) :
    Calls Try.prog 4 #[.slice A0 n0 c0, .slice A1 n1 c1, .string ⟨List.toArray p2⟩] w (Ret fun v w' => v = .bool r0 ∧ Own w D w' []) := by
 subst hn0 hn1
 refine Calls.body (args := [.slice A0 l0.length c0, .slice A1 l1.length c1, .string ⟨List.toArray p2⟩]) Try.func4 rfl rfl rfl ?_
 show Wp _ _ _ [(0, .slice A0 l0.length c0), (1, .slice A1 l1.length c1), (2, .string ⟨List.toArray p2⟩)] _ _
 refine sr (Ar rfl ?_)
 obtain ⟨r26, hr27⟩ : ∃ q, w06_live = q := ⟨_, rfl⟩
 obtain ⟨D21, HP22, ro23, bk24, rr25⟩ := Own.enter0 H
 refine cl Try.call8 (w06_live_ok _ _ r26 HP22 hr27) ?_
 rintro _ w28 ⟨rfl, HQ29⟩
 have H30 := bk24 _ _ HQ29
 refine Ar rfl ?_
 refine WL.do rfl (Do.call Try.call9 rfl ?_ (fun _ _ k => k))
 refine Calls.body (args := [.int .i64 12]) Try.func9 rfl rfl rfl ?_
 show Wp _ _ _ [(0, .int .i64 12)] _ _
 refine sr (Az rfl (An rfl (Wp.seq (sr (Mz rfl (Kz (.bool false) (Mz rfl (gw (.int .i64 12) rfl (Yl.move rfl) (Gz (.bool false) rfl (fw (.bool false) (Yl.pickF rfl rfl rfl) (nt (jf (sk (sr (Mz rfl ?_)))))))))))))))
 refine WL.do rfl (Do.makeMapQ H30 ?_)
 intro g31 w32 H33
 refine WL.do rfl (Do.makeMapQ H33 ?_)
 intro g34 w35 H36
 refine Kz (.agg #[.int .i64 12, .map (some g31), .map (some g34), .bool true, .int .i64 (-1)]) ?_
 refine npw [.int .i64 12, .map (some g31), .map (some g34), .bool true, .int .i64 (-1)] 55 H36 ?_
 intro g37 w38 H39
 refine Az rfl (An rfl (rt (Fin.res (res2 rfl rfl rfl) ?_)))
 have H40 := H39.pk [0, 2, 1]
 have H41 : Own w D w38 [DiskO g37 (DiskT.mk 12 ([]) ([]) true (-1))] := Own.exFold (g31, g34) (show 1 ≤ (DiskT.mk 12 ([]) ([]) true (-1)).xsectors ∧ (DiskT.mk 12 ([]) ([]) true (-1)).xsectors ≤ 4096 from (show 1 ≤ 12 ∧ 12 ≤ 4096 from by omega)) (show Own w D w38 [blk g37 [.int .i64 ((DiskT.mk 12 ([]) ([]) true (-1)).xsectors), .map (some g31), .map (some g34), .bool ((DiskT.mk 12 ([]) ([]) true (-1)).xup), .int .i64 ((DiskT.mk 12 ([]) ([]) true (-1)).xfuse)] 55, mapq g31 ((DiskT.mk 12 ([]) ([]) true (-1)).xsafe), mapq g34 ((DiskT.mk 12 ([]) ([]) true (-1)).xwaits)] from H40)
 obtain ⟨m42, hm43⟩ : ∃ q, (DiskT.mk 12 ([]) ([]) true (-1)) = q := ⟨_, rfl⟩
 have H44 : Own w D w38 [DiskO g37 m42] := by rw [← hm43]; exact H41
 have hz45 : m42.xsectors = 12 := by rw [← hm43]
 refine Mz rfl (Kz (.pointer (some ⟨g37, 0, none⟩)) (Kz (.int .i64 0) (Az rfl (An rfl (Wp.seq (sr (Mz rfl (Kz (.bool false) (Mz rfl (gw (.int .i64 0) rfl (Yl.move rfl) (Gz (.bool false) rfl (fw (.bool false) (Yl.pickF rfl rfl rfl) (nt (jf (sk (sr ?_))))))))))))))))
 refine npw [.string ⟨List.toArray ([])⟩, .string ⟨List.toArray ([])⟩, .string ⟨List.toArray ([])⟩, .string ⟨List.toArray ([])⟩, .string ⟨List.toArray ([])⟩, .string ⟨List.toArray ([])⟩, .string ⟨List.toArray ([])⟩, .string ⟨List.toArray ([])⟩, .string ⟨List.toArray ([])⟩, .string ⟨List.toArray ([])⟩, .string ⟨List.toArray ([])⟩, .string ⟨List.toArray ([])⟩] 43 H44 ?_
 intro g46 w47 H48
 have H49 : Own w D w47 [row (some ⟨g46, 0, none⟩) 12 12 (List.flatMap eS (List.replicate 12 ([] : List UInt8))) 43 1, DiskO g37 m42] := H48.blkRow 12 1 (by kernel_rfl) rfl rfl
 refine npw [.string ⟨List.toArray ([])⟩, .string ⟨List.toArray ([])⟩, .string ⟨List.toArray ([])⟩, .string ⟨List.toArray ([])⟩, .string ⟨List.toArray ([])⟩, .string ⟨List.toArray ([])⟩, .string ⟨List.toArray ([])⟩, .string ⟨List.toArray ([])⟩, .string ⟨List.toArray ([])⟩, .string ⟨List.toArray ([])⟩, .string ⟨List.toArray ([])⟩, .string ⟨List.toArray ([])⟩] 43 H49 ?_
 intro g50 w51 H52
 have H53 : Own w D w51 [row (some ⟨g50, 0, none⟩) 12 12 (List.flatMap eS (List.replicate 12 ([] : List UInt8))) 43 1, row (some ⟨g46, 0, none⟩) 12 12 (List.flatMap eS (List.replicate 12 ([] : List UInt8))) 43 1, DiskO g37 m42] := H52.blkRow 12 1 (by kernel_rfl) rfl rfl
 refine nt (Wp.seq (sr (Mn rfl (bo ?_))))
 have H57 := H53.pk [0, 1, 2]
 obtain ⟨I61, hI62⟩ : ∃ q : (Nat × (List (List UInt8))) → World → Prop, q = fun (i : Nat × (List (List UInt8))) w' => Own w D w' [row (some ⟨g50, 0, none⟩) 12 12 (List.flatMap eS (List.replicate 12 ([] : List UInt8))) 43 1, row (some ⟨g46, 0, none⟩) 12 12 (List.flatMap eS i.2) 43 1, DiskO g37 m42] ∧ (i.2.length = 12 ∧ i.1 ≤ 12 ∧ w06_DiskSafe_L0 l0 l1 p2 r26 m42 12 0 (List.replicate 12 ([] : List UInt8)) = w06_DiskSafe_L0 l0 l1 p2 r26 m42 (12 - i.1) i.1 i.2) := ⟨_, rfl⟩
 have dm63 : ∀ {k54 : Nat} {l55 : List (List UInt8)} {w' : World}, I61 (k54, l55) w' ↔ Own w D w' [row (some ⟨g50, 0, none⟩) 12 12 (List.flatMap eS (List.replicate 12 ([] : List UInt8))) 43 1, row (some ⟨g46, 0, none⟩) 12 12 (List.flatMap eS l55) 43 1, DiskO g37 m42] ∧ l55.length = 12 ∧ k54 ≤ 12 ∧ w06_DiskSafe_L0 l0 l1 p2 r26 m42 12 0 (List.replicate 12 ([] : List UInt8)) = w06_DiskSafe_L0 l0 l1 p2 r26 m42 (12 - k54) k54 l55 := by intros; subst hI62; exact Iff.rfl
 refine Wp.loop (fun i : Nat × (List (List UInt8)) => [(31, .int .i64 ((i.1 : Nat) : Int)), (11, .pointer (some ⟨g50, 0, none⟩)), (10, .pointer (some ⟨g46, 0, none⟩)), (8, .pointer (some ⟨g37, 0, none⟩)), (7, .bool r26), (6, .bool false), (0, .slice A0 l0.length c0), (1, .slice A1 l1.length c1), (2, .string ⟨List.toArray p2⟩)]) I61 (fun i => 12 - i.1) (0, (List.replicate 12 ([] : List UInt8))) ⟨rfl, rfl, rfl, rfl, rfl, rfl, rfl, rfl, rfl, trivial⟩ (dm63.2 ⟨H57, by first | omega | (simp only [List.length_set]; omega) | (simp only [List.length_replicate]), by omega, rfl⟩) ?_
 rintro ⟨k54, l55⟩ w58 hf60
 show Wp _ _ _ [(31, .int .i64 ((k54 : Nat) : Int)), (11, .pointer (some ⟨g50, 0, none⟩)), (10, .pointer (some ⟨g46, 0, none⟩)), (8, .pointer (some ⟨g37, 0, none⟩)), (7, .bool r26), (6, .bool false), (0, .slice A0 l0.length c0), (1, .slice A1 l1.length c1), (2, .string ⟨List.toArray p2⟩)] _ _
 obtain ⟨H59, hi65, hi66, hq64⟩ := dm63.1 hf60
 refine sr (Kz (.bool (decide (((k54 : Nat) : Int) < 12))) (nt (Wp.seq ?_)))
 by_cases h67 : ((k54 : Nat) : Int) < 12
 refine jT (dT h67) (sk (Wp.seq (bo (sr (Mz rfl (An rfl (Wp.region (Mz rfl ?_))))))))
 refine WL.do rfl (Do.makeE (x0 := (0 : UInt8)) (z := .int .u8 0) (k := 64) (size := 1) (bytes := 1) eB_len (by decide) rfl Try.underlying33 (by kernel_rfl) H59 rfl rfl (by omega) (by unfold maxLen; omega) ?_)
 intro A68 w69 H70
 have hl71 : List.length (List.replicate 64 (0 : UInt8)) = 64 := List.length_replicate
 refine fw (.string ⟨List.toArray (List.replicate 64 (0 : UInt8))⟩) (Yl.toStringE (l := (List.replicate 64 (0 : UInt8))) Try.underlying33 Try.underlying5 Try.underlying9 (H70.rds (i := 0) rfl) rfl) ?_
 obtain ⟨x72, hx73⟩ := rds_at (ls := l55) (i := k54) eS_len (by decide) (H70.rds (i := 2) rfl) (by first | omega | (simp; done) | (simp; omega))
 refine fw (.pointer (some ⟨ab (some ⟨g46, 0, none⟩), ao (some ⟨g46, 0, none⟩) + k54 * 1, none⟩)) (Yl.indexArr (g := g46) (i := k54) (m := 12) (sz := 1) Try.underlying43 Try.sizeOf9 rfl rfl (by omega)) ?_
 have H74 := H70.pk [2, 0, 1, 3]
 refine WL.do0 (Do.storeRow (vs := [.string ⟨List.toArray (List.replicate 64 (0 : UInt8))⟩]) (o := k54 * 1 + 0) (q := ao (some ⟨g46, 0, none⟩) + k54 * 1) H74 rfl (by omega) rfl Try.sizeOf9 rfl rfl (Nat.le_of_ble_eq_true rfl) (store_fits eS_len hx73 (Nat.le_of_ble_eq_true rfl)) (flat_set (y := (List.replicate 64 (0 : UInt8))) eS_len rfl (Nat.le_of_ble_eq_true rfl) hx73) ?_)
 intro w75 H76
 refine WL.nil (bN (Fin.then (Wp.region (fw (.int .i64 ((k54 + 1 : Nat) : Int)) (Yl.int (e := IntKind.i64.wrap (((k54 : Nat) : Int) + 1)) yk (by rw [IntWalk.i64_in _ (by omega)]; omega)) (Mz rfl (WL.nil ?_))))))
 have H77 := H76.pk [2, 0, 3]
 exact Fin.round (k54 + 1, (List.set l55 k54 (List.replicate 64 (0 : UInt8)))) ⟨rfl, rfl, rfl, rfl, rfl, rfl, rfl, rfl, rfl, trivial⟩ (dm63.2 ⟨H77, by first | omega | (simp only [List.length_set]; omega) | (simp only [List.length_replicate]), by omega, Eq.trans (hq64) (Eq.trans (congrArg (fun q => w06_DiskSafe_L0 l0 l1 p2 r26 m42 q k54 l55) (sub_at (n := 12) (i := k54) (by omega))) rfl)⟩) (by show 12 - (k54 + 1) < 12 - k54; omega)
 refine jF (dF h67) (Wp.exit (Fin.thenX ?_))
 have hL78 : w06_DiskSafe_L0 l0 l1 p2 r26 m42 12 0 (List.replicate 12 ([] : List UInt8)) = l55 := et (hq64) (et (congrArg (fun q => w06_DiskSafe_L0 l0 l1 p2 r26 m42 q k54 l55) (sub_end (n := 12) (i := k54) (by omega))) rfl)
 refine Fin.thenX (Fin.blockX (Fin.then (Wp.seq (sr (Mz rfl (Kz (.int .i64 ((l0.length : Nat) : Int)) (Mn rfl (bo ?_))))))))
 have H83 := H59.pk [0, 1, 2]
 obtain ⟨I87, hI88⟩ : ∃ q : (Nat × (List (List UInt8)) × DiskT) → World → Prop, q = fun (i : Nat × (List (List UInt8)) × DiskT) w' => Own w D w' [row (some ⟨g50, 0, none⟩) 12 12 (List.flatMap eS (List.replicate 12 ([] : List UInt8))) 43 1, row (some ⟨g46, 0, none⟩) 12 12 (List.flatMap eS i.2.1) 43 1, DiskO g37 i.2.2] ∧ (i.2.1.length = 12 ∧ i.1 ≤ l0.length ∧ i.2.2.xsectors = 12 ∧ w06_DiskSafe_L1 l1 p2 r26 l0 l55 m42 = w06_DiskSafe_L1 l1 p2 r26 (List.drop i.1 l0) i.2.1 i.2.2) := ⟨_, rfl⟩
 have dm89 : ∀ {k79 : Nat} {l80 : List (List UInt8)} {m81 : DiskT} {w' : World}, I87 (k79, l80, m81) w' ↔ Own w D w' [row (some ⟨g50, 0, none⟩) 12 12 (List.flatMap eS (List.replicate 12 ([] : List UInt8))) 43 1, row (some ⟨g46, 0, none⟩) 12 12 (List.flatMap eS l80) 43 1, DiskO g37 m81] ∧ l80.length = 12 ∧ k79 ≤ l0.length ∧ m81.xsectors = 12 ∧ w06_DiskSafe_L1 l1 p2 r26 l0 l55 m42 = w06_DiskSafe_L1 l1 p2 r26 (List.drop k79 l0) l80 m81 := by intros; subst hI88; exact Iff.rfl
 refine Wp.loop (fun i : Nat × (List (List UInt8)) × DiskT => [(41, .int .i64 ((i.1 : Nat) : Int)), (40, .int .i64 ((l0.length : Nat) : Int)), (39, .slice A0 l0.length c0), (11, .pointer (some ⟨g50, 0, none⟩)), (10, .pointer (some ⟨g46, 0, none⟩)), (8, .pointer (some ⟨g37, 0, none⟩)), (7, .bool r26), (6, .bool false), (1, .slice A1 l1.length c1), (2, .string ⟨List.toArray p2⟩)]) I87 (fun i => l0.length - i.1) (0, l55, m42) ⟨rfl, rfl, rfl, rfl, rfl, rfl, rfl, rfl, rfl, rfl, trivial⟩ (dm89.2 ⟨H83, by first | omega | (simp only [List.length_set]; omega) | (simp only [List.length_replicate]), by omega, by omega, rfl⟩) ?_
 rintro ⟨k79, l80, m81⟩ w84 hf86
 show Wp _ _ _ [(41, .int .i64 ((k79 : Nat) : Int)), (40, .int .i64 ((l0.length : Nat) : Int)), (39, .slice A0 l0.length c0), (11, .pointer (some ⟨g50, 0, none⟩)), (10, .pointer (some ⟨g46, 0, none⟩)), (8, .pointer (some ⟨g37, 0, none⟩)), (7, .bool r26), (6, .bool false), (1, .slice A1 l1.length c1), (2, .string ⟨List.toArray p2⟩)] _ _
 obtain ⟨H85, hi91, hi92, hi93, hq90⟩ := dm89.1 hf86
 refine sr (Kz (.bool (decide (((k79 : Nat) : Int) < ((l0.length : Nat) : Int)))) (nt (Wp.seq ?_)))
 by_cases h94 : ((k79 : Nat) : Int) < ((l0.length : Nat) : Int)
 obtain ⟨x95, hx96⟩ := rds_at (ls := l0) (i := k79) OpD.len (by decide) (H85.ro hx0) (by first | omega | (simp; done) | (simp; omega))
 have hd97 := drop_at hx96
 refine jT (dT h94) (sk (Wp.seq (bo (sr (fw (.pointer (some ⟨ab A0, ao A0 + k79 * 6, none⟩)) (Yl.indexAddr (El22) rfl rfl ((H85.ro hx0).addr (i := k79) (by omega)) (by omega)) (fw (.agg (OpD.cells x95).toArray) (Yl.load rfl (Lds.agg (cs := (OpD.cells x95)) Try.isAgg32 Try.sizeOf32 ((H85.ro hx0).elem OpD.len hx96 (by decide)))) ?_))))))
 refine npw [.int .i64 0, .int .i64 0, .int .i64 0, .int .u8 0, .string ⟨List.toArray ([])⟩, .bool false] 32 H85 ?_
 intro g98 w99 H100
 refine sto (OpD.cells x95) 0 H100 Try.sizeOf32 ?_
 intro w101 H102
 refine nt (Wp.seq ?_)
 have H104 := H102.drew
 refine Wp.drawnX [] (fun W => ∃ L', Own w D W ([blk g98 (OpD.cells x95) 32, row (some ⟨g50, 0, none⟩) 12 12 (List.flatMap eS (List.replicate 12 ([] : List UInt8))) 43 1, row (some ⟨g46, 0, none⟩) 12 12 (List.flatMap eS l80) 43 1] ++ L')) (by kernel_rfl) (by kernel_rfl) (NoP.then (NoP.block (NoP.then (NoP.then (NoP.block (NoP.then NoP.base)))))) ⟨_, H104⟩ ?_
 revert H104
 generalize World.drew w101 = w103
 intro H104
 refine GX.take (v := .pointer (some ⟨g37, 0, none⟩)) (rs := []) 0 rfl (by kernel_rfl) (fun _ _ => Yl.move rfl) (GX.take (v := .pointer (some ⟨g98, 1, none⟩)) (rs := []) 1 rfl (by kernel_rfl) (fun _ _ => yk) (GX.take (v := .int .i64 x95.xN) (rs := []) 2 rfl (by kernel_rfl) (fun _ ⟨_, H9⟩ => Yl.load rfl (Lds.one Try.isAgg3 (Cls.of (H9.cls (i := 0) rfl) rfl))) (GX.take (v := .pointer (some ⟨g98, 3, none⟩)) (rs := []) 3 rfl (by kernel_rfl) (fun _ _ => yk) (GX.take (v := .int .u8 ((x95.xV.toNat : Nat) : Int)) (rs := []) 4 rfl (by kernel_rfl) (fun _ ⟨_, H9⟩ => Yl.load rfl (Lds.one Try.isAgg5 (Cls.of (H9.cls (i := 0) rfl) rfl))) ?_))))
 obtain ⟨r110, hr111⟩ : ∃ q, w06_full x95.xV = q := ⟨_, rfl⟩
 obtain ⟨D105, HP106, ro107, bk108, rr109⟩ := Own.enter0 H104
 refine GX.do 5 rfl (by kernel_rfl) (Do.call Try.call11 rfl (w06_full_ok _ _ x95.xV r110 HP106 hr111) ?_)
 rintro _ w112 ⟨A115, c116, rfl, HQ113, hk117⟩
 have H114 := bk108 _ _ HQ113
 have hb118 := H114.rowC (i := 0) rfl
 replace hk117 : r110.length = 64 := hk117
 have H119 := H114.pk [1, 2, 3, 0, 4]
 refine ⟨.inr ⟨_, H119⟩, ?_⟩
 have H120 := H119.pk [4, 0, 1, 2, 3]
 obtain ⟨⟨r126, r127⟩, hr128⟩ : ∃ q : Int × DiskT, disk_Disk_Write m81 x95.xN r110 = q := ⟨_, rfl⟩
 obtain ⟨D121, HP122, ro123, bk124, rr125⟩ := Own.enter1 H120
 refine GX.do 6 rfl (by kernel_rfl) (Do.call Try.call13 rfl (disk_Disk_Write_ok _ _ g37 m81 x95.xN A115 r110.length c116 r110 r126 r127 HP122 (rr125 _ 3 _ rfl row_rds) rfl (by omega) hr128) ?_)
 rintro _ w129 ⟨rfl, HQ130, hk132, hk133⟩
 have H131 := bk124 _ _ HQ130
 replace hk132 : r127.xsectors = m81.xsectors := hk132
 replace hk133 : ¬ (r126 = 0) ∨ ((0 : Int) ≤ x95.xN ∧ (x95.xN : Int) < m81.xsectors) := hk133
 have H134 := H131.pk [1, 2, 3, 0, 4]
 refine ⟨.inr ⟨_, H134⟩, ?_⟩
 refine GX.take (v := .bool (decide (r126 = 0))) (rs := []) 7 rfl (by kernel_rfl) (fun _ _ => yk) (GX.done (by kernel_rfl) (Fin.then ?_))
 by_cases h135 : r126 = 0
 refine jT (dT h135) ?_
 have H137 := H134.drew
 refine Wp.drawnX [7] (fun W => ∃ L', Own w D W ([blk g98 (OpD.cells x95) 32, row (some ⟨g50, 0, none⟩) 12 12 (List.flatMap eS (List.replicate 12 ([] : List UInt8))) 43 1, row (some ⟨g46, 0, none⟩) 12 12 (List.flatMap eS l80) 43 1, DiskO g37 r127, row A115 r110.length c116 (List.flatMap eB r110) 5 1] ++ L')) (by kernel_rfl) (by kernel_rfl) (NoP.block (NoP.then (NoP.then (NoP.block (NoP.then NoP.base))))) ⟨_, H137⟩ ?_
 revert H137
 generalize World.drew w129 = w136
 intro H137
 refine GX.take (v := .pointer (some ⟨g98, 1, none⟩)) (rs := [[]]) 0 rfl (by kernel_rfl) (fun _ _ => yk) (GX.take (v := .int .i64 x95.xN) (rs := [[]]) 1 rfl (by kernel_rfl) (fun _ ⟨_, H9⟩ => Yl.load rfl (Lds.one Try.isAgg3 (Cls.of (H9.cls (i := 0) rfl) rfl))) (GX.take (v := .pointer (some ⟨g98, 3, none⟩)) (rs := [[]]) 2 rfl (by kernel_rfl) (fun _ _ => yk) (GX.take (v := .int .u8 ((x95.xV.toNat : Nat) : Int)) (rs := [[]]) 3 rfl (by kernel_rfl) (fun _ ⟨_, H9⟩ => Yl.load rfl (Lds.one Try.isAgg5 (Cls.of (H9.cls (i := 0) rfl) rfl))) ?_)))
 obtain ⟨r143, hr144⟩ : ∃ q, w06_full x95.xV = q := ⟨_, rfl⟩
 obtain ⟨D138, HP139, ro140, bk141, rr142⟩ := Own.enter0 H137
 refine GX.do 4 rfl (by kernel_rfl) (Do.call Try.call11 rfl (w06_full_ok _ _ x95.xV r143 HP139 hr144) ?_)
 rintro _ w145 ⟨A148, c149, rfl, HQ146, hk150⟩
 have H147 := bk141 _ _ HQ146
 have hb151 := H147.rowC (i := 0) rfl
 replace hk150 : r143.length = 64 := hk150
 have H152 := H147.pk [1, 2, 3, 4, 5, 0]
 refine ⟨.inr ⟨_, H152⟩, ?_⟩
 refine GX.more (Good' := fun W => ∃ L', Own w D W ([blk g98 (OpD.cells x95) 32, row (some ⟨g50, 0, none⟩) 12 12 (List.flatMap eS (List.replicate 12 ([] : List UInt8))) 43 1, row (some ⟨g46, 0, none⟩) 12 12 (List.flatMap eS l80) 43 1, DiskO g37 r127, row A115 r110.length c116 (List.flatMap eB r110) 5 1, row A148 r143.length c149 (List.flatMap eB r143) 5 1] ++ L')) (fun _ ⟨L', h⟩ => ⟨[row A148 r143.length c149 (List.flatMap eB r143) 5 1] ++ L', h⟩) ⟨_, H152⟩ (GX.take (v := .string ⟨List.toArray r143⟩) (rs := [[]]) 5 rfl (by kernel_rfl) (fun _ ⟨_, H9⟩ => Yl.toStringE (l := r143) Try.underlying33 Try.underlying5 Try.underlying9 (H9.rds (i := 5) rfl) rfl) ?_)
 obtain ⟨x153, hx154⟩ := at_of (ls := l80) (i := Int.toNat x95.xN) (by first | omega | (simp; done) | (simp; omega))
 refine GX.take (v := .pointer (some ⟨ab (some ⟨g46, 0, none⟩), ao (some ⟨g46, 0, none⟩) + (Int.toNat x95.xN) * 1, none⟩)) (rs := [[]]) 6 rfl (by kernel_rfl) (fun _ _ => Yl.indexArr (g := g46) (i := Int.toNat x95.xN) (m := 12) (sz := 1) Try.underlying43 Try.sizeOf9 rfl (ev_nat (r := x95.xN) rfl (by omega)) (by omega)) ?_
 have H155 := H152.pk [2, 0, 1, 3, 4, 5]
 refine GX.do0 7 rfl (by kernel_rfl) (Do.storeRow (vs := [.string ⟨List.toArray r143⟩]) (o := (Int.toNat x95.xN) * 1 + 0) (q := ao (some ⟨g46, 0, none⟩) + (Int.toNat x95.xN) * 1) H155 rfl (by omega) rfl Try.sizeOf9 rfl rfl (Nat.le_of_ble_eq_true rfl) (store_fits eS_len hx154 (Nat.le_of_ble_eq_true rfl)) (flat_set (y := r143) eS_len rfl (Nat.le_of_ble_eq_true rfl) hx154) ?_)
 intro w156 H157
 refine ⟨.inl (by kernel_rfl), ?_⟩
 refine GX.done (by kernel_rfl) (bN (Fin.then (Wp.region (fw (.int .i64 ((k79 + 1 : Nat) : Int)) (Yl.int (e := IntKind.i64.wrap (((k79 : Nat) : Int) + 1)) yk (by rw [IntWalk.i64_in _ (by omega)]; omega)) (Mz rfl (WL.nil ?_))))))
 have H158 := H157.pk [2, 0, 3]
 exact Fin.round (k79 + 1, (List.set l80 (Int.toNat x95.xN) r143), r127) ⟨rfl, rfl, rfl, rfl, rfl, rfl, rfl, rfl, rfl, rfl, trivial⟩ (dm89.2 ⟨H158, by first | omega | (simp only [List.length_set]; omega) | (simp only [List.length_replicate]), by omega, by omega, Eq.trans (hq90) (Eq.trans (congrArg (fun q => w06_DiskSafe_L1 l1 p2 r26 q l80 m81) hd97) (Eq.trans (bnd_of hr111) (Eq.trans (bnd_of hr128) (Eq.trans (if_pos h135) (bnd_of hr144)))))⟩) (by show l0.length - (k79 + 1) < l0.length - k79; omega)
 refine jF (dF h135) (Wp.skip (bN (Fin.then (Wp.region (fw (.int .i64 ((k79 + 1 : Nat) : Int)) (Yl.int (e := IntKind.i64.wrap (((k79 : Nat) : Int) + 1)) yk (by rw [IntWalk.i64_in _ (by omega)]; omega)) (Mz rfl (WL.nil ?_)))))))
 have H159 := H134.pk [1, 2, 3]
 exact Fin.round (k79 + 1, l80, r127) ⟨rfl, rfl, rfl, rfl, rfl, rfl, rfl, rfl, rfl, rfl, trivial⟩ (dm89.2 ⟨H159, by first | omega | (simp only [List.length_set]; omega) | (simp only [List.length_replicate]), by omega, by omega, Eq.trans (hq90) (Eq.trans (congrArg (fun q => w06_DiskSafe_L1 l1 p2 r26 q l80 m81) hd97) (Eq.trans (bnd_of hr111) (Eq.trans (bnd_of hr128) (if_neg h135))))⟩) (by show l0.length - (k79 + 1) < l0.length - k79; omega)
 refine jF (dF h94) (Wp.exit (Fin.thenX ?_))
 have hL160 : w06_DiskSafe_L1 l1 p2 r26 l0 l55 m42 = (l80, m81) := et (hq90) (et (congrArg (fun q => w06_DiskSafe_L1 l1 p2 r26 q l80 m81) (drop_end (ls := l0) (i := k79) (by omega))) rfl)
 refine Fin.thenX (Fin.blockX (Fin.then (Wp.seq (sr (Mz rfl ?_)))))
 have H161 := H85.pk [2, 0, 1]
 obtain ⟨⟨r167, r168⟩, hr169⟩ : ∃ q : Int × DiskT, disk_Disk_Sync m81 = q := ⟨_, rfl⟩
 obtain ⟨D162, HP163, ro164, bk165, rr166⟩ := Own.enter1 H161
 refine cl Try.call15 (disk_Disk_Sync_ok _ _ g37 m81 r167 r168 HP163 hr169) ?_
 rintro _ w170 ⟨rfl, HQ171, hk173⟩
 have H172 := bk165 _ _ HQ171
 replace hk173 : r168.xsectors = m81.xsectors := hk173
 refine fw (.bool (decide (¬ (r167 = 0)))) (Yl.bool (e := !(decide (r167 = 0))) yk decide_not.symm) (nt ?_)
 by_cases h174 : r167 = 0
 refine jF (dF (not_not_intro h174)) (sk (Wp.seq (sr (Mz rfl (Kz (.int .i64 ((l1.length : Nat) : Int)) (Mn rfl (bo ?_)))))))
 have H179 := H172.pk [0, 1, 2]
 obtain ⟨I183, hI184⟩ : ∃ q : (Nat × DiskT × (List (List UInt8))) → World → Prop, q = fun (i : Nat × DiskT × (List (List UInt8))) w' => Own w D w' [DiskO g37 i.2.1, row (some ⟨g50, 0, none⟩) 12 12 (List.flatMap eS i.2.2) 43 1, row (some ⟨g46, 0, none⟩) 12 12 (List.flatMap eS l80) 43 1] ∧ (i.2.2.length = 12 ∧ i.1 ≤ l1.length ∧ i.2.1.xsectors = 12 ∧ w06_DiskSafe_L2 p2 r26 l80 l1 r168 (List.replicate 12 ([] : List UInt8)) = w06_DiskSafe_L2 p2 r26 l80 (List.drop i.1 l1) i.2.1 i.2.2) := ⟨_, rfl⟩
 have dm185 : ∀ {k175 : Nat} {m176 : DiskT} {l177 : List (List UInt8)} {w' : World}, I183 (k175, m176, l177) w' ↔ Own w D w' [DiskO g37 m176, row (some ⟨g50, 0, none⟩) 12 12 (List.flatMap eS l177) 43 1, row (some ⟨g46, 0, none⟩) 12 12 (List.flatMap eS l80) 43 1] ∧ l177.length = 12 ∧ k175 ≤ l1.length ∧ m176.xsectors = 12 ∧ w06_DiskSafe_L2 p2 r26 l80 l1 r168 (List.replicate 12 ([] : List UInt8)) = w06_DiskSafe_L2 p2 r26 l80 (List.drop k175 l1) m176 l177 := by intros; subst hI184; exact Iff.rfl
 refine Wp.loop (fun i : Nat × DiskT × (List (List UInt8)) => [(66, .int .i64 ((i.1 : Nat) : Int)), (65, .int .i64 ((l1.length : Nat) : Int)), (64, .slice A1 l1.length c1), (11, .pointer (some ⟨g50, 0, none⟩)), (10, .pointer (some ⟨g46, 0, none⟩)), (8, .pointer (some ⟨g37, 0, none⟩)), (7, .bool r26), (6, .bool false), (2, .string ⟨List.toArray p2⟩)]) I183 (fun i => l1.length - i.1) (0, r168, (List.replicate 12 ([] : List UInt8))) ⟨rfl, rfl, rfl, rfl, rfl, rfl, rfl, rfl, rfl, trivial⟩ (dm185.2 ⟨H179, by first | omega | (simp only [List.length_set]; omega) | (simp only [List.length_replicate]), by omega, by omega, rfl⟩) ?_
 rintro ⟨k175, m176, l177⟩ w180 hf182
 show Wp _ _ _ [(66, .int .i64 ((k175 : Nat) : Int)), (65, .int .i64 ((l1.length : Nat) : Int)), (64, .slice A1 l1.length c1), (11, .pointer (some ⟨g50, 0, none⟩)), (10, .pointer (some ⟨g46, 0, none⟩)), (8, .pointer (some ⟨g37, 0, none⟩)), (7, .bool r26), (6, .bool false), (2, .string ⟨List.toArray p2⟩)] _ _
 obtain ⟨H181, hi187, hi188, hi189, hq186⟩ := dm185.1 hf182
 refine sr (Kz (.bool (decide (((k175 : Nat) : Int) < ((l1.length : Nat) : Int)))) (nt (Wp.seq ?_)))
 by_cases h190 : ((k175 : Nat) : Int) < ((l1.length : Nat) : Int)
 obtain ⟨x191, hx192⟩ := rds_at (ls := l1) (i := k175) OpD.len (by decide) (H181.ro hx1) (by first | omega | (simp; done) | (simp; omega))
 have hd193 := drop_at hx192
 refine jT (dT h190) (sk (Wp.seq (bo (sr (fw (.pointer (some ⟨ab A1, ao A1 + k175 * 6, none⟩)) (Yl.indexAddr (El22) rfl rfl ((H181.ro hx1).addr (i := k175) (by omega)) (by omega)) (fw (.agg (OpD.cells x191).toArray) (Yl.load rfl (Lds.agg (cs := (OpD.cells x191)) Try.isAgg32 Try.sizeOf32 ((H181.ro hx1).elem OpD.len hx192 (by decide)))) ?_))))))
 refine npw [.int .i64 0, .int .i64 0, .int .i64 0, .int .u8 0, .string ⟨List.toArray ([])⟩, .bool false] 32 H181 ?_
 intro g194 w195 H196
 refine sto (OpD.cells x191) 0 H196 Try.sizeOf32 ?_
 intro w197 H198
 refine nt (Wp.seq ?_)
 have H199 := H198.pk [0, 2, 3, 1]
 have H201 := H199.drew
 refine Wp.drawnX [] (fun W => ∃ L', Own w D W ([blk g194 (OpD.cells x191) 32, row (some ⟨g50, 0, none⟩) 12 12 (List.flatMap eS l177) 43 1, row (some ⟨g46, 0, none⟩) 12 12 (List.flatMap eS l80) 43 1] ++ L')) (by kernel_rfl) (by kernel_rfl) (NoP.then (NoP.block (NoP.then (NoP.then (NoP.block (NoP.then NoP.base)))))) ⟨_, H201⟩ ?_
 revert H201
 generalize World.drew w197 = w200
 intro H201
 refine GX.take (v := .pointer (some ⟨g37, 0, none⟩)) (rs := []) 0 rfl (by kernel_rfl) (fun _ _ => Yl.move rfl) (GX.take (v := .pointer (some ⟨g194, 1, none⟩)) (rs := []) 1 rfl (by kernel_rfl) (fun _ _ => yk) (GX.take (v := .int .i64 x191.xN) (rs := []) 2 rfl (by kernel_rfl) (fun _ ⟨_, H9⟩ => Yl.load rfl (Lds.one Try.isAgg3 (Cls.of (H9.cls (i := 0) rfl) rfl))) (GX.take (v := .pointer (some ⟨g194, 3, none⟩)) (rs := []) 3 rfl (by kernel_rfl) (fun _ _ => yk) (GX.take (v := .int .u8 ((x191.xV.toNat : Nat) : Int)) (rs := []) 4 rfl (by kernel_rfl) (fun _ ⟨_, H9⟩ => Yl.load rfl (Lds.one Try.isAgg5 (Cls.of (H9.cls (i := 0) rfl) rfl))) ?_))))
 obtain ⟨r207, hr208⟩ : ∃ q, w06_full x191.xV = q := ⟨_, rfl⟩
 obtain ⟨D202, HP203, ro204, bk205, rr206⟩ := Own.enter0 H201
 refine GX.do 5 rfl (by kernel_rfl) (Do.call Try.call11 rfl (w06_full_ok _ _ x191.xV r207 HP203 hr208) ?_)
 rintro _ w209 ⟨A212, c213, rfl, HQ210, hk214⟩
 have H211 := bk205 _ _ HQ210
 have hb215 := H211.rowC (i := 0) rfl
 replace hk214 : r207.length = 64 := hk214
 have H216 := H211.pk [1, 2, 3, 0, 4]
 refine ⟨.inr ⟨_, H216⟩, ?_⟩
 have H217 := H216.pk [4, 0, 1, 2, 3]
 obtain ⟨⟨r223, r224⟩, hr225⟩ : ∃ q : Int × DiskT, disk_Disk_Write m176 x191.xN r207 = q := ⟨_, rfl⟩
 obtain ⟨D218, HP219, ro220, bk221, rr222⟩ := Own.enter1 H217
 refine GX.do 6 rfl (by kernel_rfl) (Do.call Try.call13 rfl (disk_Disk_Write_ok _ _ g37 m176 x191.xN A212 r207.length c213 r207 r223 r224 HP219 (rr222 _ 3 _ rfl row_rds) rfl (by omega) hr225) ?_)
 rintro _ w226 ⟨rfl, HQ227, hk229, hk230⟩
 have H228 := bk221 _ _ HQ227
 replace hk229 : r224.xsectors = m176.xsectors := hk229
 replace hk230 : ¬ (r223 = 0) ∨ ((0 : Int) ≤ x191.xN ∧ (x191.xN : Int) < m176.xsectors) := hk230
 have H231 := H228.pk [1, 2, 3, 0, 4]
 refine ⟨.inr ⟨_, H231⟩, ?_⟩
 refine GX.take (v := .bool (decide (r223 = 0))) (rs := []) 7 rfl (by kernel_rfl) (fun _ _ => yk) (GX.done (by kernel_rfl) (Fin.then ?_))
 by_cases h232 : r223 = 0
 refine jT (dT h232) ?_
 have H234 := H231.drew
 refine Wp.drawnX [7] (fun W => ∃ L', Own w D W ([blk g194 (OpD.cells x191) 32, row (some ⟨g50, 0, none⟩) 12 12 (List.flatMap eS l177) 43 1, row (some ⟨g46, 0, none⟩) 12 12 (List.flatMap eS l80) 43 1, DiskO g37 r224, row A212 r207.length c213 (List.flatMap eB r207) 5 1] ++ L')) (by kernel_rfl) (by kernel_rfl) (NoP.block (NoP.then (NoP.then (NoP.block (NoP.then NoP.base))))) ⟨_, H234⟩ ?_
 revert H234
 generalize World.drew w226 = w233
 intro H234
 refine GX.take (v := .pointer (some ⟨g194, 1, none⟩)) (rs := [[]]) 0 rfl (by kernel_rfl) (fun _ _ => yk) (GX.take (v := .int .i64 x191.xN) (rs := [[]]) 1 rfl (by kernel_rfl) (fun _ ⟨_, H9⟩ => Yl.load rfl (Lds.one Try.isAgg3 (Cls.of (H9.cls (i := 0) rfl) rfl))) (GX.take (v := .pointer (some ⟨g194, 3, none⟩)) (rs := [[]]) 2 rfl (by kernel_rfl) (fun _ _ => yk) (GX.take (v := .int .u8 ((x191.xV.toNat : Nat) : Int)) (rs := [[]]) 3 rfl (by kernel_rfl) (fun _ ⟨_, H9⟩ => Yl.load rfl (Lds.one Try.isAgg5 (Cls.of (H9.cls (i := 0) rfl) rfl))) ?_)))
 obtain ⟨r240, hr241⟩ : ∃ q, w06_full x191.xV = q := ⟨_, rfl⟩
 obtain ⟨D235, HP236, ro237, bk238, rr239⟩ := Own.enter0 H234
 refine GX.do 4 rfl (by kernel_rfl) (Do.call Try.call11 rfl (w06_full_ok _ _ x191.xV r240 HP236 hr241) ?_)
 rintro _ w242 ⟨A245, c246, rfl, HQ243, hk247⟩
 have H244 := bk238 _ _ HQ243
 have hb248 := H244.rowC (i := 0) rfl
 replace hk247 : r240.length = 64 := hk247
 have H249 := H244.pk [1, 2, 3, 4, 5, 0]
 refine ⟨.inr ⟨_, H249⟩, ?_⟩
 refine GX.more (Good' := fun W => ∃ L', Own w D W ([blk g194 (OpD.cells x191) 32, row (some ⟨g50, 0, none⟩) 12 12 (List.flatMap eS l177) 43 1, row (some ⟨g46, 0, none⟩) 12 12 (List.flatMap eS l80) 43 1, DiskO g37 r224, row A212 r207.length c213 (List.flatMap eB r207) 5 1, row A245 r240.length c246 (List.flatMap eB r240) 5 1] ++ L')) (fun _ ⟨L', h⟩ => ⟨[row A245 r240.length c246 (List.flatMap eB r240) 5 1] ++ L', h⟩) ⟨_, H249⟩ (GX.take (v := .string ⟨List.toArray r240⟩) (rs := [[]]) 5 rfl (by kernel_rfl) (fun _ ⟨_, H9⟩ => Yl.toStringE (l := r240) Try.underlying33 Try.underlying5 Try.underlying9 (H9.rds (i := 5) rfl) rfl) ?_)
 obtain ⟨x250, hx251⟩ := at_of (ls := l177) (i := Int.toNat x191.xN) (by first | omega | (simp; done) | (simp; omega))
 refine GX.take (v := .pointer (some ⟨ab (some ⟨g50, 0, none⟩), ao (some ⟨g50, 0, none⟩) + (Int.toNat x191.xN) * 1, none⟩)) (rs := [[]]) 6 rfl (by kernel_rfl) (fun _ _ => Yl.indexArr (g := g50) (i := Int.toNat x191.xN) (m := 12) (sz := 1) Try.underlying43 Try.sizeOf9 rfl (ev_nat (r := x191.xN) rfl (by omega)) (by omega)) ?_
 have H252 := H249.pk [1, 0, 2, 3, 4, 5]
 refine GX.do0 7 rfl (by kernel_rfl) (Do.storeRow (vs := [.string ⟨List.toArray r240⟩]) (o := (Int.toNat x191.xN) * 1 + 0) (q := ao (some ⟨g50, 0, none⟩) + (Int.toNat x191.xN) * 1) H252 rfl (by omega) rfl Try.sizeOf9 rfl rfl (Nat.le_of_ble_eq_true rfl) (store_fits eS_len hx251 (Nat.le_of_ble_eq_true rfl)) (flat_set (y := r240) eS_len rfl (Nat.le_of_ble_eq_true rfl) hx251) ?_)
 intro w253 H254
 refine ⟨.inl (by kernel_rfl), ?_⟩
 refine GX.done (by kernel_rfl) (bN (Fin.then (Wp.region (fw (.int .i64 ((k175 + 1 : Nat) : Int)) (Yl.int (e := IntKind.i64.wrap (((k175 : Nat) : Int) + 1)) yk (by rw [IntWalk.i64_in _ (by omega)]; omega)) (Mz rfl (WL.nil ?_))))))
 have H255 := H254.pk [3, 0, 2]
 exact Fin.round (k175 + 1, r224, (List.set l177 (Int.toNat x191.xN) r240)) ⟨rfl, rfl, rfl, rfl, rfl, rfl, rfl, rfl, rfl, trivial⟩ (dm185.2 ⟨H255, by first | omega | (simp only [List.length_set]; omega) | (simp only [List.length_replicate]), by omega, by omega, Eq.trans (hq186) (Eq.trans (congrArg (fun q => w06_DiskSafe_L2 p2 r26 l80 q m176 l177) hd193) (Eq.trans (bnd_of hr208) (Eq.trans (bnd_of hr225) (Eq.trans (if_pos h232) (bnd_of hr241)))))⟩) (by show l1.length - (k175 + 1) < l1.length - k175; omega)
 refine jF (dF h232) (Wp.skip (bN (Fin.then (Wp.region (fw (.int .i64 ((k175 + 1 : Nat) : Int)) (Yl.int (e := IntKind.i64.wrap (((k175 : Nat) : Int) + 1)) yk (by rw [IntWalk.i64_in _ (by omega)]; omega)) (Mz rfl (WL.nil ?_)))))))
 have H256 := H231.pk [3, 1, 2]
 exact Fin.round (k175 + 1, r224, l177) ⟨rfl, rfl, rfl, rfl, rfl, rfl, rfl, rfl, rfl, trivial⟩ (dm185.2 ⟨H256, by first | omega | (simp only [List.length_set]; omega) | (simp only [List.length_replicate]), by omega, by omega, Eq.trans (hq186) (Eq.trans (congrArg (fun q => w06_DiskSafe_L2 p2 r26 l80 q m176 l177) hd193) (Eq.trans (bnd_of hr208) (Eq.trans (bnd_of hr225) (if_neg h232))))⟩) (by show l1.length - (k175 + 1) < l1.length - k175; omega)
 refine jF (dF h190) (Wp.exit (Fin.thenX ?_))
 have hL257 : w06_DiskSafe_L2 p2 r26 l80 l1 r168 (List.replicate 12 ([] : List UInt8)) = (m176, l177) := et (hq186) (et (congrArg (fun q => w06_DiskSafe_L2 p2 r26 l80 q m176 l177) (drop_end (ls := l1) (i := k175) (by omega))) rfl)
 refine Fin.thenX (Fin.blockX (Fin.then (sr (Mz rfl (Mz rfl ?_)))))
 obtain ⟨r263, hr264⟩ : ∃ q, disk_Disk_Crash m176 p2 = q := ⟨_, rfl⟩
 obtain ⟨D258, HP259, ro260, bk261, rr262⟩ := Own.enter1 H181
 refine cl Try.call19 (disk_Disk_Crash_ok _ _ g37 m176 p2 r263 HP259 hr264) ?_
 rintro _ w265 ⟨rfl, HQ266, hk268⟩
 have H267 := bk261 _ _ HQ266
 replace hk268 : r263.xsectors = m176.xsectors := hk268
 refine ns (Mz rfl ?_)
 obtain ⟨r274, hr275⟩ : ∃ q, disk_Disk_Start r263 = q := ⟨_, rfl⟩
 obtain ⟨D269, HP270, ro271, bk272, rr273⟩ := Own.enter1 H267
 refine cl Try.call21 (disk_Disk_Start_ok _ _ g37 r263 r274 HP270 hr275) ?_
 rintro _ w276 ⟨rfl, HQ277, hk279⟩
 have H278 := bk272 _ _ HQ277
 replace hk279 : r274.xsectors = r263.xsectors := hk279
 refine nt (Wp.seq (sr (Mn rfl (bo ?_))))
 have H282 := H278.pk [0, 1, 2]
 obtain ⟨I286, hI287⟩ : ∃ q : Nat → World → Prop, q = fun (i : Nat) w' => Own w D w' [DiskO g37 r274, row (some ⟨g50, 0, none⟩) 12 12 (List.flatMap eS l177) 43 1, row (some ⟨g46, 0, none⟩) 12 12 (List.flatMap eS l80) 43 1] ∧ (i ≤ 12 ∧ w06_DiskSafe_L3 r26 l80 l177 r274 12 0 = w06_DiskSafe_L3 r26 l80 l177 r274 (12 - i) i) := ⟨_, rfl⟩
 have dm288 : ∀ {k280 : Nat} {w' : World}, I286 k280 w' ↔ Own w D w' [DiskO g37 r274, row (some ⟨g50, 0, none⟩) 12 12 (List.flatMap eS l177) 43 1, row (some ⟨g46, 0, none⟩) 12 12 (List.flatMap eS l80) 43 1] ∧ k280 ≤ 12 ∧ w06_DiskSafe_L3 r26 l80 l177 r274 12 0 = w06_DiskSafe_L3 r26 l80 l177 r274 (12 - k280) k280 := by intros; subst hI287; exact Iff.rfl
 refine Wp.loop (fun i : Nat => [(6, .bool false), (91, .int .i64 ((i : Nat) : Int)), (11, .pointer (some ⟨g50, 0, none⟩)), (10, .pointer (some ⟨g46, 0, none⟩)), (8, .pointer (some ⟨g37, 0, none⟩)), (7, .bool r26)]) I286 (fun i => 12 - i) 0 ⟨rfl, rfl, rfl, rfl, rfl, rfl, trivial⟩ (dm288.2 ⟨H282, by omega, rfl⟩) ?_
 rintro k280 w283 hf285
 show Wp _ _ _ [(6, .bool false), (91, .int .i64 ((k280 : Nat) : Int)), (11, .pointer (some ⟨g50, 0, none⟩)), (10, .pointer (some ⟨g46, 0, none⟩)), (8, .pointer (some ⟨g37, 0, none⟩)), (7, .bool r26)] _ _
 obtain ⟨H284, hi290, hq289⟩ := dm288.1 hf285
 refine sr (Kz (.bool (decide (((k280 : Nat) : Int) < 12))) (nt (Wp.seq ?_)))
 by_cases h291 : ((k280 : Nat) : Int) < 12
 refine jT (dT h291) (sk (Wp.seq (bo (sr (Mz rfl (Ar rfl (Mz rfl (Mz rfl ?_))))))))
 obtain ⟨⟨r297, r298⟩, hr299⟩ : ∃ q : (List UInt8) × Int, disk_Disk_Read r274 ((k280 : Nat) : Int) = q := ⟨_, rfl⟩
 obtain ⟨D292, HP293, ro294, bk295, rr296⟩ := Own.enter1 H284
 refine cl Try.call25 (disk_Disk_Read_ok _ _ g37 r274 ((k280 : Nat) : Int) r297 r298 HP293 hr299) ?_
 rintro _ w300 ⟨A303, c304, rfl, HQ301, hk305⟩
 have H302 := bk295 _ _ HQ301
 have hb306 := H302.rowC (i := 0) rfl
 replace hk305 : r297.length ≤ 64 := hk305
 refine Mz rfl (Kz (.slice A303 r297.length c304) (Kz (.int .i64 r298) (Az rfl (An rfl (Wp.seq ?_)))))
 have H308 := H302.drew
 refine Wp.drawnX [] (fun W => ∃ L', Own w D W ([row A303 r297.length c304 (List.flatMap eB r297) 61 1, DiskO g37 r274, row (some ⟨g50, 0, none⟩) 12 12 (List.flatMap eS l177) 43 1, row (some ⟨g46, 0, none⟩) 12 12 (List.flatMap eS l80) 43 1] ++ L')) (by kernel_rfl) (by kernel_rfl) (NoP.then (NoP.block (NoP.then (NoP.then (NoP.block (NoP.then NoP.base)))))) ⟨_, H308⟩ ?_
 revert H308
 generalize World.drew w300 = w307
 intro H308
 refine GX.take (v := .int .i64 r298) (rs := []) 0 rfl (by kernel_rfl) (fun _ _ => Yl.move rfl) (GX.take (v := .bool (decide (¬ (r298 = 0)))) (rs := []) 1 rfl (by kernel_rfl) (fun _ _ => Yl.bool (e := !(decide (r298 = 0))) yk decide_not.symm) (GX.take (v := .bool (decide (¬ (r298 = 0)))) (rs := []) 2 rfl (by kernel_rfl) (fun _ _ => Yl.move rfl) ?_))
 by_cases h309 : r298 = 0
 refine GX.takeG (v := .slice A303 r297.length c304) (rs := []) 3 rfl rfl rfl (dF (not_not_intro h309)) (by kernel_rfl) (fun _ _ => Yl.move rfl) (GX.takeG (v := .string ⟨List.toArray r297⟩) (rs := []) 4 rfl rfl rfl (dF (not_not_intro h309)) (by kernel_rfl) (fun _ ⟨_, H9⟩ => Yl.toStringE (l := r297) Try.underlying33 Try.underlying5 Try.underlying9 (H9.rds (i := 0) rfl) rfl) (GX.takeG (v := .int .i64 ((k280 : Nat) : Int)) (rs := []) 5 rfl rfl rfl (dF (not_not_intro h309)) (by kernel_rfl) (fun _ _ => Yl.move rfl) ?_))
 obtain ⟨x310, hx311⟩ := at_of (ls := l80) (i := k280) (by first | omega | (simp; done) | (simp; omega))
 refine GX.takeG (v := .pointer (some ⟨ab (some ⟨g46, 0, none⟩), ao (some ⟨g46, 0, none⟩) + k280 * 1, none⟩)) (rs := []) 6 rfl rfl rfl (dF (not_not_intro h309)) (by kernel_rfl) (fun _ _ => Yl.indexArr (g := g46) (i := k280) (m := 12) (sz := 1) Try.underlying43 Try.sizeOf9 rfl rfl (by omega)) (GX.takeG (v := .string ⟨List.toArray x310⟩) (rs := []) 7 rfl rfl rfl (dF (not_not_intro h309)) (by kernel_rfl) (fun _ ⟨_, H9⟩ => Yl.load rfl (Lds.one Try.isAgg9 (((H9.rds (i := 3) rfl).elem eS_len hx311 (by decide)).at_ (k := 0) rfl))) (GX.takeG (v := .bool (decide (r297 ≠ x310))) (rs := []) 8 rfl rfl rfl (dF (not_not_intro h309)) (by kernel_rfl) (fun _ _ => Yl.strNe rfl rfl) (GX.takeG (v := .bool (decide (r297 ≠ x310))) (rs := []) 9 rfl rfl rfl (dF (not_not_intro h309)) (by kernel_rfl) (fun _ _ => Yl.move rfl) ?_)))
 by_cases h312 : r297 ≠ x310
 refine GX.takeG (v := .int .i64 ((k280 : Nat) : Int)) (rs := []) 10 rfl rfl rfl (dT h312) (by kernel_rfl) (fun _ _ => Yl.move rfl) ?_
 obtain ⟨x313, hx314⟩ := at_of (ls := l177) (i := k280) (by first | omega | (simp; done) | (simp; omega))
 refine GX.takeG (v := .pointer (some ⟨ab (some ⟨g50, 0, none⟩), ao (some ⟨g50, 0, none⟩) + k280 * 1, none⟩)) (rs := []) 11 rfl rfl rfl (dT h312) (by kernel_rfl) (fun _ _ => Yl.indexArr (g := g50) (i := k280) (m := 12) (sz := 1) Try.underlying43 Try.sizeOf9 rfl rfl (by omega)) (GX.takeG (v := .string ⟨List.toArray x313⟩) (rs := []) 12 rfl rfl rfl (dT h312) (by kernel_rfl) (fun _ ⟨_, H9⟩ => Yl.load rfl (Lds.one Try.isAgg9 (((H9.rds (i := 2) rfl).elem eS_len hx314 (by decide)).at_ (k := 0) rfl))) (GX.takeG (v := .bool (decide (x313 = ([])))) (rs := []) 13 rfl rfl rfl (dT h312) (by kernel_rfl) (fun _ _ => Yl.strEq rfl rfl) (GX.takeG (v := .bool (decide (x313 = ([])))) (rs := []) 14 rfl rfl rfl (dT h312) (by kernel_rfl) (fun _ _ => Yl.move rfl) ?_)))
 by_cases h315 : x313 = ([])
 refine GX.skipG (rs := []) 15 rfl rfl rfl (dT h315) (by kernel_rfl) (GX.skipG (rs := []) 16 rfl rfl rfl (dT h315) (by kernel_rfl) (GX.skipG (rs := []) 17 rfl rfl rfl (dT h315) (by kernel_rfl) (GX.skipG (rs := []) 18 rfl rfl rfl (dT h315) (by kernel_rfl) (GX.skipG (rs := []) 19 rfl rfl rfl (dT h315) (by kernel_rfl) (GX.skipG (rs := []) 20 rfl rfl rfl (dT h315) (by kernel_rfl) (GX.takeG (v := .bool true) (rs := []) 21 rfl rfl rfl (dT h312) (by kernel_rfl) (fun _ _ => Yl.pickT rfl (dT h315) rfl) (GX.takeG (v := .bool true) (rs := []) 22 rfl rfl rfl (dF (not_not_intro h309)) (by kernel_rfl) (fun _ _ => Yl.pickT rfl (dT h312) rfl) (GX.take (v := .bool true) (rs := []) 23 rfl (by kernel_rfl) (fun _ _ => Yl.pickF rfl (dF (not_not_intro h309)) rfl) (GX.done (by kernel_rfl) (Fin.then (jt (sr (An rfl (rt (bR (tR (tR (bR (tR (rs ?_))))))))))))))))))))
 have H316 := H308.pk []
 obtain rfl : _ = false := hr.symm.trans (et (bnd_of hr27) (et (bnd_of hm43) (et (bnd_of hL78) (et (bnd_of hL160) (et (bnd_of hr169) (et (ip h174) (et (bnd_of hL257) (et (bnd_of hr264) (et (bnd_of hr275) (lp_r (et (hq289) (et (congrArg (fun q => w06_DiskSafe_L3 r26 l80 l177 r274 q k280) (sub_at (n := 12) (i := k280) (by omega))) (et (bnd_of hr299) (et (ip h309) (et (bnd_of (getD_of hx311)) (et (ip h312) (et (bnd_of (getD_of hx314)) (ip h315))))))))))))))))))
 exact ⟨rfl, H316⟩
 refine GX.takeG (v := .slice A303 r297.length c304) (rs := []) 15 rfl rfl rfl (dF h315) (by kernel_rfl) (fun _ _ => Yl.move rfl) (GX.takeG (v := .string ⟨List.toArray r297⟩) (rs := []) 16 rfl rfl rfl (dF h315) (by kernel_rfl) (fun _ ⟨_, H9⟩ => Yl.toStringE (l := r297) Try.underlying33 Try.underlying5 Try.underlying9 (H9.rds (i := 0) rfl) rfl) (GX.takeG (v := .int .i64 ((k280 : Nat) : Int)) (rs := []) 17 rfl rfl rfl (dF h315) (by kernel_rfl) (fun _ _ => Yl.move rfl) (GX.takeG (v := .pointer (some ⟨ab (some ⟨g50, 0, none⟩), ao (some ⟨g50, 0, none⟩) + k280 * 1, none⟩)) (rs := []) 18 rfl rfl rfl (dF h315) (by kernel_rfl) (fun _ _ => Yl.indexArr (g := g50) (i := k280) (m := 12) (sz := 1) Try.underlying43 Try.sizeOf9 rfl rfl (by omega)) (GX.takeG (v := .string ⟨List.toArray x313⟩) (rs := []) 19 rfl rfl rfl (dF h315) (by kernel_rfl) (fun _ ⟨_, H9⟩ => Yl.load rfl (Lds.one Try.isAgg9 (((H9.rds (i := 2) rfl).elem eS_len hx314 (by decide)).at_ (k := 0) rfl))) (GX.takeG (v := .bool (decide (r297 ≠ x313))) (rs := []) 20 rfl rfl rfl (dF h315) (by kernel_rfl) (fun _ _ => Yl.strNe rfl rfl) (GX.takeG (v := .bool (decide (r297 ≠ x313))) (rs := []) 21 rfl rfl rfl (dT h312) (by kernel_rfl) (fun _ _ => Yl.pickF rfl (dF h315) rfl) (GX.takeG (v := .bool (decide (r297 ≠ x313))) (rs := []) 22 rfl rfl rfl (dF (not_not_intro h309)) (by kernel_rfl) (fun _ _ => Yl.pickT rfl (dT h312) rfl) (GX.take (v := .bool (decide (r297 ≠ x313))) (rs := []) 23 rfl (by kernel_rfl) (fun _ _ => Yl.pickF rfl (dF (not_not_intro h309)) rfl) (GX.done (by kernel_rfl) (Fin.then ?_))))))))))
 by_cases h317 : r297 ≠ x313
 refine jT (dT h317) (sr (An rfl (rt (bR (tR (tR (bR (tR (rs ?_)))))))))
 have H318 := H308.pk []
 obtain rfl : _ = false := hr.symm.trans (et (bnd_of hr27) (et (bnd_of hm43) (et (bnd_of hL78) (et (bnd_of hL160) (et (bnd_of hr169) (et (ip h174) (et (bnd_of hL257) (et (bnd_of hr264) (et (bnd_of hr275) (lp_r (et (hq289) (et (congrArg (fun q => w06_DiskSafe_L3 r26 l80 l177 r274 q k280) (sub_at (n := 12) (i := k280) (by omega))) (et (bnd_of hr299) (et (ip h309) (et (bnd_of (getD_of hx311)) (et (ip h312) (et (bnd_of (getD_of hx314)) (et (iN h315) (ip h317)))))))))))))))))))
 exact ⟨rfl, H318⟩
 refine jF (dF h317) (Wp.skip (bN (Fin.then (Wp.region (fw (.int .i64 ((k280 + 1 : Nat) : Int)) (Yl.int (e := IntKind.i64.wrap (((k280 : Nat) : Int) + 1)) yk (by rw [IntWalk.i64_in _ (by omega)]; omega)) (Mz rfl (WL.nil ?_)))))))
 have H319 := H308.pk [1, 2, 3]
 exact Fin.round (k280 + 1) ⟨rfl, rfl, rfl, rfl, rfl, rfl, trivial⟩ (dm288.2 ⟨H319, by omega, et (hq289) (et (congrArg (fun q => w06_DiskSafe_L3 r26 l80 l177 r274 q k280) (sub_at (n := 12) (i := k280) (by omega))) (et (bnd_of hr299) (et (ip h309) (et (bnd_of (getD_of hx311)) (et (ip h312) (et (bnd_of (getD_of hx314)) (et (iN h315) (iN h317))))))))⟩) (by show 12 - (k280 + 1) < 12 - k280; omega)
 refine GX.skipG (rs := []) 10 rfl rfl rfl (dF h312) (by kernel_rfl) (GX.skipG (rs := []) 11 rfl rfl rfl (dF h312) (by kernel_rfl) (GX.skipG (rs := []) 12 rfl rfl rfl (dF h312) (by kernel_rfl) (GX.skipG (rs := []) 13 rfl rfl rfl (dF h312) (by kernel_rfl) (GX.skipG (rs := []) 14 rfl rfl rfl (dF h312) (by kernel_rfl) (GX.skipUG (rs := []) 15 rfl rfl rfl (by kernel_rfl) (GX.skipUG (rs := []) 16 rfl rfl rfl (by kernel_rfl) (GX.skipUG (rs := []) 17 rfl rfl rfl (by kernel_rfl) (GX.skipUG (rs := []) 18 rfl rfl rfl (by kernel_rfl) (GX.skipUG (rs := []) 19 rfl rfl rfl (by kernel_rfl) (GX.skipUG (rs := []) 20 rfl rfl rfl (by kernel_rfl) (GX.skipG (rs := []) 21 rfl rfl rfl (dF h312) (by kernel_rfl) (GX.takeG (v := .bool false) (rs := []) 22 rfl rfl rfl (dF (not_not_intro h309)) (by kernel_rfl) (fun _ _ => Yl.pickF rfl (dF h312) rfl) (GX.take (v := .bool false) (rs := []) 23 rfl (by kernel_rfl) (fun _ _ => Yl.pickF rfl (dF (not_not_intro h309)) rfl) (GX.done (by kernel_rfl) (Fin.then (jf (Wp.skip (bN (Fin.then (Wp.region (fw (.int .i64 ((k280 + 1 : Nat) : Int)) (Yl.int (e := IntKind.i64.wrap (((k280 : Nat) : Int) + 1)) yk (by rw [IntWalk.i64_in _ (by omega)]; omega)) (Mz rfl (WL.nil ?_)))))))))))))))))))))))
 have H320 := H308.pk [1, 2, 3]
 exact Fin.round (k280 + 1) ⟨rfl, rfl, rfl, rfl, rfl, rfl, trivial⟩ (dm288.2 ⟨H320, by omega, et (hq289) (et (congrArg (fun q => w06_DiskSafe_L3 r26 l80 l177 r274 q k280) (sub_at (n := 12) (i := k280) (by omega))) (et (bnd_of hr299) (et (ip h309) (et (bnd_of (getD_of hx311)) (iN h312)))))⟩) (by show 12 - (k280 + 1) < 12 - k280; omega)
 refine GX.skipG (rs := []) 3 rfl rfl rfl (dT h309) (by kernel_rfl) (GX.skipG (rs := []) 4 rfl rfl rfl (dT h309) (by kernel_rfl) (GX.skipG (rs := []) 5 rfl rfl rfl (dT h309) (by kernel_rfl) (GX.skipG (rs := []) 6 rfl rfl rfl (dT h309) (by kernel_rfl) (GX.skipG (rs := []) 7 rfl rfl rfl (dT h309) (by kernel_rfl) (GX.skipG (rs := []) 8 rfl rfl rfl (dT h309) (by kernel_rfl) (GX.skipG (rs := []) 9 rfl rfl rfl (dT h309) (by kernel_rfl) (GX.skipUG (rs := []) 10 rfl rfl rfl (by kernel_rfl) (GX.skipUG (rs := []) 11 rfl rfl rfl (by kernel_rfl) (GX.skipUG (rs := []) 12 rfl rfl rfl (by kernel_rfl) (GX.skipUG (rs := []) 13 rfl rfl rfl (by kernel_rfl) (GX.skipUG (rs := []) 14 rfl rfl rfl (by kernel_rfl) (GX.skipUG (rs := []) 15 rfl rfl rfl (by kernel_rfl) (GX.skipUG (rs := []) 16 rfl rfl rfl (by kernel_rfl) (GX.skipUG (rs := []) 17 rfl rfl rfl (by kernel_rfl) (GX.skipUG (rs := []) 18 rfl rfl rfl (by kernel_rfl) (GX.skipUG (rs := []) 19 rfl rfl rfl (by kernel_rfl) (GX.skipUG (rs := []) 20 rfl rfl rfl (by kernel_rfl) (GX.skipUG (rs := []) 21 rfl rfl rfl (by kernel_rfl) (GX.skipG (rs := []) 22 rfl rfl rfl (dT h309) (by kernel_rfl) (GX.take (v := .bool true) (rs := []) 23 rfl (by kernel_rfl) (fun _ _ => Yl.pickT rfl (dT h309) rfl) (GX.done (by kernel_rfl) (Fin.then (jt (sr (An rfl (rt (bR (tR (tR (bR (tR (rs ?_))))))))))))))))))))))))))))))))
 have H321 := H308.pk []
 obtain rfl : _ = false := hr.symm.trans (et (bnd_of hr27) (et (bnd_of hm43) (et (bnd_of hL78) (et (bnd_of hL160) (et (bnd_of hr169) (et (ip h174) (et (bnd_of hL257) (et (bnd_of hr264) (et (bnd_of hr275) (lp_r (et (hq289) (et (congrArg (fun q => w06_DiskSafe_L3 r26 l80 l177 r274 q k280) (sub_at (n := 12) (i := k280) (by omega))) (et (bnd_of hr299) (iN h309))))))))))))))
 exact ⟨rfl, H321⟩
 refine jF (dF h291) (Wp.exit (Fin.thenX ?_))
 have hL322 : w06_DiskSafe_L3 r26 l80 l177 r274 12 0 = Sum.inl () := et (hq289) (et (congrArg (fun q => w06_DiskSafe_L3 r26 l80 l177 r274 q k280) (sub_end (n := 12) (i := k280) (by omega))) rfl)
 refine Fin.thenX (Fin.blockX (Fin.then (Wp.seq ?_)))
 have H323 := H284.pk [0]
 refine Wp.region (Mz rfl (Mz rfl ?_))
 rcases Bool.eq_false_or_eq_true (r26) with h324 | h324
 refine WL.valG (v := .pointer (some ⟨g37, 0, none⟩)) rfl rfl h324 rfl (Yl.move rfl) ?_
 obtain ⟨r330, hr331⟩ : ∃ q, disk_Disk_Waits r274 = q := ⟨_, rfl⟩
 obtain ⟨D325, HP326, ro327, bk328, rr329⟩ := Own.enter1 H323
 refine WL.doG rfl rfl h324 rfl (Do.call Try.call26 rfl (disk_Disk_Waits_ok _ _ g37 r274 r330 HP326 hr331) ?_)
 rintro _ w332 ⟨A335, c336, rfl, HQ333, hk337⟩
 have H334 := bk328 _ _ HQ333
 have hb338 := H334.rowC (i := 0) rfl
 replace hk337 : ∀ x ∈ r330, 0 ≤ x ∧ x < 4096 := hk337
 refine Gz (.int .i64 ((r330.length : Nat) : Int)) h324 (Gz (.bool (decide (((r330.length : Nat) : Int) = 0))) h324 (fw (.bool (decide (((r330.length : Nat) : Int) = 0))) (Yl.pickT rfl h324 rfl) (An rfl (rt (rs ?_)))))
 have H339 := H334.pk []
 obtain rfl : _ = decide (((r330.length : Nat) : Int) = 0) := hr.symm.trans (et (bnd_of hr27) (et (bnd_of hm43) (et (bnd_of hL78) (et (bnd_of hL160) (et (bnd_of hr169) (et (ip h174) (et (bnd_of hL257) (et (bnd_of hr264) (et (bnd_of hr275) (et (lp_l hL322) (et (ip h324) (bnd_of hr331))))))))))))
 exact ⟨rfl, H339⟩
 refine Sz h324 (Sz h324 (Sz h324 (Sz h324 (fw (.bool false) (Yl.pickF rfl h324 rfl) (An rfl (rt (rs ?_)))))))
 have H340 := H323.pk []
 obtain rfl : _ = false := hr.symm.trans (et (bnd_of hr27) (et (bnd_of hm43) (et (bnd_of hL78) (et (bnd_of hL160) (et (bnd_of hr169) (et (ip h174) (et (bnd_of hL257) (et (bnd_of hr264) (et (bnd_of hr275) (et (lp_l hL322) (ifF h324)))))))))))
 exact ⟨rfl, H340⟩
 refine jT (dT h174) (sr (An rfl (rt (tR (rs ?_)))))
 have H341 := H172.pk []
 obtain rfl : _ = false := hr.symm.trans (et (bnd_of hr27) (et (bnd_of hm43) (et (bnd_of hL78) (et (bnd_of hL160) (et (bnd_of hr169) (iN h174))))))
 exact ⟨rfl, H341⟩
end Go.Proofs.Ytmhhmhaigmjekaa
