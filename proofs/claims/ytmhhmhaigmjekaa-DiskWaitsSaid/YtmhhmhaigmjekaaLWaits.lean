/-
 disk: the law DiskWaits
-/
import Derived.Test.YtmhhmhaigmjekaaDl
namespace Go.Proofs.Ytmhhmhaigmjekaa
open Go.RowKit
set_option linter.unusedVariables false
set_option linter.unusedSectionVars false
set_option linter.unusedSimpArgs false

theorem El22 : Elem Try.prog 22 32 6 56 := elem_of (z := .agg #[.int .i64 0, .int .i64 0, .int .i64 0, .int .u8 0, .string ⟨List.toArray ([])⟩, .bool false]) Try.underlying22 (by kernel_rfl) rfl (by decide)

structure OpD where
 xDo : Int
 xN : Int
 xShort : Int
 xV : UInt8
 xMask : List UInt8
 xClone : Bool

def OpD.cells (x : OpD) : List Value := [.int .i64 x.xDo, .int .i64 x.xN, .int .i64 x.xShort, .int .u8 ((x.xV.toNat : Nat) : Int), .string ⟨List.toArray x.xMask⟩, .bool x.xClone]

instance : Bk OpD := ⟨fun x _ => bk x.xDo + (bk x.xN + (bk x.xShort + (bk x.xV + (bk x.xMask + (bk x.xClone + (0))))))⟩

theorem OpD.len : ∀ x, (OpD.cells x).length = 6 := fun _ => rfl

theorem OpD.one : ∀ x, ∀ u ∈ OpD.cells x, u.oneCell' = true := fun x u hu => by
 simp only [OpD.cells, List.mem_cons, List.not_mem_nil, or_false] at hu
 rcases hu with rfl | rfl | rfl | rfl | rfl | rfl <;> rfl

def OpD.Ok (w : World) (x : OpD) : Prop := ((-9223372036854775808) ≤ x.xDo ∧ x.xDo ≤ 9223372036854775807) ∧ ((-9223372036854775808) ≤ x.xN ∧ x.xN ≤ 9223372036854775807) ∧ ((-9223372036854775808) ≤ x.xShort ∧ x.xShort ≤ 9223372036854775807) ∧ (True) ∧ (x.xMask.length ≤ 140737488351232) ∧ (True)

set_option maxRecDepth 100000 in
theorem opens_OpD (w : World) : Opens Try.prog w 32 6 OpD.cells (OpD.Ok w) :=
 (opens_struct (sz := 6) Try.underlying32 (by kernel_rfl) (OpensF.cons (i := 0) (off := 0) (s := 1) rfl rfl (opens_int (k := .i64) (lo := -9223372036854775808) (hi := 9223372036854775807) Try.underlying3 (by kernel_rfl) (by decide) (by decide)) (OpensF.cons (i := 1) (off := 1) (s := 1) rfl rfl (opens_int (k := .i64) (lo := -9223372036854775808) (hi := 9223372036854775807) Try.underlying3 (by kernel_rfl) (by decide) (by decide)) (OpensF.cons (i := 2) (off := 2) (s := 1) rfl rfl (opens_int (k := .i64) (lo := -9223372036854775808) (hi := 9223372036854775807) Try.underlying3 (by kernel_rfl) (by decide) (by decide)) (OpensF.cons (i := 3) (off := 3) (s := 1) rfl rfl (opens_u8 Try.underlying5 (by kernel_rfl)) (OpensF.cons (i := 4) (off := 4) (s := 1) rfl rfl (opens_string Try.underlying9 (by kernel_rfl)) (OpensF.cons (i := 5) (off := 5) (s := 1) rfl rfl (opens_bool Try.underlying4 (by kernel_rfl)) OpensF.nil))))))).map (fun p => ⟨p.1, p.2.1, p.2.2.1, p.2.2.2.1, p.2.2.2.2.1, p.2.2.2.2.2.1⟩) OpD.len (fun _ => rfl) (fun _ h => ⟨h.1, h.2.1, h.2.2.1, h.2.2.2.1, h.2.2.2.2.1, h.2.2.2.2.2.1⟩) fun _ => Nat.le_refl _

instance : Inhabited OpD := ⟨⟨default, default, default, default, default, default⟩⟩

def w06_DiskWaits_L0 (l0 : List OpD) (r26 : Bool) (m42 : DiskT) : Nat → Nat → List (List UInt8) → (List (List UInt8))
  | 0, k58, l59 => l59
  | q60 + 1, k58, l59 => w06_DiskWaits_L0 l0 r26 m42 q60 (k58 + 1) (List.set l59 k58 (List.replicate 64 (0 : UInt8)))

def w06_DiskWaits_L1 (r26 : Bool) : List OpD → List Bool → List (List UInt8) → DiskT → ((List Bool) × (List (List UInt8)) × DiskT) ⊕ Bool
  | [], l84, l85, m86 => Sum.inl (l84, l85, m86)
  | x101 :: q87, l84, l85, m86 => if x101.xDo = 2 then bnd (disk_Disk_Sync m86) fun yr116 => if yr116.1 = 0 then w06_DiskWaits_L1 r26 q87 (List.replicate 12 false) l85 yr116.2 else Sum.inr (false) else bnd (w06_full x101.xV) fun yr136 => bnd (disk_Disk_Write m86 (((Int.toNat ((remI x101.xN 12) + 12)) % 12 : Nat) : Int) yr136) fun yr151 => if yr151.1 = 0 then bnd (w06_full x101.xV) fun yr165 => w06_DiskWaits_L1 r26 q87 (List.set l84 ((Int.toNat ((remI x101.xN 12) + 12)) % 12) true) (List.set l85 ((Int.toNat ((remI x101.xN 12) + 12)) % 12) yr165) yr151.2 else Sum.inr (false)

def w06_DiskWaits_L2 (r26 : Bool) (l84 : List Bool) (l85 : List (List UInt8)) (m86 : DiskT) : Nat → List Int → Nat → (List Int) ⊕ Bool
  | 0, l190, k191 => Sum.inl l190
  | q192 + 1, l190, k191 => bnd (List.getD l84 k191 default) fun yx204 => bnd (if yx204 = true then (l190 ++ [((k191 : Nat) : Int)]) else l190) fun sJrbbfLaLaLsbJ => bnd (disk_Disk_Read m86 ((k191 : Nat) : Int)) fun yr236 => if yr236.2 = 0 then bnd (List.getD l85 k191 default) fun yx249 => if yr236.1 ≠ yx249 then Sum.inr (false) else w06_DiskWaits_L2 r26 l84 l85 m86 q192 sJrbbfLaLaLsbJ (k191 + 1) else Sum.inr (false)

def w06_DiskWaits_L3 (r26 : Bool) (l190 : List Int) : List Int → Nat → Unit ⊕ Bool
  | [], k273 => Sum.inl ()
  | x285 :: q274, k273 => bnd (List.getD l190 k273 default) fun yx290 => if x285 = yx290 then w06_DiskWaits_L3 r26 l190 q274 (k273 + 1) else Sum.inr (false)

def w06_DiskWaits (l0 : List OpD) : Bool :=
 bnd (w06_live) fun yr26 => bnd ((DiskT.mk 12 ([]) ([]) true (-1))) fun ym42 => if ((l0.length : Nat) : Int) > 100 then if yr26 = true then true else false else bnd (w06_DiskWaits_L0 l0 yr26 ym42 12 0 (List.replicate 12 ([] : List UInt8))) fun sLrbbfL => lp (w06_DiskWaits_L1 yr26 l0 (List.replicate 12 false) sLrbbfL ym42) fun sLrbbfLaL => lp (w06_DiskWaits_L2 yr26 sLrbbfLaL.1 sLrbbfLaL.2.1 sLrbbfLaL.2.2 12 ([]) 0) fun sLrbbfLaLaL => bnd (disk_Disk_Waits sLrbbfLaL.2.2) fun yr262 => if ((yr262.length : Nat) : Int) = ((sLrbbfLaLaL.length : Nat) : Int) then lp (w06_DiskWaits_L3 yr26 sLrbbfLaLaL yr262 0) fun _ => yr26 else false

set_option maxRecDepth 100000 in
set_option maxHeartbeats 2000000 in
theorem w06_DiskWaits_ok (w : World) (D : Nat → Prop) (A0 : Option Addr) (n0 c0 : Nat) (l0 : List OpD) (r0 : Bool) (H : Own w D w []) (hx0 : Ro w D fun w' => Rds w' 6 A0 n0 (List.flatMap OpD.cells l0)) (hn0 : n0 = l0.length) (hl0 : l0.length * 56 ≤ 211106232532992) (hh0 : l0.length * 56 ≤ 140737488351232) (hr : w06_DiskWaits l0 = r0) :
    Calls Try.prog 6 #[.slice A0 n0 c0] w (Ret fun v w' => v = .bool r0 ∧ Own w D w' []) := by
 subst hn0
 refine Calls.body (args := [.slice A0 l0.length c0]) Try.func6 rfl rfl rfl ?_
 show Wp _ _ _ [(0, .slice A0 l0.length c0)] _ _
 refine sr (Ar rfl ?_)
 obtain ⟨r26, hr27⟩ : ∃ q, w06_live = q := ⟨_, rfl⟩
 obtain ⟨D21, HP22, ro23, bk24, rr25⟩ := Own.enter0 H
 refine cl Try.call8 (w06_live_ok _ _ r26 HP22 hr27) ?_
 rintro _ w28 ⟨rfl, HQ29⟩
 have H30 := bk24 _ _ HQ29
 refine Ar rfl ?_
 refine WL.do rfl (Do.call Try.call9 rfl ?_ (fun _ _ k => k))
 refine Calls.body (args := [.int .i64 12]) Try.func9 rfl rfl rfl ?_
 show Wp _ _ _ [(0, .int .i64 12)] _ _
 refine sr (Az rfl (An rfl (Wp.seq (sr (Mz rfl (Kz (.bool false) (Mz rfl (gw (.int .i64 12) rfl (Yl.move rfl) (Gz (.bool false) rfl (fw (.bool false) (Yl.pickF rfl rfl rfl) (nt (jf (sk (sr (Mz rfl ?_)))))))))))))))
 refine WL.do rfl (Do.makeMapQ H30 ?_)
 intro g31 w32 H33
 refine WL.do rfl (Do.makeMapQ H33 ?_)
 intro g34 w35 H36
 refine Kz (.agg #[.int .i64 12, .map (some g31), .map (some g34), .bool true, .int .i64 (-1)]) ?_
 refine npw [.int .i64 12, .map (some g31), .map (some g34), .bool true, .int .i64 (-1)] 55 H36 ?_
 intro g37 w38 H39
 refine Az rfl (An rfl (rt (Fin.res (res2 rfl rfl rfl) ?_)))
 have H40 := H39.pk [0, 2, 1]
 have H41 : Own w D w38 [DiskO g37 (DiskT.mk 12 ([]) ([]) true (-1))] := Own.exFold (g31, g34) (show 1 ≤ (DiskT.mk 12 ([]) ([]) true (-1)).xsectors ∧ (DiskT.mk 12 ([]) ([]) true (-1)).xsectors ≤ 4096 from (show 1 ≤ 12 ∧ 12 ≤ 4096 from by omega)) (show Own w D w38 [blk g37 [.int .i64 ((DiskT.mk 12 ([]) ([]) true (-1)).xsectors), .map (some g31), .map (some g34), .bool ((DiskT.mk 12 ([]) ([]) true (-1)).xup), .int .i64 ((DiskT.mk 12 ([]) ([]) true (-1)).xfuse)] 55, mapq g31 ((DiskT.mk 12 ([]) ([]) true (-1)).xsafe), mapq g34 ((DiskT.mk 12 ([]) ([]) true (-1)).xwaits)] from H40)
 obtain ⟨m42, hm43⟩ : ∃ q, (DiskT.mk 12 ([]) ([]) true (-1)) = q := ⟨_, rfl⟩
 have H44 : Own w D w38 [DiskO g37 m42] := by rw [← hm43]; exact H41
 have hz45 : m42.xsectors = 12 := by rw [← hm43]
 refine Mz rfl (Kz (.pointer (some ⟨g37, 0, none⟩)) (Kz (.int .i64 0) (Az rfl (An rfl (Wp.seq (sr (Mz rfl (Kz (.bool false) (Mz rfl (gw (.int .i64 0) rfl (Yl.move rfl) (Gz (.bool false) rfl (fw (.bool false) (Yl.pickF rfl rfl rfl) (Mz rfl (gw (.slice A0 l0.length c0) rfl (Yl.move rfl) (Gz (.int .i64 ((l0.length : Nat) : Int)) rfl (Gz (.bool (decide (((l0.length : Nat) : Int) > 100))) rfl (fw (.bool (decide (((l0.length : Nat) : Int) > 100))) (Yl.pickF rfl rfl rfl) (nt ?_))))))))))))))))))
 by_cases h46 : ((l0.length : Nat) : Int) > 100
 refine jT (dT h46) (sr (Mz rfl (Mz rfl ?_)))
 rcases Bool.eq_false_or_eq_true (r26) with h47 | h47
 refine WL.valG (v := .pointer (some ⟨g37, 0, none⟩)) rfl rfl h47 rfl (Yl.move rfl) (Gz (.bool true) h47 (fw (.bool true) (Yl.pickT rfl h47 rfl) (An rfl (rt (tR (rs ?_))))))
 have H48 := H44.pk []
 obtain rfl : _ = true := hr.symm.trans (et (bnd_of hr27) (et (bnd_of hm43) (et (ip h46) (ip h47))))
 exact ⟨rfl, H48⟩
 refine Sz h47 (Sz h47 (fw (.bool false) (Yl.pickF rfl h47 rfl) (An rfl (rt (tR (rs ?_))))))
 have H49 := H44.pk []
 obtain rfl : _ = false := hr.symm.trans (et (bnd_of hr27) (et (bnd_of hm43) (et (ip h46) (ifF h47))))
 exact ⟨rfl, H49⟩
 refine jF (dF h46) (sk (sr ?_))
 refine npw [.string ⟨List.toArray ([])⟩, .string ⟨List.toArray ([])⟩, .string ⟨List.toArray ([])⟩, .string ⟨List.toArray ([])⟩, .string ⟨List.toArray ([])⟩, .string ⟨List.toArray ([])⟩, .string ⟨List.toArray ([])⟩, .string ⟨List.toArray ([])⟩, .string ⟨List.toArray ([])⟩, .string ⟨List.toArray ([])⟩, .string ⟨List.toArray ([])⟩, .string ⟨List.toArray ([])⟩] 43 H44 ?_
 intro g50 w51 H52
 have H53 : Own w D w51 [row (some ⟨g50, 0, none⟩) 12 12 (List.flatMap eS (List.replicate 12 ([] : List UInt8))) 43 1, DiskO g37 m42] := H52.blkRow 12 1 (by kernel_rfl) rfl rfl
 refine ns ?_
 refine npw [.bool false, .bool false, .bool false, .bool false, .bool false, .bool false, .bool false, .bool false, .bool false, .bool false, .bool false, .bool false] 49 H53 ?_
 intro g54 w55 H56
 have H57 : Own w D w55 [row (some ⟨g54, 0, none⟩) 12 12 (List.flatMap eL (List.replicate 12 false)) 49 1, row (some ⟨g50, 0, none⟩) 12 12 (List.flatMap eS (List.replicate 12 ([] : List UInt8))) 43 1, DiskO g37 m42] := H56.blkRow 12 1 (by kernel_rfl) rfl rfl
 refine nt (Wp.seq (sr (Mn rfl (bo ?_))))
 have H61 := H57.pk [0, 1, 2]
 obtain ⟨I65, hI66⟩ : ∃ q : (Nat × (List (List UInt8))) → World → Prop, q = fun (i : Nat × (List (List UInt8))) w' => Own w D w' [row (some ⟨g54, 0, none⟩) 12 12 (List.flatMap eL (List.replicate 12 false)) 49 1, row (some ⟨g50, 0, none⟩) 12 12 (List.flatMap eS i.2) 43 1, DiskO g37 m42] ∧ (i.2.length = 12 ∧ i.1 ≤ 12 ∧ w06_DiskWaits_L0 l0 r26 m42 12 0 (List.replicate 12 ([] : List UInt8)) = w06_DiskWaits_L0 l0 r26 m42 (12 - i.1) i.1 i.2) := ⟨_, rfl⟩
 have dm67 : ∀ {k58 : Nat} {l59 : List (List UInt8)} {w' : World}, I65 (k58, l59) w' ↔ Own w D w' [row (some ⟨g54, 0, none⟩) 12 12 (List.flatMap eL (List.replicate 12 false)) 49 1, row (some ⟨g50, 0, none⟩) 12 12 (List.flatMap eS l59) 43 1, DiskO g37 m42] ∧ l59.length = 12 ∧ k58 ≤ 12 ∧ w06_DiskWaits_L0 l0 r26 m42 12 0 (List.replicate 12 ([] : List UInt8)) = w06_DiskWaits_L0 l0 r26 m42 (12 - k58) k58 l59 := by intros; subst hI66; exact Iff.rfl
 refine Wp.loop (fun i : Nat × (List (List UInt8)) => [(40, .int .i64 ((i.1 : Nat) : Int)), (7, .pointer (some ⟨g54, 0, none⟩)), (6, .pointer (some ⟨g50, 0, none⟩)), (4, .pointer (some ⟨g37, 0, none⟩)), (3, .bool r26), (2, .bool false), (0, .slice A0 l0.length c0)]) I65 (fun i => 12 - i.1) (0, (List.replicate 12 ([] : List UInt8))) ⟨rfl, rfl, rfl, rfl, rfl, rfl, rfl, trivial⟩ (dm67.2 ⟨H61, by first | omega | (simp only [List.length_set]; omega) | (simp only [List.length_replicate]), by omega, rfl⟩) ?_
 rintro ⟨k58, l59⟩ w62 hf64
 show Wp _ _ _ [(40, .int .i64 ((k58 : Nat) : Int)), (7, .pointer (some ⟨g54, 0, none⟩)), (6, .pointer (some ⟨g50, 0, none⟩)), (4, .pointer (some ⟨g37, 0, none⟩)), (3, .bool r26), (2, .bool false), (0, .slice A0 l0.length c0)] _ _
 obtain ⟨H63, hi69, hi70, hq68⟩ := dm67.1 hf64
 refine sr (Kz (.bool (decide (((k58 : Nat) : Int) < 12))) (nt (Wp.seq ?_)))
 by_cases h71 : ((k58 : Nat) : Int) < 12
 refine jT (dT h71) (sk (Wp.seq (bo (sr (Mz rfl (An rfl (Wp.region (Mz rfl ?_))))))))
 refine WL.do rfl (Do.makeE (x0 := (0 : UInt8)) (z := .int .u8 0) (k := 64) (size := 1) (bytes := 1) eB_len (by decide) rfl Try.underlying33 (by kernel_rfl) H63 rfl rfl (by omega) (by unfold maxLen; omega) ?_)
 intro A72 w73 H74
 have hl75 : List.length (List.replicate 64 (0 : UInt8)) = 64 := List.length_replicate
 refine fw (.string ⟨List.toArray (List.replicate 64 (0 : UInt8))⟩) (Yl.toStringE (l := (List.replicate 64 (0 : UInt8))) Try.underlying33 Try.underlying5 Try.underlying9 (H74.rds (i := 0) rfl) rfl) ?_
 obtain ⟨x76, hx77⟩ := rds_at (ls := l59) (i := k58) eS_len (by decide) (H74.rds (i := 2) rfl) (by first | omega | (simp; done) | (simp; omega))
 refine fw (.pointer (some ⟨ab (some ⟨g50, 0, none⟩), ao (some ⟨g50, 0, none⟩) + k58 * 1, none⟩)) (Yl.indexArr (g := g50) (i := k58) (m := 12) (sz := 1) Try.underlying43 Try.sizeOf9 rfl rfl (by omega)) ?_
 have H78 := H74.pk [2, 0, 1, 3]
 refine WL.do0 (Do.storeRow (vs := [.string ⟨List.toArray (List.replicate 64 (0 : UInt8))⟩]) (o := k58 * 1 + 0) (q := ao (some ⟨g50, 0, none⟩) + k58 * 1) H78 rfl (by omega) rfl Try.sizeOf9 rfl rfl (Nat.le_of_ble_eq_true rfl) (store_fits eS_len hx77 (Nat.le_of_ble_eq_true rfl)) (flat_set (y := (List.replicate 64 (0 : UInt8))) eS_len rfl (Nat.le_of_ble_eq_true rfl) hx77) ?_)
 intro w79 H80
 refine WL.nil (bN (Fin.then (Wp.region (fw (.int .i64 ((k58 + 1 : Nat) : Int)) (Yl.int (e := IntKind.i64.wrap (((k58 : Nat) : Int) + 1)) yk (by rw [IntWalk.i64_in _ (by omega)]; omega)) (Mz rfl (WL.nil ?_))))))
 have H81 := H80.pk [2, 0, 3]
 exact Fin.round (k58 + 1, (List.set l59 k58 (List.replicate 64 (0 : UInt8)))) ⟨rfl, rfl, rfl, rfl, rfl, rfl, rfl, trivial⟩ (dm67.2 ⟨H81, by first | omega | (simp only [List.length_set]; omega) | (simp only [List.length_replicate]), by omega, Eq.trans (hq68) (Eq.trans (congrArg (fun q => w06_DiskWaits_L0 l0 r26 m42 q k58 l59) (sub_at (n := 12) (i := k58) (by omega))) rfl)⟩) (by show 12 - (k58 + 1) < 12 - k58; omega)
 refine jF (dF h71) (Wp.exit (Fin.thenX ?_))
 have hL82 : w06_DiskWaits_L0 l0 r26 m42 12 0 (List.replicate 12 ([] : List UInt8)) = l59 := et (hq68) (et (congrArg (fun q => w06_DiskWaits_L0 l0 r26 m42 q k58 l59) (sub_end (n := 12) (i := k58) (by omega))) rfl)
 refine Fin.thenX (Fin.blockX (Fin.then (Wp.seq (sr (Mz rfl (Kz (.int .i64 ((l0.length : Nat) : Int)) (Mn rfl (bo ?_))))))))
 have H88 := H63.pk [0, 1, 2]
 obtain ⟨I92, hI93⟩ : ∃ q : (Nat × (List Bool) × (List (List UInt8)) × DiskT) → World → Prop, q = fun (i : Nat × (List Bool) × (List (List UInt8)) × DiskT) w' => Own w D w' [row (some ⟨g54, 0, none⟩) 12 12 (List.flatMap eL i.2.1) 49 1, row (some ⟨g50, 0, none⟩) 12 12 (List.flatMap eS i.2.2.1) 43 1, DiskO g37 i.2.2.2] ∧ (i.2.1.length = 12 ∧ i.2.2.1.length = 12 ∧ i.1 ≤ l0.length ∧ i.2.2.2.xsectors = 12 ∧ w06_DiskWaits_L1 r26 l0 (List.replicate 12 false) l59 m42 = w06_DiskWaits_L1 r26 (List.drop i.1 l0) i.2.1 i.2.2.1 i.2.2.2) := ⟨_, rfl⟩
 have dm94 : ∀ {k83 : Nat} {l84 : List Bool} {l85 : List (List UInt8)} {m86 : DiskT} {w' : World}, I92 (k83, l84, l85, m86) w' ↔ Own w D w' [row (some ⟨g54, 0, none⟩) 12 12 (List.flatMap eL l84) 49 1, row (some ⟨g50, 0, none⟩) 12 12 (List.flatMap eS l85) 43 1, DiskO g37 m86] ∧ l84.length = 12 ∧ l85.length = 12 ∧ k83 ≤ l0.length ∧ m86.xsectors = 12 ∧ w06_DiskWaits_L1 r26 l0 (List.replicate 12 false) l59 m42 = w06_DiskWaits_L1 r26 (List.drop k83 l0) l84 l85 m86 := by intros; subst hI93; exact Iff.rfl
 refine Wp.loop (fun i : Nat × (List Bool) × (List (List UInt8)) × DiskT => [(2, .bool false), (50, .int .i64 ((i.1 : Nat) : Int)), (49, .int .i64 ((l0.length : Nat) : Int)), (48, .slice A0 l0.length c0), (7, .pointer (some ⟨g54, 0, none⟩)), (6, .pointer (some ⟨g50, 0, none⟩)), (4, .pointer (some ⟨g37, 0, none⟩)), (3, .bool r26)]) I92 (fun i => l0.length - i.1) (0, (List.replicate 12 false), l59, m42) ⟨rfl, rfl, rfl, rfl, rfl, rfl, rfl, rfl, trivial⟩ (dm94.2 ⟨H88, by first | omega | (simp only [List.length_set]; omega) | (simp only [List.length_replicate]), by first | omega | (simp only [List.length_set]; omega) | (simp only [List.length_replicate]), by omega, by omega, rfl⟩) ?_
 rintro ⟨k83, l84, l85, m86⟩ w89 hf91
 show Wp _ _ _ [(2, .bool false), (50, .int .i64 ((k83 : Nat) : Int)), (49, .int .i64 ((l0.length : Nat) : Int)), (48, .slice A0 l0.length c0), (7, .pointer (some ⟨g54, 0, none⟩)), (6, .pointer (some ⟨g50, 0, none⟩)), (4, .pointer (some ⟨g37, 0, none⟩)), (3, .bool r26)] _ _
 obtain ⟨H90, hi96, hi97, hi98, hi99, hq95⟩ := dm94.1 hf91
 refine sr (Kz (.bool (decide (((k83 : Nat) : Int) < ((l0.length : Nat) : Int)))) (nt (Wp.seq ?_)))
 by_cases h100 : ((k83 : Nat) : Int) < ((l0.length : Nat) : Int)
 obtain ⟨x101, hx102⟩ := rds_at (ls := l0) (i := k83) OpD.len (by decide) (H90.ro hx0) (by first | omega | (simp; done) | (simp; omega))
 have hd103 := drop_at hx102
 refine jT (dT h100) (sk (Wp.seq (bo (sr (fw (.pointer (some ⟨ab A0, ao A0 + k83 * 6, none⟩)) (Yl.indexAddr (El22) rfl rfl ((H90.ro hx0).addr (i := k83) (by omega)) (by omega)) (fw (.agg (OpD.cells x101).toArray) (Yl.load rfl (Lds.agg (cs := (OpD.cells x101)) Try.isAgg32 Try.sizeOf32 ((H90.ro hx0).elem OpD.len hx102 (by decide)))) ?_))))))
 refine npw [.int .i64 0, .int .i64 0, .int .i64 0, .int .u8 0, .string ⟨List.toArray ([])⟩, .bool false] 32 H90 ?_
 intro g104 w105 H106
 refine sto (OpD.cells x101) 0 H106 Try.sizeOf32 ?_
 intro w107 H108
 refine nt (Wp.seq (sr (Kz (.pointer (some ⟨g104, 0, none⟩)) (Lz (.int .i64 x101.xDo) H108 0 Try.isAgg3 (Kz (.bool (decide (x101.xDo = 2))) (nt ?_))))))
 by_cases h109 : x101.xDo = 2
 refine jT (dT h109) (Wp.seq (sr (Mz rfl ?_)))
 have H110 := H108.pk [3, 0, 1, 2]
 obtain ⟨⟨r116, r117⟩, hr118⟩ : ∃ q : Int × DiskT, disk_Disk_Sync m86 = q := ⟨_, rfl⟩
 obtain ⟨D111, HP112, ro113, bk114, rr115⟩ := Own.enter1 H110
 refine cl Try.call15 (disk_Disk_Sync_ok _ _ g37 m86 r116 r117 HP112 hr118) ?_
 rintro _ w119 ⟨rfl, HQ120, hk122⟩
 have H121 := bk114 _ _ HQ120
 replace hk122 : r117.xsectors = m86.xsectors := hk122
 refine fw (.bool (decide (¬ (r116 = 0)))) (Yl.bool (e := !(decide (r116 = 0))) yk decide_not.symm) (nt ?_)
 by_cases h123 : r116 = 0
 refine jF (dF (not_not_intro h123)) (sk (sr (Kz (.agg (List.flatMap eL (List.replicate 12 false)).toArray) ?_)))
 have H124 := H121.pk [2, 0, 1, 3]
 refine WL.do0 (Do.storeArr (N := 12) H124 rfl rfl Try.sizeOf49 rfl (by decide) (by rw [flat_len eL_len, show List.length (List.replicate 12 false) = 12 from (by first | omega | (simp only [List.length_replicate]; done) | (simp only [List.length_append, List.length_take, List.length_drop, List.length_replicate, List.length_set]; omega))]) (flat_one eL_one _) ?_)
 intro w125 H126
 refine nt (Wp.exit (Fin.thenX (Fin.blockX (Fin.then (Wp.region (fw (.int .i64 ((k83 + 1 : Nat) : Int)) (Yl.int (e := IntKind.i64.wrap (((k83 : Nat) : Int) + 1)) yk (by rw [IntWalk.i64_in _ (by omega)]; omega)) (Mz rfl (WL.nil ?_))))))))
 have H127 := H126.pk [0, 3, 1]
 exact Fin.round (k83 + 1, (List.replicate 12 false), l85, r117) ⟨rfl, rfl, rfl, rfl, rfl, rfl, rfl, rfl, trivial⟩ (dm94.2 ⟨H127, by first | omega | (simp only [List.length_set]; omega) | (simp only [List.length_replicate]), by first | omega | (simp only [List.length_set]; omega) | (simp only [List.length_replicate]), by omega, by omega, Eq.trans (hq95) (Eq.trans (congrArg (fun q => w06_DiskWaits_L1 r26 q l84 l85 m86) hd103) (Eq.trans (if_pos h109) (Eq.trans (bnd_of hr118) (if_pos h123))))⟩) (by show l0.length - (k83 + 1) < l0.length - k83; omega)
 refine jT (dT h123) (sr (An rfl (rt (tR (tR (bR (tR (tR (bR (tR (rs ?_)))))))))))
 have H128 := H121.pk []
 obtain rfl : _ = false := hr.symm.trans (et (bnd_of hr27) (et (bnd_of hm43) (et (iN h46) (et (bnd_of hL82) (lp_r (et (hq95) (et (congrArg (fun q => w06_DiskWaits_L1 r26 q l84 l85 m86) hd103) (et (ip h109) (et (bnd_of hr118) (iN h123))))))))))
 exact ⟨rfl, H128⟩
 refine jF (dF h109) (sk (sr (Kz (.pointer (some ⟨g104, 1, none⟩)) (Lz (.int .i64 x101.xN) H108 0 Try.isAgg3 ?_))))
 have hz129 := remI_bd x101.xN (n := 12) (by omega)
 refine Kz (.int .i64 (remI x101.xN 12)) (fw (.int .i64 ((remI x101.xN 12) + 12)) (Yl.int (e := IntKind.i64.wrap ((remI x101.xN 12) + 12)) yk (by rw [IntWalk.i64_in _ (by omega)])) ?_)
 have hz130 : ((Int.toNat ((remI x101.xN 12) + 12) : Nat) : Int) = (remI x101.xN 12) + 12 := by omega
 refine fw (.int .i64 (((Int.toNat ((remI x101.xN 12) + 12)) % 12 : Nat) : Int)) (Yl.int (e := Int.tmod ((remI x101.xN 12) + 12) 12) yk (tmodT (n := 12) (show 0 ≤ (remI x101.xN 12) + 12 by omega))) (An rfl (Wp.seq (sr (Mz rfl (Mz rfl (Kz (.pointer (some ⟨g104, 3, none⟩)) (Lz (.int .u8 ((x101.xV.toNat : Nat) : Int)) H108 0 Try.isAgg5 ?_)))))))
 obtain ⟨r136, hr137⟩ : ∃ q, w06_full x101.xV = q := ⟨_, rfl⟩
 obtain ⟨D131, HP132, ro133, bk134, rr135⟩ := Own.enter0 H108
 refine cl Try.call11 (w06_full_ok _ _ x101.xV r136 HP132 hr137) ?_
 rintro _ w138 ⟨A141, c142, rfl, HQ139, hk143⟩
 have H140 := bk134 _ _ HQ139
 have hb144 := H140.rowC (i := 0) rfl
 replace hk143 : r136.length = 64 := hk143
 have H145 := H140.pk [4, 0, 1, 2, 3]
 obtain ⟨⟨r151, r152⟩, hr153⟩ : ∃ q : Int × DiskT, disk_Disk_Write m86 (((Int.toNat ((remI x101.xN 12) + 12)) % 12 : Nat) : Int) r136 = q := ⟨_, rfl⟩
 obtain ⟨D146, HP147, ro148, bk149, rr150⟩ := Own.enter1 H145
 refine cl Try.call13 (disk_Disk_Write_ok _ _ g37 m86 (((Int.toNat ((remI x101.xN 12) + 12)) % 12 : Nat) : Int) A141 r136.length c142 r136 r151 r152 HP147 (rr150 _ 0 _ rfl row_rds) rfl (by omega) hr153) ?_
 rintro _ w154 ⟨rfl, HQ155, hk157, hk158⟩
 have H156 := bk149 _ _ HQ155
 replace hk157 : r152.xsectors = m86.xsectors := hk157
 replace hk158 : ¬ (r151 = 0) ∨ ((0 : Int) ≤ (((Int.toNat ((remI x101.xN 12) + 12)) % 12 : Nat) : Int) ∧ ((((Int.toNat ((remI x101.xN 12) + 12)) % 12 : Nat) : Int) : Int) < m86.xsectors) := hk158
 refine fw (.bool (decide (¬ (r151 = 0)))) (Yl.bool (e := !(decide (r151 = 0))) yk decide_not.symm) (nt ?_)
 by_cases h159 : r151 = 0
 refine jF (dF (not_not_intro h159)) (sk (sr (Mz rfl (Kz (.pointer (some ⟨g104, 3, none⟩)) (Lz (.int .u8 ((x101.xV.toNat : Nat) : Int)) H156 2 Try.isAgg5 ?_)))))
 obtain ⟨r165, hr166⟩ : ∃ q, w06_full x101.xV = q := ⟨_, rfl⟩
 obtain ⟨D160, HP161, ro162, bk163, rr164⟩ := Own.enter0 H156
 refine cl Try.call11 (w06_full_ok _ _ x101.xV r165 HP161 hr166) ?_
 rintro _ w167 ⟨A170, c171, rfl, HQ168, hk172⟩
 have H169 := bk163 _ _ HQ168
 have hb173 := H169.rowC (i := 0) rfl
 replace hk172 : r165.length = 64 := hk172
 refine fw (.string ⟨List.toArray r165⟩) (Yl.toStringE (l := r165) Try.underlying33 Try.underlying5 Try.underlying9 (H169.rds (i := 0) rfl) rfl) ?_
 obtain ⟨x174, hx175⟩ := rds_at (ls := l85) (i := (Int.toNat ((remI x101.xN 12) + 12)) % 12) eS_len (by decide) (H169.rds (i := 5) rfl) (by first | omega | (simp; done) | (simp; omega))
 refine fw (.pointer (some ⟨ab (some ⟨g50, 0, none⟩), ao (some ⟨g50, 0, none⟩) + ((Int.toNat ((remI x101.xN 12) + 12)) % 12) * 1, none⟩)) (Yl.indexArr (g := g50) (i := (Int.toNat ((remI x101.xN 12) + 12)) % 12) (m := 12) (sz := 1) Try.underlying43 Try.sizeOf9 rfl rfl (by omega)) ?_
 have H176 := H169.pk [5, 0, 1, 2, 3, 4]
 refine WL.do0 (Do.storeRow (vs := [.string ⟨List.toArray r165⟩]) (o := ((Int.toNat ((remI x101.xN 12) + 12)) % 12) * 1 + 0) (q := ao (some ⟨g50, 0, none⟩) + ((Int.toNat ((remI x101.xN 12) + 12)) % 12) * 1) H176 rfl (by omega) rfl Try.sizeOf9 rfl rfl (Nat.le_of_ble_eq_true rfl) (store_fits eS_len hx175 (Nat.le_of_ble_eq_true rfl)) (flat_set (y := r165) eS_len rfl (Nat.le_of_ble_eq_true rfl) hx175) ?_)
 intro w177 H178
 refine nt (Wp.region (Mz rfl ?_))
 obtain ⟨x179, hx180⟩ := rds_at (ls := l84) (i := (Int.toNat ((remI x101.xN 12) + 12)) % 12) eL_len (by decide) (H178.rds (i := 5) rfl) (by first | omega | (simp; done) | (simp; omega))
 refine fw (.pointer (some ⟨ab (some ⟨g54, 0, none⟩), ao (some ⟨g54, 0, none⟩) + ((Int.toNat ((remI x101.xN 12) + 12)) % 12) * 1, none⟩)) (Yl.indexArr (g := g54) (i := (Int.toNat ((remI x101.xN 12) + 12)) % 12) (m := 12) (sz := 1) Try.underlying49 Try.sizeOf4 rfl rfl (by omega)) ?_
 have H181 := H178.pk [5, 0, 1, 2, 3, 4]
 refine WL.do0 (Do.storeRow (vs := [.bool true]) (o := ((Int.toNat ((remI x101.xN 12) + 12)) % 12) * 1 + 0) (q := ao (some ⟨g54, 0, none⟩) + ((Int.toNat ((remI x101.xN 12) + 12)) % 12) * 1) H181 rfl (by omega) rfl Try.sizeOf4 rfl rfl (Nat.le_of_ble_eq_true rfl) (store_fits eL_len hx180 (Nat.le_of_ble_eq_true rfl)) (flat_set (y := true) eL_len rfl (Nat.le_of_ble_eq_true rfl) hx180) ?_)
 intro w182 H183
 refine WL.nil (bN (Fin.then (Wp.region (fw (.int .i64 ((k83 + 1 : Nat) : Int)) (Yl.int (e := IntKind.i64.wrap (((k83 : Nat) : Int) + 1)) yk (by rw [IntWalk.i64_in _ (by omega)]; omega)) (Mz rfl (WL.nil ?_))))))
 have H184 := H183.pk [0, 1, 3]
 exact Fin.round (k83 + 1, (List.set l84 ((Int.toNat ((remI x101.xN 12) + 12)) % 12) true), (List.set l85 ((Int.toNat ((remI x101.xN 12) + 12)) % 12) r165), r152) ⟨rfl, rfl, rfl, rfl, rfl, rfl, rfl, rfl, trivial⟩ (dm94.2 ⟨H184, by first | omega | (simp only [List.length_set]; omega) | (simp only [List.length_replicate]), by first | omega | (simp only [List.length_set]; omega) | (simp only [List.length_replicate]), by omega, by omega, Eq.trans (hq95) (Eq.trans (congrArg (fun q => w06_DiskWaits_L1 r26 q l84 l85 m86) hd103) (Eq.trans (if_neg h109) (Eq.trans (bnd_of hr137) (Eq.trans (bnd_of hr153) (Eq.trans (if_pos h159) (bnd_of hr166))))))⟩) (by show l0.length - (k83 + 1) < l0.length - k83; omega)
 refine jT (dT h159) (sr (An rfl (rt (tR (bR (tR (tR (bR (tR (rs ?_))))))))))
 have H185 := H156.pk []
 obtain rfl : _ = false := hr.symm.trans (et (bnd_of hr27) (et (bnd_of hm43) (et (iN h46) (et (bnd_of hL82) (lp_r (et (hq95) (et (congrArg (fun q => w06_DiskWaits_L1 r26 q l84 l85 m86) hd103) (et (iN h109) (et (bnd_of hr137) (et (bnd_of hr153) (iN h159)))))))))))
 exact ⟨rfl, H185⟩
 refine jF (dF h100) (Wp.exit (Fin.thenX ?_))
 have hL186 : w06_DiskWaits_L1 r26 l0 (List.replicate 12 false) l59 m42 = Sum.inl (l84, l85, m86) := et (hq95) (et (congrArg (fun q => w06_DiskWaits_L1 r26 q l84 l85 m86) (drop_end (ls := l0) (i := k83) (by omega))) rfl)
 refine Fin.thenX (Fin.blockX (Fin.then (sr (An rfl (Wp.seq (sr (fw (.agg (List.flatMap eL l84).toArray) (Yl.load rfl (Lds.arr (N := 12) (m := 12) Try.isAgg49 Try.sizeOf49 (H90.rds (i := 0) rfl) rfl (by decide))) (Mn rfl (bo ?_)))))))))
 have H187 : Own w D w89 [row none 0 0 (List.flatMap (eI .i64) ([])) 3 1, row (some ⟨g54, 0, none⟩) 12 12 (List.flatMap eL l84) 49 1, row (some ⟨g50, 0, none⟩) 12 12 (List.flatMap eS l85) 43 1, DiskO g37 m86] := H90.free (row_nil 3 1)
 have H193 := H187.pk [2, 3, 0]
 obtain ⟨I197, hI198⟩ : ∃ q : ((Option Addr) × Nat × (List Int) × Nat) → World → Prop, q = fun (i : (Option Addr) × Nat × (List Int) × Nat) w' => Own w D w' [row (some ⟨g50, 0, none⟩) 12 12 (List.flatMap eS l85) 43 1, DiskO g37 m86, row i.1 i.2.2.1.length i.2.1 (List.flatMap (eI .i64) i.2.2.1) 3 1] ∧ (i.2.2.2 ≤ 12 ∧ i.2.2.1.length ≤ i.2.2.2 ∧ w06_DiskWaits_L2 r26 l84 l85 m86 12 ([]) 0 = w06_DiskWaits_L2 r26 l84 l85 m86 (12 - i.2.2.2) i.2.2.1 i.2.2.2) := ⟨_, rfl⟩
 have dm199 : ∀ {A188 : Option Addr} {c189 : Nat} {l190 : List Int} {k191 : Nat} {w' : World}, I197 (A188, c189, l190, k191) w' ↔ Own w D w' [row (some ⟨g50, 0, none⟩) 12 12 (List.flatMap eS l85) 43 1, DiskO g37 m86, row A188 l190.length c189 (List.flatMap (eI .i64) l190) 3 1] ∧ k191 ≤ 12 ∧ l190.length ≤ k191 ∧ w06_DiskWaits_L2 r26 l84 l85 m86 12 ([]) 0 = w06_DiskWaits_L2 r26 l84 l85 m86 (12 - k191) l190 k191 := by intros; subst hI198; exact Iff.rfl
 refine Wp.loop (fun i : (Option Addr) × Nat × (List Int) × Nat => [(2, .bool false), (12, .slice i.1 i.2.2.1.length i.2.1), (83, .int .i64 ((i.2.2.2 : Nat) : Int)), (82, .agg (List.flatMap eL l84).toArray), (6, .pointer (some ⟨g50, 0, none⟩)), (4, .pointer (some ⟨g37, 0, none⟩)), (3, .bool r26)]) I197 (fun i => 12 - i.2.2.2) (none, 0, [], 0) ⟨rfl, rfl, rfl, rfl, rfl, rfl, rfl, trivial⟩ (dm199.2 ⟨H193, (show 0 ≤ 12 ∧ 0 ≤ 0 ∧ w06_DiskWaits_L2 r26 l84 l85 m86 12 ([]) 0 = w06_DiskWaits_L2 r26 l84 l85 m86 (12 - 0) ([]) 0 from ⟨by omega, by omega, rfl⟩)⟩) ?_
 rintro ⟨A188, c189, l190, k191⟩ w194 hf196
 show Wp _ _ _ [(2, .bool false), (12, .slice A188 l190.length c189), (83, .int .i64 ((k191 : Nat) : Int)), (82, .agg (List.flatMap eL l84).toArray), (6, .pointer (some ⟨g50, 0, none⟩)), (4, .pointer (some ⟨g37, 0, none⟩)), (3, .bool r26)] _ _
 obtain ⟨H195, hi201, hi202, hq200⟩ := dm199.1 hf196
 refine sr (Kz (.bool (decide (((k191 : Nat) : Int) < 12))) (nt (Wp.seq ?_)))
 by_cases h203 : ((k191 : Nat) : Int) < 12
 refine jT (dT h203) (sk (Wp.seq (bo (sr (Mz rfl ?_)))))
 obtain ⟨x204, hx205⟩ := at_of (ls := l84) (i := k191) (by omega)
 refine fw (.bool x204) (Yl.indexVal (i := k191) (m := 12) Try.underlying49 Try.sizeOf4 Try.isAgg4 rfl rfl (by omega) (flat_at1 (fun _ => rfl) hx205)) (Az rfl (An rfl (Wp.seq (sr (Mn rfl ?_)))))
 obtain ⟨I209, hI210⟩ : ∃ q : ((Option Addr) × Nat × (List Int)) → World → Prop, q = fun (i : (Option Addr) × Nat × (List Int)) w' => Own w D w' [row (some ⟨g50, 0, none⟩) 12 12 (List.flatMap eS l85) 43 1, DiskO g37 m86, row i.1 i.2.2.length i.2.1 (List.flatMap (eI .i64) i.2.2) 3 1] ∧ (i.2.2.length ≤ l190.length + 1 ∧ l190.length ≤ i.2.2.length ∧ (if x204 = true then (l190 ++ [((k191 : Nat) : Int)]) else l190) = i.2.2) := ⟨_, rfl⟩
 have dm211 : ∀ {A206 : Option Addr} {c207 : Nat} {l208 : List Int} {w' : World}, I209 (A206, c207, l208) w' ↔ Own w D w' [row (some ⟨g50, 0, none⟩) 12 12 (List.flatMap eS l85) 43 1, DiskO g37 m86, row A206 l208.length c207 (List.flatMap (eI .i64) l208) 3 1] ∧ l208.length ≤ l190.length + 1 ∧ l190.length ≤ l208.length ∧ (if x204 = true then (l190 ++ [((k191 : Nat) : Int)]) else l190) = l208 := by intros; subst hI210; exact Iff.rfl
 refine Wp.joinT (fun i : (Option Addr) × Nat × (List Int) => [(12, .slice i.1 i.2.2.length i.2.1), (87, .bool x204), (14, .bool x204), (13, .int .i64 ((k191 : Nat) : Int)), (86, .bool x204), (85, .int .i64 ((k191 : Nat) : Int)), (84, .bool (decide (((k191 : Nat) : Int) < 12))), (2, .bool false), (83, .int .i64 ((k191 : Nat) : Int)), (82, .agg (List.flatMap eL l84).toArray), (6, .pointer (some ⟨g50, 0, none⟩)), (4, .pointer (some ⟨g37, 0, none⟩)), (3, .bool r26)]) I209 ?_ ?_
 rcases Bool.eq_false_or_eq_true (x204) with h212 | h212
 refine jT h212 (Wp.region (Mz rfl (Mz rfl ?_)))
 refine nrw [.int .i64 ((k191 : Nat) : Int)] 3 1 1 H195 ?_
 intro A213 w214 H215
 replace H215 := Own.reh (y := row A213 1 1 (List.flatMap (eI .i64) ([((k191 : Nat) : Int)])) 3 1) rfl H215
 have H216 := H215.pk [3, 0, 1, 2]
 refine WL.do rfl (Do.appendW (k := l190.length) (m := 1) (El46) H216 rfl rfl (src_of Try.underlying46 (H216.rds (i := 1) rfl) (flat_one eI_one ([((k191 : Nat) : Int)]))) rfl (by omega) (s := List.length (l190 ++ [((k191 : Nat) : Int)])) (by first | omega | (simp only [List.length_append, List.length_cons, List.length_nil] <;> omega)) (List.flatMap_append).symm ?_)
 intro A217 c218 w219 H220
 have hl221 : List.length (l190 ++ [((k191 : Nat) : Int)]) = l190.length + 1 := by simp only [List.length_append, List.length_cons, List.length_nil]
 refine Az rfl (WL.nil ?_)
 have H222 := H220.pk [2, 3, 0]
 exact Fin.join (A217, c218, (l190 ++ [((k191 : Nat) : Int)])) ⟨rfl, rfl, rfl, rfl, rfl, rfl, rfl, rfl, rfl, rfl, rfl, rfl, rfl, trivial⟩ (dm211.2 ⟨H222, by omega, by omega, ip h212⟩)
 refine jF h212 (Wp.skip ?_)
 have H223 := H195.pk [0, 1, 2]
 exact Fin.join (A188, c189, l190) ⟨rfl, rfl, rfl, rfl, rfl, rfl, rfl, rfl, rfl, rfl, rfl, rfl, rfl, trivial⟩ (dm211.2 ⟨H223, by omega, by omega, ifF h212⟩)
 rintro ⟨A206, c207, l208⟩ w224 hf226
 show Wp _ _ _ [(12, .slice A206 l208.length c207), (87, .bool x204), (14, .bool x204), (13, .int .i64 ((k191 : Nat) : Int)), (86, .bool x204), (85, .int .i64 ((k191 : Nat) : Int)), (84, .bool (decide (((k191 : Nat) : Int) < 12))), (2, .bool false), (83, .int .i64 ((k191 : Nat) : Int)), (82, .agg (List.flatMap eL l84).toArray), (6, .pointer (some ⟨g50, 0, none⟩)), (4, .pointer (some ⟨g37, 0, none⟩)), (3, .bool r26)] _ _
 obtain ⟨H225, hi228, hi229, hj227⟩ := dm211.1 hf226
 refine sr (Mz rfl (Mz rfl ?_))
 have H230 := H225.pk [1, 0, 2]
 obtain ⟨⟨r236, r237⟩, hr238⟩ : ∃ q : (List UInt8) × Int, disk_Disk_Read m86 ((k191 : Nat) : Int) = q := ⟨_, rfl⟩
 obtain ⟨D231, HP232, ro233, bk234, rr235⟩ := Own.enter1 H230
 refine cl Try.call25 (disk_Disk_Read_ok _ _ g37 m86 ((k191 : Nat) : Int) r236 r237 HP232 hr238) ?_
 rintro _ w239 ⟨A242, c243, rfl, HQ240, hk244⟩
 have H241 := bk234 _ _ HQ240
 have hb245 := H241.rowC (i := 0) rfl
 replace hk244 : r236.length ≤ 64 := hk244
 refine Mz rfl (Kz (.slice A242 r236.length c243) (Kz (.int .i64 r237) (Az rfl (An rfl (Wp.seq ?_)))))
 have H247 := H241.drew
 refine Wp.drawnX [] (fun W => ∃ L', Own w D W ([row A242 r236.length c243 (List.flatMap eB r236) 61 1, DiskO g37 m86, row (some ⟨g50, 0, none⟩) 12 12 (List.flatMap eS l85) 43 1, row A206 l208.length c207 (List.flatMap (eI .i64) l208) 3 1] ++ L')) (by kernel_rfl) (by kernel_rfl) (NoP.then (NoP.block (NoP.then (NoP.then (NoP.block (NoP.then NoP.base)))))) ⟨_, H247⟩ ?_
 revert H247
 generalize World.drew w239 = w246
 intro H247
 refine GX.take (v := .int .i64 r237) (rs := []) 0 rfl (by kernel_rfl) (fun _ _ => Yl.move rfl) (GX.take (v := .bool (decide (¬ (r237 = 0)))) (rs := []) 1 rfl (by kernel_rfl) (fun _ _ => Yl.bool (e := !(decide (r237 = 0))) yk decide_not.symm) (GX.take (v := .bool (decide (¬ (r237 = 0)))) (rs := []) 2 rfl (by kernel_rfl) (fun _ _ => Yl.move rfl) ?_))
 by_cases h248 : r237 = 0
 refine GX.takeG (v := .slice A242 r236.length c243) (rs := []) 3 rfl rfl rfl (dF (not_not_intro h248)) (by kernel_rfl) (fun _ _ => Yl.move rfl) (GX.takeG (v := .string ⟨List.toArray r236⟩) (rs := []) 4 rfl rfl rfl (dF (not_not_intro h248)) (by kernel_rfl) (fun _ ⟨_, H9⟩ => Yl.toStringE (l := r236) Try.underlying33 Try.underlying5 Try.underlying9 (H9.rds (i := 0) rfl) rfl) (GX.takeG (v := .int .i64 ((k191 : Nat) : Int)) (rs := []) 5 rfl rfl rfl (dF (not_not_intro h248)) (by kernel_rfl) (fun _ _ => Yl.move rfl) ?_))
 obtain ⟨x249, hx250⟩ := at_of (ls := l85) (i := k191) (by first | omega | (simp; done) | (simp; omega))
 refine GX.takeG (v := .pointer (some ⟨ab (some ⟨g50, 0, none⟩), ao (some ⟨g50, 0, none⟩) + k191 * 1, none⟩)) (rs := []) 6 rfl rfl rfl (dF (not_not_intro h248)) (by kernel_rfl) (fun _ _ => Yl.indexArr (g := g50) (i := k191) (m := 12) (sz := 1) Try.underlying43 Try.sizeOf9 rfl rfl (by omega)) (GX.takeG (v := .string ⟨List.toArray x249⟩) (rs := []) 7 rfl rfl rfl (dF (not_not_intro h248)) (by kernel_rfl) (fun _ ⟨_, H9⟩ => Yl.load rfl (Lds.one Try.isAgg9 (((H9.rds (i := 2) rfl).elem eS_len hx250 (by decide)).at_ (k := 0) rfl))) (GX.takeG (v := .bool (decide (r236 ≠ x249))) (rs := []) 8 rfl rfl rfl (dF (not_not_intro h248)) (by kernel_rfl) (fun _ _ => Yl.strNe rfl rfl) (GX.take (v := .bool (decide (r236 ≠ x249))) (rs := []) 9 rfl (by kernel_rfl) (fun _ _ => Yl.pickF rfl (dF (not_not_intro h248)) rfl) (GX.done (by kernel_rfl) (Fin.then ?_)))))
 by_cases h251 : r236 ≠ x249
 refine jT (dT h251) (sr (An rfl (rt (bR (tR (tR (bR (tR (rs ?_)))))))))
 have H252 := H247.pk []
 obtain rfl : _ = false := hr.symm.trans (et (bnd_of hr27) (et (bnd_of hm43) (et (iN h46) (et (bnd_of hL82) (et (lp_l hL186) (lp_r (et (hq200) (et (congrArg (fun q => w06_DiskWaits_L2 r26 l84 l85 m86 q l190 k191) (sub_at (n := 12) (i := k191) (by omega))) (et (bnd_of (getD_of hx205)) (et (bnd_of hj227) (et (bnd_of hr238) (et (ip h248) (et (bnd_of (getD_of hx250)) (ip h251))))))))))))))
 exact ⟨rfl, H252⟩
 refine jF (dF h251) (Wp.skip (bN (Fin.then (Wp.region (fw (.int .i64 ((k191 + 1 : Nat) : Int)) (Yl.int (e := IntKind.i64.wrap (((k191 : Nat) : Int) + 1)) yk (by rw [IntWalk.i64_in _ (by omega)]; omega)) (Mz rfl (WL.nil ?_)))))))
 have H253 := H247.pk [2, 1, 3]
 exact Fin.round (A206, c207, l208, k191 + 1) ⟨rfl, rfl, rfl, rfl, rfl, rfl, rfl, trivial⟩ (dm199.2 ⟨H253, by omega, by omega, et (hq200) (et (congrArg (fun q => w06_DiskWaits_L2 r26 l84 l85 m86 q l190 k191) (sub_at (n := 12) (i := k191) (by omega))) (et (bnd_of (getD_of hx205)) (et (bnd_of hj227) (et (bnd_of hr238) (et (ip h248) (et (bnd_of (getD_of hx250)) (iN h251)))))))⟩) (by show 12 - (k191 + 1) < 12 - k191; omega)
 refine GX.skipG (rs := []) 3 rfl rfl rfl (dT h248) (by kernel_rfl) (GX.skipG (rs := []) 4 rfl rfl rfl (dT h248) (by kernel_rfl) (GX.skipG (rs := []) 5 rfl rfl rfl (dT h248) (by kernel_rfl) (GX.skipG (rs := []) 6 rfl rfl rfl (dT h248) (by kernel_rfl) (GX.skipG (rs := []) 7 rfl rfl rfl (dT h248) (by kernel_rfl) (GX.skipG (rs := []) 8 rfl rfl rfl (dT h248) (by kernel_rfl) (GX.take (v := .bool true) (rs := []) 9 rfl (by kernel_rfl) (fun _ _ => Yl.pickT rfl (dT h248) rfl) (GX.done (by kernel_rfl) (Fin.then (jt (sr (An rfl (rt (bR (tR (tR (bR (tR (rs ?_))))))))))))))))))
 have H254 := H247.pk []
 obtain rfl : _ = false := hr.symm.trans (et (bnd_of hr27) (et (bnd_of hm43) (et (iN h46) (et (bnd_of hL82) (et (lp_l hL186) (lp_r (et (hq200) (et (congrArg (fun q => w06_DiskWaits_L2 r26 l84 l85 m86 q l190 k191) (sub_at (n := 12) (i := k191) (by omega))) (et (bnd_of (getD_of hx205)) (et (bnd_of hj227) (et (bnd_of hr238) (iN h248))))))))))))
 exact ⟨rfl, H254⟩
 refine jF (dF h203) (Wp.exit (Fin.thenX ?_))
 have hL255 : w06_DiskWaits_L2 r26 l84 l85 m86 12 ([]) 0 = Sum.inl l190 := et (hq200) (et (congrArg (fun q => w06_DiskWaits_L2 r26 l84 l85 m86 q l190 k191) (sub_end (n := 12) (i := k191) (by omega))) rfl)
 refine Fin.thenX (Fin.blockX (Fin.then (Wp.seq ?_)))
 have H256 := H195.pk [1, 2]
 refine Wp.region (Mz rfl ?_)
 obtain ⟨r262, hr263⟩ : ∃ q, disk_Disk_Waits m86 = q := ⟨_, rfl⟩
 obtain ⟨D257, HP258, ro259, bk260, rr261⟩ := Own.enter1 H256
 refine cl Try.call26 (disk_Disk_Waits_ok _ _ g37 m86 r262 HP258 hr263) ?_
 rintro _ w264 ⟨A267, c268, rfl, HQ265, hk269⟩
 have H266 := bk260 _ _ HQ265
 have hb270 := H266.rowC (i := 0) rfl
 replace hk269 : ∀ x ∈ r262, 0 ≤ x ∧ x < 4096 := hk269
 refine An rfl (Wp.seq (Wp.seq ?_))
 have H271 := H266.pk [0, 2]
 refine Wp.region (Mz rfl (Kz (.int .i64 ((r262.length : Nat) : Int)) (Mz rfl (Kz (.int .i64 ((l190.length : Nat) : Int)) (fw (.bool (decide (¬ (((r262.length : Nat) : Int) = ((l190.length : Nat) : Int))))) (Yl.bool (e := !(decide (((r262.length : Nat) : Int) = ((l190.length : Nat) : Int)))) yk decide_not.symm) (nt ?_))))))
 by_cases h272 : ((r262.length : Nat) : Int) = ((l190.length : Nat) : Int)
 refine jF (dF (not_not_intro h272)) (sk (Wp.seq (sr (Mz rfl (Kz (.int .i64 ((r262.length : Nat) : Int)) (Mn rfl (bo ?_)))))))
 have H275 := H271.pk [0, 1]
 obtain ⟨I279, hI280⟩ : ∃ q : Nat → World → Prop, q = fun (i : Nat) w' => Own w D w' [row A267 r262.length c268 (List.flatMap (eI .i64) r262) 3 1, row A188 l190.length c189 (List.flatMap (eI .i64) l190) 3 1] ∧ (i ≤ r262.length ∧ w06_DiskWaits_L3 r26 l190 r262 0 = w06_DiskWaits_L3 r26 l190 (List.drop i r262) i) := ⟨_, rfl⟩
 have dm281 : ∀ {k273 : Nat} {w' : World}, I279 k273 w' ↔ Own w D w' [row A267 r262.length c268 (List.flatMap (eI .i64) r262) 3 1, row A188 l190.length c189 (List.flatMap (eI .i64) l190) 3 1] ∧ k273 ≤ r262.length ∧ w06_DiskWaits_L3 r26 l190 r262 0 = w06_DiskWaits_L3 r26 l190 (List.drop k273 r262) k273 := by intros; subst hI280; exact Iff.rfl
 refine Wp.loop (fun i : Nat => [(2, .bool false), (118, .int .i64 ((i : Nat) : Int)), (117, .int .i64 ((r262.length : Nat) : Int)), (17, .slice A267 r262.length c268), (12, .slice A188 l190.length c189), (3, .bool r26)]) I279 (fun i => r262.length - i) 0 ⟨rfl, rfl, rfl, rfl, rfl, rfl, trivial⟩ (dm281.2 ⟨H275, by omega, rfl⟩) ?_
 rintro k273 w276 hf278
 show Wp _ _ _ [(2, .bool false), (118, .int .i64 ((k273 : Nat) : Int)), (117, .int .i64 ((r262.length : Nat) : Int)), (17, .slice A267 r262.length c268), (12, .slice A188 l190.length c189), (3, .bool r26)] _ _
 obtain ⟨H277, hi283, hq282⟩ := dm281.1 hf278
 refine sr (Kz (.bool (decide (((k273 : Nat) : Int) < ((r262.length : Nat) : Int)))) (nt (Wp.seq ?_)))
 by_cases h284 : ((k273 : Nat) : Int) < ((r262.length : Nat) : Int)
 obtain ⟨x285, hx286⟩ := rds_at (ls := r262) (i := k273) eI_len (by decide) (H277.rds (i := 0) rfl) (by first | omega | (simp; done) | (simp; omega))
 have hd287 := drop_at hx286
 refine jT (dT h284) (sk (Wp.seq (bo (sr (Mz rfl (An rfl (Wp.seq ?_)))))))
 have H289 := H277.drew
 refine Wp.drawnX [] (fun W => ∃ L', Own w D W ([row A267 r262.length c268 (List.flatMap (eI .i64) r262) 3 1, row A188 l190.length c189 (List.flatMap (eI .i64) l190) 3 1] ++ L')) (by kernel_rfl) (by kernel_rfl) (NoP.then (NoP.block (NoP.then (NoP.then (NoP.block (NoP.then NoP.base)))))) ⟨_, H289⟩ ?_
 revert H289
 generalize World.drew w276 = w288
 intro H289
 refine GX.take (v := .slice A267 r262.length c268) (rs := []) 0 rfl (by kernel_rfl) (fun _ _ => Yl.move rfl) (GX.take (v := .int .i64 ((k273 : Nat) : Int)) (rs := []) 1 rfl (by kernel_rfl) (fun _ _ => Yl.move rfl) (GX.take (v := .pointer (some ⟨ab A267, ao A267 + k273 * 1, none⟩)) (rs := []) 2 rfl (by kernel_rfl) (fun _ ⟨_, H9⟩ => Yl.indexAddr (El46) rfl rfl ((H9.rds (i := 0) rfl).addr (i := k273) (by omega)) (by omega)) (GX.take (v := .int .i64 x285) (rs := []) 3 rfl (by kernel_rfl) (fun _ ⟨_, H9⟩ => Yl.load rfl (Lds.one Try.isAgg3 (((H9.rds (i := 0) rfl).elem eI_len hx286 (by decide)).at_ (k := 0) rfl))) (GX.take (v := .slice A188 l190.length c189) (rs := []) 4 rfl (by kernel_rfl) (fun _ _ => Yl.move rfl) (GX.take (v := .int .i64 ((k273 : Nat) : Int)) (rs := []) 5 rfl (by kernel_rfl) (fun _ _ => Yl.move rfl) ?_)))))
 obtain ⟨x290, hx291⟩ := at_of (ls := l190) (i := k273) (by first | omega | (simp; done) | (simp; omega))
 refine GX.take (v := .pointer (some ⟨ab A188, ao A188 + k273 * 1, none⟩)) (rs := []) 6 rfl (by kernel_rfl) (fun _ ⟨_, H9⟩ => Yl.indexAddr (El46) rfl rfl ((H9.rds (i := 1) rfl).addr (i := k273) (by omega)) (by omega)) (GX.take (v := .int .i64 x290) (rs := []) 7 rfl (by kernel_rfl) (fun _ ⟨_, H9⟩ => Yl.load rfl (Lds.one Try.isAgg3 (((H9.rds (i := 1) rfl).elem eI_len hx291 (by decide)).at_ (k := 0) rfl))) (GX.take (v := .bool (decide (¬ (x285 = x290)))) (rs := []) 8 rfl (by kernel_rfl) (fun _ _ => Yl.bool (e := !(decide (x285 = x290))) yk decide_not.symm) (GX.done (by kernel_rfl) (Fin.then ?_))))
 by_cases h292 : x285 = x290
 refine jF (dF (not_not_intro h292)) (Wp.skip (bN (Fin.then (Wp.region (fw (.int .i64 ((k273 + 1 : Nat) : Int)) (Yl.int (e := IntKind.i64.wrap (((k273 : Nat) : Int) + 1)) yk (by rw [IntWalk.i64_in _ (by omega)]; omega)) (Mz rfl (WL.nil ?_)))))))
 have H293 := H289.pk [0, 1]
 exact Fin.round (k273 + 1) ⟨rfl, rfl, rfl, rfl, rfl, rfl, trivial⟩ (dm281.2 ⟨H293, by omega, et (hq282) (et (congrArg (fun q => w06_DiskWaits_L3 r26 l190 q k273) hd287) (et (bnd_of (getD_of hx291)) (ip h292)))⟩) (by show r262.length - (k273 + 1) < r262.length - k273; omega)
 refine jT (dT h292) (sr (An rfl (rt (bR (tR (tR (bR (tR (rs ?_)))))))))
 have H294 := H289.pk []
 obtain rfl : _ = false := hr.symm.trans (et (bnd_of hr27) (et (bnd_of hm43) (et (iN h46) (et (bnd_of hL82) (et (lp_l hL186) (et (lp_l hL255) (et (bnd_of hr263) (et (ip h272) (lp_r (et (hq282) (et (congrArg (fun q => w06_DiskWaits_L3 r26 l190 q k273) hd287) (et (bnd_of (getD_of hx291)) (iN h292)))))))))))))
 exact ⟨rfl, H294⟩
 refine jF (dF h284) (Wp.exit (Fin.thenX ?_))
 have hL295 : w06_DiskWaits_L3 r26 l190 r262 0 = Sum.inl () := et (hq282) (et (congrArg (fun q => w06_DiskWaits_L3 r26 l190 q k273) (drop_end (ls := r262) (i := k273) (by omega))) rfl)
 refine Fin.thenX (Fin.blockX (Fin.then (Wp.seq ?_)))
 have H296 := H277.pk []
 refine Wp.region (Mz rfl (An rfl (rt (rs ?_))))
 have H297 := H296.pk []
 obtain rfl : _ = r26 := hr.symm.trans (et (bnd_of hr27) (et (bnd_of hm43) (et (iN h46) (et (bnd_of hL82) (et (lp_l hL186) (et (lp_l hL255) (et (bnd_of hr263) (et (ip h272) (lp_l hL295)))))))))
 exact ⟨rfl, H297⟩
 refine jT (dT h272) (sr (An rfl (rt (tR (rs ?_)))))
 have H298 := H271.pk []
 obtain rfl : _ = false := hr.symm.trans (et (bnd_of hr27) (et (bnd_of hm43) (et (iN h46) (et (bnd_of hL82) (et (lp_l hL186) (et (lp_l hL255) (et (bnd_of hr263) (iN h272))))))))
 exact ⟨rfl, H298⟩
end Go.Proofs.Ytmhhmhaigmjekaa
