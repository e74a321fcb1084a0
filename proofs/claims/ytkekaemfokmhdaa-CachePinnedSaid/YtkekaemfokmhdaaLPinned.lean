/-
 cache: the law CachePinned
-/
import Derived.Test.YtkekaemfokmhdaaCc
import Derived.Test.YtkekaemfokmhdaaDiA
namespace Go.Proofs.Ytkekaemfokmhdaa
open Go.RowKit
set_option linter.unusedVariables false
set_option linter.unusedSectionVars false
set_option linter.unusedSimpArgs false

theorem El22 : Elem Try.prog 22 35 4 40 := elem_of (z := .agg #[.int .i64 0, .int .i64 0, .string ⟨List.toArray ([])⟩, .int .u64 0]) Try.underlying22 (by kernel_rfl) rfl (by decide)

structure OpD where
 xDo : Int
 xN : Int
 xText : List UInt8
 xLsn : Nat

def OpD.cells (x : OpD) : List Value := [.int .i64 x.xDo, .int .i64 x.xN, .string ⟨List.toArray x.xText⟩, .int .u64 ((x.xLsn : Nat) : Int)]

instance : Bk OpD := ⟨fun x _ => bk x.xDo + (bk x.xN + (bk x.xText + (bk x.xLsn + (0))))⟩

theorem OpD.len : ∀ x, (OpD.cells x).length = 4 := fun _ => rfl

theorem OpD.one : ∀ x, ∀ u ∈ OpD.cells x, u.oneCell' = true := fun x u hu => by
 simp only [OpD.cells, List.mem_cons, List.not_mem_nil, or_false] at hu
 rcases hu with rfl | rfl | rfl | rfl <;> rfl

def OpD.Ok (w : World) (x : OpD) : Prop := ((-9223372036854775808) ≤ x.xDo ∧ x.xDo ≤ 9223372036854775807) ∧ ((-9223372036854775808) ≤ x.xN ∧ x.xN ≤ 9223372036854775807) ∧ (x.xText.length ≤ 140737488351232) ∧ (x.xLsn ≤ 18446744073709551615)

set_option maxRecDepth 100000 in
theorem opens_OpD (w : World) : Opens Try.prog w 35 4 OpD.cells (OpD.Ok w) :=
 (opens_struct (sz := 4) Try.underlying35 (by kernel_rfl) (OpensF.cons (i := 0) (off := 0) (s := 1) rfl rfl (opens_int (k := .i64) (lo := -9223372036854775808) (hi := 9223372036854775807) Try.underlying3 (by kernel_rfl) (by decide) (by decide)) (OpensF.cons (i := 1) (off := 1) (s := 1) rfl rfl (opens_int (k := .i64) (lo := -9223372036854775808) (hi := 9223372036854775807) Try.underlying3 (by kernel_rfl) (by decide) (by decide)) (OpensF.cons (i := 2) (off := 2) (s := 1) rfl rfl (opens_string Try.underlying9 (by kernel_rfl)) (OpensF.cons (i := 3) (off := 3) (s := 1) rfl rfl (opens_nat (k := .u64) (hi := 18446744073709551615) Try.underlying33 (by kernel_rfl) (by decide) (by decide)) OpensF.nil))))).map (fun p => ⟨p.1, p.2.1, p.2.2.1, p.2.2.2.1⟩) OpD.len (fun _ => rfl) (fun _ h => ⟨h.1, h.2.1, h.2.2.1, h.2.2.2.1⟩) fun _ => Nat.le_refl _

instance : Inhabited OpD := ⟨⟨default, default, default, default⟩⟩

def w10_CachePinned_L1 (p0 : Int) (l70 : List Int) (x94 : OpD) (r113 : CacheT) (r114 : BackT) (x129 : Int) : Nat → Nat → Nat → Nat ⊕ Bool
  | 0, k136, k137 => Sum.inl default
  | q138 + 1, k136, k137 => if ((k137 : Nat) : Int) ≤ 6 then bnd (cache_Cache_Has r113 ((k137 : Nat) : Int) r114) fun yr161 => if yr161 = true then bnd (List.getD (List.set l70 (1 + ((Int.toNat ((remI x94.xN 6) + 6)) % 6)) (IntKind.i64.wrap (x129 - 1))) k137 default) fun yx167 => if yx167 > 0 then bnd (cache_Cache_Has r113 ((k137 : Nat) : Int) r114) fun yr176 => if yr176 = true then w10_CachePinned_L1 p0 l70 x94 r113 r114 x129 q138 (k136 + 1) (k137 + 1) else Sum.inr (false) else w10_CachePinned_L1 p0 l70 x94 r113 r114 x129 q138 (k136 + 1) (k137 + 1) else bnd (List.getD (List.set l70 (1 + ((Int.toNat ((remI x94.xN 6) + 6)) % 6)) (IntKind.i64.wrap (x129 - 1))) k137 default) fun yx185 => if yx185 > 0 then bnd (cache_Cache_Has r113 ((k137 : Nat) : Int) r114) fun yr194 => if yr194 = true then w10_CachePinned_L1 p0 l70 x94 r113 r114 x129 q138 k136 (k137 + 1) else Sum.inr (false) else w10_CachePinned_L1 p0 l70 x94 r113 r114 x129 q138 k136 (k137 + 1) else Sum.inl k136

def w10_CachePinned_L2 (p0 : Int) (l70 : List Int) (r113 : CacheT) (r114 : BackT) : Nat → Nat → Nat → Nat ⊕ Bool
  | 0, k207, k208 => Sum.inl default
  | q209 + 1, k207, k208 => if ((k208 : Nat) : Int) ≤ 6 then bnd (cache_Cache_Has r113 ((k208 : Nat) : Int) r114) fun yr232 => if yr232 = true then bnd (List.getD l70 k208 default) fun yx238 => if yx238 > 0 then bnd (cache_Cache_Has r113 ((k208 : Nat) : Int) r114) fun yr247 => if yr247 = true then w10_CachePinned_L2 p0 l70 r113 r114 q209 (k207 + 1) (k208 + 1) else Sum.inr (false) else w10_CachePinned_L2 p0 l70 r113 r114 q209 (k207 + 1) (k208 + 1) else bnd (List.getD l70 k208 default) fun yx256 => if yx256 > 0 then bnd (cache_Cache_Has r113 ((k208 : Nat) : Int) r114) fun yr265 => if yr265 = true then w10_CachePinned_L2 p0 l70 r113 r114 q209 k207 (k208 + 1) else Sum.inr (false) else w10_CachePinned_L2 p0 l70 r113 r114 q209 k207 (k208 + 1) else Sum.inl k207

def w10_CachePinned_L3 (p0 : Int) (l70 : List Int) (x94 : OpD) (r288 : CacheT) (r289 : BackT) (x309 : Int) : Nat → Nat → Nat → Nat ⊕ Bool
  | 0, k315, k316 => Sum.inl default
  | q317 + 1, k315, k316 => if ((k316 : Nat) : Int) ≤ 6 then bnd (cache_Cache_Has r288 ((k316 : Nat) : Int) r289) fun yr340 => if yr340 = true then bnd (List.getD (List.set l70 (1 + ((Int.toNat ((remI x94.xN 6) + 6)) % 6)) (IntKind.i64.wrap (x309 + 1))) k316 default) fun yx346 => if yx346 > 0 then bnd (cache_Cache_Has r288 ((k316 : Nat) : Int) r289) fun yr355 => if yr355 = true then w10_CachePinned_L3 p0 l70 x94 r288 r289 x309 q317 (k315 + 1) (k316 + 1) else Sum.inr (false) else w10_CachePinned_L3 p0 l70 x94 r288 r289 x309 q317 (k315 + 1) (k316 + 1) else bnd (List.getD (List.set l70 (1 + ((Int.toNat ((remI x94.xN 6) + 6)) % 6)) (IntKind.i64.wrap (x309 + 1))) k316 default) fun yx364 => if yx364 > 0 then bnd (cache_Cache_Has r288 ((k316 : Nat) : Int) r289) fun yr373 => if yr373 = true then w10_CachePinned_L3 p0 l70 x94 r288 r289 x309 q317 k315 (k316 + 1) else Sum.inr (false) else w10_CachePinned_L3 p0 l70 x94 r288 r289 x309 q317 k315 (k316 + 1) else Sum.inl k315

def w10_CachePinned_L4 (p0 : Int) (l70 : List Int) (r288 : CacheT) (r289 : BackT) : Nat → Nat → Nat → Nat ⊕ Bool
  | 0, k388, k389 => Sum.inl default
  | q390 + 1, k388, k389 => if ((k389 : Nat) : Int) ≤ 6 then bnd (cache_Cache_Has r288 ((k389 : Nat) : Int) r289) fun yr413 => if yr413 = true then bnd (List.getD l70 k389 default) fun yx419 => if yx419 > 0 then bnd (cache_Cache_Has r288 ((k389 : Nat) : Int) r289) fun yr428 => if yr428 = true then w10_CachePinned_L4 p0 l70 r288 r289 q390 (k388 + 1) (k389 + 1) else Sum.inr (false) else w10_CachePinned_L4 p0 l70 r288 r289 q390 (k388 + 1) (k389 + 1) else bnd (List.getD l70 k389 default) fun yx437 => if yx437 > 0 then bnd (cache_Cache_Has r288 ((k389 : Nat) : Int) r289) fun yr446 => if yr446 = true then w10_CachePinned_L4 p0 l70 r288 r289 q390 k388 (k389 + 1) else Sum.inr (false) else w10_CachePinned_L4 p0 l70 r288 r289 q390 k388 (k389 + 1) else Sum.inl k388

def w10_CachePinned_L0 (p0 : Int) (r26 : Bool) : List OpD → List placeT → Int → List Int → BackT → Unit ⊕ Bool
  | [], l67, z69, l70, m71 => Sum.inl ()
  | x94 :: q72, l67, z69, l70, m71 => if x94.xDo = 1 then bnd (cache_Cache_Unpin (CacheT.mk (Ll.mk l67) z69) ((1 + ((Int.toNat ((remI x94.xN 6) + 6)) % 6) : Nat) : Int) m71) fun yr112 => bnd (List.getD l70 (1 + ((Int.toNat ((remI x94.xN 6) + 6)) % 6)) default) fun yx129 => if (decide (yr112.1 = 0)) = (decide (yx129 > 0)) then if yx129 > 0 then lpS (w10_CachePinned_L1 p0 l70 x94 yr112.2.1 yr112.2.2 yx129 ((Int.toNat (7 - 1)) + 1) 0 1) fun sLrbbfLstbbttL => if ((sLrbbfLstbbttL : Nat) : Int) > ((1 + ((Int.toNat ((remI p0 6) + 6)) % 6) : Nat) : Int) then Sum.inr (false) else w10_CachePinned_L0 p0 r26 q72 yr112.2.1.xplaces.ls yr112.2.1.xhand (List.set l70 (1 + ((Int.toNat ((remI x94.xN 6) + 6)) % 6)) (IntKind.i64.wrap (yx129 - 1))) yr112.2.2 else lpS (w10_CachePinned_L2 p0 l70 yr112.2.1 yr112.2.2 ((Int.toNat (7 - 1)) + 1) 0 1) fun sLrbbfLstbbtfL => if ((sLrbbfLstbbtfL : Nat) : Int) > ((1 + ((Int.toNat ((remI p0 6) + 6)) % 6) : Nat) : Int) then Sum.inr (false) else w10_CachePinned_L0 p0 r26 q72 yr112.2.1.xplaces.ls yr112.2.1.xhand l70 yr112.2.2 else Sum.inr (false) else bnd (cache_Cache_Pin (CacheT.mk (Ll.mk l67) z69) ((1 + ((Int.toNat ((remI x94.xN 6) + 6)) % 6) : Nat) : Int) m71) fun yr286 => if yr286.2.1 = 0 then bnd (List.getD l70 (1 + ((Int.toNat ((remI x94.xN 6) + 6)) % 6)) default) fun yx309 => lpS (w10_CachePinned_L3 p0 l70 x94 yr286.2.2.1 yr286.2.2.2 yx309 ((Int.toNat (7 - 1)) + 1) 0 1) fun sLrbbfLsfbtbL => if ((sLrbbfLsfbtbL : Nat) : Int) > ((1 + ((Int.toNat ((remI p0 6) + 6)) % 6) : Nat) : Int) then Sum.inr (false) else w10_CachePinned_L0 p0 r26 q72 yr286.2.2.1.xplaces.ls yr286.2.2.1.xhand (List.set l70 (1 + ((Int.toNat ((remI x94.xN 6) + 6)) % 6)) (IntKind.i64.wrap (yx309 + 1))) yr286.2.2.2 else if yr286.2.1 = 100 then lpS (w10_CachePinned_L4 p0 l70 yr286.2.2.1 yr286.2.2.2 ((Int.toNat (7 - 1)) + 1) 0 1) fun sLrbbfLsfbftL => if ((sLrbbfLsfbftL : Nat) : Int) > ((1 + ((Int.toNat ((remI p0 6) + 6)) % 6) : Nat) : Int) then Sum.inr (false) else w10_CachePinned_L0 p0 r26 q72 yr286.2.2.1.xplaces.ls yr286.2.2.1.xhand l70 yr286.2.2.2 else Sum.inr (false)

def w10_CachePinned (p0 : Int) (l1 : List OpD) : Bool :=
 bnd (w10_live) fun yr26 => bnd (r10_NewBack 6 (-1)) fun yr38 => if ((l1.length : Nat) : Int) > 200 then if yr26 = true then true else false else lp (w10_CachePinned_L0 p0 yr26 l1 (List.replicate (1 + ((Int.toNat ((remI p0 6) + 6)) % 6)) (placeT.mk false 0 (Ll.mk ([])) 0 false false 0)) 0 (List.replicate 8 0) yr38) fun _ => yr26

set_option maxRecDepth 100000 in
set_option maxHeartbeats 2000000 in
theorem w10_CachePinned_ok (w : World) (D : Nat → Prop) (p0 : Int) (A1 : Option Addr) (n1 c1 : Nat) (l1 : List OpD) (r0 : Bool) (H : Own w D w []) (hx1 : Ro w D fun w' => Rds w' 4 A1 n1 (List.flatMap OpD.cells l1)) (hn1 : n1 = l1.length) (hl1 : l1.length * 40 ≤ 211106232532992) (hh0 : (-9223372036854775808) ≤ p0 ∧ p0 ≤ 9223372036854775807) (hh1 : l1.length * 40 ≤ 140737488351232) (hr : w10_CachePinned p0 l1 = r0) :
    Calls Try.prog 5 #[.int .i64 p0, .slice A1 n1 c1] w (Ret fun v w' => v = .bool r0 ∧ Own w D w' []) := by
 subst hn1
 refine Calls.body (args := [.int .i64 p0, .slice A1 l1.length c1]) Try.func5 rfl rfl rfl ?_
 show Wp _ _ _ [(0, .int .i64 p0), (1, .slice A1 l1.length c1)] _ _
 refine sr (Ar rfl ?_)
 obtain ⟨r26, hr27⟩ : ∃ q, w10_live = q := ⟨_, rfl⟩
 obtain ⟨D21, HP22, ro23, bk24, rr25⟩ := Own.enter0 H
 refine cl Try.call6 (w10_live_ok _ _ r26 HP22 hr27) ?_
 rintro _ w28 ⟨rfl, HQ29⟩
 have H30 := bk24 _ _ HQ29
 refine Ar rfl (Mz rfl ?_)
 have hz31 := remI_bd p0 (n := 6) (by omega)
 refine Kz (.int .i64 (remI p0 6)) (fw (.int .i64 ((remI p0 6) + 6)) (Yl.int (e := IntKind.i64.wrap ((remI p0 6) + 6)) yk (by rw [IntWalk.i64_in _ (by omega)])) ?_)
 have hz32 : ((Int.toNat ((remI p0 6) + 6) : Nat) : Int) = (remI p0 6) + 6 := by omega
 refine fw (.int .i64 (((Int.toNat ((remI p0 6) + 6)) % 6 : Nat) : Int)) (Yl.int (e := Int.tmod ((remI p0 6) + 6) 6) yk (tmodT (n := 6) (show 0 ≤ (remI p0 6) + 6 by omega))) (fw (.int .i64 ((1 + ((Int.toNat ((remI p0 6) + 6)) % 6) : Nat) : Int)) (Yl.int (e := IntKind.i64.wrap (1 + (((Int.toNat ((remI p0 6) + 6)) % 6 : Nat) : Int))) yk (by rw [IntWalk.i64_in _ (by omega)]; omega)) (Ar rfl (Mz rfl ?_)))
 obtain ⟨r38, hr39⟩ : ∃ q, r10_NewBack 6 (-1) = q := ⟨_, rfl⟩
 obtain ⟨D33, HP34, ro35, bk36, rr37⟩ := Own.enter0 H30
 refine cl Try.call7 (r10_NewBack_ok _ _ 6 (-1) r38 HP34 (by omega) hr39) ?_
 rintro _ w40 ⟨g43, rfl, HQ41, hk44⟩
 have H42 := bk36 _ _ HQ41
 replace hk44 : r38.xCalls.length = 0 := hk44
 refine Kz (.iface 24 (.pointer (some ⟨g43, 0, none⟩))) ?_
 refine WL.do rfl (Do.call Try.call8 rfl ?_ (fun _ _ k => k))
 refine Calls.body (args := [.int .i64 ((1 + ((Int.toNat ((remI p0 6) + 6)) % 6) : Nat) : Int), .iface 24 (.pointer (some ⟨g43, 0, none⟩))]) Try.func8 rfl rfl rfl ?_
 show Wp _ _ _ [(0, .int .i64 ((1 + ((Int.toNat ((remI p0 6) + 6)) % 6) : Nat) : Int)), (1, .iface 24 (.pointer (some ⟨g43, 0, none⟩)))] _ _
 refine sr (Az rfl (An rfl (Wp.seq (sr (Mz rfl (Kz (.bool (decide (((1 + ((Int.toNat ((remI p0 6) + 6)) % 6) : Nat) : Int) < 1))) (Mz rfl ?_)))))))
 have hb45 : (decide (((1 + ((Int.toNat ((remI p0 6) + 6)) % 6) : Nat) : Int) < 1)) = false := (dF (by omega))
 refine WL.valG (v := .int .i64 ((1 + ((Int.toNat ((remI p0 6) + 6)) % 6) : Nat) : Int)) rfl rfl hb45 rfl (Yl.move rfl) (Gz (.bool (decide (((1 + ((Int.toNat ((remI p0 6) + 6)) % 6) : Nat) : Int) > 64))) hb45 (fw (.bool (decide (((1 + ((Int.toNat ((remI p0 6) + 6)) % 6) : Nat) : Int) > 64))) (Yl.pickF rfl hb45 rfl) (Mz rfl ?_)))
 have hb46 : (decide (((1 + ((Int.toNat ((remI p0 6) + 6)) % 6) : Nat) : Int) > 64)) = false := (dF (by omega))
 refine WL.valG (v := .iface 24 (.pointer (some ⟨g43, 0, none⟩))) rfl rfl hb46 rfl (Yl.move rfl) (Gz (.bool false) hb46 (fw (.bool false) (Yl.pickF rfl hb46 rfl) (nt (jf (sk (sr (Mz rfl (Mz rfl ?_))))))))
 refine WL.do rfl (Do.makeE (x0 := (placeD.mk false 0 (Sv.mk none 0 ([])) 0 false false 0)) (z := .agg #[.bool false, .int .i64 0, .slice none 0 0, .int .i64 0, .bool false, .bool false, .int .u64 0]) (k := 1 + ((Int.toNat ((remI p0 6) + 6)) % 6)) (size := 7) (bytes := 64) placeD.len (by decide) rfl Try.underlying65 (by kernel_rfl) H42 rfl rfl (by omega) (by unfold maxLen; omega) ?_)
 intro A47 w48 H49
 have H50 : Own w D w48 [sepL (List.flatMap placeD.own (List.replicate (1 + ((Int.toNat ((remI p0 6) + 6)) % 6)) (placeD.mk false 0 (Sv.mk none 0 ([])) 0 false false 0))), row A47 (1 + ((Int.toNat ((remI p0 6) + 6)) % 6)) (1 + ((Int.toNat ((remI p0 6) + 6)) % 6)) (List.flatMap placeD.cells (List.replicate (1 + ((Int.toNat ((remI p0 6) + 6)) % 6)) (placeD.mk false 0 (Sv.mk none 0 ([])) 0 false false 0))) 75 7, BackO g43 r38] := H49.free (free_rep (free_one (row_nil 5 1)))
 have hl51 : List.length (List.replicate (1 + ((Int.toNat ((remI p0 6) + 6)) % 6)) (placeD.mk false 0 (Sv.mk none 0 ([])) 0 false false 0)) = 1 + ((Int.toNat ((remI p0 6) + 6)) % 6) := List.length_replicate
 have hl52 : List.length (List.replicate (1 + ((Int.toNat ((remI p0 6) + 6)) % 6)) (placeT.mk false 0 (Ll.mk ([])) 0 false false 0)) = 1 + ((Int.toNat ((remI p0 6) + 6)) % 6) := List.length_replicate
 refine Kz (.agg #[.iface 24 (.pointer (some ⟨g43, 0, none⟩)), .slice A47 (1 + ((Int.toNat ((remI p0 6) + 6)) % 6)) (1 + ((Int.toNat ((remI p0 6) + 6)) % 6)), .int .i64 0]) ?_
 refine npw [.iface 24 (.pointer (some ⟨g43, 0, none⟩)), .slice A47 (1 + ((Int.toNat ((remI p0 6) + 6)) % 6)) (1 + ((Int.toNat ((remI p0 6) + 6)) % 6)), .int .i64 0] 67 H50 ?_
 intro g53 w54 H55
 refine Az rfl (An rfl (rt (Fin.res (res2 rfl rfl rfl) (Mz rfl (Kz (.pointer (some ⟨g53, 0, none⟩)) (Kz (.int .i64 0) (Az rfl (An rfl (Wp.seq (sr (Mz rfl (Kz (.bool false) (Mz rfl (gw (.int .i64 0) rfl (Yl.move rfl) (Gz (.bool false) rfl (fw (.bool false) (Yl.pickF rfl rfl rfl) (Mz rfl (gw (.slice A1 l1.length c1) rfl (Yl.move rfl) (Gz (.int .i64 ((l1.length : Nat) : Int)) rfl (Gz (.bool (decide (((l1.length : Nat) : Int) > 200))) rfl (fw (.bool (decide (((l1.length : Nat) : Int) > 200))) (Yl.pickF rfl rfl rfl) (nt ?_))))))))))))))))))))))
 by_cases h56 : ((l1.length : Nat) : Int) > 200
 refine jT (dT h56) (sr (Mz rfl (Mz rfl ?_)))
 rcases Bool.eq_false_or_eq_true (r26) with h57 | h57
 refine WL.valG (v := .pointer (some ⟨g53, 0, none⟩)) rfl rfl h57 rfl (Yl.move rfl) (Gz (.bool true) h57 (fw (.bool true) (Yl.pickT rfl h57 rfl) (An rfl (rt (tR (rs ?_))))))
 have H58 := H55.pk []
 obtain rfl : _ = true := hr.symm.trans (et (bnd_of hr27) (et (bnd_of hr39) (et (ip h56) (ip h57))))
 exact ⟨rfl, H58⟩
 refine Sz h57 (Sz h57 (fw (.bool false) (Yl.pickF rfl h57 rfl) (An rfl (rt (tR (rs ?_))))))
 have H59 := H55.pk []
 obtain rfl : _ = false := hr.symm.trans (et (bnd_of hr27) (et (bnd_of hr39) (et (ip h56) (ifF h57))))
 exact ⟨rfl, H59⟩
 refine jF (dF h56) (sk (sr ?_))
 refine npw [.int .i64 0, .int .i64 0, .int .i64 0, .int .i64 0, .int .i64 0, .int .i64 0, .int .i64 0, .int .i64 0] 61 H55 ?_
 intro g60 w61 H62
 have H63 : Own w D w61 [row (some ⟨g60, 0, none⟩) 8 8 (List.flatMap (eI .i64) (List.replicate 8 0)) 61 1, blk g53 [.iface 24 (.pointer (some ⟨g43, 0, none⟩)), .slice A47 (1 + ((Int.toNat ((remI p0 6) + 6)) % 6)) (1 + ((Int.toNat ((remI p0 6) + 6)) % 6)), .int .i64 0] 67, sepL (List.flatMap placeD.own (List.replicate (1 + ((Int.toNat ((remI p0 6) + 6)) % 6)) (placeD.mk false 0 (Sv.mk none 0 ([])) 0 false false 0))), row A47 (1 + ((Int.toNat ((remI p0 6) + 6)) % 6)) (1 + ((Int.toNat ((remI p0 6) + 6)) % 6)) (List.flatMap placeD.cells (List.replicate (1 + ((Int.toNat ((remI p0 6) + 6)) % 6)) (placeD.mk false 0 (Sv.mk none 0 ([])) 0 false false 0))) 75 7, BackO g43 r38] := H62.blkRow 8 1 (by kernel_rfl) rfl rfl
 refine nt (Wp.seq (sr (Mz rfl (Kz (.int .i64 ((l1.length : Nat) : Int)) (Mn rfl (bo ?_))))))
 have hn73 : 1 + ((Int.toNat ((remI p0 6) + 6)) % 6) = List.length (List.replicate (1 + ((Int.toNat ((remI p0 6) + 6)) % 6)) (placeT.mk false 0 (Ll.mk ([])) 0 false false 0)) := by first | omega | (simp only [List.length_set]; done) | (simp only [List.length_set, List.length_append, List.length_cons, List.length_nil, List.length_take, List.length_drop, List.length_replicate]; omega)
 have H74 : Own w D w61 [row (some ⟨g60, 0, none⟩) 8 8 (List.flatMap (eI .i64) (List.replicate 8 0)) 61 1, blk g53 [.iface 24 (.pointer (some ⟨g43, 0, none⟩)), .slice A47 (List.length (List.replicate (1 + ((Int.toNat ((remI p0 6) + 6)) % 6)) (placeT.mk false 0 (Ll.mk ([])) 0 false false 0))) (1 + ((Int.toNat ((remI p0 6) + 6)) % 6)), .int .i64 0] 67, sepL (List.flatMap placeD.own (List.replicate (1 + ((Int.toNat ((remI p0 6) + 6)) % 6)) (placeD.mk false 0 (Sv.mk none 0 ([])) 0 false false 0))), row A47 (List.length (List.replicate (1 + ((Int.toNat ((remI p0 6) + 6)) % 6)) (placeT.mk false 0 (Ll.mk ([])) 0 false false 0))) (1 + ((Int.toNat ((remI p0 6) + 6)) % 6)) (List.flatMap placeD.cells (List.replicate (1 + ((Int.toNat ((remI p0 6) + 6)) % 6)) (placeD.mk false 0 (Sv.mk none 0 ([])) 0 false false 0))) 75 7, BackO g43 r38] := by rw [← hn73]; exact H63
 have H75 := H74.pk [0, 1, 4, 3, 2]
 obtain ⟨I79, hI80⟩ : ∃ q : (Nat × (Option Addr) × Nat × (List placeD) × (List placeT) × Int × (List Int) × BackT) → World → Prop, q = fun (i : Nat × (Option Addr) × Nat × (List placeD) × (List placeT) × Int × (List Int) × BackT) w' => Own w D w' [row (some ⟨g60, 0, none⟩) 8 8 (List.flatMap (eI .i64) i.2.2.2.2.2.2.1) 61 1, blk g53 [.iface 24 (.pointer (some ⟨g43, 0, none⟩)), .slice i.2.1 i.2.2.2.2.1.length i.2.2.1, .int .i64 i.2.2.2.2.2.1] 67, BackO g43 i.2.2.2.2.2.2.2, row i.2.1 i.2.2.2.2.1.length i.2.2.1 (List.flatMap placeD.cells i.2.2.2.1) 75 7, sepL (List.flatMap placeD.own i.2.2.2.1)] ∧ (i.2.2.2.2.2.2.1.length = 8 ∧ List.map placeD.abs i.2.2.2.1 = i.2.2.2.2.1 ∧ i.1 ≤ l1.length ∧ i.2.2.2.2.1.length ≤ (List.length (List.replicate (1 + ((Int.toNat ((remI p0 6) + 6)) % 6)) (placeT.mk false 0 (Ll.mk ([])) 0 false false 0))) + i.1 ∧ i.2.2.2.2.1.length ≤ List.length (List.replicate (1 + ((Int.toNat ((remI p0 6) + 6)) % 6)) (placeT.mk false 0 (Ll.mk ([])) 0 false false 0)) ∧ BsOk i.2.2.2.2.1 ∧ (0 ≤ i.2.2.2.2.2.1 ∧ i.2.2.2.2.2.1 < ((i.2.2.2.2.1.length : Nat) : Int)) ∧ (1 ≤ i.2.2.2.2.1.length ∧ i.2.2.2.2.1.length ≤ 64) ∧ i.2.2.2.2.2.2.2.xCalls.length ≤ 200 * i.1 ∧ w10_CachePinned_L0 p0 r26 l1 (List.replicate (1 + ((Int.toNat ((remI p0 6) + 6)) % 6)) (placeT.mk false 0 (Ll.mk ([])) 0 false false 0)) 0 (List.replicate 8 0) r38 = w10_CachePinned_L0 p0 r26 (List.drop i.1 l1) i.2.2.2.2.1 i.2.2.2.2.2.1 i.2.2.2.2.2.2.1 i.2.2.2.2.2.2.2) := ⟨_, rfl⟩
 have dm81 : ∀ {k64 : Nat} {A65 : Option Addr} {c66 : Nat} {d68 : List placeD} {l67 : List placeT} {z69 : Int} {l70 : List Int} {m71 : BackT} {w' : World}, I79 (k64, A65, c66, d68, l67, z69, l70, m71) w' ↔ Own w D w' [row (some ⟨g60, 0, none⟩) 8 8 (List.flatMap (eI .i64) l70) 61 1, blk g53 [.iface 24 (.pointer (some ⟨g43, 0, none⟩)), .slice A65 l67.length c66, .int .i64 z69] 67, BackO g43 m71, row A65 l67.length c66 (List.flatMap placeD.cells d68) 75 7, sepL (List.flatMap placeD.own d68)] ∧ l70.length = 8 ∧ List.map placeD.abs d68 = l67 ∧ k64 ≤ l1.length ∧ l67.length ≤ (List.length (List.replicate (1 + ((Int.toNat ((remI p0 6) + 6)) % 6)) (placeT.mk false 0 (Ll.mk ([])) 0 false false 0))) + k64 ∧ l67.length ≤ List.length (List.replicate (1 + ((Int.toNat ((remI p0 6) + 6)) % 6)) (placeT.mk false 0 (Ll.mk ([])) 0 false false 0)) ∧ BsOk l67 ∧ (0 ≤ z69 ∧ z69 < ((l67.length : Nat) : Int)) ∧ (1 ≤ l67.length ∧ l67.length ≤ 64) ∧ m71.xCalls.length ≤ 200 * k64 ∧ w10_CachePinned_L0 p0 r26 l1 (List.replicate (1 + ((Int.toNat ((remI p0 6) + 6)) % 6)) (placeT.mk false 0 (Ll.mk ([])) 0 false false 0)) 0 (List.replicate 8 0) r38 = w10_CachePinned_L0 p0 r26 (List.drop k64 l1) l67 z69 l70 m71 := by intros; subst hI80; exact Iff.rfl
 refine Wp.loop (fun i : Nat × (Option Addr) × Nat × (List placeD) × (List placeT) × Int × (List Int) × BackT => [(4, .bool false), (48, .int .i64 ((i.1 : Nat) : Int)), (47, .int .i64 ((l1.length : Nat) : Int)), (46, .slice A1 l1.length c1), (8, .pointer (some ⟨g60, 0, none⟩)), (6, .pointer (some ⟨g53, 0, none⟩)), (0, .int .i64 ((1 + ((Int.toNat ((remI p0 6) + 6)) % 6) : Nat) : Int)), (5, .bool r26)]) I79 (fun i => l1.length - i.1) (0, A47, 1 + ((Int.toNat ((remI p0 6) + 6)) % 6), (List.replicate (1 + ((Int.toNat ((remI p0 6) + 6)) % 6)) (placeD.mk false 0 (Sv.mk none 0 ([])) 0 false false 0)), (List.replicate (1 + ((Int.toNat ((remI p0 6) + 6)) % 6)) (placeT.mk false 0 (Ll.mk ([])) 0 false false 0)), 0, (List.replicate 8 0), r38) ⟨rfl, rfl, rfl, rfl, rfl, rfl, rfl, rfl, trivial⟩ (dm81.2 ⟨H75, by first | omega | (simp only [List.length_set] <;> omega) | (simp only [List.length_replicate]), by exact (List.map_replicate (f := placeD.abs)), by omega, by omega, by omega, by first | assumption | exact bs_set (by assumption) (Nat.zero_le _) | exact bs_set (by assumption) (by omega) | exact bs_set (by assumption) (by dsimp only; omega) | exact bs_rep (Nat.zero_le _), by first | omega | (dsimp only; omega) | (simp only [List.length_replicate] <;> omega), by first | omega | (simp only [List.length_replicate] <;> omega), by omega, rfl⟩) ?_
 rintro ⟨k64, A65, c66, d68, l67, z69, l70, m71⟩ w76 hf78
 show Wp _ _ _ [(4, .bool false), (48, .int .i64 ((k64 : Nat) : Int)), (47, .int .i64 ((l1.length : Nat) : Int)), (46, .slice A1 l1.length c1), (8, .pointer (some ⟨g60, 0, none⟩)), (6, .pointer (some ⟨g53, 0, none⟩)), (0, .int .i64 ((1 + ((Int.toNat ((remI p0 6) + 6)) % 6) : Nat) : Int)), (5, .bool r26)] _ _
 obtain ⟨H77, hi83, hi84, hi85, hi86, hi87, hi88, hi89, hi90, hi91, hq82⟩ := dm81.1 hf78
 have hl92 := abs_len hi84
 refine sr (Kz (.bool (decide (((k64 : Nat) : Int) < ((l1.length : Nat) : Int)))) (nt (Wp.seq ?_)))
 by_cases h93 : ((k64 : Nat) : Int) < ((l1.length : Nat) : Int)
 obtain ⟨x94, hx95⟩ := rds_at (ls := l1) (i := k64) OpD.len (by decide) (H77.ro hx1) (by first | omega | (simp; done) | (simp; omega))
 have hd96 := drop_at hx95
 refine jT (dT h93) (sk (Wp.seq (bo (sr (fw (.pointer (some ⟨ab A1, ao A1 + k64 * 4, none⟩)) (Yl.indexAddr (El22) rfl rfl ((H77.ro hx1).addr (i := k64) (by omega)) (by omega)) (fw (.agg (OpD.cells x94).toArray) (Yl.load rfl (Lds.agg (cs := (OpD.cells x94)) Try.isAgg35 Try.sizeOf35 ((H77.ro hx1).elem OpD.len hx95 (by decide)))) ?_))))))
 refine npw [.int .i64 0, .int .i64 0, .string ⟨List.toArray ([])⟩, .int .u64 0] 35 H77 ?_
 intro g97 w98 H99
 refine sto (OpD.cells x94) 0 H99 Try.sizeOf35 ?_
 intro w100 H101
 refine ns (Kz (.pointer (some ⟨g97, 1, none⟩)) (Lz (.int .i64 x94.xN) H101 0 Try.isAgg3 ?_))
 have hz102 := remI_bd x94.xN (n := 6) (by omega)
 refine Kz (.int .i64 (remI x94.xN 6)) (fw (.int .i64 ((remI x94.xN 6) + 6)) (Yl.int (e := IntKind.i64.wrap ((remI x94.xN 6) + 6)) yk (by rw [IntWalk.i64_in _ (by omega)])) ?_)
 have hz103 : ((Int.toNat ((remI x94.xN 6) + 6) : Nat) : Int) = (remI x94.xN 6) + 6 := by omega
 refine fw (.int .i64 (((Int.toNat ((remI x94.xN 6) + 6)) % 6 : Nat) : Int)) (Yl.int (e := Int.tmod ((remI x94.xN 6) + 6) 6) yk (tmodT (n := 6) (show 0 ≤ (remI x94.xN 6) + 6 by omega))) (fw (.int .i64 ((1 + ((Int.toNat ((remI x94.xN 6) + 6)) % 6) : Nat) : Int)) (Yl.int (e := IntKind.i64.wrap (1 + (((Int.toNat ((remI x94.xN 6) + 6)) % 6 : Nat) : Int))) yk (by rw [IntWalk.i64_in _ (by omega)]; omega)) (An rfl (Wp.seq (sr (Kz (.pointer (some ⟨g97, 0, none⟩)) (Lz (.int .i64 x94.xDo) H101 0 Try.isAgg3 (Kz (.bool (decide (x94.xDo = 1))) (nt ?_))))))))
 by_cases h104 : x94.xDo = 1
 refine jT (dT h104) (Wp.seq ?_)
 have H105 := H101.pk [1, 2, 3, 4, 5]
 refine Wp.region (Mz rfl (Mz rfl ?_))
 have H106 := H105.pk [1, 3, 4, 2, 0]
 obtain ⟨⟨r112, r113, r114⟩, hr115⟩ : ∃ q : Int × CacheT × BackT, cache_Cache_Unpin (CacheT.mk (Ll.mk l67) z69) ((1 + ((Int.toNat ((remI x94.xN 6) + 6)) % 6) : Nat) : Int) m71 = q := ⟨_, rfl⟩
 obtain ⟨D107, HP108, ro109, bk110, rr111⟩ := Own.enter (L1 := [blk g53 [.iface 24 (.pointer (some ⟨g43, 0, none⟩)), .slice A65 l67.length c66, .int .i64 z69] 67, row A65 l67.length c66 (List.flatMap placeD.cells d68) 75 7, sepL (List.flatMap placeD.own d68), BackO g43 m71]) (L2 := [row (some ⟨g60, 0, none⟩) 8 8 (List.flatMap (eI .i64) l70) 61 1]) H106
 refine cl Try.call12 (cache_Cache_Unpin_ok _ _ g53 (CacheT.mk (Ll.mk l67) z69) A65 c66 d68 ((1 + ((Int.toNat ((remI x94.xN 6) + 6)) % 6) : Nat) : Int) g43 m71 r112 r113 r114 HP108 hi84 (by first | omega | (dsimp only; omega) | (simp only [List.length_set] <;> omega)) (by first | omega | (dsimp only; omega) | (simp only [List.length_set] <;> omega)) (by first | assumption | exact bs_rep (Nat.zero_le _)) (by first | omega | (dsimp only; omega)) hr115) ?_
 rintro _ w116 ⟨A119, c120, d121, rfl, HQ117, hd122, hk123, hk124, hk125, hk126⟩
 have H118 := bk110 _ _ HQ117
 have hl127 := abs_len hd122
 have hb128 := H118.rowC (i := 1) rfl
 replace hk123 : r113.xplaces.ls.length = l67.length := hk123
 replace hk124 : BsOk r113.xplaces.ls := hk124
 replace hk125 : r114.xCalls.length ≤ m71.xCalls.length + 200 := hk125
 replace hk126 : 0 ≤ r113.xhand ∧ r113.xhand < ((r113.xplaces.ls.length : Nat) : Int) := hk126
 refine An rfl (Wp.seq (sr (Mz rfl (Kz (.bool (decide (r112 = 0))) (Mz rfl ?_)))))
 obtain ⟨x129, hx130⟩ := rds_at (ls := l70) (i := 1 + ((Int.toNat ((remI x94.xN 6) + 6)) % 6)) eI_len (by decide) (H118.rds (i := 4) rfl) (by first | omega | (simp; done) | (simp; omega))
 refine fw (.pointer (some ⟨ab (some ⟨g60, 0, none⟩), ao (some ⟨g60, 0, none⟩) + (1 + ((Int.toNat ((remI x94.xN 6) + 6)) % 6)) * 1, none⟩)) (Yl.indexArr (g := g60) (i := 1 + ((Int.toNat ((remI x94.xN 6) + 6)) % 6)) (m := 8) (sz := 1) Try.underlying61 Try.sizeOf3 rfl rfl (by omega)) (fw (.int .i64 x129) (Yl.load rfl (Lds.one Try.isAgg3 (((H118.rds (i := 4) rfl).elem eI_len hx130 (by decide)).at_ (k := 0) rfl))) (Kz (.bool (decide (x129 > 0))) (fw (.bool (decide (¬ ((decide (r112 = 0)) = (decide (x129 > 0)))))) (Yl.bool (e := !(decide (r112 = 0) == decide (x129 > 0))) yk (by first | (rw [Bool.beq_eq_decide_eq]; exact decide_not.symm) | (by_cases q : (decide (r112 = 0)) = (decide (x129 > 0)) <;> simp [q]))) (nt ?_))))
 by_cases h131 : (decide (r112 = 0)) = (decide (x129 > 0))
 refine jF (dF (not_not_intro h131)) (sk (sr (Mz rfl (fw (.pointer (some ⟨ab (some ⟨g60, 0, none⟩), ao (some ⟨g60, 0, none⟩) + (1 + ((Int.toNat ((remI x94.xN 6) + 6)) % 6)) * 1, none⟩)) (Yl.indexArr (g := g60) (i := 1 + ((Int.toNat ((remI x94.xN 6) + 6)) % 6)) (m := 8) (sz := 1) Try.underlying61 Try.sizeOf3 rfl rfl (by omega)) (fw (.int .i64 x129) (Yl.load rfl (Lds.one Try.isAgg3 (((H118.rds (i := 4) rfl).elem eI_len hx130 (by decide)).at_ (k := 0) rfl))) (Kz (.bool (decide (x129 > 0))) (nt ?_)))))))
 by_cases h132 : x129 > 0
 refine jT (dT h132) (Wp.region (Mz rfl (fw (.pointer (some ⟨ab (some ⟨g60, 0, none⟩), ao (some ⟨g60, 0, none⟩) + (1 + ((Int.toNat ((remI x94.xN 6) + 6)) % 6)) * 1, none⟩)) (Yl.indexArr (g := g60) (i := 1 + ((Int.toNat ((remI x94.xN 6) + 6)) % 6)) (m := 8) (sz := 1) Try.underlying61 Try.sizeOf3 rfl rfl (by omega)) (fw (.int .i64 x129) (Yl.load rfl (Lds.one Try.isAgg3 (((H118.rds (i := 4) rfl).elem eI_len hx130 (by decide)).at_ (k := 0) rfl))) (Kz (.int .i64 (IntKind.i64.wrap (x129 - 1))) (fw (.pointer (some ⟨ab (some ⟨g60, 0, none⟩), ao (some ⟨g60, 0, none⟩) + (1 + ((Int.toNat ((remI x94.xN 6) + 6)) % 6)) * 1, none⟩)) (Yl.indexArr (g := g60) (i := 1 + ((Int.toNat ((remI x94.xN 6) + 6)) % 6)) (m := 8) (sz := 1) Try.underlying61 Try.sizeOf3 rfl rfl (by omega)) ?_))))))
 have H133 := H118.pk [4, 0, 1, 2, 3]
 refine WL.do0 (Do.storeRow (vs := [.int .i64 (IntKind.i64.wrap (x129 - 1))]) (o := (1 + ((Int.toNat ((remI x94.xN 6) + 6)) % 6)) * 1 + 0) (q := ao (some ⟨g60, 0, none⟩) + (1 + ((Int.toNat ((remI x94.xN 6) + 6)) % 6)) * 1) H133 rfl (by omega) rfl Try.sizeOf3 rfl rfl (Nat.le_of_ble_eq_true rfl) (store_fits eI_len hx130 (Nat.le_of_ble_eq_true rfl)) (flat_set (y := (IntKind.i64.wrap (x129 - 1))) eI_len rfl (Nat.le_of_ble_eq_true rfl) hx130) ?_)
 intro w134 H135
 refine ns (An rfl (Wp.seq (sr (An rfl (bo ?_)))))
 have H140 := H135.pk [0, 1, 2, 3, 4]
 obtain ⟨I144, hI145⟩ : ∃ q : (Nat × Nat × Nat) → World → Prop, q = fun (i : Nat × Nat × Nat) w' => Own w D w' [row (some ⟨g60, 0, none⟩) 8 8 (List.flatMap (eI .i64) (List.set l70 (1 + ((Int.toNat ((remI x94.xN 6) + 6)) % 6)) (IntKind.i64.wrap (x129 - 1)))) 61 1, blk g53 [.iface 24 (.pointer (some ⟨g43, 0, none⟩)), .slice A119 r113.xplaces.ls.length c120, .int .i64 r113.xhand] 67, row A119 r113.xplaces.ls.length c120 (List.flatMap placeD.cells d121) 75 7, sepL (List.flatMap placeD.own d121), BackO g43 r114] ∧ ((1 ≤ i.2.1 ∧ i.2.1 ≤ 7) ∧ (0 ≤ i.1 ∧ i.1 < i.2.1) ∧ Int.toNat (7 - i.2.1) < i.2.2 ∧ w10_CachePinned_L1 p0 l70 x94 r113 r114 x129 ((Int.toNat (7 - 1)) + 1) 0 1 = w10_CachePinned_L1 p0 l70 x94 r113 r114 x129 i.2.2 i.1 i.2.1) := ⟨_, rfl⟩
 have dm146 : ∀ {k136 : Nat} {k137 : Nat} {f139 : Nat} {w' : World}, I144 (k136, k137, f139) w' ↔ Own w D w' [row (some ⟨g60, 0, none⟩) 8 8 (List.flatMap (eI .i64) (List.set l70 (1 + ((Int.toNat ((remI x94.xN 6) + 6)) % 6)) (IntKind.i64.wrap (x129 - 1)))) 61 1, blk g53 [.iface 24 (.pointer (some ⟨g43, 0, none⟩)), .slice A119 r113.xplaces.ls.length c120, .int .i64 r113.xhand] 67, row A119 r113.xplaces.ls.length c120 (List.flatMap placeD.cells d121) 75 7, sepL (List.flatMap placeD.own d121), BackO g43 r114] ∧ (1 ≤ k137 ∧ k137 ≤ 7) ∧ (0 ≤ k136 ∧ k136 < k137) ∧ Int.toNat (7 - k137) < f139 ∧ w10_CachePinned_L1 p0 l70 x94 r113 r114 x129 ((Int.toNat (7 - 1)) + 1) 0 1 = w10_CachePinned_L1 p0 l70 x94 r113 r114 x129 f139 k136 k137 := by intros; subst hI145; exact Iff.rfl
 refine Wp.loop (fun i : Nat × Nat × Nat => [(4, .bool false), (15, .int .i64 ((i.1 : Nat) : Int)), (16, .int .i64 ((i.2.1 : Nat) : Int)), (48, .int .i64 ((k64 : Nat) : Int)), (47, .int .i64 ((l1.length : Nat) : Int)), (46, .slice A1 l1.length c1), (8, .pointer (some ⟨g60, 0, none⟩)), (6, .pointer (some ⟨g53, 0, none⟩)), (0, .int .i64 ((1 + ((Int.toNat ((remI p0 6) + 6)) % 6) : Nat) : Int)), (5, .bool r26)]) I144 (fun i => i.2.2) (0, 1, (Int.toNat (7 - 1)) + 1) ⟨rfl, rfl, rfl, rfl, rfl, rfl, rfl, rfl, rfl, rfl, trivial⟩ (dm146.2 ⟨H140, by omega, by omega, by omega, rfl⟩) ?_
 rintro ⟨k136, k137, f139⟩ w141 hf143
 show Wp _ _ _ [(4, .bool false), (15, .int .i64 ((k136 : Nat) : Int)), (16, .int .i64 ((k137 : Nat) : Int)), (48, .int .i64 ((k64 : Nat) : Int)), (47, .int .i64 ((l1.length : Nat) : Int)), (46, .slice A1 l1.length c1), (8, .pointer (some ⟨g60, 0, none⟩)), (6, .pointer (some ⟨g53, 0, none⟩)), (0, .int .i64 ((1 + ((Int.toNat ((remI p0 6) + 6)) % 6) : Nat) : Int)), (5, .bool r26)] _ _
 obtain ⟨H142, hi148, hi149, hi150, hq147⟩ := dm146.1 hf143
 obtain ⟨f151, hf152⟩ : ∃ q, f139 = q + 1 := ⟨f139 - 1, by omega⟩
 subst hf152
 refine Wp.seq (sr (Mz rfl (Kz (.bool (decide (((k137 : Nat) : Int) ≤ 6))) (nt ?_))))
 by_cases h153 : ((k137 : Nat) : Int) ≤ 6
 refine jT (dT h153) (sk (Wp.seq (bo (Wp.seq (sr (Mz rfl (Mz rfl ?_)))))))
 have H154 := H142.pk [1, 4, 0, 2, 3]
 have hb160 := H154.rowC (i := 3) rfl
 obtain ⟨r161, hr162⟩ : ∃ q, cache_Cache_Has r113 ((k137 : Nat) : Int) r114 = q := ⟨_, rfl⟩
 obtain ⟨D155, HP156, ro157, bk158, rr159⟩ := Own.enter2 H154
 refine cl Try.call20 (cache_Cache_Has_ok _ _ g53 r113 A119 c120 d121 ((k137 : Nat) : Int) g43 r114 r161 HP156 hd122 (rr159 _ 1 _ rfl row_rds) (show r113.xplaces.ls.length ≤ c120 ∧ r113.xplaces.ls.length ≤ 9223372036854775807 from by omega) (fun x9 h9 => ⟨rr159 _ 2 _ rfl (sepL_mem (List.mem_flatMap.2 ⟨x9, h9, .head _⟩) row_rds), own_rd (φ := fun _ => _) H154 (i := 4) rfl (sepL_mem (List.mem_flatMap.2 ⟨x9, h9, .head _⟩) row_le2)⟩) (by first | omega | (dsimp only; omega) | (simp only [List.length_set] <;> omega)) hr162) ?_
 rintro _ w163 ⟨rfl, HQ164⟩
 have H165 := bk158 _ _ HQ164
 refine nt ?_
 rcases Bool.eq_false_or_eq_true (r161) with h166 | h166
 refine jT h166 (Wp.region (Mz rfl (fw (.int .i64 ((k136 + 1 : Nat) : Int)) (Yl.int (e := IntKind.i64.wrap (((k136 : Nat) : Int) + 1)) yk (by rw [IntWalk.i64_in _ (by omega)]; omega)) (Ar rfl (Mz rfl ?_)))))
 obtain ⟨x167, hx168⟩ := rds_at (ls := (List.set l70 (1 + ((Int.toNat ((remI x94.xN 6) + 6)) % 6)) (IntKind.i64.wrap (x129 - 1)))) (i := k137) eI_len (by decide) (H165.rds (i := 2) rfl) (by first | omega | (simp; done) | (simp; omega))
 refine fw (.pointer (some ⟨ab (some ⟨g60, 0, none⟩), ao (some ⟨g60, 0, none⟩) + k137 * 1, none⟩)) (Yl.indexArr (g := g60) (i := k137) (m := 8) (sz := 1) Try.underlying61 Try.sizeOf3 rfl rfl (by omega)) (fw (.int .i64 x167) (Yl.load rfl (Lds.one Try.isAgg3 (((H165.rds (i := 2) rfl).elem eI_len hx168 (by decide)).at_ (k := 0) rfl))) (Kz (.bool (decide (x167 > 0))) (Mz rfl ?_)))
 by_cases h169 : x167 > 0
 refine gw (.pointer (some ⟨g53, 0, none⟩)) (dT h169) (Yl.move rfl) (gw (.int .i64 ((k137 : Nat) : Int)) (dT h169) (Yl.move rfl) ?_)
 have hb175 := H165.rowC (i := 3) rfl
 obtain ⟨r176, hr177⟩ : ∃ q, cache_Cache_Has r113 ((k137 : Nat) : Int) r114 = q := ⟨_, rfl⟩
 obtain ⟨D170, HP171, ro172, bk173, rr174⟩ := Own.enter2 H165
 refine clG (decide_eq_true h169) Try.call20 (cache_Cache_Has_ok _ _ g53 r113 A119 c120 d121 ((k137 : Nat) : Int) g43 r114 r176 HP171 hd122 (rr174 _ 1 _ rfl row_rds) (show r113.xplaces.ls.length ≤ c120 ∧ r113.xplaces.ls.length ≤ 9223372036854775807 from by omega) (fun x9 h9 => ⟨rr174 _ 2 _ rfl (sepL_mem (List.mem_flatMap.2 ⟨x9, h9, .head _⟩) row_rds), own_rd (φ := fun _ => _) H165 (i := 4) rfl (sepL_mem (List.mem_flatMap.2 ⟨x9, h9, .head _⟩) row_le2)⟩) (by first | omega | (dsimp only; omega) | (simp only [List.length_set] <;> omega)) hr177) ?_
 rintro _ w178 ⟨rfl, HQ179⟩
 have H180 := bk173 _ _ HQ179
 refine Gz (.bool (!r176)) (dT h169) (fw (.bool (!r176)) (Yl.pickT rfl (dT h169) rfl) (nt ?_))
 rcases Bool.eq_false_or_eq_true (r176) with h181 | h181
 refine jF (cn h181) (Wp.skip (bN (Fin.then (Wp.region (Mz rfl (fw (.int .i64 ((k137 + 1 : Nat) : Int)) (Yl.int (e := IntKind.i64.wrap (((k137 : Nat) : Int) + 1)) yk (by rw [IntWalk.i64_in _ (by omega)]; omega)) (Az rfl (WL.nil ?_))))))))
 have H182 := H180.pk [2, 0, 3, 4, 1]
 exact Fin.round (k136 + 1, k137 + 1, f151) ⟨rfl, rfl, rfl, rfl, rfl, rfl, rfl, rfl, rfl, rfl, trivial⟩ (dm146.2 ⟨H182, by omega, by omega, by omega, et (hq147) (et (ip h153) (et (bnd_of hr162) (et (ip h166) (et (bnd_of (getD_of hx168)) (et (ip h169) (et (bnd_of hr177) (ip h181)))))))⟩) (by show f151 < f151 + 1; omega)
 refine jT (cn h181) (sr (An rfl (rt (bR (tR (tR (bR (tR (bR (tR (tR (bR (tR (rs ?_))))))))))))))
 have H183 := H180.pk []
 obtain rfl : _ = false := hr.symm.trans (et (bnd_of hr27) (et (bnd_of hr39) (et (iN h56) (lp_r (et (hq82) (et (congrArg (fun q => w10_CachePinned_L0 p0 r26 q l67 z69 l70 m71) hd96) (et (ip h104) (et (bnd_of hr115) (et (bnd_of (getD_of hx130)) (et (ip h131) (et (ip h132) (lpS_r (et (hq147) (et (ip h153) (et (bnd_of hr162) (et (ip h166) (et (bnd_of (getD_of hx168)) (et (ip h169) (et (bnd_of hr177) (ifF h181))))))))))))))))))))
 exact ⟨rfl, H183⟩
 refine Sz (dF h169) (Sz (dF h169) (Sz (dF h169) (Sz (dF h169) (fw (.bool false) (Yl.pickF rfl (dF h169) rfl) (nt (jf (Wp.skip (bN (Fin.then (Wp.region (Mz rfl (fw (.int .i64 ((k137 + 1 : Nat) : Int)) (Yl.int (e := IntKind.i64.wrap (((k137 : Nat) : Int) + 1)) yk (by rw [IntWalk.i64_in _ (by omega)]; omega)) (Az rfl (WL.nil ?_))))))))))))))
 have H184 := H165.pk [2, 0, 3, 4, 1]
 exact Fin.round (k136 + 1, k137 + 1, f151) ⟨rfl, rfl, rfl, rfl, rfl, rfl, rfl, rfl, rfl, rfl, trivial⟩ (dm146.2 ⟨H184, by omega, by omega, by omega, et (hq147) (et (ip h153) (et (bnd_of hr162) (et (ip h166) (et (bnd_of (getD_of hx168)) (iN h169)))))⟩) (by show f151 < f151 + 1; omega)
 refine jF h166 (sk (sr (Mz rfl ?_)))
 obtain ⟨x185, hx186⟩ := rds_at (ls := (List.set l70 (1 + ((Int.toNat ((remI x94.xN 6) + 6)) % 6)) (IntKind.i64.wrap (x129 - 1)))) (i := k137) eI_len (by decide) (H165.rds (i := 2) rfl) (by first | omega | (simp; done) | (simp; omega))
 refine fw (.pointer (some ⟨ab (some ⟨g60, 0, none⟩), ao (some ⟨g60, 0, none⟩) + k137 * 1, none⟩)) (Yl.indexArr (g := g60) (i := k137) (m := 8) (sz := 1) Try.underlying61 Try.sizeOf3 rfl rfl (by omega)) (fw (.int .i64 x185) (Yl.load rfl (Lds.one Try.isAgg3 (((H165.rds (i := 2) rfl).elem eI_len hx186 (by decide)).at_ (k := 0) rfl))) (Kz (.bool (decide (x185 > 0))) (Mz rfl ?_)))
 by_cases h187 : x185 > 0
 refine gw (.pointer (some ⟨g53, 0, none⟩)) (dT h187) (Yl.move rfl) (gw (.int .i64 ((k137 : Nat) : Int)) (dT h187) (Yl.move rfl) ?_)
 have hb193 := H165.rowC (i := 3) rfl
 obtain ⟨r194, hr195⟩ : ∃ q, cache_Cache_Has r113 ((k137 : Nat) : Int) r114 = q := ⟨_, rfl⟩
 obtain ⟨D188, HP189, ro190, bk191, rr192⟩ := Own.enter2 H165
 refine clG (decide_eq_true h187) Try.call20 (cache_Cache_Has_ok _ _ g53 r113 A119 c120 d121 ((k137 : Nat) : Int) g43 r114 r194 HP189 hd122 (rr192 _ 1 _ rfl row_rds) (show r113.xplaces.ls.length ≤ c120 ∧ r113.xplaces.ls.length ≤ 9223372036854775807 from by omega) (fun x9 h9 => ⟨rr192 _ 2 _ rfl (sepL_mem (List.mem_flatMap.2 ⟨x9, h9, .head _⟩) row_rds), own_rd (φ := fun _ => _) H165 (i := 4) rfl (sepL_mem (List.mem_flatMap.2 ⟨x9, h9, .head _⟩) row_le2)⟩) (by first | omega | (dsimp only; omega) | (simp only [List.length_set] <;> omega)) hr195) ?_
 rintro _ w196 ⟨rfl, HQ197⟩
 have H198 := bk191 _ _ HQ197
 refine Gz (.bool (!r194)) (dT h187) (fw (.bool (!r194)) (Yl.pickT rfl (dT h187) rfl) (nt ?_))
 rcases Bool.eq_false_or_eq_true (r194) with h199 | h199
 refine jF (cn h199) (Wp.skip (bN (Fin.then (Wp.region (Mz rfl (fw (.int .i64 ((k137 + 1 : Nat) : Int)) (Yl.int (e := IntKind.i64.wrap (((k137 : Nat) : Int) + 1)) yk (by rw [IntWalk.i64_in _ (by omega)]; omega)) (Az rfl (WL.nil ?_))))))))
 have H200 := H198.pk [2, 0, 3, 4, 1]
 exact Fin.round (k136, k137 + 1, f151) ⟨rfl, rfl, rfl, rfl, rfl, rfl, rfl, rfl, rfl, rfl, trivial⟩ (dm146.2 ⟨H200, by omega, by omega, by omega, et (hq147) (et (ip h153) (et (bnd_of hr162) (et (ifF h166) (et (bnd_of (getD_of hx186)) (et (ip h187) (et (bnd_of hr195) (ip h199)))))))⟩) (by show f151 < f151 + 1; omega)
 refine jT (cn h199) (sr (An rfl (rt (bR (tR (tR (bR (tR (bR (tR (tR (bR (tR (rs ?_))))))))))))))
 have H201 := H198.pk []
 obtain rfl : _ = false := hr.symm.trans (et (bnd_of hr27) (et (bnd_of hr39) (et (iN h56) (lp_r (et (hq82) (et (congrArg (fun q => w10_CachePinned_L0 p0 r26 q l67 z69 l70 m71) hd96) (et (ip h104) (et (bnd_of hr115) (et (bnd_of (getD_of hx130)) (et (ip h131) (et (ip h132) (lpS_r (et (hq147) (et (ip h153) (et (bnd_of hr162) (et (ifF h166) (et (bnd_of (getD_of hx186)) (et (ip h187) (et (bnd_of hr195) (ifF h199))))))))))))))))))))
 exact ⟨rfl, H201⟩
 refine Sz (dF h187) (Sz (dF h187) (Sz (dF h187) (Sz (dF h187) (fw (.bool false) (Yl.pickF rfl (dF h187) rfl) (nt (jf (Wp.skip (bN (Fin.then (Wp.region (Mz rfl (fw (.int .i64 ((k137 + 1 : Nat) : Int)) (Yl.int (e := IntKind.i64.wrap (((k137 : Nat) : Int) + 1)) yk (by rw [IntWalk.i64_in _ (by omega)]; omega)) (Az rfl (WL.nil ?_))))))))))))))
 have H202 := H165.pk [2, 0, 3, 4, 1]
 exact Fin.round (k136, k137 + 1, f151) ⟨rfl, rfl, rfl, rfl, rfl, rfl, rfl, rfl, rfl, rfl, trivial⟩ (dm146.2 ⟨H202, by omega, by omega, by omega, et (hq147) (et (ip h153) (et (bnd_of hr162) (et (ifF h166) (et (bnd_of (getD_of hx186)) (iN h187)))))⟩) (by show f151 < f151 + 1; omega)
 refine jF (dF h153) (Wp.exit (Fin.thenX ?_))
 have hL203 : w10_CachePinned_L1 p0 l70 x94 r113 r114 x129 ((Int.toNat (7 - 1)) + 1) 0 1 = Sum.inl k136 := et (hq147) (iN h153)
 refine Fin.thenX (Fin.blockX (Fin.then (sr (Mz rfl (Mz rfl (Kz (.bool (decide (((k136 : Nat) : Int) > ((1 + ((Int.toNat ((remI p0 6) + 6)) % 6) : Nat) : Int)))) (nt ?_)))))))
 by_cases h204 : ((k136 : Nat) : Int) > ((1 + ((Int.toNat ((remI p0 6) + 6)) % 6) : Nat) : Int)
 refine jT (dT h204) (sr (An rfl (rt (bR (tR (tR (bR (tR (rs ?_)))))))))
 have H205 := H142.pk []
 obtain rfl : _ = false := hr.symm.trans (et (bnd_of hr27) (et (bnd_of hr39) (et (iN h56) (lp_r (et (hq82) (et (congrArg (fun q => w10_CachePinned_L0 p0 r26 q l67 z69 l70 m71) hd96) (et (ip h104) (et (bnd_of hr115) (et (bnd_of (getD_of hx130)) (et (ip h131) (et (ip h132) (et (lpS_l hL203) (ip h204)))))))))))))
 exact ⟨rfl, H205⟩
 refine jF (dF h204) (Wp.skip (bN (Fin.then (Wp.region (fw (.int .i64 ((k64 + 1 : Nat) : Int)) (Yl.int (e := IntKind.i64.wrap (((k64 : Nat) : Int) + 1)) yk (by rw [IntWalk.i64_in _ (by omega)]; omega)) (Mz rfl (WL.nil ?_)))))))
 have H206 := H142.pk [0, 1, 4, 2, 3]
 exact Fin.round (k64 + 1, A119, c120, d121, r113.xplaces.ls, r113.xhand, (List.set l70 (1 + ((Int.toNat ((remI x94.xN 6) + 6)) % 6)) (IntKind.i64.wrap (x129 - 1))), r114) ⟨rfl, rfl, rfl, rfl, rfl, rfl, rfl, rfl, trivial⟩ (dm81.2 ⟨H206, by first | omega | (simp only [List.length_set] <;> omega) | (simp only [List.length_replicate]), by exact hd122, by omega, by omega, by omega, by first | assumption | exact bs_set (by assumption) (Nat.zero_le _) | exact bs_set (by assumption) (by omega) | exact bs_set (by assumption) (by dsimp only; omega) | exact bs_rep (Nat.zero_le _), by first | omega | (dsimp only; omega) | (simp only [List.length_replicate] <;> omega), by first | omega | (simp only [List.length_replicate] <;> omega), by omega, Eq.trans (hq82) (Eq.trans (congrArg (fun q => w10_CachePinned_L0 p0 r26 q l67 z69 l70 m71) hd96) (Eq.trans (if_pos h104) (Eq.trans (bnd_of hr115) (Eq.trans (bnd_of (getD_of hx130)) (Eq.trans (if_pos h131) (Eq.trans (if_pos h132) (Eq.trans (lpS_l hL203) (if_neg h204))))))))⟩) (by show l1.length - (k64 + 1) < l1.length - k64; omega)
 refine jF (dF h132) (sk (sr (An rfl (Wp.seq (sr (An rfl (bo ?_)))))))
 have H211 := H118.pk [0, 1, 2, 3, 4]
 obtain ⟨I215, hI216⟩ : ∃ q : (Nat × Nat × Nat) → World → Prop, q = fun (i : Nat × Nat × Nat) w' => Own w D w' [blk g53 [.iface 24 (.pointer (some ⟨g43, 0, none⟩)), .slice A119 r113.xplaces.ls.length c120, .int .i64 r113.xhand] 67, row A119 r113.xplaces.ls.length c120 (List.flatMap placeD.cells d121) 75 7, sepL (List.flatMap placeD.own d121), BackO g43 r114, row (some ⟨g60, 0, none⟩) 8 8 (List.flatMap (eI .i64) l70) 61 1] ∧ ((1 ≤ i.2.1 ∧ i.2.1 ≤ 7) ∧ (0 ≤ i.1 ∧ i.1 < i.2.1) ∧ Int.toNat (7 - i.2.1) < i.2.2 ∧ w10_CachePinned_L2 p0 l70 r113 r114 ((Int.toNat (7 - 1)) + 1) 0 1 = w10_CachePinned_L2 p0 l70 r113 r114 i.2.2 i.1 i.2.1) := ⟨_, rfl⟩
 have dm217 : ∀ {k207 : Nat} {k208 : Nat} {f210 : Nat} {w' : World}, I215 (k207, k208, f210) w' ↔ Own w D w' [blk g53 [.iface 24 (.pointer (some ⟨g43, 0, none⟩)), .slice A119 r113.xplaces.ls.length c120, .int .i64 r113.xhand] 67, row A119 r113.xplaces.ls.length c120 (List.flatMap placeD.cells d121) 75 7, sepL (List.flatMap placeD.own d121), BackO g43 r114, row (some ⟨g60, 0, none⟩) 8 8 (List.flatMap (eI .i64) l70) 61 1] ∧ (1 ≤ k208 ∧ k208 ≤ 7) ∧ (0 ≤ k207 ∧ k207 < k208) ∧ Int.toNat (7 - k208) < f210 ∧ w10_CachePinned_L2 p0 l70 r113 r114 ((Int.toNat (7 - 1)) + 1) 0 1 = w10_CachePinned_L2 p0 l70 r113 r114 f210 k207 k208 := by intros; subst hI216; exact Iff.rfl
 refine Wp.loop (fun i : Nat × Nat × Nat => [(4, .bool false), (15, .int .i64 ((i.1 : Nat) : Int)), (16, .int .i64 ((i.2.1 : Nat) : Int)), (48, .int .i64 ((k64 : Nat) : Int)), (47, .int .i64 ((l1.length : Nat) : Int)), (46, .slice A1 l1.length c1), (8, .pointer (some ⟨g60, 0, none⟩)), (6, .pointer (some ⟨g53, 0, none⟩)), (0, .int .i64 ((1 + ((Int.toNat ((remI p0 6) + 6)) % 6) : Nat) : Int)), (5, .bool r26)]) I215 (fun i => i.2.2) (0, 1, (Int.toNat (7 - 1)) + 1) ⟨rfl, rfl, rfl, rfl, rfl, rfl, rfl, rfl, rfl, rfl, trivial⟩ (dm217.2 ⟨H211, by omega, by omega, by omega, rfl⟩) ?_
 rintro ⟨k207, k208, f210⟩ w212 hf214
 show Wp _ _ _ [(4, .bool false), (15, .int .i64 ((k207 : Nat) : Int)), (16, .int .i64 ((k208 : Nat) : Int)), (48, .int .i64 ((k64 : Nat) : Int)), (47, .int .i64 ((l1.length : Nat) : Int)), (46, .slice A1 l1.length c1), (8, .pointer (some ⟨g60, 0, none⟩)), (6, .pointer (some ⟨g53, 0, none⟩)), (0, .int .i64 ((1 + ((Int.toNat ((remI p0 6) + 6)) % 6) : Nat) : Int)), (5, .bool r26)] _ _
 obtain ⟨H213, hi219, hi220, hi221, hq218⟩ := dm217.1 hf214
 obtain ⟨f222, hf223⟩ : ∃ q, f210 = q + 1 := ⟨f210 - 1, by omega⟩
 subst hf223
 refine Wp.seq (sr (Mz rfl (Kz (.bool (decide (((k208 : Nat) : Int) ≤ 6))) (nt ?_))))
 by_cases h224 : ((k208 : Nat) : Int) ≤ 6
 refine jT (dT h224) (sk (Wp.seq (bo (Wp.seq (sr (Mz rfl (Mz rfl ?_)))))))
 have H225 := H213.pk [0, 3, 1, 2, 4]
 have hb231 := H225.rowC (i := 2) rfl
 obtain ⟨r232, hr233⟩ : ∃ q, cache_Cache_Has r113 ((k208 : Nat) : Int) r114 = q := ⟨_, rfl⟩
 obtain ⟨D226, HP227, ro228, bk229, rr230⟩ := Own.enter2 H225
 refine cl Try.call20 (cache_Cache_Has_ok _ _ g53 r113 A119 c120 d121 ((k208 : Nat) : Int) g43 r114 r232 HP227 hd122 (rr230 _ 0 _ rfl row_rds) (show r113.xplaces.ls.length ≤ c120 ∧ r113.xplaces.ls.length ≤ 9223372036854775807 from by omega) (fun x9 h9 => ⟨rr230 _ 1 _ rfl (sepL_mem (List.mem_flatMap.2 ⟨x9, h9, .head _⟩) row_rds), own_rd (φ := fun _ => _) H225 (i := 3) rfl (sepL_mem (List.mem_flatMap.2 ⟨x9, h9, .head _⟩) row_le2)⟩) (by first | omega | (dsimp only; omega) | (simp only [List.length_set] <;> omega)) hr233) ?_
 rintro _ w234 ⟨rfl, HQ235⟩
 have H236 := bk229 _ _ HQ235
 refine nt ?_
 rcases Bool.eq_false_or_eq_true (r232) with h237 | h237
 refine jT h237 (Wp.region (Mz rfl (fw (.int .i64 ((k207 + 1 : Nat) : Int)) (Yl.int (e := IntKind.i64.wrap (((k207 : Nat) : Int) + 1)) yk (by rw [IntWalk.i64_in _ (by omega)]; omega)) (Ar rfl (Mz rfl ?_)))))
 obtain ⟨x238, hx239⟩ := rds_at (ls := l70) (i := k208) eI_len (by decide) (H236.rds (i := 4) rfl) (by first | omega | (simp; done) | (simp; omega))
 refine fw (.pointer (some ⟨ab (some ⟨g60, 0, none⟩), ao (some ⟨g60, 0, none⟩) + k208 * 1, none⟩)) (Yl.indexArr (g := g60) (i := k208) (m := 8) (sz := 1) Try.underlying61 Try.sizeOf3 rfl rfl (by omega)) (fw (.int .i64 x238) (Yl.load rfl (Lds.one Try.isAgg3 (((H236.rds (i := 4) rfl).elem eI_len hx239 (by decide)).at_ (k := 0) rfl))) (Kz (.bool (decide (x238 > 0))) (Mz rfl ?_)))
 by_cases h240 : x238 > 0
 refine gw (.pointer (some ⟨g53, 0, none⟩)) (dT h240) (Yl.move rfl) (gw (.int .i64 ((k208 : Nat) : Int)) (dT h240) (Yl.move rfl) ?_)
 have hb246 := H236.rowC (i := 2) rfl
 obtain ⟨r247, hr248⟩ : ∃ q, cache_Cache_Has r113 ((k208 : Nat) : Int) r114 = q := ⟨_, rfl⟩
 obtain ⟨D241, HP242, ro243, bk244, rr245⟩ := Own.enter2 H236
 refine clG (decide_eq_true h240) Try.call20 (cache_Cache_Has_ok _ _ g53 r113 A119 c120 d121 ((k208 : Nat) : Int) g43 r114 r247 HP242 hd122 (rr245 _ 0 _ rfl row_rds) (show r113.xplaces.ls.length ≤ c120 ∧ r113.xplaces.ls.length ≤ 9223372036854775807 from by omega) (fun x9 h9 => ⟨rr245 _ 1 _ rfl (sepL_mem (List.mem_flatMap.2 ⟨x9, h9, .head _⟩) row_rds), own_rd (φ := fun _ => _) H236 (i := 3) rfl (sepL_mem (List.mem_flatMap.2 ⟨x9, h9, .head _⟩) row_le2)⟩) (by first | omega | (dsimp only; omega) | (simp only [List.length_set] <;> omega)) hr248) ?_
 rintro _ w249 ⟨rfl, HQ250⟩
 have H251 := bk244 _ _ HQ250
 refine Gz (.bool (!r247)) (dT h240) (fw (.bool (!r247)) (Yl.pickT rfl (dT h240) rfl) (nt ?_))
 rcases Bool.eq_false_or_eq_true (r247) with h252 | h252
 refine jF (cn h252) (Wp.skip (bN (Fin.then (Wp.region (Mz rfl (fw (.int .i64 ((k208 + 1 : Nat) : Int)) (Yl.int (e := IntKind.i64.wrap (((k208 : Nat) : Int) + 1)) yk (by rw [IntWalk.i64_in _ (by omega)]; omega)) (Az rfl (WL.nil ?_))))))))
 have H253 := H251.pk [0, 2, 3, 1, 4]
 exact Fin.round (k207 + 1, k208 + 1, f222) ⟨rfl, rfl, rfl, rfl, rfl, rfl, rfl, rfl, rfl, rfl, trivial⟩ (dm217.2 ⟨H253, by omega, by omega, by omega, et (hq218) (et (ip h224) (et (bnd_of hr233) (et (ip h237) (et (bnd_of (getD_of hx239)) (et (ip h240) (et (bnd_of hr248) (ip h252)))))))⟩) (by show f222 < f222 + 1; omega)
 refine jT (cn h252) (sr (An rfl (rt (bR (tR (tR (bR (tR (bR (tR (tR (bR (tR (rs ?_))))))))))))))
 have H254 := H251.pk []
 obtain rfl : _ = false := hr.symm.trans (et (bnd_of hr27) (et (bnd_of hr39) (et (iN h56) (lp_r (et (hq82) (et (congrArg (fun q => w10_CachePinned_L0 p0 r26 q l67 z69 l70 m71) hd96) (et (ip h104) (et (bnd_of hr115) (et (bnd_of (getD_of hx130)) (et (ip h131) (et (iN h132) (lpS_r (et (hq218) (et (ip h224) (et (bnd_of hr233) (et (ip h237) (et (bnd_of (getD_of hx239)) (et (ip h240) (et (bnd_of hr248) (ifF h252))))))))))))))))))))
 exact ⟨rfl, H254⟩
 refine Sz (dF h240) (Sz (dF h240) (Sz (dF h240) (Sz (dF h240) (fw (.bool false) (Yl.pickF rfl (dF h240) rfl) (nt (jf (Wp.skip (bN (Fin.then (Wp.region (Mz rfl (fw (.int .i64 ((k208 + 1 : Nat) : Int)) (Yl.int (e := IntKind.i64.wrap (((k208 : Nat) : Int) + 1)) yk (by rw [IntWalk.i64_in _ (by omega)]; omega)) (Az rfl (WL.nil ?_))))))))))))))
 have H255 := H236.pk [0, 2, 3, 1, 4]
 exact Fin.round (k207 + 1, k208 + 1, f222) ⟨rfl, rfl, rfl, rfl, rfl, rfl, rfl, rfl, rfl, rfl, trivial⟩ (dm217.2 ⟨H255, by omega, by omega, by omega, et (hq218) (et (ip h224) (et (bnd_of hr233) (et (ip h237) (et (bnd_of (getD_of hx239)) (iN h240)))))⟩) (by show f222 < f222 + 1; omega)
 refine jF h237 (sk (sr (Mz rfl ?_)))
 obtain ⟨x256, hx257⟩ := rds_at (ls := l70) (i := k208) eI_len (by decide) (H236.rds (i := 4) rfl) (by first | omega | (simp; done) | (simp; omega))
 refine fw (.pointer (some ⟨ab (some ⟨g60, 0, none⟩), ao (some ⟨g60, 0, none⟩) + k208 * 1, none⟩)) (Yl.indexArr (g := g60) (i := k208) (m := 8) (sz := 1) Try.underlying61 Try.sizeOf3 rfl rfl (by omega)) (fw (.int .i64 x256) (Yl.load rfl (Lds.one Try.isAgg3 (((H236.rds (i := 4) rfl).elem eI_len hx257 (by decide)).at_ (k := 0) rfl))) (Kz (.bool (decide (x256 > 0))) (Mz rfl ?_)))
 by_cases h258 : x256 > 0
 refine gw (.pointer (some ⟨g53, 0, none⟩)) (dT h258) (Yl.move rfl) (gw (.int .i64 ((k208 : Nat) : Int)) (dT h258) (Yl.move rfl) ?_)
 have hb264 := H236.rowC (i := 2) rfl
 obtain ⟨r265, hr266⟩ : ∃ q, cache_Cache_Has r113 ((k208 : Nat) : Int) r114 = q := ⟨_, rfl⟩
 obtain ⟨D259, HP260, ro261, bk262, rr263⟩ := Own.enter2 H236
 refine clG (decide_eq_true h258) Try.call20 (cache_Cache_Has_ok _ _ g53 r113 A119 c120 d121 ((k208 : Nat) : Int) g43 r114 r265 HP260 hd122 (rr263 _ 0 _ rfl row_rds) (show r113.xplaces.ls.length ≤ c120 ∧ r113.xplaces.ls.length ≤ 9223372036854775807 from by omega) (fun x9 h9 => ⟨rr263 _ 1 _ rfl (sepL_mem (List.mem_flatMap.2 ⟨x9, h9, .head _⟩) row_rds), own_rd (φ := fun _ => _) H236 (i := 3) rfl (sepL_mem (List.mem_flatMap.2 ⟨x9, h9, .head _⟩) row_le2)⟩) (by first | omega | (dsimp only; omega) | (simp only [List.length_set] <;> omega)) hr266) ?_
 rintro _ w267 ⟨rfl, HQ268⟩
 have H269 := bk262 _ _ HQ268
 refine Gz (.bool (!r265)) (dT h258) (fw (.bool (!r265)) (Yl.pickT rfl (dT h258) rfl) (nt ?_))
 rcases Bool.eq_false_or_eq_true (r265) with h270 | h270
 refine jF (cn h270) (Wp.skip (bN (Fin.then (Wp.region (Mz rfl (fw (.int .i64 ((k208 + 1 : Nat) : Int)) (Yl.int (e := IntKind.i64.wrap (((k208 : Nat) : Int) + 1)) yk (by rw [IntWalk.i64_in _ (by omega)]; omega)) (Az rfl (WL.nil ?_))))))))
 have H271 := H269.pk [0, 2, 3, 1, 4]
 exact Fin.round (k207, k208 + 1, f222) ⟨rfl, rfl, rfl, rfl, rfl, rfl, rfl, rfl, rfl, rfl, trivial⟩ (dm217.2 ⟨H271, by omega, by omega, by omega, et (hq218) (et (ip h224) (et (bnd_of hr233) (et (ifF h237) (et (bnd_of (getD_of hx257)) (et (ip h258) (et (bnd_of hr266) (ip h270)))))))⟩) (by show f222 < f222 + 1; omega)
 refine jT (cn h270) (sr (An rfl (rt (bR (tR (tR (bR (tR (bR (tR (tR (bR (tR (rs ?_))))))))))))))
 have H272 := H269.pk []
 obtain rfl : _ = false := hr.symm.trans (et (bnd_of hr27) (et (bnd_of hr39) (et (iN h56) (lp_r (et (hq82) (et (congrArg (fun q => w10_CachePinned_L0 p0 r26 q l67 z69 l70 m71) hd96) (et (ip h104) (et (bnd_of hr115) (et (bnd_of (getD_of hx130)) (et (ip h131) (et (iN h132) (lpS_r (et (hq218) (et (ip h224) (et (bnd_of hr233) (et (ifF h237) (et (bnd_of (getD_of hx257)) (et (ip h258) (et (bnd_of hr266) (ifF h270))))))))))))))))))))
 exact ⟨rfl, H272⟩
 refine Sz (dF h258) (Sz (dF h258) (Sz (dF h258) (Sz (dF h258) (fw (.bool false) (Yl.pickF rfl (dF h258) rfl) (nt (jf (Wp.skip (bN (Fin.then (Wp.region (Mz rfl (fw (.int .i64 ((k208 + 1 : Nat) : Int)) (Yl.int (e := IntKind.i64.wrap (((k208 : Nat) : Int) + 1)) yk (by rw [IntWalk.i64_in _ (by omega)]; omega)) (Az rfl (WL.nil ?_))))))))))))))
 have H273 := H236.pk [0, 2, 3, 1, 4]
 exact Fin.round (k207, k208 + 1, f222) ⟨rfl, rfl, rfl, rfl, rfl, rfl, rfl, rfl, rfl, rfl, trivial⟩ (dm217.2 ⟨H273, by omega, by omega, by omega, et (hq218) (et (ip h224) (et (bnd_of hr233) (et (ifF h237) (et (bnd_of (getD_of hx257)) (iN h258)))))⟩) (by show f222 < f222 + 1; omega)
 refine jF (dF h224) (Wp.exit (Fin.thenX ?_))
 have hL274 : w10_CachePinned_L2 p0 l70 r113 r114 ((Int.toNat (7 - 1)) + 1) 0 1 = Sum.inl k207 := et (hq218) (iN h224)
 refine Fin.thenX (Fin.blockX (Fin.then (sr (Mz rfl (Mz rfl (Kz (.bool (decide (((k207 : Nat) : Int) > ((1 + ((Int.toNat ((remI p0 6) + 6)) % 6) : Nat) : Int)))) (nt ?_)))))))
 by_cases h275 : ((k207 : Nat) : Int) > ((1 + ((Int.toNat ((remI p0 6) + 6)) % 6) : Nat) : Int)
 refine jT (dT h275) (sr (An rfl (rt (bR (tR (tR (bR (tR (rs ?_)))))))))
 have H276 := H213.pk []
 obtain rfl : _ = false := hr.symm.trans (et (bnd_of hr27) (et (bnd_of hr39) (et (iN h56) (lp_r (et (hq82) (et (congrArg (fun q => w10_CachePinned_L0 p0 r26 q l67 z69 l70 m71) hd96) (et (ip h104) (et (bnd_of hr115) (et (bnd_of (getD_of hx130)) (et (ip h131) (et (iN h132) (et (lpS_l hL274) (ip h275)))))))))))))
 exact ⟨rfl, H276⟩
 refine jF (dF h275) (Wp.skip (bN (Fin.then (Wp.region (fw (.int .i64 ((k64 + 1 : Nat) : Int)) (Yl.int (e := IntKind.i64.wrap (((k64 : Nat) : Int) + 1)) yk (by rw [IntWalk.i64_in _ (by omega)]; omega)) (Mz rfl (WL.nil ?_)))))))
 have H277 := H213.pk [4, 0, 3, 1, 2]
 exact Fin.round (k64 + 1, A119, c120, d121, r113.xplaces.ls, r113.xhand, l70, r114) ⟨rfl, rfl, rfl, rfl, rfl, rfl, rfl, rfl, trivial⟩ (dm81.2 ⟨H277, by first | omega | (simp only [List.length_set] <;> omega) | (simp only [List.length_replicate]), by exact hd122, by omega, by omega, by omega, by first | assumption | exact bs_set (by assumption) (Nat.zero_le _) | exact bs_set (by assumption) (by omega) | exact bs_set (by assumption) (by dsimp only; omega) | exact bs_rep (Nat.zero_le _), by first | omega | (dsimp only; omega) | (simp only [List.length_replicate] <;> omega), by first | omega | (simp only [List.length_replicate] <;> omega), by omega, Eq.trans (hq82) (Eq.trans (congrArg (fun q => w10_CachePinned_L0 p0 r26 q l67 z69 l70 m71) hd96) (Eq.trans (if_pos h104) (Eq.trans (bnd_of hr115) (Eq.trans (bnd_of (getD_of hx130)) (Eq.trans (if_pos h131) (Eq.trans (if_neg h132) (Eq.trans (lpS_l hL274) (if_neg h275))))))))⟩) (by show l1.length - (k64 + 1) < l1.length - k64; omega)
 refine jT (dT h131) (sr (An rfl (rt (tR (tR (bR (tR (tR (bR (tR (rs ?_)))))))))))
 have H278 := H118.pk []
 obtain rfl : _ = false := hr.symm.trans (et (bnd_of hr27) (et (bnd_of hr39) (et (iN h56) (lp_r (et (hq82) (et (congrArg (fun q => w10_CachePinned_L0 p0 r26 q l67 z69 l70 m71) hd96) (et (ip h104) (et (bnd_of hr115) (et (bnd_of (getD_of hx130)) (iN h131))))))))))
 exact ⟨rfl, H278⟩
 refine jF (dF h104) (Wp.seq ?_)
 have H279 := H101.pk [1, 2, 3, 4, 5]
 refine Wp.region (Mz rfl (Mz rfl ?_))
 have H280 := H279.pk [1, 3, 4, 2, 0]
 obtain ⟨⟨r286, r287, r288, r289⟩, hr290⟩ : ∃ q : (List UInt8) × Int × CacheT × BackT, cache_Cache_Pin (CacheT.mk (Ll.mk l67) z69) ((1 + ((Int.toNat ((remI x94.xN 6) + 6)) % 6) : Nat) : Int) m71 = q := ⟨_, rfl⟩
 obtain ⟨D281, HP282, ro283, bk284, rr285⟩ := Own.enter (L1 := [blk g53 [.iface 24 (.pointer (some ⟨g43, 0, none⟩)), .slice A65 l67.length c66, .int .i64 z69] 67, row A65 l67.length c66 (List.flatMap placeD.cells d68) 75 7, sepL (List.flatMap placeD.own d68), BackO g43 m71]) (L2 := [row (some ⟨g60, 0, none⟩) 8 8 (List.flatMap (eI .i64) l70) 61 1]) H280
 refine cl Try.call10 (cache_Cache_Pin_ok _ _ g53 (CacheT.mk (Ll.mk l67) z69) A65 c66 d68 ((1 + ((Int.toNat ((remI x94.xN 6) + 6)) % 6) : Nat) : Int) g43 m71 r286 r287 r288 r289 HP282 hi84 (by first | omega | (dsimp only; omega) | (simp only [List.length_set] <;> omega)) (by first | omega | (dsimp only; omega) | (simp only [List.length_set] <;> omega)) (by first | assumption | exact bs_rep (Nat.zero_le _)) (by first | omega | (dsimp only; omega)) hr290) ?_
 rintro _ w291 ⟨A294, c295, A296, c297, d298, rfl, HQ292, hd299, hk300, hk301, hk302, hk303⟩
 have H293 := bk284 _ _ HQ292
 have hl304 := abs_len hd299
 have hb305 := H293.rowC (i := 0) rfl
 have hb306 := H293.rowC (i := 2) rfl
 replace hk300 : r288.xplaces.ls.length = l67.length := hk300
 replace hk301 : BsOk r288.xplaces.ls := hk301
 replace hk302 : r289.xCalls.length ≤ m71.xCalls.length + 200 := hk302
 replace hk303 : 0 ≤ r288.xhand ∧ r288.xhand < ((r288.xplaces.ls.length : Nat) : Int) := hk303
 refine Mz rfl (Kz (.slice A294 r286.length c295) (Kz (.int .i64 r287) (Az rfl (An rfl (Wp.seq (Wp.seq ?_))))))
 have H307 := H293.pk [1, 2, 3, 4, 5]
 refine Wp.region (Mz rfl (Kz (.bool (decide (r287 = 0))) (nt ?_)))
 by_cases h308 : r287 = 0
 refine jT (dT h308) (Wp.region (Mz rfl ?_))
 obtain ⟨x309, hx310⟩ := rds_at (ls := l70) (i := 1 + ((Int.toNat ((remI x94.xN 6) + 6)) % 6)) eI_len (by decide) (H307.rds (i := 4) rfl) (by first | omega | (simp; done) | (simp; omega))
 refine fw (.pointer (some ⟨ab (some ⟨g60, 0, none⟩), ao (some ⟨g60, 0, none⟩) + (1 + ((Int.toNat ((remI x94.xN 6) + 6)) % 6)) * 1, none⟩)) (Yl.indexArr (g := g60) (i := 1 + ((Int.toNat ((remI x94.xN 6) + 6)) % 6)) (m := 8) (sz := 1) Try.underlying61 Try.sizeOf3 rfl rfl (by omega)) (fw (.int .i64 x309) (Yl.load rfl (Lds.one Try.isAgg3 (((H307.rds (i := 4) rfl).elem eI_len hx310 (by decide)).at_ (k := 0) rfl))) (Kz (.int .i64 (IntKind.i64.wrap (x309 + 1))) (fw (.pointer (some ⟨ab (some ⟨g60, 0, none⟩), ao (some ⟨g60, 0, none⟩) + (1 + ((Int.toNat ((remI x94.xN 6) + 6)) % 6)) * 1, none⟩)) (Yl.indexArr (g := g60) (i := 1 + ((Int.toNat ((remI x94.xN 6) + 6)) % 6)) (m := 8) (sz := 1) Try.underlying61 Try.sizeOf3 rfl rfl (by omega)) ?_)))
 have H311 := H307.pk [4, 0, 1, 2, 3]
 refine WL.do0 (Do.storeRow (vs := [.int .i64 (IntKind.i64.wrap (x309 + 1))]) (o := (1 + ((Int.toNat ((remI x94.xN 6) + 6)) % 6)) * 1 + 0) (q := ao (some ⟨g60, 0, none⟩) + (1 + ((Int.toNat ((remI x94.xN 6) + 6)) % 6)) * 1) H311 rfl (by omega) rfl Try.sizeOf3 rfl rfl (Nat.le_of_ble_eq_true rfl) (store_fits eI_len hx310 (Nat.le_of_ble_eq_true rfl)) (flat_set (y := (IntKind.i64.wrap (x309 + 1))) eI_len rfl (Nat.le_of_ble_eq_true rfl) hx310) ?_)
 intro w312 H313
 refine ns (Mz rfl (fw (.bool (decide (¬ (r287 = 0)))) (Yl.bool (e := !(decide (r287 = 0))) yk decide_not.symm) (Mz rfl ?_)))
 have hb314 : (decide (¬ (r287 = 0))) = false := (dF (by omega))
 refine Sz hb314 (Sz hb314 (fw (.bool false) (Yl.pickF rfl hb314 rfl) (nt (jf (sk (sr (An rfl (Wp.seq (sr (An rfl (bo ?_)))))))))))
 have H319 := H313.pk [0, 1, 2, 3, 4]
 obtain ⟨I323, hI324⟩ : ∃ q : (Nat × Nat × Nat) → World → Prop, q = fun (i : Nat × Nat × Nat) w' => Own w D w' [row (some ⟨g60, 0, none⟩) 8 8 (List.flatMap (eI .i64) (List.set l70 (1 + ((Int.toNat ((remI x94.xN 6) + 6)) % 6)) (IntKind.i64.wrap (x309 + 1)))) 61 1, blk g53 [.iface 24 (.pointer (some ⟨g43, 0, none⟩)), .slice A296 r288.xplaces.ls.length c297, .int .i64 r288.xhand] 67, row A296 r288.xplaces.ls.length c297 (List.flatMap placeD.cells d298) 75 7, sepL (List.flatMap placeD.own d298), BackO g43 r289] ∧ ((1 ≤ i.2.1 ∧ i.2.1 ≤ 7) ∧ (0 ≤ i.1 ∧ i.1 < i.2.1) ∧ Int.toNat (7 - i.2.1) < i.2.2 ∧ w10_CachePinned_L3 p0 l70 x94 r288 r289 x309 ((Int.toNat (7 - 1)) + 1) 0 1 = w10_CachePinned_L3 p0 l70 x94 r288 r289 x309 i.2.2 i.1 i.2.1) := ⟨_, rfl⟩
 have dm325 : ∀ {k315 : Nat} {k316 : Nat} {f318 : Nat} {w' : World}, I323 (k315, k316, f318) w' ↔ Own w D w' [row (some ⟨g60, 0, none⟩) 8 8 (List.flatMap (eI .i64) (List.set l70 (1 + ((Int.toNat ((remI x94.xN 6) + 6)) % 6)) (IntKind.i64.wrap (x309 + 1)))) 61 1, blk g53 [.iface 24 (.pointer (some ⟨g43, 0, none⟩)), .slice A296 r288.xplaces.ls.length c297, .int .i64 r288.xhand] 67, row A296 r288.xplaces.ls.length c297 (List.flatMap placeD.cells d298) 75 7, sepL (List.flatMap placeD.own d298), BackO g43 r289] ∧ (1 ≤ k316 ∧ k316 ≤ 7) ∧ (0 ≤ k315 ∧ k315 < k316) ∧ Int.toNat (7 - k316) < f318 ∧ w10_CachePinned_L3 p0 l70 x94 r288 r289 x309 ((Int.toNat (7 - 1)) + 1) 0 1 = w10_CachePinned_L3 p0 l70 x94 r288 r289 x309 f318 k315 k316 := by intros; subst hI324; exact Iff.rfl
 refine Wp.loop (fun i : Nat × Nat × Nat => [(4, .bool false), (15, .int .i64 ((i.1 : Nat) : Int)), (16, .int .i64 ((i.2.1 : Nat) : Int)), (48, .int .i64 ((k64 : Nat) : Int)), (47, .int .i64 ((l1.length : Nat) : Int)), (46, .slice A1 l1.length c1), (8, .pointer (some ⟨g60, 0, none⟩)), (6, .pointer (some ⟨g53, 0, none⟩)), (0, .int .i64 ((1 + ((Int.toNat ((remI p0 6) + 6)) % 6) : Nat) : Int)), (5, .bool r26)]) I323 (fun i => i.2.2) (0, 1, (Int.toNat (7 - 1)) + 1) ⟨rfl, rfl, rfl, rfl, rfl, rfl, rfl, rfl, rfl, rfl, trivial⟩ (dm325.2 ⟨H319, by omega, by omega, by omega, rfl⟩) ?_
 rintro ⟨k315, k316, f318⟩ w320 hf322
 show Wp _ _ _ [(4, .bool false), (15, .int .i64 ((k315 : Nat) : Int)), (16, .int .i64 ((k316 : Nat) : Int)), (48, .int .i64 ((k64 : Nat) : Int)), (47, .int .i64 ((l1.length : Nat) : Int)), (46, .slice A1 l1.length c1), (8, .pointer (some ⟨g60, 0, none⟩)), (6, .pointer (some ⟨g53, 0, none⟩)), (0, .int .i64 ((1 + ((Int.toNat ((remI p0 6) + 6)) % 6) : Nat) : Int)), (5, .bool r26)] _ _
 obtain ⟨H321, hi327, hi328, hi329, hq326⟩ := dm325.1 hf322
 obtain ⟨f330, hf331⟩ : ∃ q, f318 = q + 1 := ⟨f318 - 1, by omega⟩
 subst hf331
 refine Wp.seq (sr (Mz rfl (Kz (.bool (decide (((k316 : Nat) : Int) ≤ 6))) (nt ?_))))
 by_cases h332 : ((k316 : Nat) : Int) ≤ 6
 refine jT (dT h332) (sk (Wp.seq (bo (Wp.seq (sr (Mz rfl (Mz rfl ?_)))))))
 have H333 := H321.pk [1, 4, 0, 2, 3]
 have hb339 := H333.rowC (i := 3) rfl
 obtain ⟨r340, hr341⟩ : ∃ q, cache_Cache_Has r288 ((k316 : Nat) : Int) r289 = q := ⟨_, rfl⟩
 obtain ⟨D334, HP335, ro336, bk337, rr338⟩ := Own.enter2 H333
 refine cl Try.call20 (cache_Cache_Has_ok _ _ g53 r288 A296 c297 d298 ((k316 : Nat) : Int) g43 r289 r340 HP335 hd299 (rr338 _ 1 _ rfl row_rds) (show r288.xplaces.ls.length ≤ c297 ∧ r288.xplaces.ls.length ≤ 9223372036854775807 from by omega) (fun x9 h9 => ⟨rr338 _ 2 _ rfl (sepL_mem (List.mem_flatMap.2 ⟨x9, h9, .head _⟩) row_rds), own_rd (φ := fun _ => _) H333 (i := 4) rfl (sepL_mem (List.mem_flatMap.2 ⟨x9, h9, .head _⟩) row_le2)⟩) (by first | omega | (dsimp only; omega) | (simp only [List.length_set] <;> omega)) hr341) ?_
 rintro _ w342 ⟨rfl, HQ343⟩
 have H344 := bk337 _ _ HQ343
 refine nt ?_
 rcases Bool.eq_false_or_eq_true (r340) with h345 | h345
 refine jT h345 (Wp.region (Mz rfl (fw (.int .i64 ((k315 + 1 : Nat) : Int)) (Yl.int (e := IntKind.i64.wrap (((k315 : Nat) : Int) + 1)) yk (by rw [IntWalk.i64_in _ (by omega)]; omega)) (Ar rfl (Mz rfl ?_)))))
 obtain ⟨x346, hx347⟩ := rds_at (ls := (List.set l70 (1 + ((Int.toNat ((remI x94.xN 6) + 6)) % 6)) (IntKind.i64.wrap (x309 + 1)))) (i := k316) eI_len (by decide) (H344.rds (i := 2) rfl) (by first | omega | (simp; done) | (simp; omega))
 refine fw (.pointer (some ⟨ab (some ⟨g60, 0, none⟩), ao (some ⟨g60, 0, none⟩) + k316 * 1, none⟩)) (Yl.indexArr (g := g60) (i := k316) (m := 8) (sz := 1) Try.underlying61 Try.sizeOf3 rfl rfl (by omega)) (fw (.int .i64 x346) (Yl.load rfl (Lds.one Try.isAgg3 (((H344.rds (i := 2) rfl).elem eI_len hx347 (by decide)).at_ (k := 0) rfl))) (Kz (.bool (decide (x346 > 0))) (Mz rfl ?_)))
 by_cases h348 : x346 > 0
 refine gw (.pointer (some ⟨g53, 0, none⟩)) (dT h348) (Yl.move rfl) (gw (.int .i64 ((k316 : Nat) : Int)) (dT h348) (Yl.move rfl) ?_)
 have hb354 := H344.rowC (i := 3) rfl
 obtain ⟨r355, hr356⟩ : ∃ q, cache_Cache_Has r288 ((k316 : Nat) : Int) r289 = q := ⟨_, rfl⟩
 obtain ⟨D349, HP350, ro351, bk352, rr353⟩ := Own.enter2 H344
 refine clG (decide_eq_true h348) Try.call20 (cache_Cache_Has_ok _ _ g53 r288 A296 c297 d298 ((k316 : Nat) : Int) g43 r289 r355 HP350 hd299 (rr353 _ 1 _ rfl row_rds) (show r288.xplaces.ls.length ≤ c297 ∧ r288.xplaces.ls.length ≤ 9223372036854775807 from by omega) (fun x9 h9 => ⟨rr353 _ 2 _ rfl (sepL_mem (List.mem_flatMap.2 ⟨x9, h9, .head _⟩) row_rds), own_rd (φ := fun _ => _) H344 (i := 4) rfl (sepL_mem (List.mem_flatMap.2 ⟨x9, h9, .head _⟩) row_le2)⟩) (by first | omega | (dsimp only; omega) | (simp only [List.length_set] <;> omega)) hr356) ?_
 rintro _ w357 ⟨rfl, HQ358⟩
 have H359 := bk352 _ _ HQ358
 refine Gz (.bool (!r355)) (dT h348) (fw (.bool (!r355)) (Yl.pickT rfl (dT h348) rfl) (nt ?_))
 rcases Bool.eq_false_or_eq_true (r355) with h360 | h360
 refine jF (cn h360) (Wp.skip (bN (Fin.then (Wp.region (Mz rfl (fw (.int .i64 ((k316 + 1 : Nat) : Int)) (Yl.int (e := IntKind.i64.wrap (((k316 : Nat) : Int) + 1)) yk (by rw [IntWalk.i64_in _ (by omega)]; omega)) (Az rfl (WL.nil ?_))))))))
 have H361 := H359.pk [2, 0, 3, 4, 1]
 exact Fin.round (k315 + 1, k316 + 1, f330) ⟨rfl, rfl, rfl, rfl, rfl, rfl, rfl, rfl, rfl, rfl, trivial⟩ (dm325.2 ⟨H361, by omega, by omega, by omega, et (hq326) (et (ip h332) (et (bnd_of hr341) (et (ip h345) (et (bnd_of (getD_of hx347)) (et (ip h348) (et (bnd_of hr356) (ip h360)))))))⟩) (by show f330 < f330 + 1; omega)
 refine jT (cn h360) (sr (An rfl (rt (bR (tR (tR (bR (tR (bR (tR (tR (bR (tR (rs ?_))))))))))))))
 have H362 := H359.pk []
 obtain rfl : _ = false := hr.symm.trans (et (bnd_of hr27) (et (bnd_of hr39) (et (iN h56) (lp_r (et (hq82) (et (congrArg (fun q => w10_CachePinned_L0 p0 r26 q l67 z69 l70 m71) hd96) (et (iN h104) (et (bnd_of hr290) (et (ip h308) (et (bnd_of (getD_of hx310)) (lpS_r (et (hq326) (et (ip h332) (et (bnd_of hr341) (et (ip h345) (et (bnd_of (getD_of hx347)) (et (ip h348) (et (bnd_of hr356) (ifF h360)))))))))))))))))))
 exact ⟨rfl, H362⟩
 refine Sz (dF h348) (Sz (dF h348) (Sz (dF h348) (Sz (dF h348) (fw (.bool false) (Yl.pickF rfl (dF h348) rfl) (nt (jf (Wp.skip (bN (Fin.then (Wp.region (Mz rfl (fw (.int .i64 ((k316 + 1 : Nat) : Int)) (Yl.int (e := IntKind.i64.wrap (((k316 : Nat) : Int) + 1)) yk (by rw [IntWalk.i64_in _ (by omega)]; omega)) (Az rfl (WL.nil ?_))))))))))))))
 have H363 := H344.pk [2, 0, 3, 4, 1]
 exact Fin.round (k315 + 1, k316 + 1, f330) ⟨rfl, rfl, rfl, rfl, rfl, rfl, rfl, rfl, rfl, rfl, trivial⟩ (dm325.2 ⟨H363, by omega, by omega, by omega, et (hq326) (et (ip h332) (et (bnd_of hr341) (et (ip h345) (et (bnd_of (getD_of hx347)) (iN h348)))))⟩) (by show f330 < f330 + 1; omega)
 refine jF h345 (sk (sr (Mz rfl ?_)))
 obtain ⟨x364, hx365⟩ := rds_at (ls := (List.set l70 (1 + ((Int.toNat ((remI x94.xN 6) + 6)) % 6)) (IntKind.i64.wrap (x309 + 1)))) (i := k316) eI_len (by decide) (H344.rds (i := 2) rfl) (by first | omega | (simp; done) | (simp; omega))
 refine fw (.pointer (some ⟨ab (some ⟨g60, 0, none⟩), ao (some ⟨g60, 0, none⟩) + k316 * 1, none⟩)) (Yl.indexArr (g := g60) (i := k316) (m := 8) (sz := 1) Try.underlying61 Try.sizeOf3 rfl rfl (by omega)) (fw (.int .i64 x364) (Yl.load rfl (Lds.one Try.isAgg3 (((H344.rds (i := 2) rfl).elem eI_len hx365 (by decide)).at_ (k := 0) rfl))) (Kz (.bool (decide (x364 > 0))) (Mz rfl ?_)))
 by_cases h366 : x364 > 0
 refine gw (.pointer (some ⟨g53, 0, none⟩)) (dT h366) (Yl.move rfl) (gw (.int .i64 ((k316 : Nat) : Int)) (dT h366) (Yl.move rfl) ?_)
 have hb372 := H344.rowC (i := 3) rfl
 obtain ⟨r373, hr374⟩ : ∃ q, cache_Cache_Has r288 ((k316 : Nat) : Int) r289 = q := ⟨_, rfl⟩
 obtain ⟨D367, HP368, ro369, bk370, rr371⟩ := Own.enter2 H344
 refine clG (decide_eq_true h366) Try.call20 (cache_Cache_Has_ok _ _ g53 r288 A296 c297 d298 ((k316 : Nat) : Int) g43 r289 r373 HP368 hd299 (rr371 _ 1 _ rfl row_rds) (show r288.xplaces.ls.length ≤ c297 ∧ r288.xplaces.ls.length ≤ 9223372036854775807 from by omega) (fun x9 h9 => ⟨rr371 _ 2 _ rfl (sepL_mem (List.mem_flatMap.2 ⟨x9, h9, .head _⟩) row_rds), own_rd (φ := fun _ => _) H344 (i := 4) rfl (sepL_mem (List.mem_flatMap.2 ⟨x9, h9, .head _⟩) row_le2)⟩) (by first | omega | (dsimp only; omega) | (simp only [List.length_set] <;> omega)) hr374) ?_
 rintro _ w375 ⟨rfl, HQ376⟩
 have H377 := bk370 _ _ HQ376
 refine Gz (.bool (!r373)) (dT h366) (fw (.bool (!r373)) (Yl.pickT rfl (dT h366) rfl) (nt ?_))
 rcases Bool.eq_false_or_eq_true (r373) with h378 | h378
 refine jF (cn h378) (Wp.skip (bN (Fin.then (Wp.region (Mz rfl (fw (.int .i64 ((k316 + 1 : Nat) : Int)) (Yl.int (e := IntKind.i64.wrap (((k316 : Nat) : Int) + 1)) yk (by rw [IntWalk.i64_in _ (by omega)]; omega)) (Az rfl (WL.nil ?_))))))))
 have H379 := H377.pk [2, 0, 3, 4, 1]
 exact Fin.round (k315, k316 + 1, f330) ⟨rfl, rfl, rfl, rfl, rfl, rfl, rfl, rfl, rfl, rfl, trivial⟩ (dm325.2 ⟨H379, by omega, by omega, by omega, et (hq326) (et (ip h332) (et (bnd_of hr341) (et (ifF h345) (et (bnd_of (getD_of hx365)) (et (ip h366) (et (bnd_of hr374) (ip h378)))))))⟩) (by show f330 < f330 + 1; omega)
 refine jT (cn h378) (sr (An rfl (rt (bR (tR (tR (bR (tR (bR (tR (tR (bR (tR (rs ?_))))))))))))))
 have H380 := H377.pk []
 obtain rfl : _ = false := hr.symm.trans (et (bnd_of hr27) (et (bnd_of hr39) (et (iN h56) (lp_r (et (hq82) (et (congrArg (fun q => w10_CachePinned_L0 p0 r26 q l67 z69 l70 m71) hd96) (et (iN h104) (et (bnd_of hr290) (et (ip h308) (et (bnd_of (getD_of hx310)) (lpS_r (et (hq326) (et (ip h332) (et (bnd_of hr341) (et (ifF h345) (et (bnd_of (getD_of hx365)) (et (ip h366) (et (bnd_of hr374) (ifF h378)))))))))))))))))))
 exact ⟨rfl, H380⟩
 refine Sz (dF h366) (Sz (dF h366) (Sz (dF h366) (Sz (dF h366) (fw (.bool false) (Yl.pickF rfl (dF h366) rfl) (nt (jf (Wp.skip (bN (Fin.then (Wp.region (Mz rfl (fw (.int .i64 ((k316 + 1 : Nat) : Int)) (Yl.int (e := IntKind.i64.wrap (((k316 : Nat) : Int) + 1)) yk (by rw [IntWalk.i64_in _ (by omega)]; omega)) (Az rfl (WL.nil ?_))))))))))))))
 have H381 := H344.pk [2, 0, 3, 4, 1]
 exact Fin.round (k315, k316 + 1, f330) ⟨rfl, rfl, rfl, rfl, rfl, rfl, rfl, rfl, rfl, rfl, trivial⟩ (dm325.2 ⟨H381, by omega, by omega, by omega, et (hq326) (et (ip h332) (et (bnd_of hr341) (et (ifF h345) (et (bnd_of (getD_of hx365)) (iN h366)))))⟩) (by show f330 < f330 + 1; omega)
 refine jF (dF h332) (Wp.exit (Fin.thenX ?_))
 have hL382 : w10_CachePinned_L3 p0 l70 x94 r288 r289 x309 ((Int.toNat (7 - 1)) + 1) 0 1 = Sum.inl k315 := et (hq326) (iN h332)
 refine Fin.thenX (Fin.blockX (Fin.then (sr (Mz rfl (Mz rfl (Kz (.bool (decide (((k315 : Nat) : Int) > ((1 + ((Int.toNat ((remI p0 6) + 6)) % 6) : Nat) : Int)))) (nt ?_)))))))
 by_cases h383 : ((k315 : Nat) : Int) > ((1 + ((Int.toNat ((remI p0 6) + 6)) % 6) : Nat) : Int)
 refine jT (dT h383) (sr (An rfl (rt (bR (tR (tR (bR (tR (rs ?_)))))))))
 have H384 := H321.pk []
 obtain rfl : _ = false := hr.symm.trans (et (bnd_of hr27) (et (bnd_of hr39) (et (iN h56) (lp_r (et (hq82) (et (congrArg (fun q => w10_CachePinned_L0 p0 r26 q l67 z69 l70 m71) hd96) (et (iN h104) (et (bnd_of hr290) (et (ip h308) (et (bnd_of (getD_of hx310)) (et (lpS_l hL382) (ip h383))))))))))))
 exact ⟨rfl, H384⟩
 refine jF (dF h383) (Wp.skip (bN (Fin.then (Wp.region (fw (.int .i64 ((k64 + 1 : Nat) : Int)) (Yl.int (e := IntKind.i64.wrap (((k64 : Nat) : Int) + 1)) yk (by rw [IntWalk.i64_in _ (by omega)]; omega)) (Mz rfl (WL.nil ?_)))))))
 have H385 := H321.pk [0, 1, 4, 2, 3]
 exact Fin.round (k64 + 1, A296, c297, d298, r288.xplaces.ls, r288.xhand, (List.set l70 (1 + ((Int.toNat ((remI x94.xN 6) + 6)) % 6)) (IntKind.i64.wrap (x309 + 1))), r289) ⟨rfl, rfl, rfl, rfl, rfl, rfl, rfl, rfl, trivial⟩ (dm81.2 ⟨H385, by first | omega | (simp only [List.length_set] <;> omega) | (simp only [List.length_replicate]), by exact hd299, by omega, by omega, by omega, by first | assumption | exact bs_set (by assumption) (Nat.zero_le _) | exact bs_set (by assumption) (by omega) | exact bs_set (by assumption) (by dsimp only; omega) | exact bs_rep (Nat.zero_le _), by first | omega | (dsimp only; omega) | (simp only [List.length_replicate] <;> omega), by first | omega | (simp only [List.length_replicate] <;> omega), by omega, Eq.trans (hq82) (Eq.trans (congrArg (fun q => w10_CachePinned_L0 p0 r26 q l67 z69 l70 m71) hd96) (Eq.trans (if_neg h104) (Eq.trans (bnd_of hr290) (Eq.trans (if_pos h308) (Eq.trans (bnd_of (getD_of hx310)) (Eq.trans (lpS_l hL382) (if_neg h383)))))))⟩) (by show l1.length - (k64 + 1) < l1.length - k64; omega)
 refine jF (dF h308) (sk (sr (Mz rfl (fw (.bool (decide (¬ (r287 = 0)))) (Yl.bool (e := !(decide (r287 = 0))) yk decide_not.symm) (Mz rfl ?_)))))
 have hb386 : (decide (¬ (r287 = 0))) = true := (dT (by omega))
 refine WL.valG (v := .int .i64 r287) rfl rfl hb386 rfl (Yl.move rfl) (WL.valG (v := .bool (decide (¬ (r287 = 100)))) rfl rfl hb386 rfl (Yl.bool (e := !(decide (r287 = 100))) yk decide_not.symm) (fw (.bool (decide (¬ (r287 = 100)))) (Yl.pickT rfl hb386 rfl) (nt ?_)))
 by_cases h387 : r287 = 100
 refine jF (dF (not_not_intro h387)) (sk (sr (An rfl (Wp.seq (sr (An rfl (bo ?_)))))))
 have H392 := H307.pk [0, 1, 2, 3, 4]
 obtain ⟨I396, hI397⟩ : ∃ q : (Nat × Nat × Nat) → World → Prop, q = fun (i : Nat × Nat × Nat) w' => Own w D w' [blk g53 [.iface 24 (.pointer (some ⟨g43, 0, none⟩)), .slice A296 r288.xplaces.ls.length c297, .int .i64 r288.xhand] 67, row A296 r288.xplaces.ls.length c297 (List.flatMap placeD.cells d298) 75 7, sepL (List.flatMap placeD.own d298), BackO g43 r289, row (some ⟨g60, 0, none⟩) 8 8 (List.flatMap (eI .i64) l70) 61 1] ∧ ((1 ≤ i.2.1 ∧ i.2.1 ≤ 7) ∧ (0 ≤ i.1 ∧ i.1 < i.2.1) ∧ Int.toNat (7 - i.2.1) < i.2.2 ∧ w10_CachePinned_L4 p0 l70 r288 r289 ((Int.toNat (7 - 1)) + 1) 0 1 = w10_CachePinned_L4 p0 l70 r288 r289 i.2.2 i.1 i.2.1) := ⟨_, rfl⟩
 have dm398 : ∀ {k388 : Nat} {k389 : Nat} {f391 : Nat} {w' : World}, I396 (k388, k389, f391) w' ↔ Own w D w' [blk g53 [.iface 24 (.pointer (some ⟨g43, 0, none⟩)), .slice A296 r288.xplaces.ls.length c297, .int .i64 r288.xhand] 67, row A296 r288.xplaces.ls.length c297 (List.flatMap placeD.cells d298) 75 7, sepL (List.flatMap placeD.own d298), BackO g43 r289, row (some ⟨g60, 0, none⟩) 8 8 (List.flatMap (eI .i64) l70) 61 1] ∧ (1 ≤ k389 ∧ k389 ≤ 7) ∧ (0 ≤ k388 ∧ k388 < k389) ∧ Int.toNat (7 - k389) < f391 ∧ w10_CachePinned_L4 p0 l70 r288 r289 ((Int.toNat (7 - 1)) + 1) 0 1 = w10_CachePinned_L4 p0 l70 r288 r289 f391 k388 k389 := by intros; subst hI397; exact Iff.rfl
 refine Wp.loop (fun i : Nat × Nat × Nat => [(4, .bool false), (15, .int .i64 ((i.1 : Nat) : Int)), (16, .int .i64 ((i.2.1 : Nat) : Int)), (48, .int .i64 ((k64 : Nat) : Int)), (47, .int .i64 ((l1.length : Nat) : Int)), (46, .slice A1 l1.length c1), (8, .pointer (some ⟨g60, 0, none⟩)), (6, .pointer (some ⟨g53, 0, none⟩)), (0, .int .i64 ((1 + ((Int.toNat ((remI p0 6) + 6)) % 6) : Nat) : Int)), (5, .bool r26)]) I396 (fun i => i.2.2) (0, 1, (Int.toNat (7 - 1)) + 1) ⟨rfl, rfl, rfl, rfl, rfl, rfl, rfl, rfl, rfl, rfl, trivial⟩ (dm398.2 ⟨H392, by omega, by omega, by omega, rfl⟩) ?_
 rintro ⟨k388, k389, f391⟩ w393 hf395
 show Wp _ _ _ [(4, .bool false), (15, .int .i64 ((k388 : Nat) : Int)), (16, .int .i64 ((k389 : Nat) : Int)), (48, .int .i64 ((k64 : Nat) : Int)), (47, .int .i64 ((l1.length : Nat) : Int)), (46, .slice A1 l1.length c1), (8, .pointer (some ⟨g60, 0, none⟩)), (6, .pointer (some ⟨g53, 0, none⟩)), (0, .int .i64 ((1 + ((Int.toNat ((remI p0 6) + 6)) % 6) : Nat) : Int)), (5, .bool r26)] _ _
 obtain ⟨H394, hi400, hi401, hi402, hq399⟩ := dm398.1 hf395
 obtain ⟨f403, hf404⟩ : ∃ q, f391 = q + 1 := ⟨f391 - 1, by omega⟩
 subst hf404
 refine Wp.seq (sr (Mz rfl (Kz (.bool (decide (((k389 : Nat) : Int) ≤ 6))) (nt ?_))))
 by_cases h405 : ((k389 : Nat) : Int) ≤ 6
 refine jT (dT h405) (sk (Wp.seq (bo (Wp.seq (sr (Mz rfl (Mz rfl ?_)))))))
 have H406 := H394.pk [0, 3, 1, 2, 4]
 have hb412 := H406.rowC (i := 2) rfl
 obtain ⟨r413, hr414⟩ : ∃ q, cache_Cache_Has r288 ((k389 : Nat) : Int) r289 = q := ⟨_, rfl⟩
 obtain ⟨D407, HP408, ro409, bk410, rr411⟩ := Own.enter2 H406
 refine cl Try.call20 (cache_Cache_Has_ok _ _ g53 r288 A296 c297 d298 ((k389 : Nat) : Int) g43 r289 r413 HP408 hd299 (rr411 _ 0 _ rfl row_rds) (show r288.xplaces.ls.length ≤ c297 ∧ r288.xplaces.ls.length ≤ 9223372036854775807 from by omega) (fun x9 h9 => ⟨rr411 _ 1 _ rfl (sepL_mem (List.mem_flatMap.2 ⟨x9, h9, .head _⟩) row_rds), own_rd (φ := fun _ => _) H406 (i := 3) rfl (sepL_mem (List.mem_flatMap.2 ⟨x9, h9, .head _⟩) row_le2)⟩) (by first | omega | (dsimp only; omega) | (simp only [List.length_set] <;> omega)) hr414) ?_
 rintro _ w415 ⟨rfl, HQ416⟩
 have H417 := bk410 _ _ HQ416
 refine nt ?_
 rcases Bool.eq_false_or_eq_true (r413) with h418 | h418
 refine jT h418 (Wp.region (Mz rfl (fw (.int .i64 ((k388 + 1 : Nat) : Int)) (Yl.int (e := IntKind.i64.wrap (((k388 : Nat) : Int) + 1)) yk (by rw [IntWalk.i64_in _ (by omega)]; omega)) (Ar rfl (Mz rfl ?_)))))
 obtain ⟨x419, hx420⟩ := rds_at (ls := l70) (i := k389) eI_len (by decide) (H417.rds (i := 4) rfl) (by first | omega | (simp; done) | (simp; omega))
 refine fw (.pointer (some ⟨ab (some ⟨g60, 0, none⟩), ao (some ⟨g60, 0, none⟩) + k389 * 1, none⟩)) (Yl.indexArr (g := g60) (i := k389) (m := 8) (sz := 1) Try.underlying61 Try.sizeOf3 rfl rfl (by omega)) (fw (.int .i64 x419) (Yl.load rfl (Lds.one Try.isAgg3 (((H417.rds (i := 4) rfl).elem eI_len hx420 (by decide)).at_ (k := 0) rfl))) (Kz (.bool (decide (x419 > 0))) (Mz rfl ?_)))
 by_cases h421 : x419 > 0
 refine gw (.pointer (some ⟨g53, 0, none⟩)) (dT h421) (Yl.move rfl) (gw (.int .i64 ((k389 : Nat) : Int)) (dT h421) (Yl.move rfl) ?_)
 have hb427 := H417.rowC (i := 2) rfl
 obtain ⟨r428, hr429⟩ : ∃ q, cache_Cache_Has r288 ((k389 : Nat) : Int) r289 = q := ⟨_, rfl⟩
 obtain ⟨D422, HP423, ro424, bk425, rr426⟩ := Own.enter2 H417
 refine clG (decide_eq_true h421) Try.call20 (cache_Cache_Has_ok _ _ g53 r288 A296 c297 d298 ((k389 : Nat) : Int) g43 r289 r428 HP423 hd299 (rr426 _ 0 _ rfl row_rds) (show r288.xplaces.ls.length ≤ c297 ∧ r288.xplaces.ls.length ≤ 9223372036854775807 from by omega) (fun x9 h9 => ⟨rr426 _ 1 _ rfl (sepL_mem (List.mem_flatMap.2 ⟨x9, h9, .head _⟩) row_rds), own_rd (φ := fun _ => _) H417 (i := 3) rfl (sepL_mem (List.mem_flatMap.2 ⟨x9, h9, .head _⟩) row_le2)⟩) (by first | omega | (dsimp only; omega) | (simp only [List.length_set] <;> omega)) hr429) ?_
 rintro _ w430 ⟨rfl, HQ431⟩
 have H432 := bk425 _ _ HQ431
 refine Gz (.bool (!r428)) (dT h421) (fw (.bool (!r428)) (Yl.pickT rfl (dT h421) rfl) (nt ?_))
 rcases Bool.eq_false_or_eq_true (r428) with h433 | h433
 refine jF (cn h433) (Wp.skip (bN (Fin.then (Wp.region (Mz rfl (fw (.int .i64 ((k389 + 1 : Nat) : Int)) (Yl.int (e := IntKind.i64.wrap (((k389 : Nat) : Int) + 1)) yk (by rw [IntWalk.i64_in _ (by omega)]; omega)) (Az rfl (WL.nil ?_))))))))
 have H434 := H432.pk [0, 2, 3, 1, 4]
 exact Fin.round (k388 + 1, k389 + 1, f403) ⟨rfl, rfl, rfl, rfl, rfl, rfl, rfl, rfl, rfl, rfl, trivial⟩ (dm398.2 ⟨H434, by omega, by omega, by omega, et (hq399) (et (ip h405) (et (bnd_of hr414) (et (ip h418) (et (bnd_of (getD_of hx420)) (et (ip h421) (et (bnd_of hr429) (ip h433)))))))⟩) (by show f403 < f403 + 1; omega)
 refine jT (cn h433) (sr (An rfl (rt (bR (tR (tR (bR (tR (bR (tR (tR (bR (tR (rs ?_))))))))))))))
 have H435 := H432.pk []
 obtain rfl : _ = false := hr.symm.trans (et (bnd_of hr27) (et (bnd_of hr39) (et (iN h56) (lp_r (et (hq82) (et (congrArg (fun q => w10_CachePinned_L0 p0 r26 q l67 z69 l70 m71) hd96) (et (iN h104) (et (bnd_of hr290) (et (iN h308) (et (ip h387) (lpS_r (et (hq399) (et (ip h405) (et (bnd_of hr414) (et (ip h418) (et (bnd_of (getD_of hx420)) (et (ip h421) (et (bnd_of hr429) (ifF h433)))))))))))))))))))
 exact ⟨rfl, H435⟩
 refine Sz (dF h421) (Sz (dF h421) (Sz (dF h421) (Sz (dF h421) (fw (.bool false) (Yl.pickF rfl (dF h421) rfl) (nt (jf (Wp.skip (bN (Fin.then (Wp.region (Mz rfl (fw (.int .i64 ((k389 + 1 : Nat) : Int)) (Yl.int (e := IntKind.i64.wrap (((k389 : Nat) : Int) + 1)) yk (by rw [IntWalk.i64_in _ (by omega)]; omega)) (Az rfl (WL.nil ?_))))))))))))))
 have H436 := H417.pk [0, 2, 3, 1, 4]
 exact Fin.round (k388 + 1, k389 + 1, f403) ⟨rfl, rfl, rfl, rfl, rfl, rfl, rfl, rfl, rfl, rfl, trivial⟩ (dm398.2 ⟨H436, by omega, by omega, by omega, et (hq399) (et (ip h405) (et (bnd_of hr414) (et (ip h418) (et (bnd_of (getD_of hx420)) (iN h421)))))⟩) (by show f403 < f403 + 1; omega)
 refine jF h418 (sk (sr (Mz rfl ?_)))
 obtain ⟨x437, hx438⟩ := rds_at (ls := l70) (i := k389) eI_len (by decide) (H417.rds (i := 4) rfl) (by first | omega | (simp; done) | (simp; omega))
 refine fw (.pointer (some ⟨ab (some ⟨g60, 0, none⟩), ao (some ⟨g60, 0, none⟩) + k389 * 1, none⟩)) (Yl.indexArr (g := g60) (i := k389) (m := 8) (sz := 1) Try.underlying61 Try.sizeOf3 rfl rfl (by omega)) (fw (.int .i64 x437) (Yl.load rfl (Lds.one Try.isAgg3 (((H417.rds (i := 4) rfl).elem eI_len hx438 (by decide)).at_ (k := 0) rfl))) (Kz (.bool (decide (x437 > 0))) (Mz rfl ?_)))
 by_cases h439 : x437 > 0
 refine gw (.pointer (some ⟨g53, 0, none⟩)) (dT h439) (Yl.move rfl) (gw (.int .i64 ((k389 : Nat) : Int)) (dT h439) (Yl.move rfl) ?_)
 have hb445 := H417.rowC (i := 2) rfl
 obtain ⟨r446, hr447⟩ : ∃ q, cache_Cache_Has r288 ((k389 : Nat) : Int) r289 = q := ⟨_, rfl⟩
 obtain ⟨D440, HP441, ro442, bk443, rr444⟩ := Own.enter2 H417
 refine clG (decide_eq_true h439) Try.call20 (cache_Cache_Has_ok _ _ g53 r288 A296 c297 d298 ((k389 : Nat) : Int) g43 r289 r446 HP441 hd299 (rr444 _ 0 _ rfl row_rds) (show r288.xplaces.ls.length ≤ c297 ∧ r288.xplaces.ls.length ≤ 9223372036854775807 from by omega) (fun x9 h9 => ⟨rr444 _ 1 _ rfl (sepL_mem (List.mem_flatMap.2 ⟨x9, h9, .head _⟩) row_rds), own_rd (φ := fun _ => _) H417 (i := 3) rfl (sepL_mem (List.mem_flatMap.2 ⟨x9, h9, .head _⟩) row_le2)⟩) (by first | omega | (dsimp only; omega) | (simp only [List.length_set] <;> omega)) hr447) ?_
 rintro _ w448 ⟨rfl, HQ449⟩
 have H450 := bk443 _ _ HQ449
 refine Gz (.bool (!r446)) (dT h439) (fw (.bool (!r446)) (Yl.pickT rfl (dT h439) rfl) (nt ?_))
 rcases Bool.eq_false_or_eq_true (r446) with h451 | h451
 refine jF (cn h451) (Wp.skip (bN (Fin.then (Wp.region (Mz rfl (fw (.int .i64 ((k389 + 1 : Nat) : Int)) (Yl.int (e := IntKind.i64.wrap (((k389 : Nat) : Int) + 1)) yk (by rw [IntWalk.i64_in _ (by omega)]; omega)) (Az rfl (WL.nil ?_))))))))
 have H452 := H450.pk [0, 2, 3, 1, 4]
 exact Fin.round (k388, k389 + 1, f403) ⟨rfl, rfl, rfl, rfl, rfl, rfl, rfl, rfl, rfl, rfl, trivial⟩ (dm398.2 ⟨H452, by omega, by omega, by omega, et (hq399) (et (ip h405) (et (bnd_of hr414) (et (ifF h418) (et (bnd_of (getD_of hx438)) (et (ip h439) (et (bnd_of hr447) (ip h451)))))))⟩) (by show f403 < f403 + 1; omega)
 refine jT (cn h451) (sr (An rfl (rt (bR (tR (tR (bR (tR (bR (tR (tR (bR (tR (rs ?_))))))))))))))
 have H453 := H450.pk []
 obtain rfl : _ = false := hr.symm.trans (et (bnd_of hr27) (et (bnd_of hr39) (et (iN h56) (lp_r (et (hq82) (et (congrArg (fun q => w10_CachePinned_L0 p0 r26 q l67 z69 l70 m71) hd96) (et (iN h104) (et (bnd_of hr290) (et (iN h308) (et (ip h387) (lpS_r (et (hq399) (et (ip h405) (et (bnd_of hr414) (et (ifF h418) (et (bnd_of (getD_of hx438)) (et (ip h439) (et (bnd_of hr447) (ifF h451)))))))))))))))))))
 exact ⟨rfl, H453⟩
 refine Sz (dF h439) (Sz (dF h439) (Sz (dF h439) (Sz (dF h439) (fw (.bool false) (Yl.pickF rfl (dF h439) rfl) (nt (jf (Wp.skip (bN (Fin.then (Wp.region (Mz rfl (fw (.int .i64 ((k389 + 1 : Nat) : Int)) (Yl.int (e := IntKind.i64.wrap (((k389 : Nat) : Int) + 1)) yk (by rw [IntWalk.i64_in _ (by omega)]; omega)) (Az rfl (WL.nil ?_))))))))))))))
 have H454 := H417.pk [0, 2, 3, 1, 4]
 exact Fin.round (k388, k389 + 1, f403) ⟨rfl, rfl, rfl, rfl, rfl, rfl, rfl, rfl, rfl, rfl, trivial⟩ (dm398.2 ⟨H454, by omega, by omega, by omega, et (hq399) (et (ip h405) (et (bnd_of hr414) (et (ifF h418) (et (bnd_of (getD_of hx438)) (iN h439)))))⟩) (by show f403 < f403 + 1; omega)
 refine jF (dF h405) (Wp.exit (Fin.thenX ?_))
 have hL455 : w10_CachePinned_L4 p0 l70 r288 r289 ((Int.toNat (7 - 1)) + 1) 0 1 = Sum.inl k388 := et (hq399) (iN h405)
 refine Fin.thenX (Fin.blockX (Fin.then (sr (Mz rfl (Mz rfl (Kz (.bool (decide (((k388 : Nat) : Int) > ((1 + ((Int.toNat ((remI p0 6) + 6)) % 6) : Nat) : Int)))) (nt ?_)))))))
 by_cases h456 : ((k388 : Nat) : Int) > ((1 + ((Int.toNat ((remI p0 6) + 6)) % 6) : Nat) : Int)
 refine jT (dT h456) (sr (An rfl (rt (bR (tR (tR (bR (tR (rs ?_)))))))))
 have H457 := H394.pk []
 obtain rfl : _ = false := hr.symm.trans (et (bnd_of hr27) (et (bnd_of hr39) (et (iN h56) (lp_r (et (hq82) (et (congrArg (fun q => w10_CachePinned_L0 p0 r26 q l67 z69 l70 m71) hd96) (et (iN h104) (et (bnd_of hr290) (et (iN h308) (et (ip h387) (et (lpS_l hL455) (ip h456))))))))))))
 exact ⟨rfl, H457⟩
 refine jF (dF h456) (Wp.skip (bN (Fin.then (Wp.region (fw (.int .i64 ((k64 + 1 : Nat) : Int)) (Yl.int (e := IntKind.i64.wrap (((k64 : Nat) : Int) + 1)) yk (by rw [IntWalk.i64_in _ (by omega)]; omega)) (Mz rfl (WL.nil ?_)))))))
 have H458 := H394.pk [4, 0, 3, 1, 2]
 exact Fin.round (k64 + 1, A296, c297, d298, r288.xplaces.ls, r288.xhand, l70, r289) ⟨rfl, rfl, rfl, rfl, rfl, rfl, rfl, rfl, trivial⟩ (dm81.2 ⟨H458, by first | omega | (simp only [List.length_set] <;> omega) | (simp only [List.length_replicate]), by exact hd299, by omega, by omega, by omega, by first | assumption | exact bs_set (by assumption) (Nat.zero_le _) | exact bs_set (by assumption) (by omega) | exact bs_set (by assumption) (by dsimp only; omega) | exact bs_rep (Nat.zero_le _), by first | omega | (dsimp only; omega) | (simp only [List.length_replicate] <;> omega), by first | omega | (simp only [List.length_replicate] <;> omega), by omega, Eq.trans (hq82) (Eq.trans (congrArg (fun q => w10_CachePinned_L0 p0 r26 q l67 z69 l70 m71) hd96) (Eq.trans (if_neg h104) (Eq.trans (bnd_of hr290) (Eq.trans (if_neg h308) (Eq.trans (if_pos h387) (Eq.trans (lpS_l hL455) (if_neg h456)))))))⟩) (by show l1.length - (k64 + 1) < l1.length - k64; omega)
 refine jT (dT h387) (sr (An rfl (rt (tR (bR (tR (tR (bR (tR (rs ?_))))))))))
 have H459 := H307.pk []
 obtain rfl : _ = false := hr.symm.trans (et (bnd_of hr27) (et (bnd_of hr39) (et (iN h56) (lp_r (et (hq82) (et (congrArg (fun q => w10_CachePinned_L0 p0 r26 q l67 z69 l70 m71) hd96) (et (iN h104) (et (bnd_of hr290) (et (iN h308) (iN h387))))))))))
 exact ⟨rfl, H459⟩
 refine jF (dF h93) (Wp.exit (Fin.thenX ?_))
 have hL460 : w10_CachePinned_L0 p0 r26 l1 (List.replicate (1 + ((Int.toNat ((remI p0 6) + 6)) % 6)) (placeT.mk false 0 (Ll.mk ([])) 0 false false 0)) 0 (List.replicate 8 0) r38 = Sum.inl () := et (hq82) (et (congrArg (fun q => w10_CachePinned_L0 p0 r26 q l67 z69 l70 m71) (drop_end (ls := l1) (i := k64) (by omega))) rfl)
 refine Fin.thenX (Fin.blockX (Fin.then (Wp.seq ?_)))
 have H461 := H77.pk []
 refine Wp.region (Mz rfl (An rfl (rt (rs ?_))))
 have H462 := H461.pk []
 obtain rfl : _ = r26 := hr.symm.trans (et (bnd_of hr27) (et (bnd_of hr39) (et (iN h56) (lp_l hL460))))
 exact ⟨rfl, H462⟩
end Go.Proofs.Ytkekaemfokmhdaa
