/-
 locks: numbers, what is the same.
-/
import Derived.Test.YtggnajpokhaaiaaLkF
namespace Go.Proofs.Ytggnajpokhaaiaa
open Go.RowKit
set_option linter.unusedVariables false
set_option linter.unusedSectionVars false
set_option linter.unusedSimpArgs false
def w16_numbers_L0 (l1 : List Nat) : Nat → Nat → List Nat → (List Nat) ⊕ (Bool × (List Nat))
  | 0, k22, l23 => Sum.inl l23
  | q24 + 1, k22, l23 => bnd (List.getD l23 k22 default) fun yx38 => bnd (List.getD l1 k22 default) fun yx40 => if ((yx38 : Nat) : Int) = ((yx40 : Nat) : Int) then w16_numbers_L0 l1 q24 (k22 + 1) (List.set l23 k22 0) else Sum.inr (false, l23)
def w16_numbers (l0 : List Nat) (l1 : List Nat) : Bool × (List Nat) :=
 if ((l0.length : Nat) : Int) = ((l1.length : Nat) : Int) then lp (w16_numbers_L0 l1 l0.length 0 l0) fun sLrtL => (true, sLrtL) else (false, l0)
set_option maxRecDepth 100000 in
theorem w16_numbers_ok (w : World) (D : Nat → Prop) (A0 : Option Addr) (n0 c0 : Nat) (l0 : List Nat) (A1 : Option Addr) (n1 c1 : Nat) (l1 : List Nat) (r0 : Bool) (r1 : List Nat) (H : Own w D w [row A0 n0 c0 (List.flatMap (eN .u64) l0) 30 1]) (hn0 : n0 = l0.length) (hl0 : l0.length * 8 ≤ 211106232532992) (hx1 : Ro w D fun w' => Rds w' 1 A1 n1 (List.flatMap (eN .u64) l1)) (hn1 : n1 = l1.length) (hl1 : l1.length * 8 ≤ 211106232532992) (hh0 : l0.length ≤ 1000000 ∧ l1.length ≤ 1000000) (hr : w16_numbers l0 l1 = (r0, r1)) :
    Calls Try.prog 12 #[.slice A0 n0 c0, .slice A1 n1 c1] w (Ret fun v w' => v = .bool r0 ∧ Own w D w' [row A0 n0 c0 (List.flatMap (eN .u64) r1) 30 1]) := by
 subst hn0 hn1
 have hc0 := H.rowC (i := 0) rfl
 refine Calls.body (args := [.slice A0 l0.length c0, .slice A1 l1.length c1]) Try.func12 rfl rfl rfl ?_
 show Wp _ _ _ [(0, .slice A0 l0.length c0), (1, .slice A1 l1.length c1)] _ _
 refine sr (An rfl (Wp.seq (sr (Mz rfl (Kz (.int .i64 ((l0.length : Nat) : Int)) (Mz rfl (Kz (.int .i64 ((l1.length : Nat) : Int)) (fw (.bool (decide (¬ (((l0.length : Nat) : Int) = ((l1.length : Nat) : Int))))) (Yl.bool (e := !(decide (((l0.length : Nat) : Int) = ((l1.length : Nat) : Int)))) yk decide_not.symm) (nt ?_)))))))))
 by_cases h21 : ((l0.length : Nat) : Int) = ((l1.length : Nat) : Int)
 refine jF (dF (not_not_intro h21)) (sk (Wp.seq (sr (Mz rfl (Kz (.int .i64 ((l0.length : Nat) : Int)) (Mn rfl (bo ?_)))))))
 have H25 : Own w D w [row A0 l0.length c0 (List.flatMap (eN .u64) l0) 30 1] := H.pk [0]
 obtain ⟨I29, hI30⟩ : ∃ q : (Nat × (List Nat)) → World → Prop, q = fun (i : Nat × (List Nat)) w' => Own w D w' [row A0 l0.length c0 (List.flatMap (eN .u64) i.2) 30 1] ∧ (i.2.length = l0.length ∧ i.1 ≤ l0.length ∧ w16_numbers_L0 l1 l0.length 0 l0 = w16_numbers_L0 l1 (l0.length - i.1) i.1 i.2) := ⟨_, rfl⟩
 have dm31 : ∀ {k22 : Nat} {l23 : List Nat} {w' : World}, I29 (k22, l23) w' ↔ Own w D w' [row A0 l0.length c0 (List.flatMap (eN .u64) l23) 30 1] ∧ l23.length = l0.length ∧ k22 ≤ l0.length ∧ w16_numbers_L0 l1 l0.length 0 l0 = w16_numbers_L0 l1 (l0.length - k22) k22 l23 := by intros; subst hI30; exact Iff.rfl
 refine Wp.loop (fun i : Nat × (List Nat) => [(4, .bool false), (13, .int .i64 ((i.1 : Nat) : Int)), (12, .int .i64 ((l0.length : Nat) : Int)), (0, .slice A0 l0.length c0), (1, .slice A1 l1.length c1)]) I29 (fun i => l0.length - i.1) (0, l0) ⟨rfl, rfl, rfl, rfl, rfl, trivial⟩ (dm31.2 ⟨H25, by first | omega | (simp only [List.length_set] <;> omega) | (simp only [List.length_replicate]), by omega, rfl⟩) ?_
 rintro ⟨k22, l23⟩ w26 hf28
 show Wp _ _ _ [(4, .bool false), (13, .int .i64 ((k22 : Nat) : Int)), (12, .int .i64 ((l0.length : Nat) : Int)), (0, .slice A0 l0.length c0), (1, .slice A1 l1.length c1)] _ _
 obtain ⟨H27, hi33, hi34, hq32⟩ := dm31.1 hf28
 refine sr (Kz (.bool (decide (((k22 : Nat) : Int) < ((l0.length : Nat) : Int)))) (nt (Wp.seq ?_)))
 by_cases h35 : ((k22 : Nat) : Int) < ((l0.length : Nat) : Int)
 refine jT (dT h35) (sk (Wp.seq (bo (sr (Mz rfl (An rfl (Wp.seq (Wp.seq ?_))))))))
 have H37 := H27.drew
 refine Wp.drawnX [] (fun W => ∃ L', Own w D W ([row A0 l0.length c0 (List.flatMap (eN .u64) l23) 30 1] ++ L')) (by kernel_rfl) (by kernel_rfl) (NoP.then (NoP.then (NoP.block (NoP.then (NoP.then (NoP.block (NoP.then NoP.base))))))) ⟨_, H37⟩ ?_
 revert H37
 generalize World.drew w26 = w36
 intro H37
 refine GX.take (v := .slice A0 l0.length c0) (rs := []) 0 rfl (by kernel_rfl) (fun _ _ => Yl.move rfl) (GX.take (v := .int .i64 ((k22 : Nat) : Int)) (rs := []) 1 rfl (by kernel_rfl) (fun _ _ => Yl.move rfl) ?_)
 obtain ⟨x38, hx39⟩ := at_of (ls := l23) (i := k22) (by first | omega | (simp; done) | (simp; omega))
 refine GX.take (v := .pointer (some ⟨ab A0, ao A0 + k22 * 1, none⟩)) (rs := []) 2 rfl (by kernel_rfl) (fun _ ⟨_, H9⟩ => Yl.indexAddr (El37) rfl rfl ((H9.rds (i := 0) rfl).addr (i := k22) (by omega)) (by omega)) (GX.take (v := .int .u64 ((x38 : Nat) : Int)) (rs := []) 3 rfl (by kernel_rfl) (fun _ ⟨_, H9⟩ => Yl.load rfl (Lds.one Try.isAgg30 (((H9.rds (i := 0) rfl).elem eN_len hx39 (by decide)).at_ (k := 0) rfl))) (GX.take (v := .slice A1 l1.length c1) (rs := []) 4 rfl (by kernel_rfl) (fun _ _ => Yl.move rfl) (GX.take (v := .int .i64 ((k22 : Nat) : Int)) (rs := []) 5 rfl (by kernel_rfl) (fun _ _ => Yl.move rfl) ?_)))
 obtain ⟨x40, hx41⟩ := at_of (ls := l1) (i := k22) (by first | omega | (simp; done) | (simp; omega))
 refine GX.take (v := .pointer (some ⟨ab A1, ao A1 + k22 * 1, none⟩)) (rs := []) 6 rfl (by kernel_rfl) (fun _ ⟨_, H9⟩ => Yl.indexAddr (El37) rfl rfl ((H9.ro hx1).addr (i := k22) (by omega)) (by omega)) (GX.take (v := .int .u64 ((x40 : Nat) : Int)) (rs := []) 7 rfl (by kernel_rfl) (fun _ ⟨_, H9⟩ => Yl.load rfl (Lds.one Try.isAgg30 (((H9.ro hx1).elem eN_len hx41 (by decide)).at_ (k := 0) rfl))) (GX.take (v := .bool (decide (¬ (((x38 : Nat) : Int) = ((x40 : Nat) : Int))))) (rs := []) 8 rfl (by kernel_rfl) (fun _ _ => Yl.bool (e := !(decide (((x38 : Nat) : Int) = ((x40 : Nat) : Int)))) yk decide_not.symm) (GX.done (by kernel_rfl) (Fin.then ?_))))
 by_cases h42 : ((x38 : Nat) : Int) = ((x40 : Nat) : Int)
 refine jF (dF (not_not_intro h42)) (sk (Wp.region (Mz rfl (Mz rfl (fw (.pointer (some ⟨ab A0, ao A0 + k22 * 1, none⟩)) (Yl.indexAddr (El37) rfl rfl ((H37.rds (i := 0) rfl).addr (i := k22) (by omega)) (by omega)) ?_)))))
 refine WL.do0 (Do.storeRow (vs := [.int .u64 0]) (o := k22 * 1 + 0) (q := ao A0 + k22 * 1) H37 rfl (by omega) rfl Try.sizeOf30 rfl rfl (Nat.le_of_ble_eq_true rfl) (store_fits eN_len hx39 (Nat.le_of_ble_eq_true rfl)) (flat_set (y := 0) eN_len rfl (Nat.le_of_ble_eq_true rfl) hx39) ?_)
 intro w43 H44
 refine WL.nil (bN (Fin.then (Wp.region (fw (.int .i64 ((k22 + 1 : Nat) : Int)) (Yl.int (e := IntKind.i64.wrap (((k22 : Nat) : Int) + 1)) yk (by rw [IntWalk.i64_in _ (by omega)]; omega)) (Mz rfl (WL.nil ?_))))))
 have H45 := H44.pk [0]
 exact Fin.round (k22 + 1, (List.set l23 k22 0)) ⟨rfl, rfl, rfl, rfl, rfl, trivial⟩ (dm31.2 ⟨H45, by first | omega | (simp only [List.length_set] <;> omega) | (simp only [List.length_replicate]), by omega, Eq.trans (hq32) (Eq.trans (congrArg (fun q => w16_numbers_L0 l1 q k22 l23) (sub_at (n := l0.length) (i := k22) (by omega))) (Eq.trans (bnd_of (getD_of hx39)) (Eq.trans (bnd_of (getD_of hx41)) (if_pos h42))))⟩) (by show l0.length - (k22 + 1) < l0.length - k22; omega)
 refine jT (dT h42) (sr (An rfl (rt (tR (bR (tR (tR (bR (tR (rs ?_))))))))))
 have H46 := H37.pk [0]
 have e : w16_numbers l0 l1 = (false, l23) := et (ip h21) (lp_r (et (hq32) (et (congrArg (fun q => w16_numbers_L0 l1 q k22 l23) (sub_at (n := l0.length) (i := k22) (by omega))) (et (bnd_of (getD_of hx39)) (et (bnd_of (getD_of hx41)) (iN h42))))))
 obtain ⟨rfl, rfl⟩ := pj2 (e.symm.trans hr)
 exact ⟨rfl, H46⟩
 refine jF (dF h35) (Wp.exit (Fin.thenX ?_))
 have hL47 : w16_numbers_L0 l1 l0.length 0 l0 = Sum.inl l23 := et (hq32) (et (congrArg (fun q => w16_numbers_L0 l1 q k22 l23) (sub_end (n := l0.length) (i := k22) (by omega))) rfl)
 refine Fin.thenX (Fin.blockX (Fin.then (sr (An rfl (rt (rs ?_))))))
 have H48 := H27.pk [0]
 have e : w16_numbers l0 l1 = (true, l23) := et (ip h21) (lp_l hL47)
 obtain ⟨rfl, rfl⟩ := pj2 (e.symm.trans hr)
 exact ⟨rfl, H48⟩
 refine jT (dT h21) (sr (An rfl (rt (tR (rs ?_)))))
 have H49 : Own w D w [row A0 l0.length c0 (List.flatMap (eN .u64) l0) 30 1] := H.pk [0]
 have e : w16_numbers l0 l1 = (false, l0) := iN h21
 obtain ⟨rfl, rfl⟩ := pj2 (e.symm.trans hr)
 exact ⟨rfl, H49⟩
def w16_same_L0 (p0 : TableT) (p1 : TableDT) : Nat → Nat → List AskD → Unit ⊕ Bool
  | 0, k35, l36 => Sum.inl ()
  | q37 + 1, k35, l36 => bnd (List.getD l36 k35 default) fun yx51 => bnd (List.getD p1.xW.ls k35 default) fun yx53 => if ((yx51.xTxn : Nat) : Int) = ((yx53.xTxn : Nat) : Int) then if ((yx51.xLock.xRange.xLo = yx53.xLock.xRange.xLo) ∧ (yx51.xLock.xRange.xHi = yx53.xLock.xRange.xHi)) ∧ (yx51.xLock.xWrite = yx53.xLock.xWrite) then w16_same_L0 p0 p1 q37 (k35 + 1) (List.set l36 k35 (AskD.mk 0 yx51.xLock)) else Sum.inr (false) else Sum.inr (false)
def w16_same_L2 (r114 : List LockD) : Nat → Nat → List LockD → Unit ⊕ Bool
  | 0, k123, l124 => Sum.inl ()
  | q125 + 1, k123, l124 => bnd (List.getD l124 k123 default) fun yx139 => bnd (List.getD r114 k123 default) fun yx141 => if ((yx139.xRange.xLo = yx141.xRange.xLo) ∧ (yx139.xRange.xHi = yx141.xRange.xHi)) ∧ (yx139.xWrite = yx141.xWrite) then w16_same_L2 r114 q125 (k123 + 1) (List.set l124 k123 (LockD.mk yx139.xRange (!yx139.xWrite))) else Sum.inr (false)
def w16_same_L1 (p0 : TableT) (p1 : TableDT) : List Nat → Unit ⊕ Bool
  | [] => Sum.inl ()
  | x91 :: q80 => bnd (locks_Table_Holds p0 x91) fun yr100 => bnd (r16_Table_Holds p1 x91) fun yr114 => if ((yr100.length : Nat) : Int) = ((yr114.length : Nat) : Int) then lpS (w16_same_L2 yr114 yr100.length 0 yr100) fun _ => w16_same_L1 p0 p1 q80 else Sum.inr (false)
def w16_same (p0 : TableT) (p1 : TableDT) : Bool :=
 bnd (locks_Table_Waiting p0) fun yr26 => if ((yr26.length : Nat) : Int) = ((p1.xW.ls.length : Nat) : Int) then lp (w16_same_L0 p0 p1 yr26.length 0 yr26) fun _ => bnd (r16_Table_Txns p1) fun yr70 => lp (w16_same_L1 p0 p1 yr70) fun _ => bnd (locks_Table_Txns p0) fun yr161 => bnd (r16_Table_Txns p1) fun yr176 => bnd (w16_numbers yr161 yr176) fun yr191 => yr191.1 else false
set_option maxRecDepth 100000 in
theorem w16_same_ok (w : World) (D : Nat → Prop) (g0 : Nat) (p0 : TableT) (A0x0 : Option Addr) (c0x0 : Nat) (d0x0 : List rowD) (g1 : Nat) (p1 : TableDT) (A1x0 : Option Addr) (c1x0 : Nat) (A1x1 : Option Addr) (c1x1 : Nat) (r0 : Bool) (H : Own w D w [blk g0 [.slice A0x0 p0.xrows.ls.length c0x0] 59, blk g1 [.slice A1x0 p1.xH.ls.length c1x0, .slice A1x1 p1.xW.ls.length c1x1] 29]) (hd0x0 : List.map rowD.abs d0x0 = p0.xrows.ls) (hx0x0 : Ro w D fun w' => Rds w' 6 A0x0 p0.xrows.ls.length (List.flatMap rowD.cells d0x0)) (hb0x0 : p0.xrows.ls.length ≤ c0x0 ∧ p0.xrows.ls.length ≤ 9223372036854775807) (hm0x0 : ∀ x ∈ d0x0, Ro w D (fun w' => Rds w' 3 x.xheld.A x.xheld.ls.length (List.flatMap LockD.cells x.xheld.ls)) ∧ (x.xheld.ls.length ≤ x.xheld.c ∧ x.xheld.ls.length ≤ 9223372036854775807)) (hx1x0 : Ro w D fun w' => Rds w' 4 A1x0 p1.xH.ls.length (List.flatMap HeldD.cells p1.xH.ls)) (hb1x0 : p1.xH.ls.length ≤ c1x0 ∧ p1.xH.ls.length ≤ 9223372036854775807) (hx1x1 : Ro w D fun w' => Rds w' 4 A1x1 p1.xW.ls.length (List.flatMap HeldD.cells p1.xW.ls)) (hb1x1 : p1.xW.ls.length ≤ c1x1 ∧ p1.xW.ls.length ≤ 9223372036854775807) (hh0 : p0.xrows.ls.length ≤ 192) (hh1 : Hd p0.xrows.ls) (hh2 : Sound p0.xrows.ls) (hh3 : p1.xH.ls.length + p1.xW.ls.length ≤ 192) (hr : w16_same p0 p1 = r0) :
    Calls Try.prog 15 #[.pointer (some ⟨g0, 0, none⟩), .pointer (some ⟨g1, 0, none⟩)] w (Ret fun v w' => v = .bool r0 ∧ Own w D w' [blk g0 [.slice A0x0 p0.xrows.ls.length c0x0] 59, blk g1 [.slice A1x0 p1.xH.ls.length c1x0, .slice A1x1 p1.xW.ls.length c1x1] 29]) := by
 have hdl0x0 := abs_len hd0x0
 refine Calls.body (args := [.pointer (some ⟨g0, 0, none⟩), .pointer (some ⟨g1, 0, none⟩)]) Try.func15 rfl rfl rfl ?_
 show Wp _ _ _ [(0, .pointer (some ⟨g0, 0, none⟩)), (1, .pointer (some ⟨g1, 0, none⟩))] _ _
 refine sr (Ar rfl (Mz rfl ?_))
 obtain ⟨r26, hr27⟩ : ∃ q, locks_Table_Waiting p0 = q := ⟨_, rfl⟩
 obtain ⟨D21, HP22, ro23, bk24, rr25⟩ := Own.enter1 H
 refine cl Try.call18 (locks_Table_Waiting_ok _ _ g0 p0 A0x0 c0x0 d0x0 r26 HP22 hd0x0 (ro23 _ hx0x0) (show p0.xrows.ls.length ≤ c0x0 ∧ p0.xrows.ls.length ≤ 9223372036854775807 from by omega) (fun x9 h9 => ⟨ro23 _ (hm0x0 x9 h9).1, (hm0x0 x9 h9).2⟩) (by first | omega | (dsimp only; omega)) hr27) ?_
 rintro _ w28 ⟨A31, c32, rfl, HQ29⟩
 have H30 := bk24 _ _ HQ29
 have hb33 := H30.rowC (i := 0) rfl
 refine An rfl (Wp.seq (sr (Mz rfl (Kz (.int .i64 ((r26.length : Nat) : Int)) (Mz rfl (Kz (.pointer (some ⟨g1, 0, none⟩)) (Kz (.pointer (some ⟨g1, 1, none⟩)) (Lz (.slice A1x1 p1.xW.ls.length c1x1) H30 2 Try.isAgg27 (Kz (.int .i64 ((p1.xW.ls.length : Nat) : Int)) (fw (.bool (decide (¬ (((r26.length : Nat) : Int) = ((p1.xW.ls.length : Nat) : Int))))) (Yl.bool (e := !(decide (((r26.length : Nat) : Int) = ((p1.xW.ls.length : Nat) : Int)))) yk decide_not.symm) (nt ?_)))))))))))
 by_cases h34 : ((r26.length : Nat) : Int) = ((p1.xW.ls.length : Nat) : Int)
 refine jF (dF (not_not_intro h34)) (sk (Wp.seq (sr (Mz rfl (Kz (.int .i64 ((r26.length : Nat) : Int)) (Mn rfl (bo ?_)))))))
 have H38 := H30.pk [0, 1, 2]
 obtain ⟨I42, hI43⟩ : ∃ q : (Nat × (List AskD)) → World → Prop, q = fun (i : Nat × (List AskD)) w' => Own w D w' [row A31 r26.length c32 (List.flatMap AskD.cells i.2) 51 4, blk g0 [.slice A0x0 p0.xrows.ls.length c0x0] 59, blk g1 [.slice A1x0 p1.xH.ls.length c1x0, .slice A1x1 p1.xW.ls.length c1x1] 29] ∧ (i.2.length = r26.length ∧ i.1 ≤ r26.length ∧ w16_same_L0 p0 p1 r26.length 0 r26 = w16_same_L0 p0 p1 (r26.length - i.1) i.1 i.2) := ⟨_, rfl⟩
 have dm44 : ∀ {k35 : Nat} {l36 : List AskD} {w' : World}, I42 (k35, l36) w' ↔ Own w D w' [row A31 r26.length c32 (List.flatMap AskD.cells l36) 51 4, blk g0 [.slice A0x0 p0.xrows.ls.length c0x0] 59, blk g1 [.slice A1x0 p1.xH.ls.length c1x0, .slice A1x1 p1.xW.ls.length c1x1] 29] ∧ l36.length = r26.length ∧ k35 ≤ r26.length ∧ w16_same_L0 p0 p1 r26.length 0 r26 = w16_same_L0 p0 p1 (r26.length - k35) k35 l36 := by intros; subst hI43; exact Iff.rfl
 refine Wp.loop (fun i : Nat × (List AskD) => [(4, .bool false), (24, .int .i64 ((i.1 : Nat) : Int)), (23, .int .i64 ((r26.length : Nat) : Int)), (5, .slice A31 r26.length c32), (0, .pointer (some ⟨g0, 0, none⟩)), (1, .pointer (some ⟨g1, 0, none⟩))]) I42 (fun i => r26.length - i.1) (0, r26) ⟨rfl, rfl, rfl, rfl, rfl, rfl, trivial⟩ (dm44.2 ⟨H38, by first | omega | (simp only [List.length_set] <;> omega) | (simp only [List.length_replicate]), by omega, rfl⟩) ?_
 rintro ⟨k35, l36⟩ w39 hf41
 show Wp _ _ _ [(4, .bool false), (24, .int .i64 ((k35 : Nat) : Int)), (23, .int .i64 ((r26.length : Nat) : Int)), (5, .slice A31 r26.length c32), (0, .pointer (some ⟨g0, 0, none⟩)), (1, .pointer (some ⟨g1, 0, none⟩))] _ _
 obtain ⟨H40, hi46, hi47, hq45⟩ := dm44.1 hf41
 refine sr (Kz (.bool (decide (((k35 : Nat) : Int) < ((r26.length : Nat) : Int)))) (nt (Wp.seq ?_)))
 by_cases h48 : ((k35 : Nat) : Int) < ((r26.length : Nat) : Int)
 refine jT (dT h48) (sk (Wp.seq (bo (sr (Mz rfl (An rfl (Wp.seq (Wp.seq ?_))))))))
 have H50 := H40.drew
 refine Wp.drawnX [] (fun W => ∃ L', Own w D W ([row A31 r26.length c32 (List.flatMap AskD.cells l36) 51 4, blk g0 [.slice A0x0 p0.xrows.ls.length c0x0] 59, blk g1 [.slice A1x0 p1.xH.ls.length c1x0, .slice A1x1 p1.xW.ls.length c1x1] 29] ++ L')) (by kernel_rfl) (by kernel_rfl) (NoP.then (NoP.then (NoP.block (NoP.then (NoP.then (NoP.block (NoP.then NoP.base))))))) ⟨_, H50⟩ ?_
 revert H50
 generalize World.drew w39 = w49
 intro H50
 refine GX.take (v := .slice A31 r26.length c32) (rs := []) 0 rfl (by kernel_rfl) (fun _ _ => Yl.move rfl) (GX.take (v := .int .i64 ((k35 : Nat) : Int)) (rs := []) 1 rfl (by kernel_rfl) (fun _ _ => Yl.move rfl) ?_)
 obtain ⟨x51, hx52⟩ := at_of (ls := l36) (i := k35) (by first | omega | (simp; done) | (simp; omega))
 refine GX.take (v := .pointer (some ⟨ab A31, ao A31 + k35 * 4, none⟩)) (rs := []) 2 rfl (by kernel_rfl) (fun _ ⟨_, H9⟩ => Yl.indexAddr (El48) rfl rfl ((H9.rds (i := 0) rfl).addr (i := k35) (by omega)) (by omega)) (GX.take (v := .pointer (some ⟨ab A31, ao A31 + k35 * 4, none⟩)) (rs := []) 3 rfl (by kernel_rfl) (fun _ _ => yk) (GX.take (v := .int .u64 ((x51.xTxn : Nat) : Int)) (rs := []) 4 rfl (by kernel_rfl) (fun _ ⟨_, H9⟩ => Yl.load rfl (Lds.one Try.isAgg30 (((H9.rds (i := 0) rfl).elem AskD.len hx52 (by decide)).at_ (k := 0) rfl))) (GX.take (v := .pointer (some ⟨g1, 0, none⟩)) (rs := []) 5 rfl (by kernel_rfl) (fun _ _ => Yl.move rfl) (GX.take (v := .pointer (some ⟨g1, 0, none⟩)) (rs := []) 6 rfl (by kernel_rfl) (fun _ _ => yk) (GX.take (v := .pointer (some ⟨g1, 1, none⟩)) (rs := []) 7 rfl (by kernel_rfl) (fun _ _ => yk) (GX.take (v := .slice A1x1 p1.xW.ls.length c1x1) (rs := []) 8 rfl (by kernel_rfl) (fun _ ⟨_, H9⟩ => Yl.load rfl (Lds.one Try.isAgg27 (Cls.of (H9.cls (i := 2) rfl) rfl))) (GX.take (v := .int .i64 ((k35 : Nat) : Int)) (rs := []) 9 rfl (by kernel_rfl) (fun _ _ => Yl.move rfl) ?_)))))))
 obtain ⟨x53, hx54⟩ := at_of (ls := p1.xW.ls) (i := k35) (by first | omega | (simp; done) | (simp; omega))
 refine GX.take (v := .pointer (some ⟨ab A1x1, ao A1x1 + k35 * 4, none⟩)) (rs := []) 10 rfl (by kernel_rfl) (fun _ ⟨_, H9⟩ => Yl.indexAddr (El27) rfl rfl ((H9.ro hx1x1).addr (i := k35) (by omega)) (by omega)) (GX.take (v := .pointer (some ⟨ab A1x1, ao A1x1 + k35 * 4, none⟩)) (rs := []) 11 rfl (by kernel_rfl) (fun _ _ => yk) (GX.take (v := .int .u64 ((x53.xTxn : Nat) : Int)) (rs := []) 12 rfl (by kernel_rfl) (fun _ ⟨_, H9⟩ => Yl.load rfl (Lds.one Try.isAgg30 (((H9.ro hx1x1).elem HeldD.len hx54 (by decide)).at_ (k := 0) rfl))) (GX.take (v := .bool (decide (¬ (((x51.xTxn : Nat) : Int) = ((x53.xTxn : Nat) : Int))))) (rs := []) 13 rfl (by kernel_rfl) (fun _ _ => Yl.bool (e := !(decide (((x51.xTxn : Nat) : Int) = ((x53.xTxn : Nat) : Int)))) yk decide_not.symm) (GX.take (v := .bool (decide (¬ (((x51.xTxn : Nat) : Int) = ((x53.xTxn : Nat) : Int))))) (rs := []) 14 rfl (by kernel_rfl) (fun _ _ => Yl.move rfl) ?_))))
 by_cases h55 : ((x51.xTxn : Nat) : Int) = ((x53.xTxn : Nat) : Int)
 refine GX.takeG (v := .slice A31 r26.length c32) (rs := []) 15 rfl rfl rfl (dF (not_not_intro h55)) (by kernel_rfl) (fun _ _ => Yl.move rfl) (GX.takeG (v := .int .i64 ((k35 : Nat) : Int)) (rs := []) 16 rfl rfl rfl (dF (not_not_intro h55)) (by kernel_rfl) (fun _ _ => Yl.move rfl) (GX.takeG (v := .pointer (some ⟨ab A31, ao A31 + k35 * 4, none⟩)) (rs := []) 17 rfl rfl rfl (dF (not_not_intro h55)) (by kernel_rfl) (fun _ ⟨_, H9⟩ => Yl.indexAddr (El48) rfl rfl ((H9.rds (i := 0) rfl).addr (i := k35) (by omega)) (by omega)) (GX.takeG (v := .pointer (some ⟨ab A31, ao A31 + k35 * 4 + 1, none⟩)) (rs := []) 18 rfl rfl rfl (dF (not_not_intro h55)) (by kernel_rfl) (fun _ _ => yk) (GX.takeG (v := .agg (LockD.cells x51.xLock).toArray) (rs := []) 19 rfl rfl rfl (dF (not_not_intro h55)) (by kernel_rfl) (fun _ ⟨_, H9⟩ => Yl.load rfl (Lds.agg (cs := (LockD.cells x51.xLock)) Try.isAgg34 Try.sizeOf34 (((H9.rds (i := 0) rfl).elem AskD.len hx52 (by decide)).lit (k := 1) (m := 3) rfl))) (GX.takeG (v := .pointer (some ⟨g1, 0, none⟩)) (rs := []) 20 rfl rfl rfl (dF (not_not_intro h55)) (by kernel_rfl) (fun _ _ => Yl.move rfl) (GX.takeG (v := .pointer (some ⟨g1, 0, none⟩)) (rs := []) 21 rfl rfl rfl (dF (not_not_intro h55)) (by kernel_rfl) (fun _ _ => yk) (GX.takeG (v := .pointer (some ⟨g1, 1, none⟩)) (rs := []) 22 rfl rfl rfl (dF (not_not_intro h55)) (by kernel_rfl) (fun _ _ => yk) (GX.takeG (v := .slice A1x1 p1.xW.ls.length c1x1) (rs := []) 23 rfl rfl rfl (dF (not_not_intro h55)) (by kernel_rfl) (fun _ ⟨_, H9⟩ => Yl.load rfl (Lds.one Try.isAgg27 (Cls.of (H9.cls (i := 2) rfl) rfl))) (GX.takeG (v := .int .i64 ((k35 : Nat) : Int)) (rs := []) 24 rfl rfl rfl (dF (not_not_intro h55)) (by kernel_rfl) (fun _ _ => Yl.move rfl) (GX.takeG (v := .pointer (some ⟨ab A1x1, ao A1x1 + k35 * 4, none⟩)) (rs := []) 25 rfl rfl rfl (dF (not_not_intro h55)) (by kernel_rfl) (fun _ ⟨_, H9⟩ => Yl.indexAddr (El27) rfl rfl ((H9.ro hx1x1).addr (i := k35) (by omega)) (by omega)) (GX.takeG (v := .pointer (some ⟨ab A1x1, ao A1x1 + k35 * 4 + 1, none⟩)) (rs := []) 26 rfl rfl rfl (dF (not_not_intro h55)) (by kernel_rfl) (fun _ _ => yk) (GX.takeG (v := .agg (LockD.cells x53.xLock).toArray) (rs := []) 27 rfl rfl rfl (dF (not_not_intro h55)) (by kernel_rfl) (fun _ ⟨_, H9⟩ => Yl.load rfl (Lds.agg (cs := (LockD.cells x53.xLock)) Try.isAgg34 Try.sizeOf34 (((H9.ro hx1x1).elem HeldD.len hx54 (by decide)).lit (k := 1) (m := 3) rfl))) (GX.takeG (v := .bool (decide (¬ (((x51.xLock.xRange.xLo = x53.xLock.xRange.xLo) ∧ (x51.xLock.xRange.xHi = x53.xLock.xRange.xHi)) ∧ (x51.xLock.xWrite = x53.xLock.xWrite))))) (rs := []) 28 rfl rfl rfl (dF (not_not_intro h55)) (by kernel_rfl) (fun _ _ => Yl.bool (e := !(decide (((x51.xLock.xRange.xLo = x53.xLock.xRange.xLo) ∧ (x51.xLock.xRange.xHi = x53.xLock.xRange.xHi)) ∧ (x51.xLock.xWrite = x53.xLock.xWrite)))) (Yl.neAgg rfl rfl (by kernel_rfl) rfl (Eqv.struct Try.underlying34 (by kernel_rfl) (EqF.dec (EqF.cons (u := .agg (RangeD.cells x51.xLock.xRange).toArray) (v := .agg (RangeD.cells x53.xLock.xRange).toArray) (by decide) (fun _ => by kernel_rfl) (fun _ => by kernel_rfl) (Eqv.struct Try.underlying32 (by kernel_rfl) (EqF.dec (EqF.cons (u := .string ⟨List.toArray x51.xLock.xRange.xLo⟩) (v := .string ⟨List.toArray x53.xLock.xRange.xLo⟩) (by decide) (fun _ => by kernel_rfl) (fun _ => by kernel_rfl) (Eqv.string Try.underlying9) (EqF.cons (u := .string ⟨List.toArray x51.xLock.xRange.xHi⟩) (v := .string ⟨List.toArray x53.xLock.xRange.xHi⟩) (by decide) (fun _ => by kernel_rfl) (fun _ => by kernel_rfl) (Eqv.string Try.underlying9) (EqF.nil.up (Nat.zero_le _)))) ((congrArg (decide (x51.xLock.xRange.xLo = x53.xLock.xRange.xLo) && ·) and_dec1).trans and_dec))) (EqF.cons (u := .bool x51.xLock.xWrite) (v := .bool x53.xLock.xWrite) (by decide) (fun _ => by kernel_rfl) (fun _ => by kernel_rfl) ((Eqv.bool Try.underlying4).up (by decide)) (EqF.nil.up (Nat.zero_le _)))) ((congrArg (decide ((x51.xLock.xRange.xLo = x53.xLock.xRange.xLo) ∧ (x51.xLock.xRange.xHi = x53.xLock.xRange.xHi)) && ·) and_dec1).trans and_dec)))) decide_not.symm) (GX.take (v := .bool (decide (¬ (((x51.xLock.xRange.xLo = x53.xLock.xRange.xLo) ∧ (x51.xLock.xRange.xHi = x53.xLock.xRange.xHi)) ∧ (x51.xLock.xWrite = x53.xLock.xWrite))))) (rs := []) 29 rfl (by kernel_rfl) (fun _ _ => Yl.pickF rfl (dF (not_not_intro h55)) rfl) (GX.done (by kernel_rfl) (Fin.then ?_))))))))))))))))
 by_cases h56 : ((x51.xLock.xRange.xLo = x53.xLock.xRange.xLo) ∧ (x51.xLock.xRange.xHi = x53.xLock.xRange.xHi)) ∧ (x51.xLock.xWrite = x53.xLock.xWrite)
 refine jF (dF (not_not_intro h56)) (sk (Wp.region (Mz rfl (Mz rfl (fw (.pointer (some ⟨ab A31, ao A31 + k35 * 4, none⟩)) (Yl.indexAddr (El48) rfl rfl ((H50.rds (i := 0) rfl).addr (i := k35) (by omega)) (by omega)) (Kz (.pointer (some ⟨ab A31, ao A31 + k35 * 4, none⟩)) ?_))))))
 refine WL.do0 (Do.storeRow (vs := [.int .u64 0]) (o := k35 * 4 + 0) (q := ao A31 + k35 * 4) H50 rfl (by omega) rfl Try.sizeOf30 rfl rfl (Nat.le_of_ble_eq_true rfl) (store_fits AskD.len hx52 (Nat.le_of_ble_eq_true rfl)) (flat_set (y := (AskD.mk 0 x51.xLock)) AskD.len rfl (Nat.le_of_ble_eq_true rfl) hx52) ?_)
 intro w57 H58
 refine WL.nil (bN (Fin.then (Wp.region (fw (.int .i64 ((k35 + 1 : Nat) : Int)) (Yl.int (e := IntKind.i64.wrap (((k35 : Nat) : Int) + 1)) yk (by rw [IntWalk.i64_in _ (by omega)]; omega)) (Mz rfl (WL.nil ?_))))))
 have H59 := H58.pk [0, 1, 2]
 exact Fin.round (k35 + 1, (List.set l36 k35 (AskD.mk 0 x51.xLock))) ⟨rfl, rfl, rfl, rfl, rfl, rfl, trivial⟩ (dm44.2 ⟨H59, by first | omega | (simp only [List.length_set] <;> omega) | (simp only [List.length_replicate]), by omega, Eq.trans (hq45) (Eq.trans (congrArg (fun q => w16_same_L0 p0 p1 q k35 l36) (sub_at (n := r26.length) (i := k35) (by omega))) (Eq.trans (bnd_of (getD_of hx52)) (Eq.trans (bnd_of (getD_of hx54)) (Eq.trans (if_pos h55) (if_pos h56)))))⟩) (by show r26.length - (k35 + 1) < r26.length - k35; omega)
 refine jT (dT h56) (sr (An rfl (rt (tR (bR (tR (tR (bR (tR (rs ?_))))))))))
 have H60 := H50.pk [1, 2]
 obtain rfl : _ = false := hr.symm.trans (et (bnd_of hr27) (et (ip h34) (lp_r (et (hq45) (et (congrArg (fun q => w16_same_L0 p0 p1 q k35 l36) (sub_at (n := r26.length) (i := k35) (by omega))) (et (bnd_of (getD_of hx52)) (et (bnd_of (getD_of hx54)) (et (ip h55) (iN h56)))))))))
 exact ⟨rfl, H60⟩
 refine GX.skipG (rs := []) 15 rfl rfl rfl (dT h55) (by kernel_rfl) (GX.skipG (rs := []) 16 rfl rfl rfl (dT h55) (by kernel_rfl) (GX.skipG (rs := []) 17 rfl rfl rfl (dT h55) (by kernel_rfl) (GX.skipG (rs := []) 18 rfl rfl rfl (dT h55) (by kernel_rfl) (GX.skipG (rs := []) 19 rfl rfl rfl (dT h55) (by kernel_rfl) (GX.skipG (rs := []) 20 rfl rfl rfl (dT h55) (by kernel_rfl) (GX.skipG (rs := []) 21 rfl rfl rfl (dT h55) (by kernel_rfl) (GX.skipG (rs := []) 22 rfl rfl rfl (dT h55) (by kernel_rfl) (GX.skipG (rs := []) 23 rfl rfl rfl (dT h55) (by kernel_rfl) (GX.skipG (rs := []) 24 rfl rfl rfl (dT h55) (by kernel_rfl) (GX.skipG (rs := []) 25 rfl rfl rfl (dT h55) (by kernel_rfl) (GX.skipG (rs := []) 26 rfl rfl rfl (dT h55) (by kernel_rfl) (GX.skipG (rs := []) 27 rfl rfl rfl (dT h55) (by kernel_rfl) (GX.skipG (rs := []) 28 rfl rfl rfl (dT h55) (by kernel_rfl) (GX.take (v := .bool true) (rs := []) 29 rfl (by kernel_rfl) (fun _ _ => Yl.pickT rfl (dT h55) rfl) (GX.done (by kernel_rfl) (Fin.then (jt (sr (An rfl (rt (tR (bR (tR (tR (bR (tR (rs ?_)))))))))))))))))))))))))))
 have H61 := H50.pk [1, 2]
 obtain rfl : _ = false := hr.symm.trans (et (bnd_of hr27) (et (ip h34) (lp_r (et (hq45) (et (congrArg (fun q => w16_same_L0 p0 p1 q k35 l36) (sub_at (n := r26.length) (i := k35) (by omega))) (et (bnd_of (getD_of hx52)) (et (bnd_of (getD_of hx54)) (iN h55))))))))
 exact ⟨rfl, H61⟩
 refine jF (dF h48) (Wp.exit (Fin.thenX ?_))
 have hL62 : w16_same_L0 p0 p1 r26.length 0 r26 = Sum.inl () := et (hq45) (et (congrArg (fun q => w16_same_L0 p0 p1 q k35 l36) (sub_end (n := r26.length) (i := k35) (by omega))) rfl)
 refine Fin.thenX (Fin.blockX (Fin.then (Wp.seq (Wp.seq ?_))))
 have H63 := H40.pk [1, 2]
 refine Wp.region (Mz rfl ?_)
 have H64 := H63.pk [1, 0]
 obtain ⟨r70, hr71⟩ : ∃ q, r16_Table_Txns p1 = q := ⟨_, rfl⟩
 obtain ⟨D65, HP66, ro67, bk68, rr69⟩ := Own.enter1 H64
 refine cl Try.call39 (r16_Table_Txns_ok _ _ g1 p1 A1x0 c1x0 A1x1 c1x1 r70 HP66 (ro67 _ hx1x0) (show p1.xH.ls.length ≤ c1x0 ∧ p1.xH.ls.length ≤ 9223372036854775807 from by omega) (ro67 _ hx1x1) (show p1.xW.ls.length ≤ c1x1 ∧ p1.xW.ls.length ≤ 9223372036854775807 from by omega) (by first | omega | (dsimp only; omega)) hr71) ?_
 rintro _ w72 ⟨A75, c76, rfl, HQ73, hk77⟩
 have H74 := bk68 _ _ HQ73
 have hb78 := H74.rowC (i := 0) rfl
 replace hk77 : r70.length ≤ p1.xH.ls.length + p1.xW.ls.length := hk77
 refine Kz (.int .i64 ((r70.length : Nat) : Int)) (Mn rfl (bo ?_))
 have H81 := H74.pk [0, 1, 2]
 obtain ⟨I85, hI86⟩ : ∃ q : Nat → World → Prop, q = fun (i : Nat) w' => Own w D w' [row A75 r70.length c76 (List.flatMap (eN .u64) r70) 30 1, blk g1 [.slice A1x0 p1.xH.ls.length c1x0, .slice A1x1 p1.xW.ls.length c1x1] 29, blk g0 [.slice A0x0 p0.xrows.ls.length c0x0] 59] ∧ (i ≤ r70.length ∧ w16_same_L1 p0 p1 r70 = w16_same_L1 p0 p1 (List.drop i r70)) := ⟨_, rfl⟩
 have dm87 : ∀ {k79 : Nat} {w' : World}, I85 k79 w' ↔ Own w D w' [row A75 r70.length c76 (List.flatMap (eN .u64) r70) 30 1, blk g1 [.slice A1x0 p1.xH.ls.length c1x0, .slice A1x1 p1.xW.ls.length c1x1] 29, blk g0 [.slice A0x0 p0.xrows.ls.length c0x0] 59] ∧ k79 ≤ r70.length ∧ w16_same_L1 p0 p1 r70 = w16_same_L1 p0 p1 (List.drop k79 r70) := by intros; subst hI86; exact Iff.rfl
 refine Wp.loop (fun i : Nat => [(4, .bool false), (65, .int .i64 ((i : Nat) : Int)), (64, .int .i64 ((r70.length : Nat) : Int)), (63, .slice A75 r70.length c76), (0, .pointer (some ⟨g0, 0, none⟩)), (1, .pointer (some ⟨g1, 0, none⟩))]) I85 (fun i => r70.length - i) 0 ⟨rfl, rfl, rfl, rfl, rfl, rfl, trivial⟩ (dm87.2 ⟨H81, by omega, rfl⟩) ?_
 rintro k79 w82 hf84
 show Wp _ _ _ [(4, .bool false), (65, .int .i64 ((k79 : Nat) : Int)), (64, .int .i64 ((r70.length : Nat) : Int)), (63, .slice A75 r70.length c76), (0, .pointer (some ⟨g0, 0, none⟩)), (1, .pointer (some ⟨g1, 0, none⟩))] _ _
 obtain ⟨H83, hi89, hq88⟩ := dm87.1 hf84
 refine sr (Kz (.bool (decide (((k79 : Nat) : Int) < ((r70.length : Nat) : Int)))) (nt (Wp.seq ?_)))
 by_cases h90 : ((k79 : Nat) : Int) < ((r70.length : Nat) : Int)
 obtain ⟨x91, hx92⟩ := rds_at (ls := r70) (i := k79) eN_len (by decide) (H83.rds (i := 0) rfl) (by first | omega | (simp; done) | (simp; omega))
 have hd93 := drop_at hx92
 refine jT (dT h90) (sk (Wp.seq (bo (sr (fw (.pointer (some ⟨ab A75, ao A75 + k79 * 1, none⟩)) (Yl.indexAddr (El37) rfl rfl ((H83.rds (i := 0) rfl).addr (i := k79) (by omega)) (by omega)) (fw (.int .u64 ((x91 : Nat) : Int)) (Yl.load rfl (Lds.one Try.isAgg30 (((H83.rds (i := 0) rfl).elem eN_len hx92 (by decide)).at_ (k := 0) rfl))) (Ar rfl (Mz rfl (Mz rfl ?_)))))))))
 have H94 := H83.pk [2, 0, 1]
 obtain ⟨r100, hr101⟩ : ∃ q, locks_Table_Holds p0 x91 = q := ⟨_, rfl⟩
 obtain ⟨D95, HP96, ro97, bk98, rr99⟩ := Own.enter1 H94
 refine cl Try.call17 (locks_Table_Holds_ok _ _ g0 p0 A0x0 c0x0 d0x0 x91 r100 HP96 hd0x0 (ro97 _ hx0x0) (show p0.xrows.ls.length ≤ c0x0 ∧ p0.xrows.ls.length ≤ 9223372036854775807 from by omega) (fun x9 h9 => ⟨ro97 _ (hm0x0 x9 h9).1, (hm0x0 x9 h9).2⟩) (by first | omega | (dsimp only; omega)) (by first | assumption | exact Sound.hd (by assumption)) hr101) ?_
 rintro _ w102 ⟨A105, c106, rfl, HQ103⟩
 have H104 := bk98 _ _ HQ103
 have hb107 := H104.rowC (i := 0) rfl
 refine Ar rfl (Mz rfl (Mz rfl ?_))
 have H108 := H104.pk [3, 0, 1, 2]
 obtain ⟨r114, hr115⟩ : ∃ q, r16_Table_Holds p1 x91 = q := ⟨_, rfl⟩
 obtain ⟨D109, HP110, ro111, bk112, rr113⟩ := Own.enter1 H108
 refine cl Try.call40 (r16_Table_Holds_ok _ _ g1 p1 A1x0 c1x0 A1x1 c1x1 x91 r114 HP110 (ro111 _ hx1x0) (show p1.xH.ls.length ≤ c1x0 ∧ p1.xH.ls.length ≤ 9223372036854775807 from by omega) (ro111 _ hx1x1) (show p1.xW.ls.length ≤ c1x1 ∧ p1.xW.ls.length ≤ 9223372036854775807 from by omega) (by first | omega | (dsimp only; omega)) hr115) ?_
 rintro _ w116 ⟨A119, c120, rfl, HQ117⟩
 have H118 := bk112 _ _ HQ117
 have hb121 := H118.rowC (i := 0) rfl
 refine An rfl (Wp.seq (sr (Mz rfl (Kz (.int .i64 ((r100.length : Nat) : Int)) (Mz rfl (Kz (.int .i64 ((r114.length : Nat) : Int)) (fw (.bool (decide (¬ (((r100.length : Nat) : Int) = ((r114.length : Nat) : Int))))) (Yl.bool (e := !(decide (((r100.length : Nat) : Int) = ((r114.length : Nat) : Int)))) yk decide_not.symm) (nt ?_))))))))
 by_cases h122 : ((r100.length : Nat) : Int) = ((r114.length : Nat) : Int)
 refine jF (dF (not_not_intro h122)) (sk (sr (Mz rfl (Kz (.int .i64 ((r100.length : Nat) : Int)) (Mn rfl (bo ?_))))))
 have H126 := H118.pk [0, 1, 2, 3, 4]
 obtain ⟨I130, hI131⟩ : ∃ q : (Nat × (List LockD)) → World → Prop, q = fun (i : Nat × (List LockD)) w' => Own w D w' [row A119 r114.length c120 (List.flatMap LockD.cells r114) 34 3, blk g1 [.slice A1x0 p1.xH.ls.length c1x0, .slice A1x1 p1.xW.ls.length c1x1] 29, row A105 r100.length c106 (List.flatMap LockD.cells i.2) 34 3, blk g0 [.slice A0x0 p0.xrows.ls.length c0x0] 59, row A75 r70.length c76 (List.flatMap (eN .u64) r70) 30 1] ∧ (i.2.length = r100.length ∧ i.1 ≤ r100.length ∧ w16_same_L2 r114 r100.length 0 r100 = w16_same_L2 r114 (r100.length - i.1) i.1 i.2) := ⟨_, rfl⟩
 have dm132 : ∀ {k123 : Nat} {l124 : List LockD} {w' : World}, I130 (k123, l124) w' ↔ Own w D w' [row A119 r114.length c120 (List.flatMap LockD.cells r114) 34 3, blk g1 [.slice A1x0 p1.xH.ls.length c1x0, .slice A1x1 p1.xW.ls.length c1x1] 29, row A105 r100.length c106 (List.flatMap LockD.cells l124) 34 3, blk g0 [.slice A0x0 p0.xrows.ls.length c0x0] 59, row A75 r70.length c76 (List.flatMap (eN .u64) r70) 30 1] ∧ l124.length = r100.length ∧ k123 ≤ r100.length ∧ w16_same_L2 r114 r100.length 0 r100 = w16_same_L2 r114 (r100.length - k123) k123 l124 := by intros; subst hI131; exact Iff.rfl
 refine Wp.loop (fun i : Nat × (List LockD) => [(4, .bool false), (82, .int .i64 ((i.1 : Nat) : Int)), (81, .int .i64 ((r100.length : Nat) : Int)), (10, .slice A119 r114.length c120), (9, .slice A105 r100.length c106), (65, .int .i64 ((k79 : Nat) : Int)), (64, .int .i64 ((r70.length : Nat) : Int)), (63, .slice A75 r70.length c76), (0, .pointer (some ⟨g0, 0, none⟩)), (1, .pointer (some ⟨g1, 0, none⟩))]) I130 (fun i => r100.length - i.1) (0, r100) ⟨rfl, rfl, rfl, rfl, rfl, rfl, rfl, rfl, rfl, rfl, trivial⟩ (dm132.2 ⟨H126, by first | omega | (simp only [List.length_set] <;> omega) | (simp only [List.length_replicate]), by omega, rfl⟩) ?_
 rintro ⟨k123, l124⟩ w127 hf129
 show Wp _ _ _ [(4, .bool false), (82, .int .i64 ((k123 : Nat) : Int)), (81, .int .i64 ((r100.length : Nat) : Int)), (10, .slice A119 r114.length c120), (9, .slice A105 r100.length c106), (65, .int .i64 ((k79 : Nat) : Int)), (64, .int .i64 ((r70.length : Nat) : Int)), (63, .slice A75 r70.length c76), (0, .pointer (some ⟨g0, 0, none⟩)), (1, .pointer (some ⟨g1, 0, none⟩))] _ _
 obtain ⟨H128, hi134, hi135, hq133⟩ := dm132.1 hf129
 refine sr (Kz (.bool (decide (((k123 : Nat) : Int) < ((r100.length : Nat) : Int)))) (nt (Wp.seq ?_)))
 by_cases h136 : ((k123 : Nat) : Int) < ((r100.length : Nat) : Int)
 refine jT (dT h136) (sk (Wp.seq (bo (sr (Mz rfl (An rfl (Wp.seq (Wp.seq ?_))))))))
 have H138 := H128.drew
 refine Wp.drawnX [] (fun W => ∃ L', Own w D W ([row A119 r114.length c120 (List.flatMap LockD.cells r114) 34 3, blk g1 [.slice A1x0 p1.xH.ls.length c1x0, .slice A1x1 p1.xW.ls.length c1x1] 29, row A105 r100.length c106 (List.flatMap LockD.cells l124) 34 3, blk g0 [.slice A0x0 p0.xrows.ls.length c0x0] 59, row A75 r70.length c76 (List.flatMap (eN .u64) r70) 30 1] ++ L')) (by kernel_rfl) (by kernel_rfl) (NoP.then (NoP.then (NoP.block (NoP.then (NoP.then (NoP.block (NoP.block (NoP.then (NoP.then (NoP.block (NoP.then NoP.base))))))))))) ⟨_, H138⟩ ?_
 revert H138
 generalize World.drew w127 = w137
 intro H138
 refine GX.take (v := .slice A105 r100.length c106) (rs := []) 0 rfl (by kernel_rfl) (fun _ _ => Yl.move rfl) (GX.take (v := .int .i64 ((k123 : Nat) : Int)) (rs := []) 1 rfl (by kernel_rfl) (fun _ _ => Yl.move rfl) ?_)
 obtain ⟨x139, hx140⟩ := at_of (ls := l124) (i := k123) (by first | omega | (simp; done) | (simp; omega))
 refine GX.take (v := .pointer (some ⟨ab A105, ao A105 + k123 * 3, none⟩)) (rs := []) 2 rfl (by kernel_rfl) (fun _ ⟨_, H9⟩ => Yl.indexAddr (El46) rfl rfl ((H9.rds (i := 2) rfl).addr (i := k123) (by omega)) (by omega)) (GX.take (v := .agg (LockD.cells x139).toArray) (rs := []) 3 rfl (by kernel_rfl) (fun _ ⟨_, H9⟩ => Yl.load rfl (Lds.agg (cs := (LockD.cells x139)) Try.isAgg34 Try.sizeOf34 ((H9.rds (i := 2) rfl).elem LockD.len hx140 (by decide)))) (GX.take (v := .slice A119 r114.length c120) (rs := []) 4 rfl (by kernel_rfl) (fun _ _ => Yl.move rfl) (GX.take (v := .int .i64 ((k123 : Nat) : Int)) (rs := []) 5 rfl (by kernel_rfl) (fun _ _ => Yl.move rfl) ?_)))
 obtain ⟨x141, hx142⟩ := at_of (ls := r114) (i := k123) (by first | omega | (simp; done) | (simp; omega))
 refine GX.take (v := .pointer (some ⟨ab A119, ao A119 + k123 * 3, none⟩)) (rs := []) 6 rfl (by kernel_rfl) (fun _ ⟨_, H9⟩ => Yl.indexAddr (El46) rfl rfl ((H9.rds (i := 0) rfl).addr (i := k123) (by omega)) (by omega)) (GX.take (v := .agg (LockD.cells x141).toArray) (rs := []) 7 rfl (by kernel_rfl) (fun _ ⟨_, H9⟩ => Yl.load rfl (Lds.agg (cs := (LockD.cells x141)) Try.isAgg34 Try.sizeOf34 ((H9.rds (i := 0) rfl).elem LockD.len hx142 (by decide)))) (GX.take (v := .bool (decide (¬ (((x139.xRange.xLo = x141.xRange.xLo) ∧ (x139.xRange.xHi = x141.xRange.xHi)) ∧ (x139.xWrite = x141.xWrite))))) (rs := []) 8 rfl (by kernel_rfl) (fun _ _ => Yl.bool (e := !(decide (((x139.xRange.xLo = x141.xRange.xLo) ∧ (x139.xRange.xHi = x141.xRange.xHi)) ∧ (x139.xWrite = x141.xWrite)))) (Yl.neAgg rfl rfl (by kernel_rfl) rfl (Eqv.struct Try.underlying34 (by kernel_rfl) (EqF.dec (EqF.cons (u := .agg (RangeD.cells x139.xRange).toArray) (v := .agg (RangeD.cells x141.xRange).toArray) (by decide) (fun _ => by kernel_rfl) (fun _ => by kernel_rfl) (Eqv.struct Try.underlying32 (by kernel_rfl) (EqF.dec (EqF.cons (u := .string ⟨List.toArray x139.xRange.xLo⟩) (v := .string ⟨List.toArray x141.xRange.xLo⟩) (by decide) (fun _ => by kernel_rfl) (fun _ => by kernel_rfl) (Eqv.string Try.underlying9) (EqF.cons (u := .string ⟨List.toArray x139.xRange.xHi⟩) (v := .string ⟨List.toArray x141.xRange.xHi⟩) (by decide) (fun _ => by kernel_rfl) (fun _ => by kernel_rfl) (Eqv.string Try.underlying9) (EqF.nil.up (Nat.zero_le _)))) ((congrArg (decide (x139.xRange.xLo = x141.xRange.xLo) && ·) and_dec1).trans and_dec))) (EqF.cons (u := .bool x139.xWrite) (v := .bool x141.xWrite) (by decide) (fun _ => by kernel_rfl) (fun _ => by kernel_rfl) ((Eqv.bool Try.underlying4).up (by decide)) (EqF.nil.up (Nat.zero_le _)))) ((congrArg (decide ((x139.xRange.xLo = x141.xRange.xLo) ∧ (x139.xRange.xHi = x141.xRange.xHi)) && ·) and_dec1).trans and_dec)))) decide_not.symm) (GX.done (by kernel_rfl) (Fin.then ?_))))
 by_cases h143 : ((x139.xRange.xLo = x141.xRange.xLo) ∧ (x139.xRange.xHi = x141.xRange.xHi)) ∧ (x139.xWrite = x141.xWrite)
 refine jF (dF (not_not_intro h143)) (sk (Wp.region (Mz rfl (Mz rfl (Mz rfl (Mz rfl (fw (.pointer (some ⟨ab A105, ao A105 + k123 * 3, none⟩)) (Yl.indexAddr (El46) rfl rfl ((H138.rds (i := 2) rfl).addr (i := k123) (by omega)) (by omega)) (Kz (.pointer (some ⟨ab A105, ao A105 + k123 * 3 + 2, none⟩)) (fw (.bool x139.xWrite) (Yl.load rfl (Lds.one Try.isAgg4 (((H138.rds (i := 2) rfl).elem LockD.len hx140 (by decide)).at_ (k := 2) rfl))) (Kz (.bool (!x139.xWrite)) (fw (.pointer (some ⟨ab A105, ao A105 + k123 * 3, none⟩)) (Yl.indexAddr (El46) rfl rfl ((H138.rds (i := 2) rfl).addr (i := k123) (by omega)) (by omega)) (Kz (.pointer (some ⟨ab A105, ao A105 + k123 * 3 + 2, none⟩)) ?_))))))))))))
 have H144 := H138.pk [2, 0, 1, 3, 4]
 refine WL.do0 (Do.storeRow (vs := [.bool (!x139.xWrite)]) (o := k123 * 3 + 2) (q := ao A105 + k123 * 3 + 2) H144 rfl (by omega) rfl Try.sizeOf4 rfl rfl (Nat.le_of_ble_eq_true rfl) (store_fits LockD.len hx140 (Nat.le_of_ble_eq_true rfl)) (flat_set (y := (LockD.mk x139.xRange (!x139.xWrite))) LockD.len rfl (Nat.le_of_ble_eq_true rfl) hx140) ?_)
 intro w145 H146
 refine WL.nil (bN (Fin.then (Wp.region (fw (.int .i64 ((k123 + 1 : Nat) : Int)) (Yl.int (e := IntKind.i64.wrap (((k123 : Nat) : Int) + 1)) yk (by rw [IntWalk.i64_in _ (by omega)]; omega)) (Mz rfl (WL.nil ?_))))))
 have H147 := H146.pk [1, 2, 0, 3, 4]
 exact Fin.round (k123 + 1, (List.set l124 k123 (LockD.mk x139.xRange (!x139.xWrite)))) ⟨rfl, rfl, rfl, rfl, rfl, rfl, rfl, rfl, rfl, rfl, trivial⟩ (dm132.2 ⟨H147, by first | omega | (simp only [List.length_set] <;> omega) | (simp only [List.length_replicate]), by omega, Eq.trans (hq133) (Eq.trans (congrArg (fun q => w16_same_L2 r114 q k123 l124) (sub_at (n := r100.length) (i := k123) (by omega))) (Eq.trans (bnd_of (getD_of hx140)) (Eq.trans (bnd_of (getD_of hx142)) (if_pos h143))))⟩) (by show r100.length - (k123 + 1) < r100.length - k123; omega)
 refine jT (dT h143) (sr (An rfl (rt (tR (bR (tR (tR (bR (bR (tR (tR (bR (tR (rs ?_))))))))))))))
 have H148 := H138.pk [3, 1]
 obtain rfl : _ = false := hr.symm.trans (et (bnd_of hr27) (et (ip h34) (et (lp_l hL62) (et (bnd_of hr71) (lp_r (et (hq88) (et (congrArg (fun q => w16_same_L1 p0 p1 q) hd93) (et (bnd_of hr101) (et (bnd_of hr115) (et (ip h122) (lpS_r (et (hq133) (et (congrArg (fun q => w16_same_L2 r114 q k123 l124) (sub_at (n := r100.length) (i := k123) (by omega))) (et (bnd_of (getD_of hx140)) (et (bnd_of (getD_of hx142)) (iN h143))))))))))))))))
 exact ⟨rfl, H148⟩
 refine jF (dF h136) (Wp.exit (Fin.thenX ?_))
 have hL149 : w16_same_L2 r114 r100.length 0 r100 = Sum.inl () := et (hq133) (et (congrArg (fun q => w16_same_L2 r114 q k123 l124) (sub_end (n := r100.length) (i := k123) (by omega))) rfl)
 refine Fin.thenX (Fin.blockX (bN (Fin.then ?_)))
 have H150 := H128.pk [1, 3, 4]
 refine Wp.region (fw (.int .i64 ((k79 + 1 : Nat) : Int)) (Yl.int (e := IntKind.i64.wrap (((k79 : Nat) : Int) + 1)) yk (by rw [IntWalk.i64_in _ (by omega)]; omega)) (Mz rfl (WL.nil ?_)))
 have H151 := H150.pk [2, 0, 1]
 exact Fin.round (k79 + 1) ⟨rfl, rfl, rfl, rfl, rfl, rfl, trivial⟩ (dm87.2 ⟨H151, by omega, et (hq88) (et (congrArg (fun q => w16_same_L1 p0 p1 q) hd93) (et (bnd_of hr101) (et (bnd_of hr115) (et (ip h122) (lpS_l hL149)))))⟩) (by show r70.length - (k79 + 1) < r70.length - k79; omega)
 refine jT (dT h122) (sr (An rfl (rt (tR (bR (tR (tR (bR (tR (rs ?_))))))))))
 have H152 := H118.pk [3, 1]
 obtain rfl : _ = false := hr.symm.trans (et (bnd_of hr27) (et (ip h34) (et (lp_l hL62) (et (bnd_of hr71) (lp_r (et (hq88) (et (congrArg (fun q => w16_same_L1 p0 p1 q) hd93) (et (bnd_of hr101) (et (bnd_of hr115) (iN h122))))))))))
 exact ⟨rfl, H152⟩
 refine jF (dF h90) (Wp.exit (Fin.thenX ?_))
 have hL153 : w16_same_L1 p0 p1 r70 = Sum.inl () := et (hq88) (et (congrArg (fun q => w16_same_L1 p0 p1 q) (drop_end (ls := r70) (i := k79) (by omega))) rfl)
 refine Fin.thenX (Fin.blockX (Fin.then (Wp.seq ?_)))
 have H154 := H83.pk [1, 2]
 refine Wp.region (Mz rfl ?_)
 have H155 := H154.pk [1, 0]
 obtain ⟨r161, hr162⟩ : ∃ q, locks_Table_Txns p0 = q := ⟨_, rfl⟩
 obtain ⟨D156, HP157, ro158, bk159, rr160⟩ := Own.enter1 H155
 refine cl Try.call20 (locks_Table_Txns_ok _ _ g0 p0 A0x0 c0x0 d0x0 r161 HP157 hd0x0 (ro158 _ hx0x0) (show p0.xrows.ls.length ≤ c0x0 ∧ p0.xrows.ls.length ≤ 9223372036854775807 from by omega) (fun x9 h9 => ⟨ro158 _ (hm0x0 x9 h9).1, (hm0x0 x9 h9).2⟩) (by first | omega | (dsimp only; omega)) hr162) ?_
 rintro _ w163 ⟨A166, c167, rfl, HQ164, hk168⟩
 have H165 := bk159 _ _ HQ164
 have hb169 := H165.rowC (i := 0) rfl
 replace hk168 : r161.length = p0.xrows.ls.length := hk168
 refine Mz rfl ?_
 have H170 := H165.pk [2, 0, 1]
 obtain ⟨r176, hr177⟩ : ∃ q, r16_Table_Txns p1 = q := ⟨_, rfl⟩
 obtain ⟨D171, HP172, ro173, bk174, rr175⟩ := Own.enter1 H170
 refine cl Try.call39 (r16_Table_Txns_ok _ _ g1 p1 A1x0 c1x0 A1x1 c1x1 r176 HP172 (ro173 _ hx1x0) (show p1.xH.ls.length ≤ c1x0 ∧ p1.xH.ls.length ≤ 9223372036854775807 from by omega) (ro173 _ hx1x1) (show p1.xW.ls.length ≤ c1x1 ∧ p1.xW.ls.length ≤ 9223372036854775807 from by omega) (by first | omega | (dsimp only; omega)) hr177) ?_
 rintro _ w178 ⟨A181, c182, rfl, HQ179, hk183⟩
 have H180 := bk174 _ _ HQ179
 have hb184 := H180.rowC (i := 0) rfl
 replace hk183 : r176.length ≤ p1.xH.ls.length + p1.xW.ls.length := hk183
 have H185 := H180.pk [2, 0, 1, 3]
 obtain ⟨⟨r191, r192⟩, hr193⟩ : ∃ q : Bool × (List Nat), w16_numbers r161 r176 = q := ⟨_, rfl⟩
 obtain ⟨D186, HP187, ro188, bk189, rr190⟩ := Own.enter1 H185
 refine cl Try.call12 (w16_numbers_ok _ _ A166 r161.length c167 r161 A181 r176.length c182 r176 r191 r192 HP187 rfl (by omega) (rr190 _ 0 _ rfl row_rds) rfl (by omega) (by omega) hr193) ?_
 rintro _ w194 ⟨rfl, HQ195⟩
 have H196 := bk189 _ _ HQ195
 have hb197 := H196.rowC (i := 0) rfl
 refine An rfl (rt (rs ?_))
 have H198 := H196.pk [3, 2]
 obtain rfl : _ = r191 := hr.symm.trans (et (bnd_of hr27) (et (ip h34) (et (lp_l hL62) (et (bnd_of hr71) (et (lp_l hL153) (et (bnd_of hr162) (et (bnd_of hr177) (bnd_of hr193))))))))
 exact ⟨rfl, H198⟩
 refine jT (dT h34) (sr (An rfl (rt (tR (rs ?_)))))
 have H199 := H30.pk [1, 2]
 obtain rfl : _ = false := hr.symm.trans (et (bnd_of hr27) (iN h34))
 exact ⟨rfl, H199⟩
end Go.Proofs.Ytggnajpokhaaiaa
