/-
 wire: the document's answer, a message's bytes.
-/
import Derived.Test.YtccjclalngabhaaGreatWiD
import Derived.Test.YtccjclalngabhaaGreatWs
namespace Go.Proofs.YtccjclalngabhaaGreat
open Go.RowKit
set_option linter.unusedVariables false
set_option linter.unusedSectionVars false
set_option linter.unusedSimpArgs false
def r18_body_L0 (p0 : MsgT) : List UInt8 → List UInt8 → (List UInt8)
  | [], l44 => l44
  | x58 :: q46, l44 => if ((x58.toNat : Nat) : Int) = 99 then r18_body_L0 p0 q46 (l44 ++ [(u8I p0.xCode)]) else if ((x58.toNat : Nat) : Int) = 112 then r18_body_L0 p0 q46 (l44 ++ [(u8I p0.xPeer)]) else if ((x58.toNat : Nat) : Int) = 102 then bnd (r18_flag l44 p0.xFlag) fun yr90 => r18_body_L0 p0 q46 yr90 else if ((x58.toNat : Nat) : Int) = 114 then bnd (r18_Text l44 p0.xRange.xLo) fun yr109 => bnd (r18_Text yr109 p0.xRange.xHi) fun yr125 => r18_body_L0 p0 q46 yr125 else if ((x58.toNat : Nat) : Int) = 111 then bnd (r18_Ops l44 p0.xOps.ls) fun yr143 => r18_body_L0 p0 q46 yr143 else if ((x58.toNat : Nat) : Int) = 115 then bnd (r18_Res l44 p0.xResults.ls) fun yr160 => r18_body_L0 p0 q46 yr160 else if ((x58.toNat : Nat) : Int) = 119 then bnd (r18_Owners l44 p0.xOwners.ls) fun yr177 => r18_body_L0 p0 q46 yr177 else if ((x58.toNat : Nat) : Int) = 113 then bnd (r01_Num p0.xReq) fun yr193 => r18_body_L0 p0 q46 (l44 ++ yr193) else if ((x58.toNat : Nat) : Int) = 98 then bnd (r01_Num p0.xBoot) fun yr216 => r18_body_L0 p0 q46 (l44 ++ yr216) else if ((x58.toNat : Nat) : Int) = 116 then bnd (r01_Num p0.xTxn) fun yr239 => r18_body_L0 p0 q46 (l44 ++ yr239) else if ((x58.toNat : Nat) : Int) = 108 then bnd (r01_Num p0.xLow) fun yr262 => r18_body_L0 p0 q46 (l44 ++ yr262) else if ((x58.toNat : Nat) : Int) = 118 then bnd (r01_Num p0.xVer) fun yr285 => r18_body_L0 p0 q46 (l44 ++ yr285) else if ((x58.toNat : Nat) : Int) = 101 then bnd (r01_Num p0.xEpoch) fun yr308 => r18_body_L0 p0 q46 (l44 ++ yr308) else if ((x58.toNat : Nat) : Int) = 109 then bnd (r01_Num p0.xMove) fun yr331 => r18_body_L0 p0 q46 (l44 ++ yr331) else if ((x58.toNat : Nat) : Int) = 97 then bnd (r01_Num p0.xAttempt) fun yr354 => r18_body_L0 p0 q46 (l44 ++ yr354) else if ((x58.toNat : Nat) : Int) = 110 then bnd (r01_Num p0.xN) fun yr377 => r18_body_L0 p0 q46 (l44 ++ yr377) else default
def r18_body (p0 : MsgT) : (List UInt8) :=
 bnd (r18_fields p0.xKind) fun yr32 => bnd (r18_body_L0 p0 yr32 ([(u8I p0.xKind), (u8I p0.xFrom), (u8I p0.xTo)])) fun sLrbL => sLrbL
set_option maxRecDepth 100000 in
set_option maxHeartbeats 4000000 in
theorem r18_body_ok (w : World) (D : Nat → Prop) (p0 : MsgT) (A0x0 : Option Addr) (n0x0 c0x0 : Nat) (A0x1 : Option Addr) (n0x1 c0x1 : Nat) (d0x1 : List ResultD) (A0x2 : Option Addr) (n0x2 c0x2 : Nat) (r0 : List UInt8) (H : Own w D w []) (hn0x0 : n0x0 = p0.xOps.ls.length) (hx0x0 : Ro w D fun w' => Rds w' 6 A0x0 p0.xOps.ls.length (List.flatMap OpD.cells p0.xOps.ls)) (hb0x0 : p0.xOps.ls.length ≤ c0x0 ∧ p0.xOps.ls.length ≤ 9223372036854775807) (hd0x1 : List.map ResultD.abs d0x1 = p0.xResults.ls) (hn0x1 : n0x1 = p0.xResults.ls.length) (hx0x1 : Ro w D fun w' => Rds w' 3 A0x1 p0.xResults.ls.length (List.flatMap ResultD.cells d0x1)) (hb0x1 : p0.xResults.ls.length ≤ c0x1 ∧ p0.xResults.ls.length ≤ 9223372036854775807) (hm0x1 : ∀ x ∈ d0x1, Ro w D (fun w' => Rds w' 2 x.xPairs.A x.xPairs.ls.length (List.flatMap PairD.cells x.xPairs.ls)) ∧ (x.xPairs.ls.length ≤ x.xPairs.c ∧ x.xPairs.ls.length ≤ 9223372036854775807)) (hn0x2 : n0x2 = p0.xOwners.ls.length) (hx0x2 : Ro w D fun w' => Rds w' 2 A0x2 p0.xOwners.ls.length (List.flatMap OwnerD.cells p0.xOwners.ls)) (hb0x2 : p0.xOwners.ls.length ≤ c0x2 ∧ p0.xOwners.ls.length ≤ 9223372036854775807) (hh0 : ((p0.xOps.ls.length ≤ 24 ∧ ∀ x ∈ p0.xOps.ls, x.xKey.length ≤ 12 ∧ x.xValue.length ≤ 16 ∧ x.xLo.length ≤ 12 ∧ x.xHi.length ≤ 12) ∧ (p0.xResults.ls.length ≤ 24 ∧ ∀ x ∈ p0.xResults.ls, x.xValue.length ≤ 16 ∧ x.xPairs.ls.length ≤ 4 ∧ ∀ q ∈ x.xPairs.ls, q.xKey.length ≤ 12 ∧ q.xValue.length ≤ 16) ∧ (p0.xOwners.ls.length ≤ 6 ∧ ∀ x ∈ p0.xOwners.ls, x.xLo.length ≤ 12) ∧ p0.xRange.xLo.length ≤ 12 ∧ p0.xRange.xHi.length ≤ 12)) (hh1 : p0.xReq ≤ 18446744073709551615 ∧ p0.xBoot ≤ 18446744073709551615 ∧ p0.xTxn ≤ 18446744073709551615 ∧ p0.xLow ≤ 18446744073709551615 ∧ p0.xVer ≤ 18446744073709551615 ∧ p0.xEpoch ≤ 18446744073709551615 ∧ p0.xMove ≤ 18446744073709551615 ∧ p0.xAttempt ≤ 18446744073709551615 ∧ p0.xN ≤ 18446744073709551615) (hr : r18_body p0 = r0) :
    Calls Tryz.prog 22 #[.agg (MsgC p0.xKind p0.xFrom p0.xTo p0.xClient p0.xCode p0.xPeer p0.xReq p0.xBoot p0.xTxn p0.xLow p0.xVer p0.xEpoch p0.xMove p0.xAttempt p0.xN p0.xFlag p0.xRange.xLo p0.xRange.xHi A0x0 n0x0 c0x0 A0x1 n0x1 c0x1 A0x2 n0x2 c0x2).toArray] w (Ret fun v w' => ∃ (B0 : Option Addr) (b0 : Nat), v = .slice B0 r0.length b0 ∧ Own w D w' [row B0 r0.length b0 (List.flatMap eB r0) 5 1] ∧ (r0.length ≤ 1000000)) := by
 subst hn0x0 hn0x1 hn0x2
 have hdl0x1 := abs_len hd0x1
 have hh0a := hh0.1.1
 have hh0b := hh0.2.1.1
 have hh0c := hh0.2.2.1.1
 have hh0d := hh0.2.2.2
 refine Calls.body (args := [.agg (MsgP p0 A0x0 c0x0 A0x1 c0x1 A0x2 c0x2).toArray]) Tryz.func22 rfl rfl rfl ?_
 show Wp _ _ _ [(0, .agg (MsgP p0 A0x0 c0x0 A0x1 c0x1 A0x2 c0x2).toArray)] _ _
 refine sr ?_
 refine npw (MsgP p0 A0x0 c0x0 A0x1 c0x1 A0x2 c0x2) 29 H ?_
 intro g21 w22 H23
 refine Ar rfl (Kz (.pointer (some ⟨g21, 0, none⟩)) (Lz (.int .i64 p0.xKind) H23 0 Tryz.isAgg3 (fw (.int .u8 (((u8I p0.xKind).toNat : Nat) : Int)) (Yl.int (e := IntKind.u8.wrap p0.xKind) yk (u8I_wrap _)) (Kz (.pointer (some ⟨g21, 1, none⟩)) (Lz (.int .i64 p0.xFrom) H23 0 Tryz.isAgg3 (fw (.int .u8 (((u8I p0.xFrom).toNat : Nat) : Int)) (Yl.int (e := IntKind.u8.wrap p0.xFrom) yk (u8I_wrap _)) (Kz (.pointer (some ⟨g21, 2, none⟩)) (Lz (.int .i64 p0.xTo) H23 0 Tryz.isAgg3 (fw (.int .u8 (((u8I p0.xTo).toNat : Nat) : Int)) (Yl.int (e := IntKind.u8.wrap p0.xTo) yk (u8I_wrap _)) ?_)))))))))
 refine nrw [.int .u8 (((u8I p0.xKind).toNat : Nat) : Int), .int .u8 (((u8I p0.xFrom).toNat : Nat) : Int), .int .u8 (((u8I p0.xTo).toNat : Nat) : Int)] 5 1 3 H23 ?_
 intro A24 w25 H26
 replace H26 := Own.reh (y := row A24 3 3 (List.flatMap eB ([(u8I p0.xKind), (u8I p0.xFrom), (u8I p0.xTo)])) 5 1) rfl H26
 refine An rfl (Wp.seq (sr (Kz (.pointer (some ⟨g21, 0, none⟩)) (Lz (.int .i64 p0.xKind) H26 1 Tryz.isAgg3 ?_))))
 obtain ⟨r32, hr33⟩ : ∃ q, r18_fields p0.xKind = q := ⟨_, rfl⟩
 obtain ⟨D27, HP28, ro29, bk30, rr31⟩ := Own.enter0 H26
 refine cl Tryz.call27 (r18_fields_ok _ _ p0.xKind r32 HP28 hr33) ?_
 rintro _ w34 ⟨rfl, HQ35, hk37⟩
 have H36 := bk30 _ _ HQ35
 replace hk37 : r32.length ≤ 5 := hk37
 refine WL.do rfl (Do.toBytesE (l := r32) Tryz.underlying9 Tryz.underlying31 Tryz.underlying5 H36 rfl (by unfold maxLen; omega) ?_)
 intro A38 c39 w40 H41
 refine Kz (.int .i64 ((r32.length : Nat) : Int)) (Mn rfl (bo ?_))
 have H47 := H41.pk [0, 2, 1]
 obtain ⟨I51, hI52⟩ : ∃ q : ((Option Addr) × Nat × (List UInt8) × Nat) → World → Prop, q = fun (i : (Option Addr) × Nat × (List UInt8) × Nat) w' => Own w D w' [row A38 r32.length c39 (List.flatMap eB r32) 5 1, blk g21 (MsgP p0 A0x0 c0x0 A0x1 c0x1 A0x2 c0x2) 29, row i.1 i.2.2.1.length i.2.1 (List.flatMap eB i.2.2.1) 5 1] ∧ (i.2.2.2 ≤ r32.length ∧ ((i.2.2.1.length : Nat) : Int) ≤ 3 + 6000 * ((i.2.2.2 : Nat) : Int) ∧ r18_body_L0 p0 r32 ([(u8I p0.xKind), (u8I p0.xFrom), (u8I p0.xTo)]) = r18_body_L0 p0 (List.drop i.2.2.2 r32) i.2.2.1) := ⟨_, rfl⟩
 have dm53 : ∀ {A42 : Option Addr} {c43 : Nat} {l44 : List UInt8} {k45 : Nat} {w' : World}, I51 (A42, c43, l44, k45) w' ↔ Own w D w' [row A38 r32.length c39 (List.flatMap eB r32) 5 1, blk g21 (MsgP p0 A0x0 c0x0 A0x1 c0x1 A0x2 c0x2) 29, row A42 l44.length c43 (List.flatMap eB l44) 5 1] ∧ k45 ≤ r32.length ∧ ((l44.length : Nat) : Int) ≤ 3 + 6000 * ((k45 : Nat) : Int) ∧ r18_body_L0 p0 r32 ([(u8I p0.xKind), (u8I p0.xFrom), (u8I p0.xTo)]) = r18_body_L0 p0 (List.drop k45 r32) l44 := by intros; subst hI52; exact Iff.rfl
 refine Wp.loop (fun i : (Option Addr) × Nat × (List UInt8) × Nat => [(3, .slice i.1 i.2.2.1.length i.2.1), (21, .int .i64 ((i.2.2.2 : Nat) : Int)), (20, .int .i64 ((r32.length : Nat) : Int)), (19, .slice A38 r32.length c39), (2, .slice none 0 0), (1, .pointer (some ⟨g21, 0, none⟩))]) I51 (fun i => r32.length - i.2.2.2) (A24, 3, [(u8I p0.xKind), (u8I p0.xFrom), (u8I p0.xTo)], 0) ⟨rfl, rfl, rfl, rfl, rfl, rfl, trivial⟩ (dm53.2 ⟨H47, (show 0 ≤ r32.length ∧ ((List.length ([(u8I p0.xKind), (u8I p0.xFrom), (u8I p0.xTo)]) : Nat) : Int) ≤ 3 + 6000 * ((0 : Nat) : Int) ∧ r18_body_L0 p0 r32 ([(u8I p0.xKind), (u8I p0.xFrom), (u8I p0.xTo)]) = r18_body_L0 p0 (List.drop 0 r32) ([(u8I p0.xKind), (u8I p0.xFrom), (u8I p0.xTo)]) from ⟨by omega, by first | omega | (simp only [List.length_cons, List.length_nil, List.length_append]; omega), rfl⟩)⟩) ?_
 rintro ⟨A42, c43, l44, k45⟩ w48 hf50
 show Wp _ _ _ [(3, .slice A42 l44.length c43), (21, .int .i64 ((k45 : Nat) : Int)), (20, .int .i64 ((r32.length : Nat) : Int)), (19, .slice A38 r32.length c39), (2, .slice none 0 0), (1, .pointer (some ⟨g21, 0, none⟩))] _ _
 obtain ⟨H49, hi55, hi56, hq54⟩ := dm53.1 hf50
 refine sr (Kz (.bool (decide (((k45 : Nat) : Int) < ((r32.length : Nat) : Int)))) (nt (Wp.seq ?_)))
 by_cases h57 : ((k45 : Nat) : Int) < ((r32.length : Nat) : Int)
 obtain ⟨x58, hx59⟩ := rds_at (ls := r32) (i := k45) eB_len (by decide) (H49.rds (i := 0) rfl) (by first | omega | (simp; done) | (simp; omega))
 have hd60 := drop_at hx59
 refine jT (dT h57) (sk (Wp.seq (bo (sr (fw (.pointer (some ⟨ab A38, ao A38 + k45 * 1, none⟩)) (Yl.indexAddr (El31) rfl rfl ((H49.rds (i := 0) rfl).addr (i := k45) (by omega)) (by omega)) (fw (.int .u8 ((x58.toNat : Nat) : Int)) (Yl.load rfl (Lds.one Tryz.isAgg5 (((H49.rds (i := 0) rfl).elem eB_len hx59 (by decide)).at_ (k := 0) rfl))) (Ar rfl (Mn rfl (bo (sr (Kz (.bool (decide (((x58.toNat : Nat) : Int) = 99))) (An rfl ?_))))))))))))
 by_cases h61 : ((x58.toNat : Nat) : Int) = 99
 refine jT (dT h61) (Wp.region (Mz rfl (Kz (.pointer (some ⟨g21, 4, none⟩)) (Lz (.int .i64 p0.xCode) H49 1 Tryz.isAgg3 (fw (.int .u8 (((u8I p0.xCode).toNat : Nat) : Int)) (Yl.int (e := IntKind.u8.wrap p0.xCode) yk (u8I_wrap _)) ?_)))))
 refine nrw [.int .u8 (((u8I p0.xCode).toNat : Nat) : Int)] 5 1 1 H49 ?_
 intro A62 w63 H64
 replace H64 := Own.reh (y := row A62 1 1 (List.flatMap eB ([(u8I p0.xCode)])) 5 1) rfl H64
 have H65 := H64.pk [3, 0, 1, 2]
 refine WL.do rfl (Do.appendW (k := l44.length) (m := 1) (El31) H65 rfl rfl (src_of Tryz.underlying31 (H65.rds (i := 1) rfl) (flat_one eB_one ([(u8I p0.xCode)]))) rfl (by omega) (s := List.length (l44 ++ [(u8I p0.xCode)])) (by first | omega | (simp only [List.length_append, List.length_cons, List.length_nil] <;> omega)) (List.flatMap_append).symm ?_)
 intro A66 c67 w68 H69
 have hl70 : List.length (l44 ++ [(u8I p0.xCode)]) = l44.length + 1 := by simp only [List.length_append, List.length_cons, List.length_nil]
 refine Az rfl (WL.nil (bN (bN (Fin.then (Wp.region (fw (.int .i64 ((k45 + 1 : Nat) : Int)) (Yl.int (e := IntKind.i64.wrap (((k45 : Nat) : Int) + 1)) yk (by rw [IntWalk.i64_in _ (by omega)]; omega)) (Mz rfl (WL.nil ?_))))))))
 have H71 := H69.pk [2, 3, 0]
 exact Fin.round (A66, c67, (l44 ++ [(u8I p0.xCode)]), k45 + 1) ⟨rfl, rfl, rfl, rfl, rfl, rfl, trivial⟩ (dm53.2 ⟨H71, by omega, by first | omega | (simp only [List.length_cons, List.length_nil, List.length_append]; omega), Eq.trans (hq54) (Eq.trans (congrArg (fun q => r18_body_L0 p0 q l44) hd60) (if_pos h61))⟩) (by show r32.length - (k45 + 1) < r32.length - k45; omega)
 refine jF (dF h61) (sr (Kz (.bool (decide (((x58.toNat : Nat) : Int) = 112))) (An rfl ?_)))
 by_cases h72 : ((x58.toNat : Nat) : Int) = 112
 refine jT (dT h72) (Wp.region (Mz rfl (Kz (.pointer (some ⟨g21, 5, none⟩)) (Lz (.int .i64 p0.xPeer) H49 1 Tryz.isAgg3 (fw (.int .u8 (((u8I p0.xPeer).toNat : Nat) : Int)) (Yl.int (e := IntKind.u8.wrap p0.xPeer) yk (u8I_wrap _)) ?_)))))
 refine nrw [.int .u8 (((u8I p0.xPeer).toNat : Nat) : Int)] 5 1 1 H49 ?_
 intro A73 w74 H75
 replace H75 := Own.reh (y := row A73 1 1 (List.flatMap eB ([(u8I p0.xPeer)])) 5 1) rfl H75
 have H76 := H75.pk [3, 0, 1, 2]
 refine WL.do rfl (Do.appendW (k := l44.length) (m := 1) (El31) H76 rfl rfl (src_of Tryz.underlying31 (H76.rds (i := 1) rfl) (flat_one eB_one ([(u8I p0.xPeer)]))) rfl (by omega) (s := List.length (l44 ++ [(u8I p0.xPeer)])) (by first | omega | (simp only [List.length_append, List.length_cons, List.length_nil] <;> omega)) (List.flatMap_append).symm ?_)
 intro A77 c78 w79 H80
 have hl81 : List.length (l44 ++ [(u8I p0.xPeer)]) = l44.length + 1 := by simp only [List.length_append, List.length_cons, List.length_nil]
 refine Az rfl (WL.nil (bN (bN (Fin.then (Wp.region (fw (.int .i64 ((k45 + 1 : Nat) : Int)) (Yl.int (e := IntKind.i64.wrap (((k45 : Nat) : Int) + 1)) yk (by rw [IntWalk.i64_in _ (by omega)]; omega)) (Mz rfl (WL.nil ?_))))))))
 have H82 := H80.pk [2, 3, 0]
 exact Fin.round (A77, c78, (l44 ++ [(u8I p0.xPeer)]), k45 + 1) ⟨rfl, rfl, rfl, rfl, rfl, rfl, trivial⟩ (dm53.2 ⟨H82, by omega, by first | omega | (simp only [List.length_cons, List.length_nil, List.length_append]; omega), Eq.trans (hq54) (Eq.trans (congrArg (fun q => r18_body_L0 p0 q l44) hd60) (Eq.trans (if_neg h61) (if_pos h72)))⟩) (by show r32.length - (k45 + 1) < r32.length - k45; omega)
 refine jF (dF h72) (sr (Kz (.bool (decide (((x58.toNat : Nat) : Int) = 102))) (An rfl ?_)))
 by_cases h83 : ((x58.toNat : Nat) : Int) = 102
 refine jT (dT h83) (Wp.region (Mz rfl (Kz (.pointer (some ⟨g21, 15, none⟩)) (Lz (.bool p0.xFlag) H49 1 Tryz.isAgg4 ?_))))
 have H84 := H49.pk [2, 0, 1]
 obtain ⟨r90, hr91⟩ : ∃ q, r18_flag l44 p0.xFlag = q := ⟨_, rfl⟩
 obtain ⟨D85, HP86, ro87, bk88, rr89⟩ := Own.enter1 H84
 refine cl Tryz.call66 (r18_flag_ok _ _ A42 l44.length c43 l44 p0.xFlag r90 HP86 rfl (by omega) (by first | omega | (simp only [List.length_cons, List.length_nil, List.length_append]; omega)) hr91) ?_
 rintro _ w92 ⟨A95, c96, rfl, HQ93, hk97⟩
 have H94 := bk88 _ _ HQ93
 have hb98 := H94.rowC (i := 0) rfl
 replace hk97 : r90.length ≤ l44.length + 1 := hk97
 refine Az rfl (WL.nil (bN (bN (Fin.then (Wp.region (fw (.int .i64 ((k45 + 1 : Nat) : Int)) (Yl.int (e := IntKind.i64.wrap (((k45 : Nat) : Int) + 1)) yk (by rw [IntWalk.i64_in _ (by omega)]; omega)) (Mz rfl (WL.nil ?_))))))))
 have H99 := H94.pk [1, 2, 0]
 exact Fin.round (A95, c96, r90, k45 + 1) ⟨rfl, rfl, rfl, rfl, rfl, rfl, trivial⟩ (dm53.2 ⟨H99, by omega, by first | omega | (simp only [List.length_cons, List.length_nil, List.length_append]; omega), Eq.trans (hq54) (Eq.trans (congrArg (fun q => r18_body_L0 p0 q l44) hd60) (Eq.trans (if_neg h61) (Eq.trans (if_neg h72) (Eq.trans (if_pos h83) (bnd_of hr91)))))⟩) (by show r32.length - (k45 + 1) < r32.length - k45; omega)
 refine jF (dF h83) (sr (Kz (.bool (decide (((x58.toNat : Nat) : Int) = 114))) (An rfl ?_)))
 by_cases h100 : ((x58.toNat : Nat) : Int) = 114
 refine jT (dT h100) ?_
 have H102 := H49.drew
 refine Wp.drawnX [] (fun W => ∃ L', Own w D W ([row A38 r32.length c39 (List.flatMap eB r32) 5 1, blk g21 (MsgP p0 A0x0 c0x0 A0x1 c0x1 A0x2 c0x2) 29] ++ L')) (by kernel_rfl) (by kernel_rfl) (NoP.block (NoP.block (NoP.then (NoP.then (NoP.block (NoP.then NoP.base)))))) ⟨_, H102⟩ ?_
 revert H102
 generalize World.drew w48 = w101
 intro H102
 refine GX.take (v := .slice A42 l44.length c43) (rs := []) 0 rfl (by kernel_rfl) (fun _ _ => Yl.move rfl) (GX.take (v := .pointer (some ⟨g21, 16, none⟩)) (rs := []) 1 rfl (by kernel_rfl) (fun _ _ => yk) (GX.take (v := .pointer (some ⟨g21, 16, none⟩)) (rs := []) 2 rfl (by kernel_rfl) (fun _ _ => yk) (GX.take (v := .string ⟨List.toArray p0.xRange.xLo⟩) (rs := []) 3 rfl (by kernel_rfl) (fun _ ⟨_, H9⟩ => Yl.load rfl (Lds.one Tryz.isAgg9 (Cls.of (H9.cls (i := 1) rfl) rfl))) (GX.take (v := .pointer (some ⟨g21, 16, none⟩)) (rs := []) 5 rfl (by kernel_rfl) (fun _ _ => yk) (GX.take (v := .pointer (some ⟨g21, 17, none⟩)) (rs := []) 6 rfl (by kernel_rfl) (fun _ _ => yk) (GX.take (v := .string ⟨List.toArray p0.xRange.xHi⟩) (rs := []) 7 rfl (by kernel_rfl) (fun _ ⟨_, H9⟩ => Yl.load rfl (Lds.one Tryz.isAgg9 (Cls.of (H9.cls (i := 1) rfl) rfl))) ?_))))))
 have H103 := H102.pk [2, 0, 1]
 obtain ⟨r109, hr110⟩ : ∃ q, r18_Text l44 p0.xRange.xLo = q := ⟨_, rfl⟩
 obtain ⟨D104, HP105, ro106, bk107, rr108⟩ := Own.enter1 H103
 refine GX.do 4 rfl (by kernel_rfl) (Do.call Tryz.call67 rfl (r18_Text_ok _ _ A42 l44.length c43 l44 p0.xRange.xLo r109 HP105 rfl (by omega) (by first | omega | (simp only [List.length_cons, List.length_nil, List.length_append]; omega)) hr110) ?_)
 rintro _ w111 ⟨A114, c115, rfl, HQ112, hk116⟩
 have H113 := bk107 _ _ HQ112
 have hb117 := H113.rowC (i := 0) rfl
 replace hk116 : r109.length ≤ l44.length + p0.xRange.xLo.length + 10 := hk116
 have H118 := H113.pk [1, 2, 0]
 refine ⟨.inr ⟨_, H118⟩, ?_⟩
 have H119 := H118.pk [2, 0, 1]
 obtain ⟨r125, hr126⟩ : ∃ q, r18_Text r109 p0.xRange.xHi = q := ⟨_, rfl⟩
 obtain ⟨D120, HP121, ro122, bk123, rr124⟩ := Own.enter1 H119
 refine GX.do 8 rfl (by kernel_rfl) (Do.call Tryz.call67 rfl (r18_Text_ok _ _ A114 r109.length c115 r109 p0.xRange.xHi r125 HP121 rfl (by omega) (by first | omega | (simp only [List.length_cons, List.length_nil, List.length_append]; omega)) hr126) ?_)
 rintro _ w127 ⟨A130, c131, rfl, HQ128, hk132⟩
 have H129 := bk123 _ _ HQ128
 have hb133 := H129.rowC (i := 0) rfl
 replace hk132 : r125.length ≤ r109.length + p0.xRange.xHi.length + 10 := hk132
 have H134 := H129.pk [1, 2, 0]
 refine ⟨.inr ⟨_, H134⟩, ?_⟩
 refine GX.take (v := .slice A130 r125.length c131) (rs := []) 9 rfl (by kernel_rfl) (fun _ _ => Yl.assign rfl) (GX.done (by kernel_rfl) (bN (bN (Fin.then (Wp.region (fw (.int .i64 ((k45 + 1 : Nat) : Int)) (Yl.int (e := IntKind.i64.wrap (((k45 : Nat) : Int) + 1)) yk (by rw [IntWalk.i64_in _ (by omega)]; omega)) (Mz rfl (WL.nil ?_))))))))
 have H135 := H134.pk [0, 1, 2]
 exact Fin.round (A130, c131, r125, k45 + 1) ⟨rfl, rfl, rfl, rfl, rfl, rfl, trivial⟩ (dm53.2 ⟨H135, by omega, by first | omega | (simp only [List.length_cons, List.length_nil, List.length_append]; omega), Eq.trans (hq54) (Eq.trans (congrArg (fun q => r18_body_L0 p0 q l44) hd60) (Eq.trans (if_neg h61) (Eq.trans (if_neg h72) (Eq.trans (if_neg h83) (Eq.trans (if_pos h100) (Eq.trans (bnd_of hr110) (bnd_of hr126)))))))⟩) (by show r32.length - (k45 + 1) < r32.length - k45; omega)
 refine jF (dF h100) (sr (Kz (.bool (decide (((x58.toNat : Nat) : Int) = 111))) (An rfl ?_)))
 by_cases h136 : ((x58.toNat : Nat) : Int) = 111
 refine jT (dT h136) (Wp.region (Mz rfl (Kz (.pointer (some ⟨g21, 18, none⟩)) (Lz (.slice A0x0 p0.xOps.ls.length c0x0) H49 1 Tryz.isAgg25 ?_))))
 have H137 := H49.pk [2, 0, 1]
 obtain ⟨r143, hr144⟩ : ∃ q, r18_Ops l44 p0.xOps.ls = q := ⟨_, rfl⟩
 obtain ⟨D138, HP139, ro140, bk141, rr142⟩ := Own.enter1 H137
 refine cl Tryz.call68 (r18_Ops_ok _ _ A42 l44.length c43 l44 A0x0 p0.xOps.ls.length c0x0 p0.xOps.ls r143 HP139 rfl (by omega) (ro140 _ hx0x0) rfl (by omega) (by first | omega | (simp only [List.length_cons, List.length_nil, List.length_append]; omega)) (by exact hh0.1) hr144) ?_
 rintro _ w145 ⟨A148, c149, rfl, HQ146, hk150⟩
 have H147 := bk141 _ _ HQ146
 have hb151 := H147.rowC (i := 0) rfl
 replace hk150 : r143.length ≤ l44.length + 10 + 94 * p0.xOps.ls.length := hk150
 refine Az rfl (WL.nil (bN (bN (Fin.then (Wp.region (fw (.int .i64 ((k45 + 1 : Nat) : Int)) (Yl.int (e := IntKind.i64.wrap (((k45 : Nat) : Int) + 1)) yk (by rw [IntWalk.i64_in _ (by omega)]; omega)) (Mz rfl (WL.nil ?_))))))))
 have H152 := H147.pk [1, 2, 0]
 exact Fin.round (A148, c149, r143, k45 + 1) ⟨rfl, rfl, rfl, rfl, rfl, rfl, trivial⟩ (dm53.2 ⟨H152, by omega, by first | omega | (simp only [List.length_cons, List.length_nil, List.length_append]; omega), Eq.trans (hq54) (Eq.trans (congrArg (fun q => r18_body_L0 p0 q l44) hd60) (Eq.trans (if_neg h61) (Eq.trans (if_neg h72) (Eq.trans (if_neg h83) (Eq.trans (if_neg h100) (Eq.trans (if_pos h136) (bnd_of hr144)))))))⟩) (by show r32.length - (k45 + 1) < r32.length - k45; omega)
 refine jF (dF h136) (sr (Kz (.bool (decide (((x58.toNat : Nat) : Int) = 115))) (An rfl ?_)))
 by_cases h153 : ((x58.toNat : Nat) : Int) = 115
 refine jT (dT h153) (Wp.region (Mz rfl (Kz (.pointer (some ⟨g21, 19, none⟩)) (Lz (.slice A0x1 p0.xResults.ls.length c0x1) H49 1 Tryz.isAgg26 ?_))))
 have H154 := H49.pk [2, 0, 1]
 obtain ⟨r160, hr161⟩ : ∃ q, r18_Res l44 p0.xResults.ls = q := ⟨_, rfl⟩
 obtain ⟨D155, HP156, ro157, bk158, rr159⟩ := Own.enter1 H154
 refine cl Tryz.call69 (r18_Res_ok _ _ A42 l44.length c43 l44 A0x1 p0.xResults.ls.length c0x1 d0x1 p0.xResults.ls r160 HP156 rfl (by omega) hd0x1 (ro157 _ hx0x1) (fun x9 h9 => ⟨ro157 _ (hm0x1 x9 h9).1, (hm0x1 x9 h9).2⟩) rfl (by omega) (by first | omega | (simp only [List.length_cons, List.length_nil, List.length_append]; omega)) (by exact hh0.2.1) hr161) ?_
 rintro _ w162 ⟨A165, c166, rfl, HQ163, hk167⟩
 have H164 := bk158 _ _ HQ163
 have hb168 := H164.rowC (i := 0) rfl
 replace hk167 : r160.length ≤ l44.length + 10 + 239 * p0.xResults.ls.length := hk167
 refine Az rfl (WL.nil (bN (bN (Fin.then (Wp.region (fw (.int .i64 ((k45 + 1 : Nat) : Int)) (Yl.int (e := IntKind.i64.wrap (((k45 : Nat) : Int) + 1)) yk (by rw [IntWalk.i64_in _ (by omega)]; omega)) (Mz rfl (WL.nil ?_))))))))
 have H169 := H164.pk [1, 2, 0]
 exact Fin.round (A165, c166, r160, k45 + 1) ⟨rfl, rfl, rfl, rfl, rfl, rfl, trivial⟩ (dm53.2 ⟨H169, by omega, by first | omega | (simp only [List.length_cons, List.length_nil, List.length_append]; omega), Eq.trans (hq54) (Eq.trans (congrArg (fun q => r18_body_L0 p0 q l44) hd60) (Eq.trans (if_neg h61) (Eq.trans (if_neg h72) (Eq.trans (if_neg h83) (Eq.trans (if_neg h100) (Eq.trans (if_neg h136) (Eq.trans (if_pos h153) (bnd_of hr161))))))))⟩) (by show r32.length - (k45 + 1) < r32.length - k45; omega)
 refine jF (dF h153) (sr (Kz (.bool (decide (((x58.toNat : Nat) : Int) = 119))) (An rfl ?_)))
 by_cases h170 : ((x58.toNat : Nat) : Int) = 119
 refine jT (dT h170) (Wp.region (Mz rfl (Kz (.pointer (some ⟨g21, 20, none⟩)) (Lz (.slice A0x2 p0.xOwners.ls.length c0x2) H49 1 Tryz.isAgg27 ?_))))
 have H171 := H49.pk [2, 0, 1]
 obtain ⟨r177, hr178⟩ : ∃ q, r18_Owners l44 p0.xOwners.ls = q := ⟨_, rfl⟩
 obtain ⟨D172, HP173, ro174, bk175, rr176⟩ := Own.enter1 H171
 refine cl Tryz.call70 (r18_Owners_ok _ _ A42 l44.length c43 l44 A0x2 p0.xOwners.ls.length c0x2 p0.xOwners.ls r177 HP173 rfl (by omega) (ro174 _ hx0x2) rfl (by omega) (by first | omega | (simp only [List.length_cons, List.length_nil, List.length_append]; omega)) (by exact hh0.2.2.1) hr178) ?_
 rintro _ w179 ⟨A182, c183, rfl, HQ180, hk184⟩
 have H181 := bk175 _ _ HQ180
 have hb185 := H181.rowC (i := 0) rfl
 replace hk184 : r177.length ≤ l44.length + 10 + 23 * p0.xOwners.ls.length := hk184
 refine Az rfl (WL.nil (bN (bN (Fin.then (Wp.region (fw (.int .i64 ((k45 + 1 : Nat) : Int)) (Yl.int (e := IntKind.i64.wrap (((k45 : Nat) : Int) + 1)) yk (by rw [IntWalk.i64_in _ (by omega)]; omega)) (Mz rfl (WL.nil ?_))))))))
 have H186 := H181.pk [1, 2, 0]
 exact Fin.round (A182, c183, r177, k45 + 1) ⟨rfl, rfl, rfl, rfl, rfl, rfl, trivial⟩ (dm53.2 ⟨H186, by omega, by first | omega | (simp only [List.length_cons, List.length_nil, List.length_append]; omega), Eq.trans (hq54) (Eq.trans (congrArg (fun q => r18_body_L0 p0 q l44) hd60) (Eq.trans (if_neg h61) (Eq.trans (if_neg h72) (Eq.trans (if_neg h83) (Eq.trans (if_neg h100) (Eq.trans (if_neg h136) (Eq.trans (if_neg h153) (Eq.trans (if_pos h170) (bnd_of hr178)))))))))⟩) (by show r32.length - (k45 + 1) < r32.length - k45; omega)
 refine jF (dF h170) (Wp.region (Mz rfl (Mz rfl ?_)))
 refine WL.do rfl (Do.call Tryz.call47 rfl ?_ (fun _ _ k => k))
 refine Calls.body (args := [.pointer (some ⟨g21, 0, none⟩), .int .u8 ((x58.toNat : Nat) : Int)]) Tryz.func47 rfl rfl rfl ?_
 show Wp _ _ _ [(0, .pointer (some ⟨g21, 0, none⟩)), (1, .int .u8 ((x58.toNat : Nat) : Int))] _ _
 refine sr (An rfl (Wp.seq (sr (Mn rfl (bo (sr (Kz (.bool (decide (((x58.toNat : Nat) : Int) = 113))) (An rfl ?_))))))))
 by_cases h187 : ((x58.toNat : Nat) : Int) = 113
 refine jT (dT h187) (sr (Mz rfl (Kz (.pointer (some ⟨g21, 0, none⟩)) (Kz (.pointer (some ⟨g21, 6, none⟩)) (An rfl (rt (bR (tR (rs (Kz (.pointer (some ⟨g21, 6, none⟩)) (Lz (.int .u64 ((p0.xReq : Nat) : Int)) H49 1 Tryz.isAgg22 ?_)))))))))))
 obtain ⟨r193, hr194⟩ : ∃ q, r01_Num p0.xReq = q := ⟨_, rfl⟩
 obtain ⟨D188, HP189, ro190, bk191, rr192⟩ := Own.enter0 H49
 refine cl Tryz.call63 (r01_Num_ok _ _ p0.xReq r193 HP189 (by omega) hr194) ?_
 rintro _ w195 ⟨A198, c199, rfl, HQ196, hk200, hk201⟩
 have H197 := bk191 _ _ HQ196
 have hb202 := H197.rowC (i := 0) rfl
 replace hk200 : RecN p0.xReq r193.length := hk200
 replace hk201 : 1 ≤ r193.length ∧ r193.length ≤ 10 := hk201
 have H203 := H197.pk [3, 0, 1, 2]
 refine WL.do rfl (Do.appendW (k := l44.length) (m := r193.length) (El31) H203 rfl rfl (src_of Tryz.underlying31 (H203.rds (i := 1) rfl) (flat_one eB_one r193)) rfl (by omega) (s := List.length (l44 ++ r193)) (by first | omega | (simp only [List.length_append, List.length_cons, List.length_nil] <;> omega)) (List.flatMap_append).symm ?_)
 intro A204 c205 w206 H207
 have hl208 : List.length (l44 ++ r193) = l44.length + r193.length := by simp only [List.length_append, List.length_cons, List.length_nil]
 refine Az rfl (WL.nil (bN (bN (Fin.then (Wp.region (fw (.int .i64 ((k45 + 1 : Nat) : Int)) (Yl.int (e := IntKind.i64.wrap (((k45 : Nat) : Int) + 1)) yk (by rw [IntWalk.i64_in _ (by omega)]; omega)) (Mz rfl (WL.nil ?_))))))))
 have H209 := H207.pk [2, 3, 0]
 exact Fin.round (A204, c205, (l44 ++ r193), k45 + 1) ⟨rfl, rfl, rfl, rfl, rfl, rfl, trivial⟩ (dm53.2 ⟨H209, by omega, by first | omega | (simp only [List.length_cons, List.length_nil, List.length_append]; omega), Eq.trans (hq54) (Eq.trans (congrArg (fun q => r18_body_L0 p0 q l44) hd60) (Eq.trans (if_neg h61) (Eq.trans (if_neg h72) (Eq.trans (if_neg h83) (Eq.trans (if_neg h100) (Eq.trans (if_neg h136) (Eq.trans (if_neg h153) (Eq.trans (if_neg h170) (Eq.trans (if_pos h187) (bnd_of hr194))))))))))⟩) (by show r32.length - (k45 + 1) < r32.length - k45; omega)
 refine jF (dF h187) (sr (Kz (.bool (decide (((x58.toNat : Nat) : Int) = 98))) (An rfl ?_)))
 by_cases h210 : ((x58.toNat : Nat) : Int) = 98
 refine jT (dT h210) (sr (Mz rfl (Kz (.pointer (some ⟨g21, 0, none⟩)) (Kz (.pointer (some ⟨g21, 7, none⟩)) (An rfl (rt (bR (tR (rs (Kz (.pointer (some ⟨g21, 7, none⟩)) (Lz (.int .u64 ((p0.xBoot : Nat) : Int)) H49 1 Tryz.isAgg22 ?_)))))))))))
 obtain ⟨r216, hr217⟩ : ∃ q, r01_Num p0.xBoot = q := ⟨_, rfl⟩
 obtain ⟨D211, HP212, ro213, bk214, rr215⟩ := Own.enter0 H49
 refine cl Tryz.call63 (r01_Num_ok _ _ p0.xBoot r216 HP212 (by omega) hr217) ?_
 rintro _ w218 ⟨A221, c222, rfl, HQ219, hk223, hk224⟩
 have H220 := bk214 _ _ HQ219
 have hb225 := H220.rowC (i := 0) rfl
 replace hk223 : RecN p0.xBoot r216.length := hk223
 replace hk224 : 1 ≤ r216.length ∧ r216.length ≤ 10 := hk224
 have H226 := H220.pk [3, 0, 1, 2]
 refine WL.do rfl (Do.appendW (k := l44.length) (m := r216.length) (El31) H226 rfl rfl (src_of Tryz.underlying31 (H226.rds (i := 1) rfl) (flat_one eB_one r216)) rfl (by omega) (s := List.length (l44 ++ r216)) (by first | omega | (simp only [List.length_append, List.length_cons, List.length_nil] <;> omega)) (List.flatMap_append).symm ?_)
 intro A227 c228 w229 H230
 have hl231 : List.length (l44 ++ r216) = l44.length + r216.length := by simp only [List.length_append, List.length_cons, List.length_nil]
 refine Az rfl (WL.nil (bN (bN (Fin.then (Wp.region (fw (.int .i64 ((k45 + 1 : Nat) : Int)) (Yl.int (e := IntKind.i64.wrap (((k45 : Nat) : Int) + 1)) yk (by rw [IntWalk.i64_in _ (by omega)]; omega)) (Mz rfl (WL.nil ?_))))))))
 have H232 := H230.pk [2, 3, 0]
 exact Fin.round (A227, c228, (l44 ++ r216), k45 + 1) ⟨rfl, rfl, rfl, rfl, rfl, rfl, trivial⟩ (dm53.2 ⟨H232, by omega, by first | omega | (simp only [List.length_cons, List.length_nil, List.length_append]; omega), Eq.trans (hq54) (Eq.trans (congrArg (fun q => r18_body_L0 p0 q l44) hd60) (Eq.trans (if_neg h61) (Eq.trans (if_neg h72) (Eq.trans (if_neg h83) (Eq.trans (if_neg h100) (Eq.trans (if_neg h136) (Eq.trans (if_neg h153) (Eq.trans (if_neg h170) (Eq.trans (if_neg h187) (Eq.trans (if_pos h210) (bnd_of hr217)))))))))))⟩) (by show r32.length - (k45 + 1) < r32.length - k45; omega)
 refine jF (dF h210) (sr (Kz (.bool (decide (((x58.toNat : Nat) : Int) = 116))) (An rfl ?_)))
 by_cases h233 : ((x58.toNat : Nat) : Int) = 116
 refine jT (dT h233) (sr (Mz rfl (Kz (.pointer (some ⟨g21, 0, none⟩)) (Kz (.pointer (some ⟨g21, 8, none⟩)) (An rfl (rt (bR (tR (rs (Kz (.pointer (some ⟨g21, 8, none⟩)) (Lz (.int .u64 ((p0.xTxn : Nat) : Int)) H49 1 Tryz.isAgg22 ?_)))))))))))
 obtain ⟨r239, hr240⟩ : ∃ q, r01_Num p0.xTxn = q := ⟨_, rfl⟩
 obtain ⟨D234, HP235, ro236, bk237, rr238⟩ := Own.enter0 H49
 refine cl Tryz.call63 (r01_Num_ok _ _ p0.xTxn r239 HP235 (by omega) hr240) ?_
 rintro _ w241 ⟨A244, c245, rfl, HQ242, hk246, hk247⟩
 have H243 := bk237 _ _ HQ242
 have hb248 := H243.rowC (i := 0) rfl
 replace hk246 : RecN p0.xTxn r239.length := hk246
 replace hk247 : 1 ≤ r239.length ∧ r239.length ≤ 10 := hk247
 have H249 := H243.pk [3, 0, 1, 2]
 refine WL.do rfl (Do.appendW (k := l44.length) (m := r239.length) (El31) H249 rfl rfl (src_of Tryz.underlying31 (H249.rds (i := 1) rfl) (flat_one eB_one r239)) rfl (by omega) (s := List.length (l44 ++ r239)) (by first | omega | (simp only [List.length_append, List.length_cons, List.length_nil] <;> omega)) (List.flatMap_append).symm ?_)
 intro A250 c251 w252 H253
 have hl254 : List.length (l44 ++ r239) = l44.length + r239.length := by simp only [List.length_append, List.length_cons, List.length_nil]
 refine Az rfl (WL.nil (bN (bN (Fin.then (Wp.region (fw (.int .i64 ((k45 + 1 : Nat) : Int)) (Yl.int (e := IntKind.i64.wrap (((k45 : Nat) : Int) + 1)) yk (by rw [IntWalk.i64_in _ (by omega)]; omega)) (Mz rfl (WL.nil ?_))))))))
 have H255 := H253.pk [2, 3, 0]
 exact Fin.round (A250, c251, (l44 ++ r239), k45 + 1) ⟨rfl, rfl, rfl, rfl, rfl, rfl, trivial⟩ (dm53.2 ⟨H255, by omega, by first | omega | (simp only [List.length_cons, List.length_nil, List.length_append]; omega), Eq.trans (hq54) (Eq.trans (congrArg (fun q => r18_body_L0 p0 q l44) hd60) (Eq.trans (if_neg h61) (Eq.trans (if_neg h72) (Eq.trans (if_neg h83) (Eq.trans (if_neg h100) (Eq.trans (if_neg h136) (Eq.trans (if_neg h153) (Eq.trans (if_neg h170) (Eq.trans (if_neg h187) (Eq.trans (if_neg h210) (Eq.trans (if_pos h233) (bnd_of hr240))))))))))))⟩) (by show r32.length - (k45 + 1) < r32.length - k45; omega)
 refine jF (dF h233) (sr (Kz (.bool (decide (((x58.toNat : Nat) : Int) = 108))) (An rfl ?_)))
 by_cases h256 : ((x58.toNat : Nat) : Int) = 108
 refine jT (dT h256) (sr (Mz rfl (Kz (.pointer (some ⟨g21, 0, none⟩)) (Kz (.pointer (some ⟨g21, 9, none⟩)) (An rfl (rt (bR (tR (rs (Kz (.pointer (some ⟨g21, 9, none⟩)) (Lz (.int .u64 ((p0.xLow : Nat) : Int)) H49 1 Tryz.isAgg22 ?_)))))))))))
 obtain ⟨r262, hr263⟩ : ∃ q, r01_Num p0.xLow = q := ⟨_, rfl⟩
 obtain ⟨D257, HP258, ro259, bk260, rr261⟩ := Own.enter0 H49
 refine cl Tryz.call63 (r01_Num_ok _ _ p0.xLow r262 HP258 (by omega) hr263) ?_
 rintro _ w264 ⟨A267, c268, rfl, HQ265, hk269, hk270⟩
 have H266 := bk260 _ _ HQ265
 have hb271 := H266.rowC (i := 0) rfl
 replace hk269 : RecN p0.xLow r262.length := hk269
 replace hk270 : 1 ≤ r262.length ∧ r262.length ≤ 10 := hk270
 have H272 := H266.pk [3, 0, 1, 2]
 refine WL.do rfl (Do.appendW (k := l44.length) (m := r262.length) (El31) H272 rfl rfl (src_of Tryz.underlying31 (H272.rds (i := 1) rfl) (flat_one eB_one r262)) rfl (by omega) (s := List.length (l44 ++ r262)) (by first | omega | (simp only [List.length_append, List.length_cons, List.length_nil] <;> omega)) (List.flatMap_append).symm ?_)
 intro A273 c274 w275 H276
 have hl277 : List.length (l44 ++ r262) = l44.length + r262.length := by simp only [List.length_append, List.length_cons, List.length_nil]
 refine Az rfl (WL.nil (bN (bN (Fin.then (Wp.region (fw (.int .i64 ((k45 + 1 : Nat) : Int)) (Yl.int (e := IntKind.i64.wrap (((k45 : Nat) : Int) + 1)) yk (by rw [IntWalk.i64_in _ (by omega)]; omega)) (Mz rfl (WL.nil ?_))))))))
 have H278 := H276.pk [2, 3, 0]
 exact Fin.round (A273, c274, (l44 ++ r262), k45 + 1) ⟨rfl, rfl, rfl, rfl, rfl, rfl, trivial⟩ (dm53.2 ⟨H278, by omega, by first | omega | (simp only [List.length_cons, List.length_nil, List.length_append]; omega), Eq.trans (hq54) (Eq.trans (congrArg (fun q => r18_body_L0 p0 q l44) hd60) (Eq.trans (if_neg h61) (Eq.trans (if_neg h72) (Eq.trans (if_neg h83) (Eq.trans (if_neg h100) (Eq.trans (if_neg h136) (Eq.trans (if_neg h153) (Eq.trans (if_neg h170) (Eq.trans (if_neg h187) (Eq.trans (if_neg h210) (Eq.trans (if_neg h233) (Eq.trans (if_pos h256) (bnd_of hr263)))))))))))))⟩) (by show r32.length - (k45 + 1) < r32.length - k45; omega)
 refine jF (dF h256) (sr (Kz (.bool (decide (((x58.toNat : Nat) : Int) = 118))) (An rfl ?_)))
 by_cases h279 : ((x58.toNat : Nat) : Int) = 118
 refine jT (dT h279) (sr (Mz rfl (Kz (.pointer (some ⟨g21, 0, none⟩)) (Kz (.pointer (some ⟨g21, 10, none⟩)) (An rfl (rt (bR (tR (rs (Kz (.pointer (some ⟨g21, 10, none⟩)) (Lz (.int .u64 ((p0.xVer : Nat) : Int)) H49 1 Tryz.isAgg22 ?_)))))))))))
 obtain ⟨r285, hr286⟩ : ∃ q, r01_Num p0.xVer = q := ⟨_, rfl⟩
 obtain ⟨D280, HP281, ro282, bk283, rr284⟩ := Own.enter0 H49
 refine cl Tryz.call63 (r01_Num_ok _ _ p0.xVer r285 HP281 (by omega) hr286) ?_
 rintro _ w287 ⟨A290, c291, rfl, HQ288, hk292, hk293⟩
 have H289 := bk283 _ _ HQ288
 have hb294 := H289.rowC (i := 0) rfl
 replace hk292 : RecN p0.xVer r285.length := hk292
 replace hk293 : 1 ≤ r285.length ∧ r285.length ≤ 10 := hk293
 have H295 := H289.pk [3, 0, 1, 2]
 refine WL.do rfl (Do.appendW (k := l44.length) (m := r285.length) (El31) H295 rfl rfl (src_of Tryz.underlying31 (H295.rds (i := 1) rfl) (flat_one eB_one r285)) rfl (by omega) (s := List.length (l44 ++ r285)) (by first | omega | (simp only [List.length_append, List.length_cons, List.length_nil] <;> omega)) (List.flatMap_append).symm ?_)
 intro A296 c297 w298 H299
 have hl300 : List.length (l44 ++ r285) = l44.length + r285.length := by simp only [List.length_append, List.length_cons, List.length_nil]
 refine Az rfl (WL.nil (bN (bN (Fin.then (Wp.region (fw (.int .i64 ((k45 + 1 : Nat) : Int)) (Yl.int (e := IntKind.i64.wrap (((k45 : Nat) : Int) + 1)) yk (by rw [IntWalk.i64_in _ (by omega)]; omega)) (Mz rfl (WL.nil ?_))))))))
 have H301 := H299.pk [2, 3, 0]
 exact Fin.round (A296, c297, (l44 ++ r285), k45 + 1) ⟨rfl, rfl, rfl, rfl, rfl, rfl, trivial⟩ (dm53.2 ⟨H301, by omega, by first | omega | (simp only [List.length_cons, List.length_nil, List.length_append]; omega), Eq.trans (hq54) (Eq.trans (congrArg (fun q => r18_body_L0 p0 q l44) hd60) (Eq.trans (if_neg h61) (Eq.trans (if_neg h72) (Eq.trans (if_neg h83) (Eq.trans (if_neg h100) (Eq.trans (if_neg h136) (Eq.trans (if_neg h153) (Eq.trans (if_neg h170) (Eq.trans (if_neg h187) (Eq.trans (if_neg h210) (Eq.trans (if_neg h233) (Eq.trans (if_neg h256) (Eq.trans (if_pos h279) (bnd_of hr286))))))))))))))⟩) (by show r32.length - (k45 + 1) < r32.length - k45; omega)
 refine jF (dF h279) (sr (Kz (.bool (decide (((x58.toNat : Nat) : Int) = 101))) (An rfl ?_)))
 by_cases h302 : ((x58.toNat : Nat) : Int) = 101
 refine jT (dT h302) (sr (Mz rfl (Kz (.pointer (some ⟨g21, 0, none⟩)) (Kz (.pointer (some ⟨g21, 11, none⟩)) (An rfl (rt (bR (tR (rs (Kz (.pointer (some ⟨g21, 11, none⟩)) (Lz (.int .u64 ((p0.xEpoch : Nat) : Int)) H49 1 Tryz.isAgg22 ?_)))))))))))
 obtain ⟨r308, hr309⟩ : ∃ q, r01_Num p0.xEpoch = q := ⟨_, rfl⟩
 obtain ⟨D303, HP304, ro305, bk306, rr307⟩ := Own.enter0 H49
 refine cl Tryz.call63 (r01_Num_ok _ _ p0.xEpoch r308 HP304 (by omega) hr309) ?_
 rintro _ w310 ⟨A313, c314, rfl, HQ311, hk315, hk316⟩
 have H312 := bk306 _ _ HQ311
 have hb317 := H312.rowC (i := 0) rfl
 replace hk315 : RecN p0.xEpoch r308.length := hk315
 replace hk316 : 1 ≤ r308.length ∧ r308.length ≤ 10 := hk316
 have H318 := H312.pk [3, 0, 1, 2]
 refine WL.do rfl (Do.appendW (k := l44.length) (m := r308.length) (El31) H318 rfl rfl (src_of Tryz.underlying31 (H318.rds (i := 1) rfl) (flat_one eB_one r308)) rfl (by omega) (s := List.length (l44 ++ r308)) (by first | omega | (simp only [List.length_append, List.length_cons, List.length_nil] <;> omega)) (List.flatMap_append).symm ?_)
 intro A319 c320 w321 H322
 have hl323 : List.length (l44 ++ r308) = l44.length + r308.length := by simp only [List.length_append, List.length_cons, List.length_nil]
 refine Az rfl (WL.nil (bN (bN (Fin.then (Wp.region (fw (.int .i64 ((k45 + 1 : Nat) : Int)) (Yl.int (e := IntKind.i64.wrap (((k45 : Nat) : Int) + 1)) yk (by rw [IntWalk.i64_in _ (by omega)]; omega)) (Mz rfl (WL.nil ?_))))))))
 have H324 := H322.pk [2, 3, 0]
 exact Fin.round (A319, c320, (l44 ++ r308), k45 + 1) ⟨rfl, rfl, rfl, rfl, rfl, rfl, trivial⟩ (dm53.2 ⟨H324, by omega, by first | omega | (simp only [List.length_cons, List.length_nil, List.length_append]; omega), Eq.trans (hq54) (Eq.trans (congrArg (fun q => r18_body_L0 p0 q l44) hd60) (Eq.trans (if_neg h61) (Eq.trans (if_neg h72) (Eq.trans (if_neg h83) (Eq.trans (if_neg h100) (Eq.trans (if_neg h136) (Eq.trans (if_neg h153) (Eq.trans (if_neg h170) (Eq.trans (if_neg h187) (Eq.trans (if_neg h210) (Eq.trans (if_neg h233) (Eq.trans (if_neg h256) (Eq.trans (if_neg h279) (Eq.trans (if_pos h302) (bnd_of hr309)))))))))))))))⟩) (by show r32.length - (k45 + 1) < r32.length - k45; omega)
 refine jF (dF h302) (sr (Kz (.bool (decide (((x58.toNat : Nat) : Int) = 109))) (An rfl ?_)))
 by_cases h325 : ((x58.toNat : Nat) : Int) = 109
 refine jT (dT h325) (sr (Mz rfl (Kz (.pointer (some ⟨g21, 0, none⟩)) (Kz (.pointer (some ⟨g21, 12, none⟩)) (An rfl (rt (bR (tR (rs (Kz (.pointer (some ⟨g21, 12, none⟩)) (Lz (.int .u64 ((p0.xMove : Nat) : Int)) H49 1 Tryz.isAgg22 ?_)))))))))))
 obtain ⟨r331, hr332⟩ : ∃ q, r01_Num p0.xMove = q := ⟨_, rfl⟩
 obtain ⟨D326, HP327, ro328, bk329, rr330⟩ := Own.enter0 H49
 refine cl Tryz.call63 (r01_Num_ok _ _ p0.xMove r331 HP327 (by omega) hr332) ?_
 rintro _ w333 ⟨A336, c337, rfl, HQ334, hk338, hk339⟩
 have H335 := bk329 _ _ HQ334
 have hb340 := H335.rowC (i := 0) rfl
 replace hk338 : RecN p0.xMove r331.length := hk338
 replace hk339 : 1 ≤ r331.length ∧ r331.length ≤ 10 := hk339
 have H341 := H335.pk [3, 0, 1, 2]
 refine WL.do rfl (Do.appendW (k := l44.length) (m := r331.length) (El31) H341 rfl rfl (src_of Tryz.underlying31 (H341.rds (i := 1) rfl) (flat_one eB_one r331)) rfl (by omega) (s := List.length (l44 ++ r331)) (by first | omega | (simp only [List.length_append, List.length_cons, List.length_nil] <;> omega)) (List.flatMap_append).symm ?_)
 intro A342 c343 w344 H345
 have hl346 : List.length (l44 ++ r331) = l44.length + r331.length := by simp only [List.length_append, List.length_cons, List.length_nil]
 refine Az rfl (WL.nil (bN (bN (Fin.then (Wp.region (fw (.int .i64 ((k45 + 1 : Nat) : Int)) (Yl.int (e := IntKind.i64.wrap (((k45 : Nat) : Int) + 1)) yk (by rw [IntWalk.i64_in _ (by omega)]; omega)) (Mz rfl (WL.nil ?_))))))))
 have H347 := H345.pk [2, 3, 0]
 exact Fin.round (A342, c343, (l44 ++ r331), k45 + 1) ⟨rfl, rfl, rfl, rfl, rfl, rfl, trivial⟩ (dm53.2 ⟨H347, by omega, by first | omega | (simp only [List.length_cons, List.length_nil, List.length_append]; omega), Eq.trans (hq54) (Eq.trans (congrArg (fun q => r18_body_L0 p0 q l44) hd60) (Eq.trans (if_neg h61) (Eq.trans (if_neg h72) (Eq.trans (if_neg h83) (Eq.trans (if_neg h100) (Eq.trans (if_neg h136) (Eq.trans (if_neg h153) (Eq.trans (if_neg h170) (Eq.trans (if_neg h187) (Eq.trans (if_neg h210) (Eq.trans (if_neg h233) (Eq.trans (if_neg h256) (Eq.trans (if_neg h279) (Eq.trans (if_neg h302) (Eq.trans (if_pos h325) (bnd_of hr332))))))))))))))))⟩) (by show r32.length - (k45 + 1) < r32.length - k45; omega)
 refine jF (dF h325) (sr (Kz (.bool (decide (((x58.toNat : Nat) : Int) = 97))) (An rfl ?_)))
 by_cases h348 : ((x58.toNat : Nat) : Int) = 97
 refine jT (dT h348) (sr (Mz rfl (Kz (.pointer (some ⟨g21, 0, none⟩)) (Kz (.pointer (some ⟨g21, 13, none⟩)) (An rfl (rt (bR (tR (rs (Kz (.pointer (some ⟨g21, 13, none⟩)) (Lz (.int .u64 ((p0.xAttempt : Nat) : Int)) H49 1 Tryz.isAgg22 ?_)))))))))))
 obtain ⟨r354, hr355⟩ : ∃ q, r01_Num p0.xAttempt = q := ⟨_, rfl⟩
 obtain ⟨D349, HP350, ro351, bk352, rr353⟩ := Own.enter0 H49
 refine cl Tryz.call63 (r01_Num_ok _ _ p0.xAttempt r354 HP350 (by omega) hr355) ?_
 rintro _ w356 ⟨A359, c360, rfl, HQ357, hk361, hk362⟩
 have H358 := bk352 _ _ HQ357
 have hb363 := H358.rowC (i := 0) rfl
 replace hk361 : RecN p0.xAttempt r354.length := hk361
 replace hk362 : 1 ≤ r354.length ∧ r354.length ≤ 10 := hk362
 have H364 := H358.pk [3, 0, 1, 2]
 refine WL.do rfl (Do.appendW (k := l44.length) (m := r354.length) (El31) H364 rfl rfl (src_of Tryz.underlying31 (H364.rds (i := 1) rfl) (flat_one eB_one r354)) rfl (by omega) (s := List.length (l44 ++ r354)) (by first | omega | (simp only [List.length_append, List.length_cons, List.length_nil] <;> omega)) (List.flatMap_append).symm ?_)
 intro A365 c366 w367 H368
 have hl369 : List.length (l44 ++ r354) = l44.length + r354.length := by simp only [List.length_append, List.length_cons, List.length_nil]
 refine Az rfl (WL.nil (bN (bN (Fin.then (Wp.region (fw (.int .i64 ((k45 + 1 : Nat) : Int)) (Yl.int (e := IntKind.i64.wrap (((k45 : Nat) : Int) + 1)) yk (by rw [IntWalk.i64_in _ (by omega)]; omega)) (Mz rfl (WL.nil ?_))))))))
 have H370 := H368.pk [2, 3, 0]
 exact Fin.round (A365, c366, (l44 ++ r354), k45 + 1) ⟨rfl, rfl, rfl, rfl, rfl, rfl, trivial⟩ (dm53.2 ⟨H370, by omega, by first | omega | (simp only [List.length_cons, List.length_nil, List.length_append]; omega), Eq.trans (hq54) (Eq.trans (congrArg (fun q => r18_body_L0 p0 q l44) hd60) (Eq.trans (if_neg h61) (Eq.trans (if_neg h72) (Eq.trans (if_neg h83) (Eq.trans (if_neg h100) (Eq.trans (if_neg h136) (Eq.trans (if_neg h153) (Eq.trans (if_neg h170) (Eq.trans (if_neg h187) (Eq.trans (if_neg h210) (Eq.trans (if_neg h233) (Eq.trans (if_neg h256) (Eq.trans (if_neg h279) (Eq.trans (if_neg h302) (Eq.trans (if_neg h325) (Eq.trans (if_pos h348) (bnd_of hr355)))))))))))))))))⟩) (by show r32.length - (k45 + 1) < r32.length - k45; omega)
 refine jF (dF h348) (sr (Kz (.bool (decide (((x58.toNat : Nat) : Int) = 110))) (An rfl ?_)))
 by_cases h371 : ((x58.toNat : Nat) : Int) = 110
 refine jT (dT h371) (sr (Mz rfl (Kz (.pointer (some ⟨g21, 0, none⟩)) (Kz (.pointer (some ⟨g21, 14, none⟩)) (An rfl (rt (bR (tR (rs (Kz (.pointer (some ⟨g21, 14, none⟩)) (Lz (.int .u64 ((p0.xN : Nat) : Int)) H49 1 Tryz.isAgg22 ?_)))))))))))
 obtain ⟨r377, hr378⟩ : ∃ q, r01_Num p0.xN = q := ⟨_, rfl⟩
 obtain ⟨D372, HP373, ro374, bk375, rr376⟩ := Own.enter0 H49
 refine cl Tryz.call63 (r01_Num_ok _ _ p0.xN r377 HP373 (by omega) hr378) ?_
 rintro _ w379 ⟨A382, c383, rfl, HQ380, hk384, hk385⟩
 have H381 := bk375 _ _ HQ380
 have hb386 := H381.rowC (i := 0) rfl
 replace hk384 : RecN p0.xN r377.length := hk384
 replace hk385 : 1 ≤ r377.length ∧ r377.length ≤ 10 := hk385
 have H387 := H381.pk [3, 0, 1, 2]
 refine WL.do rfl (Do.appendW (k := l44.length) (m := r377.length) (El31) H387 rfl rfl (src_of Tryz.underlying31 (H387.rds (i := 1) rfl) (flat_one eB_one r377)) rfl (by omega) (s := List.length (l44 ++ r377)) (by first | omega | (simp only [List.length_append, List.length_cons, List.length_nil] <;> omega)) (List.flatMap_append).symm ?_)
 intro A388 c389 w390 H391
 have hl392 : List.length (l44 ++ r377) = l44.length + r377.length := by simp only [List.length_append, List.length_cons, List.length_nil]
 refine Az rfl (WL.nil (bN (bN (Fin.then (Wp.region (fw (.int .i64 ((k45 + 1 : Nat) : Int)) (Yl.int (e := IntKind.i64.wrap (((k45 : Nat) : Int) + 1)) yk (by rw [IntWalk.i64_in _ (by omega)]; omega)) (Mz rfl (WL.nil ?_))))))))
 have H393 := H391.pk [2, 3, 0]
 exact Fin.round (A388, c389, (l44 ++ r377), k45 + 1) ⟨rfl, rfl, rfl, rfl, rfl, rfl, trivial⟩ (dm53.2 ⟨H393, by omega, by first | omega | (simp only [List.length_cons, List.length_nil, List.length_append]; omega), Eq.trans (hq54) (Eq.trans (congrArg (fun q => r18_body_L0 p0 q l44) hd60) (Eq.trans (if_neg h61) (Eq.trans (if_neg h72) (Eq.trans (if_neg h83) (Eq.trans (if_neg h100) (Eq.trans (if_neg h136) (Eq.trans (if_neg h153) (Eq.trans (if_neg h170) (Eq.trans (if_neg h187) (Eq.trans (if_neg h210) (Eq.trans (if_neg h233) (Eq.trans (if_neg h256) (Eq.trans (if_neg h279) (Eq.trans (if_neg h302) (Eq.trans (if_neg h325) (Eq.trans (if_neg h348) (Eq.trans (if_pos h371) (bnd_of hr378))))))))))))))))))⟩) (by show r32.length - (k45 + 1) < r32.length - k45; omega)
 exfalso; have q9 := r18_let hr33 hx59; omega
 refine jF (dF h57) (Wp.exit (Fin.thenX ?_))
 have hL394 : r18_body_L0 p0 r32 ([(u8I p0.xKind), (u8I p0.xFrom), (u8I p0.xTo)]) = l44 := et (hq54) (et (congrArg (fun q => r18_body_L0 p0 q l44) (drop_end (ls := r32) (i := k45) (by omega))) rfl)
 refine Fin.thenX (Fin.blockX (Fin.then (sr (Mz rfl (An rfl (rt (rs ?_)))))))
 have H395 := H49.pk [2]
 obtain rfl : _ = l44 := hr.symm.trans (et (bnd_of hr33) (bnd_of hL394))
 exact ⟨A42, c43, rfl, H395, (by omega)⟩
def r18_Encode (p0 : MsgT) : (List UInt8) × Int :=
 bnd (r18_Check p0) fun yr29 => if yr29 = 0 then bnd (r18_body p0) fun yr40 => bnd (r05_Seal yr40) fun yr54 => (yr54.1, yr54.2) else ([], yr29)
set_option maxRecDepth 100000 in
theorem r18_Encode_ok (w : World) (D : Nat → Prop) (p0 : MsgT) (A0x0 : Option Addr) (n0x0 c0x0 : Nat) (A0x1 : Option Addr) (n0x1 c0x1 : Nat) (d0x1 : List ResultD) (A0x2 : Option Addr) (n0x2 c0x2 : Nat) (r0 : List UInt8) (r1 : Int) (H : Own w D w []) (hn0x0 : n0x0 = p0.xOps.ls.length) (hx0x0 : Ro w D fun w' => Rds w' 6 A0x0 p0.xOps.ls.length (List.flatMap OpD.cells p0.xOps.ls)) (hb0x0 : p0.xOps.ls.length ≤ c0x0 ∧ p0.xOps.ls.length ≤ 9223372036854775807) (hd0x1 : List.map ResultD.abs d0x1 = p0.xResults.ls) (hn0x1 : n0x1 = p0.xResults.ls.length) (hx0x1 : Ro w D fun w' => Rds w' 3 A0x1 p0.xResults.ls.length (List.flatMap ResultD.cells d0x1)) (hb0x1 : p0.xResults.ls.length ≤ c0x1 ∧ p0.xResults.ls.length ≤ 9223372036854775807) (hm0x1 : ∀ x ∈ d0x1, Ro w D (fun w' => Rds w' 2 x.xPairs.A x.xPairs.ls.length (List.flatMap PairD.cells x.xPairs.ls)) ∧ (x.xPairs.ls.length ≤ x.xPairs.c ∧ x.xPairs.ls.length ≤ 9223372036854775807)) (hn0x2 : n0x2 = p0.xOwners.ls.length) (hx0x2 : Ro w D fun w' => Rds w' 2 A0x2 p0.xOwners.ls.length (List.flatMap OwnerD.cells p0.xOwners.ls)) (hb0x2 : p0.xOwners.ls.length ≤ c0x2 ∧ p0.xOwners.ls.length ≤ 9223372036854775807) (hh0 : p0.xReq ≤ 18446744073709551615 ∧ p0.xBoot ≤ 18446744073709551615 ∧ p0.xTxn ≤ 18446744073709551615 ∧ p0.xLow ≤ 18446744073709551615 ∧ p0.xVer ≤ 18446744073709551615 ∧ p0.xEpoch ≤ 18446744073709551615 ∧ p0.xMove ≤ 18446744073709551615 ∧ p0.xAttempt ≤ 18446744073709551615 ∧ p0.xN ≤ 18446744073709551615) (hr : r18_Encode p0 = (r0, r1)) :
    Calls Tryz.prog 10 #[.agg (MsgC p0.xKind p0.xFrom p0.xTo p0.xClient p0.xCode p0.xPeer p0.xReq p0.xBoot p0.xTxn p0.xLow p0.xVer p0.xEpoch p0.xMove p0.xAttempt p0.xN p0.xFlag p0.xRange.xLo p0.xRange.xHi A0x0 n0x0 c0x0 A0x1 n0x1 c0x1 A0x2 n0x2 c0x2).toArray] w (Ret fun v w' => ∃ (B0 : Option Addr) (b0 : Nat), v = .tuple #[.slice B0 r0.length b0, .int .i64 r1] ∧ Own w D w' [row B0 r0.length b0 (List.flatMap eB r0) 5 1] ∧ (r0.length ≤ 1100000)) := by
 subst hn0x0 hn0x1 hn0x2
 have hdl0x1 := abs_len hd0x1
 refine Calls.body (args := [.agg (MsgP p0 A0x0 c0x0 A0x1 c0x1 A0x2 c0x2).toArray]) Tryz.func10 rfl rfl rfl ?_
 show Wp _ _ _ [(0, .agg (MsgP p0 A0x0 c0x0 A0x1 c0x1 A0x2 c0x2).toArray)] _ _
 refine sr ?_
 refine npw (MsgP p0 A0x0 c0x0 A0x1 c0x1 A0x2 c0x2) 29 H ?_
 intro g21 w22 H23
 refine Az rfl (An rfl (Wp.seq (sr (La (MsgP p0 A0x0 c0x0 A0x1 c0x1 A0x2 c0x2) H23 0 Tryz.isAgg29 Tryz.sizeOf29 ?_))))
 obtain ⟨r29, hr30⟩ : ∃ q, r18_Check p0 = q := ⟨_, rfl⟩
 obtain ⟨D24, HP25, ro26, bk27, rr28⟩ := Own.enter0 H23
 refine cl Tryz.call12 (r18_Check_ok _ _ p0 A0x0 p0.xOps.ls.length c0x0 A0x1 p0.xResults.ls.length c0x1 d0x1 A0x2 p0.xOwners.ls.length c0x2 r29 HP25 rfl (ro26 _ hx0x0) (show p0.xOps.ls.length ≤ c0x0 ∧ p0.xOps.ls.length ≤ 9223372036854775807 from by omega) hd0x1 rfl (ro26 _ hx0x1) (show p0.xResults.ls.length ≤ c0x1 ∧ p0.xResults.ls.length ≤ 9223372036854775807 from by omega) (fun x9 h9 => ⟨ro26 _ (hm0x1 x9 h9).1, (hm0x1 x9 h9).2⟩) rfl (ro26 _ hx0x2) (show p0.xOwners.ls.length ≤ c0x2 ∧ p0.xOwners.ls.length ≤ 9223372036854775807 from by omega) hr30) ?_
 rintro _ w31 ⟨rfl, HQ32⟩
 have H33 := bk27 _ _ HQ32
 refine Ar rfl (Mz rfl (fw (.bool (decide (¬ (r29 = 0)))) (Yl.bool (e := !(decide (r29 = 0))) yk decide_not.symm) (nt ?_)))
 by_cases h34 : r29 = 0
 refine jF (dF (not_not_intro h34)) (sk (sr (La (MsgP p0 A0x0 c0x0 A0x1 c0x1 A0x2 c0x2) H33 0 Tryz.isAgg29 Tryz.sizeOf29 ?_)))
 obtain ⟨r40, hr41⟩ : ∃ q, r18_body p0 = q := ⟨_, rfl⟩
 obtain ⟨D35, HP36, ro37, bk38, rr39⟩ := Own.enter0 H33
 refine cl Tryz.call22 (r18_body_ok _ _ p0 A0x0 p0.xOps.ls.length c0x0 A0x1 p0.xResults.ls.length c0x1 d0x1 A0x2 p0.xOwners.ls.length c0x2 r40 HP36 rfl (ro37 _ hx0x0) (show p0.xOps.ls.length ≤ c0x0 ∧ p0.xOps.ls.length ≤ 9223372036854775807 from by omega) hd0x1 rfl (ro37 _ hx0x1) (show p0.xResults.ls.length ≤ c0x1 ∧ p0.xResults.ls.length ≤ 9223372036854775807 from by omega) (fun x9 h9 => ⟨ro37 _ (hm0x1 x9 h9).1, (hm0x1 x9 h9).2⟩) rfl (ro37 _ hx0x2) (show p0.xOwners.ls.length ≤ c0x2 ∧ p0.xOwners.ls.length ≤ 9223372036854775807 from by omega) (by exact rwsm_of hh0 (by rw [hr30]; omega)) (by first | omega | (dsimp only; omega) | (simp only [List.length_nil]; omega)) hr41) ?_
 rintro _ w42 ⟨A45, c46, rfl, HQ43, hk47⟩
 have H44 := bk38 _ _ HQ43
 have hb48 := H44.rowC (i := 0) rfl
 replace hk47 : r40.length ≤ 1000000 := hk47
 obtain ⟨⟨r54, r55⟩, hr56⟩ : ∃ q : (List UInt8) × Int, r05_Seal r40 = q := ⟨_, rfl⟩
 obtain ⟨D49, HP50, ro51, bk52, rr53⟩ := Own.enter0 H44
 refine cl Tryz.call21 (r05_Seal_ok _ _ A45 r40.length c46 r40 r54 r55 HP50 (rr53 _ 0 _ rfl row_rds) rfl (by omega) hr56) ?_
 rintro _ w57 ⟨A60, c61, rfl, HQ58, hk62⟩
 have H59 := bk52 _ _ HQ58
 have hb63 := H59.rowC (i := 0) rfl
 replace hk62 : r54.length ≤ r40.length + 15 := hk62
 refine Kz (.slice A60 r54.length c61) (Kz (.int .i64 r55) (Az rfl (An rfl (rt (Fin.res (res2 rfl rfl rfl) ?_)))))
 have H64 := H59.pk [0]
 have e : r18_Encode p0 = (r54, r55) := et (bnd_of hr30) (et (ip h34) (et (bnd_of hr41) (bnd_of hr56)))
 obtain ⟨rfl, rfl⟩ := pj2 (e.symm.trans hr)
 exact ⟨A60, c61, rfl, H64, (by first | omega | exact Nat.zero_le _)⟩
 refine jT (dT h34) (sr (Mz rfl (Az rfl (An rfl (rt (tR (Fin.res (res2 rfl rfl rfl) ?_)))))))
 have H65 : Own w D w31 [row none 0 0 (List.flatMap eB ([])) 5 1, blk g21 (MsgP p0 A0x0 c0x0 A0x1 c0x1 A0x2 c0x2) 29] := H33.free (row_nil 5 1)
 have H66 := H65.pk [0]
 have e : r18_Encode p0 = ([], r29) := et (bnd_of hr30) (iN h34)
 obtain ⟨rfl, rfl⟩ := pj2 (e.symm.trans hr)
 exact ⟨none, 0, rfl, H66, (by first | omega | exact Nat.zero_le _)⟩
end Go.Proofs.YtccjclalngabhaaGreat
