/-
 wire: bytes of messages.
-/
import Derived.Test.YtccjclalngabhaaGreatWd
namespace Go.Proofs.YtccjclalngabhaaGreat
open Go.RowKit
set_option linter.unusedVariables false
set_option linter.unusedSectionVars false
set_option linter.unusedSimpArgs false
def wire_write_L0 (p1 : MsgT) : List Int → List UInt8 → (List UInt8)
  | [], l26 => l26
  | x40 :: q28, l26 => if x40 = 0 then bnd (octet_Num p1.xReq) fun yr49 => wire_write_L0 p1 q28 (l26 ++ yr49) else if x40 = 1 then bnd (octet_Num p1.xBoot) fun yr72 => wire_write_L0 p1 q28 (l26 ++ yr72) else if x40 = 4 then bnd (octet_Num p1.xTxn) fun yr95 => wire_write_L0 p1 q28 (l26 ++ yr95) else if x40 = 5 then bnd (octet_Num p1.xLow) fun yr118 => wire_write_L0 p1 q28 (l26 ++ yr118) else if x40 = 6 then bnd (octet_Num p1.xEpoch) fun yr141 => wire_write_L0 p1 q28 (l26 ++ yr141) else if x40 = 9 then bnd (octet_Num p1.xVer) fun yr164 => wire_write_L0 p1 q28 (l26 ++ yr164) else if x40 = 10 then bnd (octet_Num p1.xMove) fun yr187 => wire_write_L0 p1 q28 (l26 ++ yr187) else if x40 = 14 then bnd (octet_Num p1.xAttempt) fun yr210 => wire_write_L0 p1 q28 (l26 ++ yr210) else if x40 = 15 then bnd (octet_Num p1.xN) fun yr233 => wire_write_L0 p1 q28 (l26 ++ yr233) else if x40 = 2 then wire_write_L0 p1 q28 (l26 ++ [(u8I p1.xCode)]) else if x40 = 12 then wire_write_L0 p1 q28 (l26 ++ [(u8I p1.xPeer)]) else if x40 = 8 then bnd (wire_truth p1.xFlag) fun yr278 => wire_write_L0 p1 q28 (l26 ++ [yr278]) else if x40 = 13 then bnd (wire_texts l26 ([p1.xRange.xLo, p1.xRange.xHi])) fun yr303 => wire_write_L0 p1 q28 yr303 else if x40 = 7 then bnd (wire_list_api_Op l26 p1.xOps.ls) fun yr320 => wire_write_L0 p1 q28 yr320 else if x40 = 3 then bnd (wire_list_api_Result l26 p1.xResults.ls) fun yr337 => wire_write_L0 p1 q28 yr337 else if x40 = 11 then bnd (wire_list_api_Owner l26 p1.xOwners.ls) fun yr354 => wire_write_L0 p1 q28 yr354 else wire_write_L0 p1 q28 l26
def wire_write (l0 : List UInt8) (p1 : MsgT) (l2 : List Int) : (List UInt8) :=
 bnd (wire_write_L0 p1 l2 l0) fun sLrL => sLrL
set_option maxRecDepth 100000 in
set_option maxHeartbeats 4000000 in
theorem wire_write_ok (w : World) (D : Nat → Prop) (A0 : Option Addr) (n0 c0 : Nat) (l0 : List UInt8) (p1 : MsgT) (A1x0 : Option Addr) (n1x0 c1x0 : Nat) (A1x1 : Option Addr) (n1x1 c1x1 : Nat) (d1x1 : List ResultD) (A1x2 : Option Addr) (n1x2 c1x2 : Nat) (A2 : Option Addr) (n2 c2 : Nat) (l2 : List Int) (r0 : List UInt8) (H : Own w D w [row A0 n0 c0 (List.flatMap eB l0) 5 1]) (hn0 : n0 = l0.length) (hl0 : l0.length * 1 ≤ 211106232532992) (hn1x0 : n1x0 = p1.xOps.ls.length) (hx1x0 : Ro w D fun w' => Rds w' 6 A1x0 p1.xOps.ls.length (List.flatMap OpD.cells p1.xOps.ls)) (hb1x0 : p1.xOps.ls.length ≤ c1x0 ∧ p1.xOps.ls.length ≤ 9223372036854775807) (hd1x1 : List.map ResultD.abs d1x1 = p1.xResults.ls) (hn1x1 : n1x1 = p1.xResults.ls.length) (hx1x1 : Ro w D fun w' => Rds w' 3 A1x1 p1.xResults.ls.length (List.flatMap ResultD.cells d1x1)) (hb1x1 : p1.xResults.ls.length ≤ c1x1 ∧ p1.xResults.ls.length ≤ 9223372036854775807) (hm1x1 : ∀ x ∈ d1x1, Ro w D (fun w' => Rds w' 2 x.xPairs.A x.xPairs.ls.length (List.flatMap PairD.cells x.xPairs.ls)) ∧ (x.xPairs.ls.length ≤ x.xPairs.c ∧ x.xPairs.ls.length ≤ 9223372036854775807)) (hn1x2 : n1x2 = p1.xOwners.ls.length) (hx1x2 : Ro w D fun w' => Rds w' 2 A1x2 p1.xOwners.ls.length (List.flatMap OwnerD.cells p1.xOwners.ls)) (hb1x2 : p1.xOwners.ls.length ≤ c1x2 ∧ p1.xOwners.ls.length ≤ 9223372036854775807) (hx2 : Ro w D fun w' => Rds w' 1 A2 n2 (List.flatMap (eI .i64) l2)) (hn2 : n2 = l2.length) (hl2 : l2.length * 8 ≤ 211106232532992) (hh0 : l0.length ≤ 1000) (hh1 : l2.length ≤ 5) (hh2 : ((p1.xOps.ls.length ≤ 24 ∧ ∀ x ∈ p1.xOps.ls, x.xKey.length ≤ 12 ∧ x.xValue.length ≤ 16 ∧ x.xLo.length ≤ 12 ∧ x.xHi.length ≤ 12) ∧ (p1.xResults.ls.length ≤ 24 ∧ ∀ x ∈ p1.xResults.ls, x.xValue.length ≤ 16 ∧ x.xPairs.ls.length ≤ 4 ∧ ∀ q ∈ x.xPairs.ls, q.xKey.length ≤ 12 ∧ q.xValue.length ≤ 16) ∧ (p1.xOwners.ls.length ≤ 6 ∧ ∀ x ∈ p1.xOwners.ls, x.xLo.length ≤ 12) ∧ p1.xRange.xLo.length ≤ 12 ∧ p1.xRange.xHi.length ≤ 12)) (hh3 : p1.xReq ≤ 18446744073709551615 ∧ p1.xBoot ≤ 18446744073709551615 ∧ p1.xTxn ≤ 18446744073709551615 ∧ p1.xLow ≤ 18446744073709551615 ∧ p1.xVer ≤ 18446744073709551615 ∧ p1.xEpoch ≤ 18446744073709551615 ∧ p1.xMove ≤ 18446744073709551615 ∧ p1.xAttempt ≤ 18446744073709551615 ∧ p1.xN ≤ 18446744073709551615) (hr : wire_write l0 p1 l2 = r0) :
    Calls Tryz.prog 20 #[.slice A0 n0 c0, .agg (MsgC p1.xKind p1.xFrom p1.xTo p1.xClient p1.xCode p1.xPeer p1.xReq p1.xBoot p1.xTxn p1.xLow p1.xVer p1.xEpoch p1.xMove p1.xAttempt p1.xN p1.xFlag p1.xRange.xLo p1.xRange.xHi A1x0 n1x0 c1x0 A1x1 n1x1 c1x1 A1x2 n1x2 c1x2).toArray, .slice A2 n2 c2] w (Ret fun v w' => ∃ (B0 : Option Addr) (b0 : Nat), v = .slice B0 r0.length b0 ∧ Own w D w' [row B0 r0.length b0 (List.flatMap eB r0) 5 1] ∧ (r0.length ≤ 50000)) := by
 subst hn0 hn2 hn1x0 hn1x1 hn1x2
 have hdl1x1 := abs_len hd1x1
 have hc0 := H.rowC (i := 0) rfl
 have hh2a := hh2.1.1
 have hh2b := hh2.2.1.1
 have hh2c := hh2.2.2.1.1
 have hh2d := hh2.2.2.2
 refine Calls.body (args := [.slice A0 l0.length c0, .agg (MsgP p1 A1x0 c1x0 A1x1 c1x1 A1x2 c1x2).toArray, .slice A2 l2.length c2]) Tryz.func20 rfl rfl rfl ?_
 show Wp _ _ _ [(0, .slice A0 l0.length c0), (1, .agg (MsgP p1 A1x0 c1x0 A1x1 c1x1 A1x2 c1x2).toArray), (2, .slice A2 l2.length c2)] _ _
 refine sr ?_
 refine npw (MsgP p1 A1x0 c1x0 A1x1 c1x1 A1x2 c1x2) 29 H ?_
 intro g21 w22 H23
 refine An rfl (Wp.seq (sr (Mz rfl (Kz (.int .i64 ((l2.length : Nat) : Int)) (Mn rfl (bo ?_))))))
 have H29 := H23.pk [0, 1]
 obtain ⟨I33, hI34⟩ : ∃ q : ((Option Addr) × Nat × (List UInt8) × Nat) → World → Prop, q = fun (i : (Option Addr) × Nat × (List UInt8) × Nat) w' => Own w D w' [blk g21 (MsgP p1 A1x0 c1x0 A1x1 c1x1 A1x2 c1x2) 29, row i.1 i.2.2.1.length i.2.1 (List.flatMap eB i.2.2.1) 5 1] ∧ (i.2.2.2 ≤ l2.length ∧ ((i.2.2.1.length : Nat) : Int) ≤ ((l0.length : Nat) : Int) + 6000 * ((i.2.2.2 : Nat) : Int) ∧ wire_write_L0 p1 l2 l0 = wire_write_L0 p1 (List.drop i.2.2.2 l2) i.2.2.1) := ⟨_, rfl⟩
 have dm35 : ∀ {A24 : Option Addr} {c25 : Nat} {l26 : List UInt8} {k27 : Nat} {w' : World}, I33 (A24, c25, l26, k27) w' ↔ Own w D w' [blk g21 (MsgP p1 A1x0 c1x0 A1x1 c1x1 A1x2 c1x2) 29, row A24 l26.length c25 (List.flatMap eB l26) 5 1] ∧ k27 ≤ l2.length ∧ ((l26.length : Nat) : Int) ≤ ((l0.length : Nat) : Int) + 6000 * ((k27 : Nat) : Int) ∧ wire_write_L0 p1 l2 l0 = wire_write_L0 p1 (List.drop k27 l2) l26 := by intros; subst hI34; exact Iff.rfl
 refine Wp.loop (fun i : (Option Addr) × Nat × (List UInt8) × Nat => [(0, .slice i.1 i.2.2.1.length i.2.1), (13, .int .i64 ((i.2.2.2 : Nat) : Int)), (12, .int .i64 ((l2.length : Nat) : Int)), (11, .slice A2 l2.length c2), (6, .slice none 0 0), (4, .pointer (some ⟨g21, 0, none⟩))]) I33 (fun i => l2.length - i.2.2.2) (A0, c0, l0, 0) ⟨rfl, rfl, rfl, rfl, rfl, rfl, trivial⟩ (dm35.2 ⟨H29, by omega, by omega, rfl⟩) ?_
 rintro ⟨A24, c25, l26, k27⟩ w30 hf32
 show Wp _ _ _ [(0, .slice A24 l26.length c25), (13, .int .i64 ((k27 : Nat) : Int)), (12, .int .i64 ((l2.length : Nat) : Int)), (11, .slice A2 l2.length c2), (6, .slice none 0 0), (4, .pointer (some ⟨g21, 0, none⟩))] _ _
 obtain ⟨H31, hi37, hi38, hq36⟩ := dm35.1 hf32
 refine sr (Kz (.bool (decide (((k27 : Nat) : Int) < ((l2.length : Nat) : Int)))) (nt (Wp.seq ?_)))
 by_cases h39 : ((k27 : Nat) : Int) < ((l2.length : Nat) : Int)
 obtain ⟨x40, hx41⟩ := rds_at (ls := l2) (i := k27) eI_len (by decide) (H31.ro hx2) (by first | omega | (simp; done) | (simp; omega))
 have hd42 := drop_at hx41
 refine jT (dT h39) (sk (Wp.seq (bo (sr (fw (.pointer (some ⟨ab A2, ao A2 + k27 * 1, none⟩)) (Yl.indexAddr (El48) rfl rfl ((H31.ro hx2).addr (i := k27) (by omega)) (by omega)) (fw (.int .i64 x40) (Yl.load rfl (Lds.one Tryz.isAgg93 (((H31.ro hx2).elem eI_len hx41 (by decide)).at_ (k := 0) rfl))) (An rfl (Wp.seq (sr (Mz rfl ?_))))))))))
 refine WL.do rfl (Do.call Tryz.call54 rfl ?_ (fun _ _ k => k))
 refine Calls.body (args := [.pointer (some ⟨g21, 0, none⟩), .int .i64 x40]) Tryz.func54 rfl rfl rfl ?_
 show Wp _ _ _ [(0, .pointer (some ⟨g21, 0, none⟩)), (1, .int .i64 x40)] _ _
 refine sr (Az rfl (An rfl (Wp.seq (sr (Mn rfl (bo (sr (Kz (.bool (decide (x40 = 0))) (An rfl ?_)))))))))
 by_cases h43 : x40 = 0
 refine jT (dT h43) (sr (Mz rfl (Kz (.pointer (some ⟨g21, 0, none⟩)) (Kz (.pointer (some ⟨g21, 6, none⟩)) (Az rfl (An rfl (rt (bR (tR (Fin.res (res2 rfl rfl rfl) (Mz rfl (Kz (.pointer (some ⟨g21, 6, none⟩)) (Kz (.bool true) (Az rfl (Ar rfl (Mn rfl (jt (sr (Mz rfl (Mz rfl (Kz (.pointer (some ⟨g21, 6, none⟩)) (Lz (.int .u64 ((p1.xReq : Nat) : Int)) H31 0 Tryz.isAgg22 ?_))))))))))))))))))))))
 obtain ⟨r49, hr50⟩ : ∃ q, octet_Num p1.xReq = q := ⟨_, rfl⟩
 obtain ⟨D44, HP45, ro46, bk47, rr48⟩ := Own.enter0 H31
 refine cl Tryz.call51 (octet_Num_ok _ _ p1.xReq r49 HP45 (by omega) hr50) ?_
 rintro _ w51 ⟨A54, c55, rfl, HQ52, hk56, hk57⟩
 have H53 := bk47 _ _ HQ52
 have hb58 := H53.rowC (i := 0) rfl
 replace hk56 : 1 ≤ r49.length ∧ r49.length ≤ 10 := hk56
 replace hk57 : p1.xReq ≥ 128 ∨ r49.length = 1 := hk57
 have H59 := H53.pk [2, 0, 1]
 refine WL.do rfl (Do.appendW (k := l26.length) (m := r49.length) (El31) H59 rfl rfl (src_of Tryz.underlying31 (H59.rds (i := 1) rfl) (flat_one eB_one r49)) rfl (by omega) (s := List.length (l26 ++ r49)) (by first | omega | (simp only [List.length_append, List.length_cons, List.length_nil] <;> omega)) (List.flatMap_append).symm ?_)
 intro A60 c61 w62 H63
 have hl64 : List.length (l26 ++ r49) = l26.length + r49.length := by simp only [List.length_append, List.length_cons, List.length_nil]
 refine An rfl (Wp.exit (Fin.thenX (Fin.blockX (Fin.then (Wp.region (fw (.int .i64 ((k27 + 1 : Nat) : Int)) (Yl.int (e := IntKind.i64.wrap (((k27 : Nat) : Int) + 1)) yk (by rw [IntWalk.i64_in _ (by omega)]; omega)) (Mz rfl (WL.nil ?_))))))))
 have H65 := H63.pk [2, 0]
 exact Fin.round (A60, c61, (l26 ++ r49), k27 + 1) ⟨rfl, rfl, rfl, rfl, rfl, rfl, trivial⟩ (dm35.2 ⟨H65, by omega, by omega, et (hq36) (et (congrArg (fun q => wire_write_L0 p1 q l26) hd42) (et (ip h43) (bnd_of hr50)))⟩) (by show l2.length - (k27 + 1) < l2.length - k27; omega)
 refine jF (dF h43) (sr (Kz (.bool (decide (x40 = 1))) (An rfl ?_)))
 by_cases h66 : x40 = 1
 refine jT (dT h66) (sr (Mz rfl (Kz (.pointer (some ⟨g21, 0, none⟩)) (Kz (.pointer (some ⟨g21, 7, none⟩)) (Az rfl (An rfl (rt (bR (tR (Fin.res (res2 rfl rfl rfl) (Mz rfl (Kz (.pointer (some ⟨g21, 7, none⟩)) (Kz (.bool true) (Az rfl (Ar rfl (Mn rfl (jt (sr (Mz rfl (Mz rfl (Kz (.pointer (some ⟨g21, 7, none⟩)) (Lz (.int .u64 ((p1.xBoot : Nat) : Int)) H31 0 Tryz.isAgg22 ?_))))))))))))))))))))))
 obtain ⟨r72, hr73⟩ : ∃ q, octet_Num p1.xBoot = q := ⟨_, rfl⟩
 obtain ⟨D67, HP68, ro69, bk70, rr71⟩ := Own.enter0 H31
 refine cl Tryz.call51 (octet_Num_ok _ _ p1.xBoot r72 HP68 (by omega) hr73) ?_
 rintro _ w74 ⟨A77, c78, rfl, HQ75, hk79, hk80⟩
 have H76 := bk70 _ _ HQ75
 have hb81 := H76.rowC (i := 0) rfl
 replace hk79 : 1 ≤ r72.length ∧ r72.length ≤ 10 := hk79
 replace hk80 : p1.xBoot ≥ 128 ∨ r72.length = 1 := hk80
 have H82 := H76.pk [2, 0, 1]
 refine WL.do rfl (Do.appendW (k := l26.length) (m := r72.length) (El31) H82 rfl rfl (src_of Tryz.underlying31 (H82.rds (i := 1) rfl) (flat_one eB_one r72)) rfl (by omega) (s := List.length (l26 ++ r72)) (by first | omega | (simp only [List.length_append, List.length_cons, List.length_nil] <;> omega)) (List.flatMap_append).symm ?_)
 intro A83 c84 w85 H86
 have hl87 : List.length (l26 ++ r72) = l26.length + r72.length := by simp only [List.length_append, List.length_cons, List.length_nil]
 refine An rfl (Wp.exit (Fin.thenX (Fin.blockX (Fin.then (Wp.region (fw (.int .i64 ((k27 + 1 : Nat) : Int)) (Yl.int (e := IntKind.i64.wrap (((k27 : Nat) : Int) + 1)) yk (by rw [IntWalk.i64_in _ (by omega)]; omega)) (Mz rfl (WL.nil ?_))))))))
 have H88 := H86.pk [2, 0]
 exact Fin.round (A83, c84, (l26 ++ r72), k27 + 1) ⟨rfl, rfl, rfl, rfl, rfl, rfl, trivial⟩ (dm35.2 ⟨H88, by omega, by omega, et (hq36) (et (congrArg (fun q => wire_write_L0 p1 q l26) hd42) (et (iN h43) (et (ip h66) (bnd_of hr73))))⟩) (by show l2.length - (k27 + 1) < l2.length - k27; omega)
 refine jF (dF h66) (sr (Kz (.bool (decide (x40 = 4))) (An rfl ?_)))
 by_cases h89 : x40 = 4
 refine jT (dT h89) (sr (Mz rfl (Kz (.pointer (some ⟨g21, 0, none⟩)) (Kz (.pointer (some ⟨g21, 8, none⟩)) (Az rfl (An rfl (rt (bR (tR (Fin.res (res2 rfl rfl rfl) (Mz rfl (Kz (.pointer (some ⟨g21, 8, none⟩)) (Kz (.bool true) (Az rfl (Ar rfl (Mn rfl (jt (sr (Mz rfl (Mz rfl (Kz (.pointer (some ⟨g21, 8, none⟩)) (Lz (.int .u64 ((p1.xTxn : Nat) : Int)) H31 0 Tryz.isAgg22 ?_))))))))))))))))))))))
 obtain ⟨r95, hr96⟩ : ∃ q, octet_Num p1.xTxn = q := ⟨_, rfl⟩
 obtain ⟨D90, HP91, ro92, bk93, rr94⟩ := Own.enter0 H31
 refine cl Tryz.call51 (octet_Num_ok _ _ p1.xTxn r95 HP91 (by omega) hr96) ?_
 rintro _ w97 ⟨A100, c101, rfl, HQ98, hk102, hk103⟩
 have H99 := bk93 _ _ HQ98
 have hb104 := H99.rowC (i := 0) rfl
 replace hk102 : 1 ≤ r95.length ∧ r95.length ≤ 10 := hk102
 replace hk103 : p1.xTxn ≥ 128 ∨ r95.length = 1 := hk103
 have H105 := H99.pk [2, 0, 1]
 refine WL.do rfl (Do.appendW (k := l26.length) (m := r95.length) (El31) H105 rfl rfl (src_of Tryz.underlying31 (H105.rds (i := 1) rfl) (flat_one eB_one r95)) rfl (by omega) (s := List.length (l26 ++ r95)) (by first | omega | (simp only [List.length_append, List.length_cons, List.length_nil] <;> omega)) (List.flatMap_append).symm ?_)
 intro A106 c107 w108 H109
 have hl110 : List.length (l26 ++ r95) = l26.length + r95.length := by simp only [List.length_append, List.length_cons, List.length_nil]
 refine An rfl (Wp.exit (Fin.thenX (Fin.blockX (Fin.then (Wp.region (fw (.int .i64 ((k27 + 1 : Nat) : Int)) (Yl.int (e := IntKind.i64.wrap (((k27 : Nat) : Int) + 1)) yk (by rw [IntWalk.i64_in _ (by omega)]; omega)) (Mz rfl (WL.nil ?_))))))))
 have H111 := H109.pk [2, 0]
 exact Fin.round (A106, c107, (l26 ++ r95), k27 + 1) ⟨rfl, rfl, rfl, rfl, rfl, rfl, trivial⟩ (dm35.2 ⟨H111, by omega, by omega, et (hq36) (et (congrArg (fun q => wire_write_L0 p1 q l26) hd42) (et (iN h43) (et (iN h66) (et (ip h89) (bnd_of hr96)))))⟩) (by show l2.length - (k27 + 1) < l2.length - k27; omega)
 refine jF (dF h89) (sr (Kz (.bool (decide (x40 = 5))) (An rfl ?_)))
 by_cases h112 : x40 = 5
 refine jT (dT h112) (sr (Mz rfl (Kz (.pointer (some ⟨g21, 0, none⟩)) (Kz (.pointer (some ⟨g21, 9, none⟩)) (Az rfl (An rfl (rt (bR (tR (Fin.res (res2 rfl rfl rfl) (Mz rfl (Kz (.pointer (some ⟨g21, 9, none⟩)) (Kz (.bool true) (Az rfl (Ar rfl (Mn rfl (jt (sr (Mz rfl (Mz rfl (Kz (.pointer (some ⟨g21, 9, none⟩)) (Lz (.int .u64 ((p1.xLow : Nat) : Int)) H31 0 Tryz.isAgg22 ?_))))))))))))))))))))))
 obtain ⟨r118, hr119⟩ : ∃ q, octet_Num p1.xLow = q := ⟨_, rfl⟩
 obtain ⟨D113, HP114, ro115, bk116, rr117⟩ := Own.enter0 H31
 refine cl Tryz.call51 (octet_Num_ok _ _ p1.xLow r118 HP114 (by omega) hr119) ?_
 rintro _ w120 ⟨A123, c124, rfl, HQ121, hk125, hk126⟩
 have H122 := bk116 _ _ HQ121
 have hb127 := H122.rowC (i := 0) rfl
 replace hk125 : 1 ≤ r118.length ∧ r118.length ≤ 10 := hk125
 replace hk126 : p1.xLow ≥ 128 ∨ r118.length = 1 := hk126
 have H128 := H122.pk [2, 0, 1]
 refine WL.do rfl (Do.appendW (k := l26.length) (m := r118.length) (El31) H128 rfl rfl (src_of Tryz.underlying31 (H128.rds (i := 1) rfl) (flat_one eB_one r118)) rfl (by omega) (s := List.length (l26 ++ r118)) (by first | omega | (simp only [List.length_append, List.length_cons, List.length_nil] <;> omega)) (List.flatMap_append).symm ?_)
 intro A129 c130 w131 H132
 have hl133 : List.length (l26 ++ r118) = l26.length + r118.length := by simp only [List.length_append, List.length_cons, List.length_nil]
 refine An rfl (Wp.exit (Fin.thenX (Fin.blockX (Fin.then (Wp.region (fw (.int .i64 ((k27 + 1 : Nat) : Int)) (Yl.int (e := IntKind.i64.wrap (((k27 : Nat) : Int) + 1)) yk (by rw [IntWalk.i64_in _ (by omega)]; omega)) (Mz rfl (WL.nil ?_))))))))
 have H134 := H132.pk [2, 0]
 exact Fin.round (A129, c130, (l26 ++ r118), k27 + 1) ⟨rfl, rfl, rfl, rfl, rfl, rfl, trivial⟩ (dm35.2 ⟨H134, by omega, by omega, et (hq36) (et (congrArg (fun q => wire_write_L0 p1 q l26) hd42) (et (iN h43) (et (iN h66) (et (iN h89) (et (ip h112) (bnd_of hr119))))))⟩) (by show l2.length - (k27 + 1) < l2.length - k27; omega)
 refine jF (dF h112) (sr (Kz (.bool (decide (x40 = 6))) (An rfl ?_)))
 by_cases h135 : x40 = 6
 refine jT (dT h135) (sr (Mz rfl (Kz (.pointer (some ⟨g21, 0, none⟩)) (Kz (.pointer (some ⟨g21, 11, none⟩)) (Az rfl (An rfl (rt (bR (tR (Fin.res (res2 rfl rfl rfl) (Mz rfl (Kz (.pointer (some ⟨g21, 11, none⟩)) (Kz (.bool true) (Az rfl (Ar rfl (Mn rfl (jt (sr (Mz rfl (Mz rfl (Kz (.pointer (some ⟨g21, 11, none⟩)) (Lz (.int .u64 ((p1.xEpoch : Nat) : Int)) H31 0 Tryz.isAgg22 ?_))))))))))))))))))))))
 obtain ⟨r141, hr142⟩ : ∃ q, octet_Num p1.xEpoch = q := ⟨_, rfl⟩
 obtain ⟨D136, HP137, ro138, bk139, rr140⟩ := Own.enter0 H31
 refine cl Tryz.call51 (octet_Num_ok _ _ p1.xEpoch r141 HP137 (by omega) hr142) ?_
 rintro _ w143 ⟨A146, c147, rfl, HQ144, hk148, hk149⟩
 have H145 := bk139 _ _ HQ144
 have hb150 := H145.rowC (i := 0) rfl
 replace hk148 : 1 ≤ r141.length ∧ r141.length ≤ 10 := hk148
 replace hk149 : p1.xEpoch ≥ 128 ∨ r141.length = 1 := hk149
 have H151 := H145.pk [2, 0, 1]
 refine WL.do rfl (Do.appendW (k := l26.length) (m := r141.length) (El31) H151 rfl rfl (src_of Tryz.underlying31 (H151.rds (i := 1) rfl) (flat_one eB_one r141)) rfl (by omega) (s := List.length (l26 ++ r141)) (by first | omega | (simp only [List.length_append, List.length_cons, List.length_nil] <;> omega)) (List.flatMap_append).symm ?_)
 intro A152 c153 w154 H155
 have hl156 : List.length (l26 ++ r141) = l26.length + r141.length := by simp only [List.length_append, List.length_cons, List.length_nil]
 refine An rfl (Wp.exit (Fin.thenX (Fin.blockX (Fin.then (Wp.region (fw (.int .i64 ((k27 + 1 : Nat) : Int)) (Yl.int (e := IntKind.i64.wrap (((k27 : Nat) : Int) + 1)) yk (by rw [IntWalk.i64_in _ (by omega)]; omega)) (Mz rfl (WL.nil ?_))))))))
 have H157 := H155.pk [2, 0]
 exact Fin.round (A152, c153, (l26 ++ r141), k27 + 1) ⟨rfl, rfl, rfl, rfl, rfl, rfl, trivial⟩ (dm35.2 ⟨H157, by omega, by omega, et (hq36) (et (congrArg (fun q => wire_write_L0 p1 q l26) hd42) (et (iN h43) (et (iN h66) (et (iN h89) (et (iN h112) (et (ip h135) (bnd_of hr142)))))))⟩) (by show l2.length - (k27 + 1) < l2.length - k27; omega)
 refine jF (dF h135) (sr (Kz (.bool (decide (x40 = 9))) (An rfl ?_)))
 by_cases h158 : x40 = 9
 refine jT (dT h158) (sr (Mz rfl (Kz (.pointer (some ⟨g21, 0, none⟩)) (Kz (.pointer (some ⟨g21, 10, none⟩)) (Az rfl (An rfl (rt (bR (tR (Fin.res (res2 rfl rfl rfl) (Mz rfl (Kz (.pointer (some ⟨g21, 10, none⟩)) (Kz (.bool true) (Az rfl (Ar rfl (Mn rfl (jt (sr (Mz rfl (Mz rfl (Kz (.pointer (some ⟨g21, 10, none⟩)) (Lz (.int .u64 ((p1.xVer : Nat) : Int)) H31 0 Tryz.isAgg22 ?_))))))))))))))))))))))
 obtain ⟨r164, hr165⟩ : ∃ q, octet_Num p1.xVer = q := ⟨_, rfl⟩
 obtain ⟨D159, HP160, ro161, bk162, rr163⟩ := Own.enter0 H31
 refine cl Tryz.call51 (octet_Num_ok _ _ p1.xVer r164 HP160 (by omega) hr165) ?_
 rintro _ w166 ⟨A169, c170, rfl, HQ167, hk171, hk172⟩
 have H168 := bk162 _ _ HQ167
 have hb173 := H168.rowC (i := 0) rfl
 replace hk171 : 1 ≤ r164.length ∧ r164.length ≤ 10 := hk171
 replace hk172 : p1.xVer ≥ 128 ∨ r164.length = 1 := hk172
 have H174 := H168.pk [2, 0, 1]
 refine WL.do rfl (Do.appendW (k := l26.length) (m := r164.length) (El31) H174 rfl rfl (src_of Tryz.underlying31 (H174.rds (i := 1) rfl) (flat_one eB_one r164)) rfl (by omega) (s := List.length (l26 ++ r164)) (by first | omega | (simp only [List.length_append, List.length_cons, List.length_nil] <;> omega)) (List.flatMap_append).symm ?_)
 intro A175 c176 w177 H178
 have hl179 : List.length (l26 ++ r164) = l26.length + r164.length := by simp only [List.length_append, List.length_cons, List.length_nil]
 refine An rfl (Wp.exit (Fin.thenX (Fin.blockX (Fin.then (Wp.region (fw (.int .i64 ((k27 + 1 : Nat) : Int)) (Yl.int (e := IntKind.i64.wrap (((k27 : Nat) : Int) + 1)) yk (by rw [IntWalk.i64_in _ (by omega)]; omega)) (Mz rfl (WL.nil ?_))))))))
 have H180 := H178.pk [2, 0]
 exact Fin.round (A175, c176, (l26 ++ r164), k27 + 1) ⟨rfl, rfl, rfl, rfl, rfl, rfl, trivial⟩ (dm35.2 ⟨H180, by omega, by omega, et (hq36) (et (congrArg (fun q => wire_write_L0 p1 q l26) hd42) (et (iN h43) (et (iN h66) (et (iN h89) (et (iN h112) (et (iN h135) (et (ip h158) (bnd_of hr165))))))))⟩) (by show l2.length - (k27 + 1) < l2.length - k27; omega)
 refine jF (dF h158) (sr (Kz (.bool (decide (x40 = 10))) (An rfl ?_)))
 by_cases h181 : x40 = 10
 refine jT (dT h181) (sr (Mz rfl (Kz (.pointer (some ⟨g21, 0, none⟩)) (Kz (.pointer (some ⟨g21, 12, none⟩)) (Az rfl (An rfl (rt (bR (tR (Fin.res (res2 rfl rfl rfl) (Mz rfl (Kz (.pointer (some ⟨g21, 12, none⟩)) (Kz (.bool true) (Az rfl (Ar rfl (Mn rfl (jt (sr (Mz rfl (Mz rfl (Kz (.pointer (some ⟨g21, 12, none⟩)) (Lz (.int .u64 ((p1.xMove : Nat) : Int)) H31 0 Tryz.isAgg22 ?_))))))))))))))))))))))
 obtain ⟨r187, hr188⟩ : ∃ q, octet_Num p1.xMove = q := ⟨_, rfl⟩
 obtain ⟨D182, HP183, ro184, bk185, rr186⟩ := Own.enter0 H31
 refine cl Tryz.call51 (octet_Num_ok _ _ p1.xMove r187 HP183 (by omega) hr188) ?_
 rintro _ w189 ⟨A192, c193, rfl, HQ190, hk194, hk195⟩
 have H191 := bk185 _ _ HQ190
 have hb196 := H191.rowC (i := 0) rfl
 replace hk194 : 1 ≤ r187.length ∧ r187.length ≤ 10 := hk194
 replace hk195 : p1.xMove ≥ 128 ∨ r187.length = 1 := hk195
 have H197 := H191.pk [2, 0, 1]
 refine WL.do rfl (Do.appendW (k := l26.length) (m := r187.length) (El31) H197 rfl rfl (src_of Tryz.underlying31 (H197.rds (i := 1) rfl) (flat_one eB_one r187)) rfl (by omega) (s := List.length (l26 ++ r187)) (by first | omega | (simp only [List.length_append, List.length_cons, List.length_nil] <;> omega)) (List.flatMap_append).symm ?_)
 intro A198 c199 w200 H201
 have hl202 : List.length (l26 ++ r187) = l26.length + r187.length := by simp only [List.length_append, List.length_cons, List.length_nil]
 refine An rfl (Wp.exit (Fin.thenX (Fin.blockX (Fin.then (Wp.region (fw (.int .i64 ((k27 + 1 : Nat) : Int)) (Yl.int (e := IntKind.i64.wrap (((k27 : Nat) : Int) + 1)) yk (by rw [IntWalk.i64_in _ (by omega)]; omega)) (Mz rfl (WL.nil ?_))))))))
 have H203 := H201.pk [2, 0]
 exact Fin.round (A198, c199, (l26 ++ r187), k27 + 1) ⟨rfl, rfl, rfl, rfl, rfl, rfl, trivial⟩ (dm35.2 ⟨H203, by omega, by omega, et (hq36) (et (congrArg (fun q => wire_write_L0 p1 q l26) hd42) (et (iN h43) (et (iN h66) (et (iN h89) (et (iN h112) (et (iN h135) (et (iN h158) (et (ip h181) (bnd_of hr188)))))))))⟩) (by show l2.length - (k27 + 1) < l2.length - k27; omega)
 refine jF (dF h181) (sr (Kz (.bool (decide (x40 = 14))) (An rfl ?_)))
 by_cases h204 : x40 = 14
 refine jT (dT h204) (sr (Mz rfl (Kz (.pointer (some ⟨g21, 0, none⟩)) (Kz (.pointer (some ⟨g21, 13, none⟩)) (Az rfl (An rfl (rt (bR (tR (Fin.res (res2 rfl rfl rfl) (Mz rfl (Kz (.pointer (some ⟨g21, 13, none⟩)) (Kz (.bool true) (Az rfl (Ar rfl (Mn rfl (jt (sr (Mz rfl (Mz rfl (Kz (.pointer (some ⟨g21, 13, none⟩)) (Lz (.int .u64 ((p1.xAttempt : Nat) : Int)) H31 0 Tryz.isAgg22 ?_))))))))))))))))))))))
 obtain ⟨r210, hr211⟩ : ∃ q, octet_Num p1.xAttempt = q := ⟨_, rfl⟩
 obtain ⟨D205, HP206, ro207, bk208, rr209⟩ := Own.enter0 H31
 refine cl Tryz.call51 (octet_Num_ok _ _ p1.xAttempt r210 HP206 (by omega) hr211) ?_
 rintro _ w212 ⟨A215, c216, rfl, HQ213, hk217, hk218⟩
 have H214 := bk208 _ _ HQ213
 have hb219 := H214.rowC (i := 0) rfl
 replace hk217 : 1 ≤ r210.length ∧ r210.length ≤ 10 := hk217
 replace hk218 : p1.xAttempt ≥ 128 ∨ r210.length = 1 := hk218
 have H220 := H214.pk [2, 0, 1]
 refine WL.do rfl (Do.appendW (k := l26.length) (m := r210.length) (El31) H220 rfl rfl (src_of Tryz.underlying31 (H220.rds (i := 1) rfl) (flat_one eB_one r210)) rfl (by omega) (s := List.length (l26 ++ r210)) (by first | omega | (simp only [List.length_append, List.length_cons, List.length_nil] <;> omega)) (List.flatMap_append).symm ?_)
 intro A221 c222 w223 H224
 have hl225 : List.length (l26 ++ r210) = l26.length + r210.length := by simp only [List.length_append, List.length_cons, List.length_nil]
 refine An rfl (Wp.exit (Fin.thenX (Fin.blockX (Fin.then (Wp.region (fw (.int .i64 ((k27 + 1 : Nat) : Int)) (Yl.int (e := IntKind.i64.wrap (((k27 : Nat) : Int) + 1)) yk (by rw [IntWalk.i64_in _ (by omega)]; omega)) (Mz rfl (WL.nil ?_))))))))
 have H226 := H224.pk [2, 0]
 exact Fin.round (A221, c222, (l26 ++ r210), k27 + 1) ⟨rfl, rfl, rfl, rfl, rfl, rfl, trivial⟩ (dm35.2 ⟨H226, by omega, by omega, et (hq36) (et (congrArg (fun q => wire_write_L0 p1 q l26) hd42) (et (iN h43) (et (iN h66) (et (iN h89) (et (iN h112) (et (iN h135) (et (iN h158) (et (iN h181) (et (ip h204) (bnd_of hr211))))))))))⟩) (by show l2.length - (k27 + 1) < l2.length - k27; omega)
 refine jF (dF h204) (sr (Kz (.bool (decide (x40 = 15))) (An rfl ?_)))
 by_cases h227 : x40 = 15
 refine jT (dT h227) (sr (Mz rfl (Kz (.pointer (some ⟨g21, 0, none⟩)) (Kz (.pointer (some ⟨g21, 14, none⟩)) (Az rfl (An rfl (rt (bR (tR (Fin.res (res2 rfl rfl rfl) (Mz rfl (Kz (.pointer (some ⟨g21, 14, none⟩)) (Kz (.bool true) (Az rfl (Ar rfl (Mn rfl (jt (sr (Mz rfl (Mz rfl (Kz (.pointer (some ⟨g21, 14, none⟩)) (Lz (.int .u64 ((p1.xN : Nat) : Int)) H31 0 Tryz.isAgg22 ?_))))))))))))))))))))))
 obtain ⟨r233, hr234⟩ : ∃ q, octet_Num p1.xN = q := ⟨_, rfl⟩
 obtain ⟨D228, HP229, ro230, bk231, rr232⟩ := Own.enter0 H31
 refine cl Tryz.call51 (octet_Num_ok _ _ p1.xN r233 HP229 (by omega) hr234) ?_
 rintro _ w235 ⟨A238, c239, rfl, HQ236, hk240, hk241⟩
 have H237 := bk231 _ _ HQ236
 have hb242 := H237.rowC (i := 0) rfl
 replace hk240 : 1 ≤ r233.length ∧ r233.length ≤ 10 := hk240
 replace hk241 : p1.xN ≥ 128 ∨ r233.length = 1 := hk241
 have H243 := H237.pk [2, 0, 1]
 refine WL.do rfl (Do.appendW (k := l26.length) (m := r233.length) (El31) H243 rfl rfl (src_of Tryz.underlying31 (H243.rds (i := 1) rfl) (flat_one eB_one r233)) rfl (by omega) (s := List.length (l26 ++ r233)) (by first | omega | (simp only [List.length_append, List.length_cons, List.length_nil] <;> omega)) (List.flatMap_append).symm ?_)
 intro A244 c245 w246 H247
 have hl248 : List.length (l26 ++ r233) = l26.length + r233.length := by simp only [List.length_append, List.length_cons, List.length_nil]
 refine An rfl (Wp.exit (Fin.thenX (Fin.blockX (Fin.then (Wp.region (fw (.int .i64 ((k27 + 1 : Nat) : Int)) (Yl.int (e := IntKind.i64.wrap (((k27 : Nat) : Int) + 1)) yk (by rw [IntWalk.i64_in _ (by omega)]; omega)) (Mz rfl (WL.nil ?_))))))))
 have H249 := H247.pk [2, 0]
 exact Fin.round (A244, c245, (l26 ++ r233), k27 + 1) ⟨rfl, rfl, rfl, rfl, rfl, rfl, trivial⟩ (dm35.2 ⟨H249, by omega, by omega, et (hq36) (et (congrArg (fun q => wire_write_L0 p1 q l26) hd42) (et (iN h43) (et (iN h66) (et (iN h89) (et (iN h112) (et (iN h135) (et (iN h158) (et (iN h181) (et (iN h204) (et (ip h227) (bnd_of hr234)))))))))))⟩) (by show l2.length - (k27 + 1) < l2.length - k27; omega)
 refine jF (dF h227) (Wp.skip (bN (Fin.then (sr (Az rfl (An rfl (rt (Fin.res (res2 rfl rfl rfl) (Mz rfl (Kz (.pointer none) (Kz (.bool false) (Az rfl (Ar rfl (Mn rfl (jf (sk (sr (Mn rfl (bo (sr (Kz (.bool (decide (x40 = 2))) (An rfl ?_))))))))))))))))))))))
 by_cases h250 : x40 = 2
 refine jT (dT h250) (Wp.region (Mz rfl (Kz (.pointer (some ⟨g21, 4, none⟩)) (Lz (.int .i64 p1.xCode) H31 0 Tryz.isAgg3 (fw (.int .u8 (((u8I p1.xCode).toNat : Nat) : Int)) (Yl.int (e := IntKind.u8.wrap p1.xCode) yk (u8I_wrap _)) ?_)))))
 refine nrw [.int .u8 (((u8I p1.xCode).toNat : Nat) : Int)] 5 1 1 H31 ?_
 intro A251 w252 H253
 replace H253 := Own.reh (y := row A251 1 1 (List.flatMap eB ([(u8I p1.xCode)])) 5 1) rfl H253
 have H254 := H253.pk [2, 0, 1]
 refine WL.do rfl (Do.appendW (k := l26.length) (m := 1) (El31) H254 rfl rfl (src_of Tryz.underlying31 (H254.rds (i := 1) rfl) (flat_one eB_one ([(u8I p1.xCode)]))) rfl (by omega) (s := List.length (l26 ++ [(u8I p1.xCode)])) (by first | omega | (simp only [List.length_append, List.length_cons, List.length_nil] <;> omega)) (List.flatMap_append).symm ?_)
 intro A255 c256 w257 H258
 have hl259 : List.length (l26 ++ [(u8I p1.xCode)]) = l26.length + 1 := by simp only [List.length_append, List.length_cons, List.length_nil]
 refine Az rfl (WL.nil (bN (bN (Fin.then (Wp.region (fw (.int .i64 ((k27 + 1 : Nat) : Int)) (Yl.int (e := IntKind.i64.wrap (((k27 : Nat) : Int) + 1)) yk (by rw [IntWalk.i64_in _ (by omega)]; omega)) (Mz rfl (WL.nil ?_))))))))
 have H260 := H258.pk [2, 0]
 exact Fin.round (A255, c256, (l26 ++ [(u8I p1.xCode)]), k27 + 1) ⟨rfl, rfl, rfl, rfl, rfl, rfl, trivial⟩ (dm35.2 ⟨H260, by omega, by omega, et (hq36) (et (congrArg (fun q => wire_write_L0 p1 q l26) hd42) (et (iN h43) (et (iN h66) (et (iN h89) (et (iN h112) (et (iN h135) (et (iN h158) (et (iN h181) (et (iN h204) (et (iN h227) (ip h250)))))))))))⟩) (by show l2.length - (k27 + 1) < l2.length - k27; omega)
 refine jF (dF h250) (sr (Kz (.bool (decide (x40 = 12))) (An rfl ?_)))
 by_cases h261 : x40 = 12
 refine jT (dT h261) (Wp.region (Mz rfl (Kz (.pointer (some ⟨g21, 5, none⟩)) (Lz (.int .i64 p1.xPeer) H31 0 Tryz.isAgg3 (fw (.int .u8 (((u8I p1.xPeer).toNat : Nat) : Int)) (Yl.int (e := IntKind.u8.wrap p1.xPeer) yk (u8I_wrap _)) ?_)))))
 refine nrw [.int .u8 (((u8I p1.xPeer).toNat : Nat) : Int)] 5 1 1 H31 ?_
 intro A262 w263 H264
 replace H264 := Own.reh (y := row A262 1 1 (List.flatMap eB ([(u8I p1.xPeer)])) 5 1) rfl H264
 have H265 := H264.pk [2, 0, 1]
 refine WL.do rfl (Do.appendW (k := l26.length) (m := 1) (El31) H265 rfl rfl (src_of Tryz.underlying31 (H265.rds (i := 1) rfl) (flat_one eB_one ([(u8I p1.xPeer)]))) rfl (by omega) (s := List.length (l26 ++ [(u8I p1.xPeer)])) (by first | omega | (simp only [List.length_append, List.length_cons, List.length_nil] <;> omega)) (List.flatMap_append).symm ?_)
 intro A266 c267 w268 H269
 have hl270 : List.length (l26 ++ [(u8I p1.xPeer)]) = l26.length + 1 := by simp only [List.length_append, List.length_cons, List.length_nil]
 refine Az rfl (WL.nil (bN (bN (Fin.then (Wp.region (fw (.int .i64 ((k27 + 1 : Nat) : Int)) (Yl.int (e := IntKind.i64.wrap (((k27 : Nat) : Int) + 1)) yk (by rw [IntWalk.i64_in _ (by omega)]; omega)) (Mz rfl (WL.nil ?_))))))))
 have H271 := H269.pk [2, 0]
 exact Fin.round (A266, c267, (l26 ++ [(u8I p1.xPeer)]), k27 + 1) ⟨rfl, rfl, rfl, rfl, rfl, rfl, trivial⟩ (dm35.2 ⟨H271, by omega, by omega, et (hq36) (et (congrArg (fun q => wire_write_L0 p1 q l26) hd42) (et (iN h43) (et (iN h66) (et (iN h89) (et (iN h112) (et (iN h135) (et (iN h158) (et (iN h181) (et (iN h204) (et (iN h227) (et (iN h250) (ip h261))))))))))))⟩) (by show l2.length - (k27 + 1) < l2.length - k27; omega)
 refine jF (dF h261) (sr (Kz (.bool (decide (x40 = 8))) (An rfl ?_)))
 by_cases h272 : x40 = 8
 refine jT (dT h272) (Wp.region (Mz rfl (Kz (.pointer (some ⟨g21, 15, none⟩)) (Lz (.bool p1.xFlag) H31 0 Tryz.isAgg4 ?_))))
 obtain ⟨r278, hr279⟩ : ∃ q, wire_truth p1.xFlag = q := ⟨_, rfl⟩
 obtain ⟨D273, HP274, ro275, bk276, rr277⟩ := Own.enter0 H31
 refine cl Tryz.call55 (wire_truth_ok _ _ p1.xFlag r278 HP274 hr279) ?_
 rintro _ w280 ⟨rfl, HQ281⟩
 have H282 := bk276 _ _ HQ281
 refine nrw [.int .u8 ((r278.toNat : Nat) : Int)] 5 1 1 H282 ?_
 intro A283 w284 H285
 replace H285 := Own.reh (y := row A283 1 1 (List.flatMap eB ([r278])) 5 1) rfl H285
 have H286 := H285.pk [2, 0, 1]
 refine WL.do rfl (Do.appendW (k := l26.length) (m := 1) (El31) H286 rfl rfl (src_of Tryz.underlying31 (H286.rds (i := 1) rfl) (flat_one eB_one ([r278]))) rfl (by omega) (s := List.length (l26 ++ [r278])) (by first | omega | (simp only [List.length_append, List.length_cons, List.length_nil] <;> omega)) (List.flatMap_append).symm ?_)
 intro A287 c288 w289 H290
 have hl291 : List.length (l26 ++ [r278]) = l26.length + 1 := by simp only [List.length_append, List.length_cons, List.length_nil]
 refine Az rfl (WL.nil (bN (bN (Fin.then (Wp.region (fw (.int .i64 ((k27 + 1 : Nat) : Int)) (Yl.int (e := IntKind.i64.wrap (((k27 : Nat) : Int) + 1)) yk (by rw [IntWalk.i64_in _ (by omega)]; omega)) (Mz rfl (WL.nil ?_))))))))
 have H292 := H290.pk [2, 0]
 exact Fin.round (A287, c288, (l26 ++ [r278]), k27 + 1) ⟨rfl, rfl, rfl, rfl, rfl, rfl, trivial⟩ (dm35.2 ⟨H292, by omega, by omega, et (hq36) (et (congrArg (fun q => wire_write_L0 p1 q l26) hd42) (et (iN h43) (et (iN h66) (et (iN h89) (et (iN h112) (et (iN h135) (et (iN h158) (et (iN h181) (et (iN h204) (et (iN h227) (et (iN h250) (et (iN h261) (et (ip h272) (bnd_of hr279))))))))))))))⟩) (by show l2.length - (k27 + 1) < l2.length - k27; omega)
 refine jF (dF h272) (sr (Kz (.bool (decide (x40 = 13))) (An rfl ?_)))
 by_cases h293 : x40 = 13
 refine jT (dT h293) (Wp.region (Mz rfl (Kz (.pointer (some ⟨g21, 16, none⟩)) (Kz (.pointer (some ⟨g21, 16, none⟩)) (Lz (.string ⟨List.toArray p1.xRange.xLo⟩) H31 0 Tryz.isAgg9 (Kz (.pointer (some ⟨g21, 16, none⟩)) (Kz (.pointer (some ⟨g21, 17, none⟩)) (Lz (.string ⟨List.toArray p1.xRange.xHi⟩) H31 0 Tryz.isAgg9 ?_))))))))
 refine nrw [.string ⟨List.toArray p1.xRange.xLo⟩, .string ⟨List.toArray p1.xRange.xHi⟩] 9 1 2 H31 ?_
 intro A294 w295 H296
 replace H296 := Own.reh (y := row A294 2 2 (List.flatMap eS ([p1.xRange.xLo, p1.xRange.xHi])) 9 1) rfl H296
 have H297 := H296.pk [2, 0, 1]
 obtain ⟨r303, hr304⟩ : ∃ q, wire_texts l26 ([p1.xRange.xLo, p1.xRange.xHi]) = q := ⟨_, rfl⟩
 obtain ⟨D298, HP299, ro300, bk301, rr302⟩ := Own.enter1 H297
 refine WL.do rfl (Do.call Tryz.call56 rfl (wire_texts_ok _ _ A24 l26.length c25 l26 A294 2 2 ([p1.xRange.xLo, p1.xRange.xHi]) r303 HP299 rfl (by omega) (rr302 _ 0 _ rfl row_rds) rfl (by simp) (by first | omega | (simp only [List.length_cons, List.length_nil, List.length_append]; omega)) (by refine ⟨Nat.le_of_ble_eq_true rfl, ?_⟩; simp only [List.mem_cons, List.not_mem_nil, or_false, forall_eq_or_imp, forall_eq]; omega) hr304) ?_)
 rintro _ w305 ⟨A308, c309, rfl, HQ306, hk310⟩
 have H307 := bk301 _ _ HQ306
 have hb311 := H307.rowC (i := 0) rfl
 replace hk310 : r303.length ≤ l26.length + 26 * 2 := hk310
 refine Az rfl (WL.nil (bN (bN (Fin.then (Wp.region (fw (.int .i64 ((k27 + 1 : Nat) : Int)) (Yl.int (e := IntKind.i64.wrap (((k27 : Nat) : Int) + 1)) yk (by rw [IntWalk.i64_in _ (by omega)]; omega)) (Mz rfl (WL.nil ?_))))))))
 have H312 := H307.pk [2, 0]
 exact Fin.round (A308, c309, r303, k27 + 1) ⟨rfl, rfl, rfl, rfl, rfl, rfl, trivial⟩ (dm35.2 ⟨H312, by omega, by omega, et (hq36) (et (congrArg (fun q => wire_write_L0 p1 q l26) hd42) (et (iN h43) (et (iN h66) (et (iN h89) (et (iN h112) (et (iN h135) (et (iN h158) (et (iN h181) (et (iN h204) (et (iN h227) (et (iN h250) (et (iN h261) (et (iN h272) (et (ip h293) (bnd_of hr304)))))))))))))))⟩) (by show l2.length - (k27 + 1) < l2.length - k27; omega)
 refine jF (dF h293) (sr (Kz (.bool (decide (x40 = 7))) (An rfl ?_)))
 by_cases h313 : x40 = 7
 refine jT (dT h313) (Wp.region (Mz rfl (Kz (.pointer (some ⟨g21, 18, none⟩)) (Lz (.slice A1x0 p1.xOps.ls.length c1x0) H31 0 Tryz.isAgg25 ?_))))
 have H314 := H31.pk [1, 0]
 obtain ⟨r320, hr321⟩ : ∃ q, wire_list_api_Op l26 p1.xOps.ls = q := ⟨_, rfl⟩
 obtain ⟨D315, HP316, ro317, bk318, rr319⟩ := Own.enter1 H314
 refine cl Tryz.call57 (wire_list_api_Op_ok _ _ A24 l26.length c25 l26 A1x0 p1.xOps.ls.length c1x0 p1.xOps.ls r320 HP316 rfl (by omega) (ro317 _ hx1x0) rfl (by omega) (by first | omega | (simp only [List.length_cons, List.length_nil, List.length_append]; omega)) (by exact hh2.1) hr321) ?_
 rintro _ w322 ⟨A325, c326, rfl, HQ323, hk327⟩
 have H324 := bk318 _ _ HQ323
 have hb328 := H324.rowC (i := 0) rfl
 replace hk327 : r320.length ≤ l26.length + 10 + 106 * p1.xOps.ls.length := hk327
 refine Az rfl (WL.nil (bN (bN (Fin.then (Wp.region (fw (.int .i64 ((k27 + 1 : Nat) : Int)) (Yl.int (e := IntKind.i64.wrap (((k27 : Nat) : Int) + 1)) yk (by rw [IntWalk.i64_in _ (by omega)]; omega)) (Mz rfl (WL.nil ?_))))))))
 have H329 := H324.pk [1, 0]
 exact Fin.round (A325, c326, r320, k27 + 1) ⟨rfl, rfl, rfl, rfl, rfl, rfl, trivial⟩ (dm35.2 ⟨H329, by omega, by omega, et (hq36) (et (congrArg (fun q => wire_write_L0 p1 q l26) hd42) (et (iN h43) (et (iN h66) (et (iN h89) (et (iN h112) (et (iN h135) (et (iN h158) (et (iN h181) (et (iN h204) (et (iN h227) (et (iN h250) (et (iN h261) (et (iN h272) (et (iN h293) (et (ip h313) (bnd_of hr321))))))))))))))))⟩) (by show l2.length - (k27 + 1) < l2.length - k27; omega)
 refine jF (dF h313) (sr (Kz (.bool (decide (x40 = 3))) (An rfl ?_)))
 by_cases h330 : x40 = 3
 refine jT (dT h330) (Wp.region (Mz rfl (Kz (.pointer (some ⟨g21, 19, none⟩)) (Lz (.slice A1x1 p1.xResults.ls.length c1x1) H31 0 Tryz.isAgg26 ?_))))
 have H331 := H31.pk [1, 0]
 obtain ⟨r337, hr338⟩ : ∃ q, wire_list_api_Result l26 p1.xResults.ls = q := ⟨_, rfl⟩
 obtain ⟨D332, HP333, ro334, bk335, rr336⟩ := Own.enter1 H331
 refine cl Tryz.call59 (wire_list_api_Result_ok _ _ A24 l26.length c25 l26 A1x1 p1.xResults.ls.length c1x1 d1x1 p1.xResults.ls r337 HP333 rfl (by omega) hd1x1 (ro334 _ hx1x1) (fun x9 h9 => ⟨ro334 _ (hm1x1 x9 h9).1, (hm1x1 x9 h9).2⟩) rfl (by omega) (by first | omega | (simp only [List.length_cons, List.length_nil, List.length_append]; omega)) (by exact hh2.2.1) hr338) ?_
 rintro _ w339 ⟨A342, c343, rfl, HQ340, hk344⟩
 have H341 := bk335 _ _ HQ340
 have hb345 := H341.rowC (i := 0) rfl
 replace hk344 : r337.length ≤ l26.length + 10 + 245 * p1.xResults.ls.length := hk344
 refine Az rfl (WL.nil (bN (bN (Fin.then (Wp.region (fw (.int .i64 ((k27 + 1 : Nat) : Int)) (Yl.int (e := IntKind.i64.wrap (((k27 : Nat) : Int) + 1)) yk (by rw [IntWalk.i64_in _ (by omega)]; omega)) (Mz rfl (WL.nil ?_))))))))
 have H346 := H341.pk [1, 0]
 exact Fin.round (A342, c343, r337, k27 + 1) ⟨rfl, rfl, rfl, rfl, rfl, rfl, trivial⟩ (dm35.2 ⟨H346, by omega, by omega, et (hq36) (et (congrArg (fun q => wire_write_L0 p1 q l26) hd42) (et (iN h43) (et (iN h66) (et (iN h89) (et (iN h112) (et (iN h135) (et (iN h158) (et (iN h181) (et (iN h204) (et (iN h227) (et (iN h250) (et (iN h261) (et (iN h272) (et (iN h293) (et (iN h313) (et (ip h330) (bnd_of hr338)))))))))))))))))⟩) (by show l2.length - (k27 + 1) < l2.length - k27; omega)
 refine jF (dF h330) (sr (Kz (.bool (decide (x40 = 11))) (An rfl ?_)))
 by_cases h347 : x40 = 11
 refine jT (dT h347) (Wp.region (Mz rfl (Kz (.pointer (some ⟨g21, 20, none⟩)) (Lz (.slice A1x2 p1.xOwners.ls.length c1x2) H31 0 Tryz.isAgg27 ?_))))
 have H348 := H31.pk [1, 0]
 obtain ⟨r354, hr355⟩ : ∃ q, wire_list_api_Owner l26 p1.xOwners.ls = q := ⟨_, rfl⟩
 obtain ⟨D349, HP350, ro351, bk352, rr353⟩ := Own.enter1 H348
 refine cl Tryz.call61 (wire_list_api_Owner_ok _ _ A24 l26.length c25 l26 A1x2 p1.xOwners.ls.length c1x2 p1.xOwners.ls r354 HP350 rfl (by omega) (ro351 _ hx1x2) rfl (by omega) (by first | omega | (simp only [List.length_cons, List.length_nil, List.length_append]; omega)) (by exact hh2.2.2.1) hr355) ?_
 rintro _ w356 ⟨A359, c360, rfl, HQ357, hk361⟩
 have H358 := bk352 _ _ HQ357
 have hb362 := H358.rowC (i := 0) rfl
 replace hk361 : r354.length ≤ l26.length + 10 + 27 * p1.xOwners.ls.length := hk361
 refine Az rfl (WL.nil (bN (bN (Fin.then (Wp.region (fw (.int .i64 ((k27 + 1 : Nat) : Int)) (Yl.int (e := IntKind.i64.wrap (((k27 : Nat) : Int) + 1)) yk (by rw [IntWalk.i64_in _ (by omega)]; omega)) (Mz rfl (WL.nil ?_))))))))
 have H363 := H358.pk [1, 0]
 exact Fin.round (A359, c360, r354, k27 + 1) ⟨rfl, rfl, rfl, rfl, rfl, rfl, trivial⟩ (dm35.2 ⟨H363, by omega, by omega, et (hq36) (et (congrArg (fun q => wire_write_L0 p1 q l26) hd42) (et (iN h43) (et (iN h66) (et (iN h89) (et (iN h112) (et (iN h135) (et (iN h158) (et (iN h181) (et (iN h204) (et (iN h227) (et (iN h250) (et (iN h261) (et (iN h272) (et (iN h293) (et (iN h313) (et (iN h330) (et (ip h347) (bnd_of hr355))))))))))))))))))⟩) (by show l2.length - (k27 + 1) < l2.length - k27; omega)
 refine jF (dF h347) (Wp.skip (bN (bN (Fin.then (Wp.region (fw (.int .i64 ((k27 + 1 : Nat) : Int)) (Yl.int (e := IntKind.i64.wrap (((k27 : Nat) : Int) + 1)) yk (by rw [IntWalk.i64_in _ (by omega)]; omega)) (Mz rfl (WL.nil ?_))))))))
 have H364 := H31.pk [0, 1]
 exact Fin.round (A24, c25, l26, k27 + 1) ⟨rfl, rfl, rfl, rfl, rfl, rfl, trivial⟩ (dm35.2 ⟨H364, by omega, by omega, et (hq36) (et (congrArg (fun q => wire_write_L0 p1 q l26) hd42) (et (iN h43) (et (iN h66) (et (iN h89) (et (iN h112) (et (iN h135) (et (iN h158) (et (iN h181) (et (iN h204) (et (iN h227) (et (iN h250) (et (iN h261) (et (iN h272) (et (iN h293) (et (iN h313) (et (iN h330) (iN h347)))))))))))))))))⟩) (by show l2.length - (k27 + 1) < l2.length - k27; omega)
 refine jF (dF h39) (Wp.exit (Fin.thenX ?_))
 have hL365 : wire_write_L0 p1 l2 l0 = l26 := et (hq36) (et (congrArg (fun q => wire_write_L0 p1 q l26) (drop_end (ls := l2) (i := k27) (by omega))) rfl)
 refine Fin.thenX (Fin.blockX (Fin.then (sr (Mz rfl (An rfl (rt (rs ?_)))))))
 have H366 := H31.pk [1]
 obtain rfl : _ = l26 := hr.symm.trans (bnd_of hL365)
 exact ⟨A24, c25, rfl, H366, (by omega)⟩
def wire_Encode (p0 : MsgT) : (List UInt8) × Int :=
 bnd (wire_Check p0) fun yr29 => if yr29 = 0 then bnd (wire_layoutOf p0.xKind) fun yr40 => bnd (wire_write ([(u8I p0.xKind), (u8I p0.xFrom), (u8I p0.xTo)]) p0 yr40.1.xfields.ls) fun yr63 => bnd (frame_Seal yr63) fun yr77 => (yr77.1, yr77.2) else ([], yr29)
set_option maxRecDepth 100000 in
theorem wire_Encode_ok (w : World) (D : Nat → Prop) (p0 : MsgT) (A0x0 : Option Addr) (n0x0 c0x0 : Nat) (A0x1 : Option Addr) (n0x1 c0x1 : Nat) (d0x1 : List ResultD) (A0x2 : Option Addr) (n0x2 c0x2 : Nat) (r0 : List UInt8) (r1 : Int) (H : Own w D w []) (hn0x0 : n0x0 = p0.xOps.ls.length) (hx0x0 : Ro w D fun w' => Rds w' 6 A0x0 p0.xOps.ls.length (List.flatMap OpD.cells p0.xOps.ls)) (hb0x0 : p0.xOps.ls.length ≤ c0x0 ∧ p0.xOps.ls.length ≤ 9223372036854775807) (hd0x1 : List.map ResultD.abs d0x1 = p0.xResults.ls) (hn0x1 : n0x1 = p0.xResults.ls.length) (hx0x1 : Ro w D fun w' => Rds w' 3 A0x1 p0.xResults.ls.length (List.flatMap ResultD.cells d0x1)) (hb0x1 : p0.xResults.ls.length ≤ c0x1 ∧ p0.xResults.ls.length ≤ 9223372036854775807) (hm0x1 : ∀ x ∈ d0x1, Ro w D (fun w' => Rds w' 2 x.xPairs.A x.xPairs.ls.length (List.flatMap PairD.cells x.xPairs.ls)) ∧ (x.xPairs.ls.length ≤ x.xPairs.c ∧ x.xPairs.ls.length ≤ 9223372036854775807)) (hn0x2 : n0x2 = p0.xOwners.ls.length) (hx0x2 : Ro w D fun w' => Rds w' 2 A0x2 p0.xOwners.ls.length (List.flatMap OwnerD.cells p0.xOwners.ls)) (hb0x2 : p0.xOwners.ls.length ≤ c0x2 ∧ p0.xOwners.ls.length ≤ 9223372036854775807) (hh0 : p0.xOps.ls.length ≤ 140737488355328 ∧ p0.xResults.ls.length ≤ 140737488355328 ∧ p0.xOwners.ls.length ≤ 140737488355328) (hh1 : p0.xReq ≤ 18446744073709551615 ∧ p0.xBoot ≤ 18446744073709551615 ∧ p0.xTxn ≤ 18446744073709551615 ∧ p0.xLow ≤ 18446744073709551615 ∧ p0.xVer ≤ 18446744073709551615 ∧ p0.xEpoch ≤ 18446744073709551615 ∧ p0.xMove ≤ 18446744073709551615 ∧ p0.xAttempt ≤ 18446744073709551615 ∧ p0.xN ≤ 18446744073709551615) (hr : wire_Encode p0 = (r0, r1)) :
    Calls Tryz.prog 9 #[.agg (MsgC p0.xKind p0.xFrom p0.xTo p0.xClient p0.xCode p0.xPeer p0.xReq p0.xBoot p0.xTxn p0.xLow p0.xVer p0.xEpoch p0.xMove p0.xAttempt p0.xN p0.xFlag p0.xRange.xLo p0.xRange.xHi A0x0 n0x0 c0x0 A0x1 n0x1 c0x1 A0x2 n0x2 c0x2).toArray] w (Ret fun v w' => ∃ (B0 : Option Addr) (b0 : Nat), v = .tuple #[.slice B0 r0.length b0, .int .i64 r1] ∧ Own w D w' [row B0 r0.length b0 (List.flatMap eB r0) 5 1] ∧ (r0.length ≤ 51000)) := by
 subst hn0x0 hn0x1 hn0x2
 have hdl0x1 := abs_len hd0x1
 refine Calls.body (args := [.agg (MsgP p0 A0x0 c0x0 A0x1 c0x1 A0x2 c0x2).toArray]) Tryz.func9 rfl rfl rfl ?_
 show Wp _ _ _ [(0, .agg (MsgP p0 A0x0 c0x0 A0x1 c0x1 A0x2 c0x2).toArray)] _ _
 refine sr ?_
 refine npw (MsgP p0 A0x0 c0x0 A0x1 c0x1 A0x2 c0x2) 29 H ?_
 intro g21 w22 H23
 refine Az rfl (An rfl (Wp.seq (sr (La (MsgP p0 A0x0 c0x0 A0x1 c0x1 A0x2 c0x2) H23 0 Tryz.isAgg29 Tryz.sizeOf29 ?_))))
 obtain ⟨r29, hr30⟩ : ∃ q, wire_Check p0 = q := ⟨_, rfl⟩
 obtain ⟨D24, HP25, ro26, bk27, rr28⟩ := Own.enter0 H23
 refine cl Tryz.call11 (wire_Check_ok _ _ p0 A0x0 p0.xOps.ls.length c0x0 A0x1 p0.xResults.ls.length c0x1 d0x1 A0x2 p0.xOwners.ls.length c0x2 r29 HP25 rfl (ro26 _ hx0x0) (show p0.xOps.ls.length ≤ c0x0 ∧ p0.xOps.ls.length ≤ 9223372036854775807 from by omega) hd0x1 rfl (ro26 _ hx0x1) (show p0.xResults.ls.length ≤ c0x1 ∧ p0.xResults.ls.length ≤ 9223372036854775807 from by omega) (fun x9 h9 => ⟨ro26 _ (hm0x1 x9 h9).1, (hm0x1 x9 h9).2⟩) rfl (ro26 _ hx0x2) (show p0.xOwners.ls.length ≤ c0x2 ∧ p0.xOwners.ls.length ≤ 9223372036854775807 from by omega) (by first | omega | (dsimp only; omega) | (simp only [List.length_nil]; omega)) hr30) ?_
 rintro _ w31 ⟨rfl, HQ32⟩
 have H33 := bk27 _ _ HQ32
 refine Ar rfl (Mz rfl (fw (.bool (decide (¬ (r29 = 0)))) (Yl.bool (e := !(decide (r29 = 0))) yk decide_not.symm) (nt ?_)))
 by_cases h34 : r29 = 0
 refine jF (dF (not_not_intro h34)) (sk (sr (Kz (.pointer (some ⟨g21, 0, none⟩)) (Lz (.int .i64 p0.xKind) H33 0 Tryz.isAgg3 ?_))))
 obtain ⟨⟨r40, r41⟩, hr42⟩ : ∃ q : layoutT × Bool, wire_layoutOf p0.xKind = q := ⟨_, rfl⟩
 obtain ⟨D35, HP36, ro37, bk38, rr39⟩ := Own.enter0 H33
 refine cl Tryz.call19 (wire_layoutOf_ok _ _ p0.xKind r40 r41 HP36 hr42) ?_
 rintro _ w43 ⟨A46, c47, rfl, HQ44, hk48⟩
 have H45 := bk38 _ _ HQ44
 have hb49 := H45.rowC (i := 0) rfl
 replace hk48 : r40.xfields.ls.length ≤ 5 := hk48
 refine Mz rfl (Kz (.agg #[.int .i64 r40.xfrom, .int .i64 r40.xto, .slice A46 r40.xfields.ls.length c47]) (Kz (.bool r41) ?_))
 refine npw [.int .i64 0, .int .i64 0, .slice none 0 0] 50 H45 ?_
 intro g50 w51 H52
 refine sto [.int .i64 r40.xfrom, .int .i64 r40.xto, .slice A46 r40.xfields.ls.length c47] 0 H52 Tryz.sizeOf50 ?_
 intro w53 H54
 refine Ar rfl (Kz (.pointer (some ⟨g21, 0, none⟩)) (Lz (.int .i64 p0.xKind) H54 2 Tryz.isAgg3 (fw (.int .u8 (((u8I p0.xKind).toNat : Nat) : Int)) (Yl.int (e := IntKind.u8.wrap p0.xKind) yk (u8I_wrap _)) (Kz (.pointer (some ⟨g21, 1, none⟩)) (Lz (.int .i64 p0.xFrom) H54 2 Tryz.isAgg3 (fw (.int .u8 (((u8I p0.xFrom).toNat : Nat) : Int)) (Yl.int (e := IntKind.u8.wrap p0.xFrom) yk (u8I_wrap _)) (Kz (.pointer (some ⟨g21, 2, none⟩)) (Lz (.int .i64 p0.xTo) H54 2 Tryz.isAgg3 (fw (.int .u8 (((u8I p0.xTo).toNat : Nat) : Int)) (Yl.int (e := IntKind.u8.wrap p0.xTo) yk (u8I_wrap _)) ?_)))))))))
 refine nrw [.int .u8 (((u8I p0.xKind).toNat : Nat) : Int), .int .u8 (((u8I p0.xFrom).toNat : Nat) : Int), .int .u8 (((u8I p0.xTo).toNat : Nat) : Int)] 5 1 3 H54 ?_
 intro A55 w56 H57
 replace H57 := Own.reh (y := row A55 3 3 (List.flatMap eB ([(u8I p0.xKind), (u8I p0.xFrom), (u8I p0.xTo)])) 5 1) rfl H57
 refine Ar rfl (Mz rfl (La (MsgP p0 A0x0 c0x0 A0x1 c0x1 A0x2 c0x2) H57 3 Tryz.isAgg29 Tryz.sizeOf29 (Kz (.pointer (some ⟨g50, 2, none⟩)) (Lz (.slice A46 r40.xfields.ls.length c47) H57 1 Tryz.isAgg48 ?_))))
 obtain ⟨r63, hr64⟩ : ∃ q, wire_write ([(u8I p0.xKind), (u8I p0.xFrom), (u8I p0.xTo)]) p0 r40.xfields.ls = q := ⟨_, rfl⟩
 obtain ⟨D58, HP59, ro60, bk61, rr62⟩ := Own.enter1 H57
 refine cl Tryz.call20 (wire_write_ok _ _ A55 3 3 ([(u8I p0.xKind), (u8I p0.xFrom), (u8I p0.xTo)]) p0 A0x0 p0.xOps.ls.length c0x0 A0x1 p0.xResults.ls.length c0x1 d0x1 A0x2 p0.xOwners.ls.length c0x2 A46 r40.xfields.ls.length c47 r40.xfields.ls r63 HP59 rfl (by simp) rfl (ro60 _ hx0x0) (show p0.xOps.ls.length ≤ c0x0 ∧ p0.xOps.ls.length ≤ 9223372036854775807 from by omega) hd0x1 rfl (ro60 _ hx0x1) (show p0.xResults.ls.length ≤ c0x1 ∧ p0.xResults.ls.length ≤ 9223372036854775807 from by omega) (fun x9 h9 => ⟨ro60 _ (hm0x1 x9 h9).1, (hm0x1 x9 h9).2⟩) rfl (ro60 _ hx0x2) (show p0.xOwners.ls.length ≤ c0x2 ∧ p0.xOwners.ls.length ≤ 9223372036854775807 from by omega) (rr62 _ 1 _ rfl row_rds) rfl (by omega) (by first | omega | exact Nat.le_of_ble_eq_true rfl) (by omega) (by exact wsm_of (by rw [hr30]; omega)) (by first | omega | (dsimp only; omega) | (simp only [List.length_nil]; omega)) hr64) ?_
 rintro _ w65 ⟨A68, c69, rfl, HQ66, hk70⟩
 have H67 := bk61 _ _ HQ66
 have hb71 := H67.rowC (i := 0) rfl
 replace hk70 : r63.length ≤ 50000 := hk70
 obtain ⟨⟨r77, r78⟩, hr79⟩ : ∃ q : (List UInt8) × Int, frame_Seal r63 = q := ⟨_, rfl⟩
 obtain ⟨D72, HP73, ro74, bk75, rr76⟩ := Own.enter0 H67
 refine cl Tryz.call17 (frame_Seal_ok _ _ A68 r63.length c69 r63 r77 r78 HP73 (rr76 _ 0 _ rfl row_rds) rfl (by omega) hr79) ?_
 rintro _ w80 ⟨A83, c84, rfl, HQ81, hk85⟩
 have H82 := bk75 _ _ HQ81
 have hb86 := H82.rowC (i := 0) rfl
 replace hk85 : r77.length ≤ r63.length + 15 := hk85
 refine Kz (.slice A83 r77.length c84) (Kz (.int .i64 r78) (Az rfl (An rfl (rt (Fin.res (res2 rfl rfl rfl) ?_)))))
 have H87 := H82.pk [0]
 have e : wire_Encode p0 = (r77, r78) := et (bnd_of hr30) (et (ip h34) (et (bnd_of hr42) (et (bnd_of hr64) (bnd_of hr79))))
 obtain ⟨rfl, rfl⟩ := pj2 (e.symm.trans hr)
 exact ⟨A83, c84, rfl, H87, (by first | omega | exact Nat.zero_le _)⟩
 refine jT (dT h34) (sr (Mz rfl (Az rfl (An rfl (rt (tR (Fin.res (res2 rfl rfl rfl) ?_)))))))
 have H88 : Own w D w31 [row none 0 0 (List.flatMap eB ([])) 5 1, blk g21 (MsgP p0 A0x0 c0x0 A0x1 c0x1 A0x2 c0x2) 29] := H33.free (row_nil 5 1)
 have H89 := H88.pk [0]
 have e : wire_Encode p0 = ([], r29) := et (bnd_of hr30) (iN h34)
 obtain ⟨rfl, rfl⟩ := pj2 (e.symm.trans hr)
 exact ⟨none, 0, rfl, H89, (by first | omega | exact Nat.zero_le _)⟩
end Go.Proofs.YtccjclalngabhaaGreat
