/-
 cache: what is dirty; the document's cache.
-/
import Derived.Test.YtkekaemfokmhdaaCaU
namespace Go.Proofs.Ytkekaemfokmhdaa
open Go.RowKit
set_option linter.unusedVariables false
set_option linter.unusedSectionVars false
set_option linter.unusedSimpArgs false

theorem El58 : Elem Try.prog 58 3 1 8 := elem_of (z := .int .i64 0) Try.underlying58 (by kernel_rfl) rfl (by decide)

def cache_Cache_Dirty_L0 : List placeT → List Int → (List Int)
  | [], l24 => l24
  | x38 :: q26, l24 => if x38.xdirty = true then cache_Cache_Dirty_L0 q26 (l24 ++ [x38.xid]) else cache_Cache_Dirty_L0 q26 l24

def cache_Cache_Dirty (p0 : CacheT) (p0l0 : BackT) : (List Int) :=
 bnd (cache_Cache_Dirty_L0 p0.xplaces.ls ([])) fun sLrL => (srtI sLrL)

set_option maxRecDepth 100000 in
theorem cache_Cache_Dirty_ok (w : World) (D : Nat → Prop) (g0 : Nat) (p0 : CacheT) (A0x0 : Option Addr) (c0x0 : Nat) (d0x0 : List placeD) (g0l0 : Nat) (p0l0 : BackT) (r0 : List Int) (H : Own w D w [blk g0 [.iface 24 (.pointer (some ⟨g0l0, 0, none⟩)), .slice A0x0 p0.xplaces.ls.length c0x0, .int .i64 p0.xhand] 67, BackO g0l0 p0l0]) (hd0x0 : List.map placeD.abs d0x0 = p0.xplaces.ls) (hx0x0 : Ro w D fun w' => Rds w' 7 A0x0 p0.xplaces.ls.length (List.flatMap placeD.cells d0x0)) (hb0x0 : p0.xplaces.ls.length ≤ c0x0 ∧ p0.xplaces.ls.length ≤ 9223372036854775807) (hm0x0 : ∀ x ∈ d0x0, Ro w D (fun w' => Rds w' 1 x.xbytes.A x.xbytes.ls.length (List.flatMap eB x.xbytes.ls)) ∧ (x.xbytes.ls.length ≤ x.xbytes.c ∧ x.xbytes.ls.length ≤ 9223372036854775807)) (hh0 : 1 ≤ p0.xplaces.ls.length ∧ p0.xplaces.ls.length ≤ 64) (hr : cache_Cache_Dirty p0 p0l0 = r0) :
    Calls Try.prog 19 #[.pointer (some ⟨g0, 0, none⟩)] w (Ret fun v w' => ∃ (B0 : Option Addr) (b0 : Nat), v = .slice B0 r0.length b0 ∧ Own w D w' [row B0 r0.length b0 (List.flatMap (eI .i64) r0) 3 1, blk g0 [.iface 24 (.pointer (some ⟨g0l0, 0, none⟩)), .slice A0x0 p0.xplaces.ls.length c0x0, .int .i64 p0.xhand] 67, BackO g0l0 p0l0] ∧ (r0.length ≤ 64)) := by
 have hdl0x0 := abs_len hd0x0
 refine Calls.body (args := [.pointer (some ⟨g0, 0, none⟩)]) Try.func19 rfl rfl rfl ?_
 show Wp _ _ _ [(0, .pointer (some ⟨g0, 0, none⟩))] _ _
 refine sr (Ar rfl (An rfl (Wp.seq (sr (Mz rfl (Kz (.pointer (some ⟨g0, 0, none⟩)) (Kz (.pointer (some ⟨g0, 1, none⟩)) (Lz (.slice A0x0 p0.xplaces.ls.length c0x0) H 0 Try.isAgg65 (Kz (.int .i64 ((p0.xplaces.ls.length : Nat) : Int)) (Mn rfl (bo ?_)))))))))))
 have H21 : Own w D w [row none 0 0 (List.flatMap (eI .i64) ([])) 3 1, blk g0 [.iface 24 (.pointer (some ⟨g0l0, 0, none⟩)), .slice A0x0 p0.xplaces.ls.length c0x0, .int .i64 p0.xhand] 67, BackO g0l0 p0l0] := H.free (row_nil 3 1)
 have H27 := H21.pk [1, 2, 0]
 obtain ⟨I31, hI32⟩ : ∃ q : ((Option Addr) × Nat × (List Int) × Nat) → World → Prop, q = fun (i : (Option Addr) × Nat × (List Int) × Nat) w' => Own w D w' [blk g0 [.iface 24 (.pointer (some ⟨g0l0, 0, none⟩)), .slice A0x0 p0.xplaces.ls.length c0x0, .int .i64 p0.xhand] 67, BackO g0l0 p0l0, row i.1 i.2.2.1.length i.2.1 (List.flatMap (eI .i64) i.2.2.1) 3 1] ∧ (i.2.2.2 ≤ p0.xplaces.ls.length ∧ i.2.2.1.length ≤ i.2.2.2 ∧ cache_Cache_Dirty_L0 p0.xplaces.ls ([]) = cache_Cache_Dirty_L0 (List.drop i.2.2.2 p0.xplaces.ls) i.2.2.1) := ⟨_, rfl⟩
 have dm33 : ∀ {A22 : Option Addr} {c23 : Nat} {l24 : List Int} {k25 : Nat} {w' : World}, I31 (A22, c23, l24, k25) w' ↔ Own w D w' [blk g0 [.iface 24 (.pointer (some ⟨g0l0, 0, none⟩)), .slice A0x0 p0.xplaces.ls.length c0x0, .int .i64 p0.xhand] 67, BackO g0l0 p0l0, row A22 l24.length c23 (List.flatMap (eI .i64) l24) 3 1] ∧ k25 ≤ p0.xplaces.ls.length ∧ l24.length ≤ k25 ∧ cache_Cache_Dirty_L0 p0.xplaces.ls ([]) = cache_Cache_Dirty_L0 (List.drop k25 p0.xplaces.ls) l24 := by intros; subst hI32; exact Iff.rfl
 refine Wp.loop (fun i : (Option Addr) × Nat × (List Int) × Nat => [(3, .slice i.1 i.2.2.1.length i.2.1), (11, .int .i64 ((i.2.2.2 : Nat) : Int)), (10, .int .i64 ((p0.xplaces.ls.length : Nat) : Int)), (9, .slice A0x0 p0.xplaces.ls.length c0x0), (2, .slice none 0 0)]) I31 (fun i => p0.xplaces.ls.length - i.2.2.2) (none, 0, [], 0) ⟨rfl, rfl, rfl, rfl, rfl, trivial⟩ (dm33.2 ⟨H27, (show 0 ≤ p0.xplaces.ls.length ∧ 0 ≤ 0 ∧ cache_Cache_Dirty_L0 p0.xplaces.ls ([]) = cache_Cache_Dirty_L0 (List.drop 0 p0.xplaces.ls) ([]) from ⟨by omega, by omega, rfl⟩)⟩) ?_
 rintro ⟨A22, c23, l24, k25⟩ w28 hf30
 show Wp _ _ _ [(3, .slice A22 l24.length c23), (11, .int .i64 ((k25 : Nat) : Int)), (10, .int .i64 ((p0.xplaces.ls.length : Nat) : Int)), (9, .slice A0x0 p0.xplaces.ls.length c0x0), (2, .slice none 0 0)] _ _
 obtain ⟨H29, hi35, hi36, hq34⟩ := dm33.1 hf30
 refine sr (Kz (.bool (decide (((k25 : Nat) : Int) < ((p0.xplaces.ls.length : Nat) : Int)))) (nt (Wp.seq ?_)))
 by_cases h37 : ((k25 : Nat) : Int) < ((p0.xplaces.ls.length : Nat) : Int)
 obtain ⟨x38, hx39⟩ := rds_at (ls := d0x0) (i := k25) placeD.len (by decide) (H29.ro hx0x0) (by first | omega | (simp; done) | (simp; omega))
 have hX40 := abs_at hd0x0 hx39
 have hb41 := (hm0x0 _ (List.mem_of_getElem? hx39)).2
 have hd42 := drop_at hX40
 refine jT (dT h37) (sk (Wp.seq (bo (sr (fw (.pointer (some ⟨ab A0x0, ao A0x0 + k25 * 7, none⟩)) (Yl.indexAddr (El65) rfl rfl ((H29.ro hx0x0).addr (i := k25) (by omega)) (by omega)) (fw (.agg (placeD.cells x38).toArray) (Yl.load rfl (Lds.agg (cs := (placeD.cells x38)) Try.isAgg75 Try.sizeOf75 ((H29.ro hx0x0).elem placeD.len hx39 (by decide)))) ?_))))))
 refine npw [.bool false, .int .i64 0, .slice none 0 0, .int .i64 0, .bool false, .bool false, .int .u64 0] 75 H29 ?_
 intro g43 w44 H45
 refine sto (placeD.cells x38) 0 H45 Try.sizeOf75 ?_
 intro w46 H47
 refine ns (Kz (.pointer (some ⟨g43, 5, none⟩)) (Lz (.bool x38.xdirty) H47 0 Try.isAgg4 (nt ?_)))
 rcases Bool.eq_false_or_eq_true (x38.xdirty) with h48 | h48
 refine jT h48 (Wp.region (Mz rfl (Kz (.pointer (some ⟨g43, 1, none⟩)) (Lz (.int .i64 x38.xid) H47 0 Try.isAgg3 ?_))))
 refine nrw [.int .i64 x38.xid] 3 1 1 H47 ?_
 intro A49 w50 H51
 replace H51 := Own.reh (y := row A49 1 1 (List.flatMap (eI .i64) ([x38.xid])) 3 1) rfl H51
 have H52 := H51.pk [4, 0, 1, 2, 3]
 refine WL.do rfl (Do.appendW (k := l24.length) (m := 1) (El58) H52 rfl rfl (src_of Try.underlying58 (H52.rds (i := 1) rfl) (flat_one eI_one ([x38.xid]))) rfl (by omega) (s := List.length (l24 ++ [x38.xid])) (by first | omega | (simp only [List.length_append, List.length_cons, List.length_nil] <;> omega)) (List.flatMap_append).symm ?_)
 intro A53 c54 w55 H56
 have hl57 : List.length (l24 ++ [x38.xid]) = l24.length + 1 := by simp only [List.length_append, List.length_cons, List.length_nil]
 refine Az rfl (WL.nil (bN (Fin.then ?_)))
 have H58 := H56.pk [0, 3, 4]
 refine Wp.region (fw (.int .i64 ((k25 + 1 : Nat) : Int)) (Yl.int (e := IntKind.i64.wrap (((k25 : Nat) : Int) + 1)) yk (by rw [IntWalk.i64_in _ (by omega)]; omega)) (Mz rfl (WL.nil ?_)))
 have H59 := H58.pk [1, 2, 0]
 exact Fin.round (A53, c54, (l24 ++ [x38.xid]), k25 + 1) ⟨rfl, rfl, rfl, rfl, rfl, trivial⟩ (dm33.2 ⟨H59, by omega, by omega, et (hq34) (et (congrArg (fun q => cache_Cache_Dirty_L0 q l24) hd42) (ip h48))⟩) (by show p0.xplaces.ls.length - (k25 + 1) < p0.xplaces.ls.length - k25; omega)
 refine jF h48 (Wp.skip (bN (Fin.then ?_)))
 have H60 := H47.pk [1, 2, 3]
 refine Wp.region (fw (.int .i64 ((k25 + 1 : Nat) : Int)) (Yl.int (e := IntKind.i64.wrap (((k25 : Nat) : Int) + 1)) yk (by rw [IntWalk.i64_in _ (by omega)]; omega)) (Mz rfl (WL.nil ?_)))
 have H61 := H60.pk [0, 1, 2]
 exact Fin.round (A22, c23, l24, k25 + 1) ⟨rfl, rfl, rfl, rfl, rfl, trivial⟩ (dm33.2 ⟨H61, by omega, by omega, et (hq34) (et (congrArg (fun q => cache_Cache_Dirty_L0 q l24) hd42) (ifF h48))⟩) (by show p0.xplaces.ls.length - (k25 + 1) < p0.xplaces.ls.length - k25; omega)
 refine jF (dF h37) (Wp.exit (Fin.thenX ?_))
 have hL62 : cache_Cache_Dirty_L0 p0.xplaces.ls ([]) = l24 := et (hq34) (et (congrArg (fun q => cache_Cache_Dirty_L0 q l24) (drop_end (ls := p0.xplaces.ls) (i := k25) (by omega))) rfl)
 refine Fin.thenX (Fin.blockX (Fin.then (sr (Mz rfl ?_))))
 have H63 := H29.pk [2, 0, 1]
 obtain ⟨D64, HP65, ro66, bk67, rr68⟩ := Own.enter (L1 := [row A22 l24.length c23 (List.flatMap (eI .i64) l24) 3 1]) (L2 := [blk g0 [.iface 24 (.pointer (some ⟨g0l0, 0, none⟩)), .slice A0x0 p0.xplaces.ls.length c0x0, .int .i64 p0.xhand] 67, BackO g0l0 p0l0]) H63
 refine cl Try.call31 (sort_ints _ _ A22 l24.length c23 l24 HP65 (by omega) (by omega)) ?_
 rintro _ w69 ⟨rfl, HQ70⟩
 have H71 := bk67 _ _ HQ70
 have hl72 : List.length (srtI l24) = l24.length := srtI_len _
 refine ns (Mz rfl (An rfl (rt (rs ?_))))
 have hn73 : l24.length = List.length (srtI l24) := by first | omega | (simp only [List.length_set]; done) | (simp only [List.length_set, List.length_append, List.length_cons, List.length_nil, List.length_take, List.length_drop, List.length_replicate]; omega)
 have H74 : Own w D w69 [row A22 (List.length (srtI l24)) c23 (List.flatMap (eI .i64) (srtI l24)) 3 1, blk g0 [.iface 24 (.pointer (some ⟨g0l0, 0, none⟩)), .slice A0x0 p0.xplaces.ls.length c0x0, .int .i64 p0.xhand] 67, BackO g0l0 p0l0] := by rw [← hn73]; exact H71
 have H75 := H74.pk [0, 1, 2]
 obtain rfl : _ = (srtI l24) := hr.symm.trans (bnd_of hL62)
 exact ⟨A22, c23, (by first | rfl | (rw [← hn73]; done) | (rw [← hn73]; rfl)), H75, (by first | omega | (dsimp only; omega))⟩

structure CacheDT where
 xP : Ll PlaceD
 xHand : Int

instance : Inhabited CacheDT := ⟨⟨default, default⟩⟩

def r10_Cache_find_L0 (p1 : Int) : List PlaceD → Nat → Unit ⊕ Int
  | [], k21 => Sum.inl ()
  | x33 :: q22, k21 => if x33.xFull = true then if x33.xId = p1 then Sum.inr ((k21 : Nat) : Int) else r10_Cache_find_L0 p1 q22 (k21 + 1) else r10_Cache_find_L0 p1 q22 (k21 + 1)

def r10_Cache_find (p0 : CacheDT) (p1 : Int) (p0l0 : BackT) : Int :=
 lp (r10_Cache_find_L0 p1 p0.xP.ls 0) fun _ => (-1)

set_option maxRecDepth 100000 in
theorem r10_Cache_find_ok (w : World) (D : Nat → Prop) (g0 : Nat) (p0 : CacheDT) (A0x0 : Option Addr) (c0x0 : Nat) (p1 : Int) (g0l0 : Nat) (p0l0 : BackT) (r0 : Int) (H : Own w D w [blk g0 [.slice A0x0 p0.xP.ls.length c0x0, .int .i64 p0.xHand, .pointer (some ⟨g0l0, 0, none⟩)] 51, BackO g0l0 p0l0]) (hx0x0 : Ro w D fun w' => Rds w' 7 A0x0 p0.xP.ls.length (List.flatMap PlaceD.cells p0.xP.ls)) (hb0x0 : p0.xP.ls.length ≤ c0x0 ∧ p0.xP.ls.length ≤ 9223372036854775807) (hh0 : 1 ≤ p0.xP.ls.length ∧ p0.xP.ls.length ≤ 64) (hr : r10_Cache_find p0 p1 p0l0 = r0) :
    Calls Try.prog 24 #[.pointer (some ⟨g0, 0, none⟩), .int .i64 p1] w (Ret fun v w' => v = .int .i64 r0 ∧ Own w D w' [blk g0 [.slice A0x0 p0.xP.ls.length c0x0, .int .i64 p0.xHand, .pointer (some ⟨g0l0, 0, none⟩)] 51, BackO g0l0 p0l0] ∧ (-1 ≤ r0 ∧ r0 < ((p0.xP.ls.length : Nat) : Int))) := by
 refine Calls.body (args := [.pointer (some ⟨g0, 0, none⟩), .int .i64 p1]) Try.func24 rfl rfl rfl ?_
 show Wp _ _ _ [(0, .pointer (some ⟨g0, 0, none⟩)), (1, .int .i64 p1)] _ _
 refine sr (An rfl (Wp.seq (sr (Mz rfl (Kz (.pointer (some ⟨g0, 0, none⟩)) (Kz (.pointer (some ⟨g0, 0, none⟩)) (Lz (.slice A0x0 p0.xP.ls.length c0x0) H 0 Try.isAgg49 (Kz (.int .i64 ((p0.xP.ls.length : Nat) : Int)) (Mn rfl (bo ?_))))))))))
 have H23 : Own w D w [blk g0 [.slice A0x0 p0.xP.ls.length c0x0, .int .i64 p0.xHand, .pointer (some ⟨g0l0, 0, none⟩)] 51, BackO g0l0 p0l0] := H.pk [0, 1]
 obtain ⟨I27, hI28⟩ : ∃ q : Nat → World → Prop, q = fun (i : Nat) w' => Own w D w' [blk g0 [.slice A0x0 p0.xP.ls.length c0x0, .int .i64 p0.xHand, .pointer (some ⟨g0l0, 0, none⟩)] 51, BackO g0l0 p0l0] ∧ (i ≤ p0.xP.ls.length ∧ r10_Cache_find_L0 p1 p0.xP.ls 0 = r10_Cache_find_L0 p1 (List.drop i p0.xP.ls) i) := ⟨_, rfl⟩
 have dm29 : ∀ {k21 : Nat} {w' : World}, I27 k21 w' ↔ Own w D w' [blk g0 [.slice A0x0 p0.xP.ls.length c0x0, .int .i64 p0.xHand, .pointer (some ⟨g0l0, 0, none⟩)] 51, BackO g0l0 p0l0] ∧ k21 ≤ p0.xP.ls.length ∧ r10_Cache_find_L0 p1 p0.xP.ls 0 = r10_Cache_find_L0 p1 (List.drop k21 p0.xP.ls) k21 := by intros; subst hI28; exact Iff.rfl
 refine Wp.loop (fun i : Nat => [(4, .int .i64 0), (12, .int .i64 ((i : Nat) : Int)), (11, .int .i64 ((p0.xP.ls.length : Nat) : Int)), (10, .slice A0x0 p0.xP.ls.length c0x0), (1, .int .i64 p1)]) I27 (fun i => p0.xP.ls.length - i) 0 ⟨rfl, rfl, rfl, rfl, rfl, trivial⟩ (dm29.2 ⟨H23, by omega, rfl⟩) ?_
 rintro k21 w24 hf26
 show Wp _ _ _ [(4, .int .i64 0), (12, .int .i64 ((k21 : Nat) : Int)), (11, .int .i64 ((p0.xP.ls.length : Nat) : Int)), (10, .slice A0x0 p0.xP.ls.length c0x0), (1, .int .i64 p1)] _ _
 obtain ⟨H25, hi31, hq30⟩ := dm29.1 hf26
 refine sr (Kz (.bool (decide (((k21 : Nat) : Int) < ((p0.xP.ls.length : Nat) : Int)))) (nt (Wp.seq ?_)))
 by_cases h32 : ((k21 : Nat) : Int) < ((p0.xP.ls.length : Nat) : Int)
 obtain ⟨x33, hx34⟩ := rds_at (ls := p0.xP.ls) (i := k21) PlaceD.len (by decide) (H25.ro hx0x0) (by first | omega | (simp; done) | (simp; omega))
 have hd35 := drop_at hx34
 refine jT (dT h32) (sk (Wp.seq (bo (sr (Mz rfl (fw (.pointer (some ⟨ab A0x0, ao A0x0 + k21 * 7, none⟩)) (Yl.indexAddr (El49) rfl rfl ((H25.ro hx0x0).addr (i := k21) (by omega)) (by omega)) (fw (.agg (PlaceD.cells x33).toArray) (Yl.load rfl (Lds.agg (cs := (PlaceD.cells x33)) Try.isAgg78 Try.sizeOf78 ((H25.ro hx0x0).elem PlaceD.len hx34 (by decide)))) ?_)))))))
 refine npw [.bool false, .int .i64 0, .int .i64 0, .string ⟨List.toArray ([])⟩, .bool false, .bool false, .int .u64 0] 78 H25 ?_
 intro g36 w37 H38
 refine Az rfl ?_
 refine sto (PlaceD.cells x33) 0 H38 Try.sizeOf78 ?_
 intro w39 H40
 refine ns (Kz (.pointer (some ⟨g36, 0, none⟩)) (Lz (.bool x33.xFull) H40 0 Try.isAgg4 (Mz rfl ?_)))
 rcases Bool.eq_false_or_eq_true (x33.xFull) with h41 | h41
 refine Gz (.pointer (some ⟨g36, 1, none⟩)) h41 (Gl (.int .i64 x33.xId) h41 H40 0 Try.isAgg3 (WL.valG (v := .int .i64 p1) rfl rfl h41 rfl (Yl.move rfl) (Gz (.bool (decide (x33.xId = p1))) h41 (fw (.bool (decide (x33.xId = p1))) (Yl.pickT rfl h41 rfl) (nt ?_)))))
 by_cases h42 : x33.xId = p1
 refine jT (dT h42) (Wp.seq ?_)
 have H43 := H40.pk [1, 2]
 refine Wp.region (Mz rfl (An rfl (rt (bR (tR (tR (bR (tR (rs ?_)))))))))
 have H44 := H43.pk [0, 1]
 obtain rfl : _ = ((k21 : Nat) : Int) := hr.symm.trans (lp_r (et (hq30) (et (congrArg (fun q => r10_Cache_find_L0 p1 q k21) hd35) (et (ip h41) (ip h42)))))
 exact ⟨rfl, H44, (by first | omega | (dsimp only; omega))⟩
 refine jF (dF h42) (Wp.skip (bN (Fin.then ?_)))
 have H45 := H40.pk [1, 2]
 refine Wp.region (fw (.int .i64 ((k21 + 1 : Nat) : Int)) (Yl.int (e := IntKind.i64.wrap (((k21 : Nat) : Int) + 1)) yk (by rw [IntWalk.i64_in _ (by omega)]; omega)) (Mz rfl (WL.nil ?_)))
 have H46 := H45.pk [0, 1]
 exact Fin.round (k21 + 1) ⟨rfl, rfl, rfl, rfl, rfl, trivial⟩ (dm29.2 ⟨H46, by omega, et (hq30) (et (congrArg (fun q => r10_Cache_find_L0 p1 q k21) hd35) (et (ip h41) (iN h42)))⟩) (by show p0.xP.ls.length - (k21 + 1) < p0.xP.ls.length - k21; omega)
 refine Sz h41 (Sz h41 (Sz h41 (Sz h41 (fw (.bool false) (Yl.pickF rfl h41 rfl) (nt (jf (Wp.skip (bN (Fin.then ?_)))))))))
 have H47 := H40.pk [1, 2]
 refine Wp.region (fw (.int .i64 ((k21 + 1 : Nat) : Int)) (Yl.int (e := IntKind.i64.wrap (((k21 : Nat) : Int) + 1)) yk (by rw [IntWalk.i64_in _ (by omega)]; omega)) (Mz rfl (WL.nil ?_)))
 have H48 := H47.pk [0, 1]
 exact Fin.round (k21 + 1) ⟨rfl, rfl, rfl, rfl, rfl, trivial⟩ (dm29.2 ⟨H48, by omega, et (hq30) (et (congrArg (fun q => r10_Cache_find_L0 p1 q k21) hd35) (ifF h41))⟩) (by show p0.xP.ls.length - (k21 + 1) < p0.xP.ls.length - k21; omega)
 refine jF (dF h32) (Wp.exit (Fin.thenX ?_))
 have hL49 : r10_Cache_find_L0 p1 p0.xP.ls 0 = Sum.inl () := et (hq30) (et (congrArg (fun q => r10_Cache_find_L0 p1 q k21) (drop_end (ls := p0.xP.ls) (i := k21) (by omega))) rfl)
 refine Fin.thenX (Fin.blockX (Fin.then (sr (An rfl (rt (rs ?_))))))
 have H50 := H25.pk [0, 1]
 obtain rfl : _ = (-1) := hr.symm.trans (lp_l hL49)
 exact ⟨rfl, H50, (by first | omega | (dsimp only; omega))⟩

def r10_Cache_back (p0 : CacheDT) (p1 : Int) (p0l0 : BackT) : Int × CacheDT × BackT :=
 bnd (List.getD p0.xP.ls (Int.toNat p1) default) fun yx21 => if yx21.xFull = true then if yx21.xDirty = true then bnd (r10_Back_Safe p0l0) fun yr35 => if ((yr35 : Nat) : Int) < ((yx21.xLsn : Nat) : Int) then bnd (r10_Back_Force p0l0 yx21.xLsn) fun yr50 => if yr50.1 = 0 then bnd (r10_Back_Save yr50.2 yx21.xId yx21.xBytes) fun yr72 => if yr72.1 = 0 then (0, CacheDT.mk (Ll.mk (List.set p0.xP.ls (Int.toNat p1) (⟨yx21.xFull, yx21.xId, yx21.xPins, yx21.xBytes, yx21.xTouched, false, yx21.xLsn⟩))) p0.xHand, yr72.2) else (yr72.1, p0, yr72.2) else (yr50.1, p0, yr50.2) else bnd (r10_Back_Save p0l0 yx21.xId yx21.xBytes) fun yr103 => if yr103.1 = 0 then (0, CacheDT.mk (Ll.mk (List.set p0.xP.ls (Int.toNat p1) (⟨yx21.xFull, yx21.xId, yx21.xPins, yx21.xBytes, yx21.xTouched, false, yx21.xLsn⟩))) p0.xHand, yr103.2) else (yr103.1, p0, yr103.2) else (0, p0, p0l0) else (0, p0, p0l0)

set_option maxRecDepth 100000 in
theorem r10_Cache_back_ok (w : World) (D : Nat → Prop) (g0 : Nat) (p0 : CacheDT) (A0x0 : Option Addr) (c0x0 : Nat) (p1 : Int) (g0l0 : Nat) (p0l0 : BackT) (r0 : Int) (r1 : CacheDT) (r2 : BackT) (H : Own w D w [blk g0 [.slice A0x0 p0.xP.ls.length c0x0, .int .i64 p0.xHand, .pointer (some ⟨g0l0, 0, none⟩)] 51, row A0x0 p0.xP.ls.length c0x0 (List.flatMap PlaceD.cells p0.xP.ls) 78 7, BackO g0l0 p0l0]) (hh0 : 1 ≤ p0.xP.ls.length ∧ p0.xP.ls.length ≤ 64) (hh1 : 0 ≤ p0.xHand ∧ p0.xHand < ((p0.xP.ls.length : Nat) : Int)) (hh2 : RsOk p0.xP.ls) (hh3 : p0l0.xCalls.length ≤ 150000) (hh4 : 0 ≤ p1 ∧ p1 < ((p0.xP.ls.length : Nat) : Int)) (hr : r10_Cache_back p0 p1 p0l0 = (r0, r1, r2)) :
    Calls Try.prog 29 #[.pointer (some ⟨g0, 0, none⟩), .int .i64 p1] w (Ret fun v w' => ∃ (B1ox0 : Option Addr) (b1ox0 : Nat), v = .int .i64 r0 ∧ Own w D w' [blk g0 [.slice B1ox0 r1.xP.ls.length b1ox0, .int .i64 r1.xHand, .pointer (some ⟨g0l0, 0, none⟩)] 51, row B1ox0 r1.xP.ls.length b1ox0 (List.flatMap PlaceD.cells r1.xP.ls) 78 7, BackO g0l0 r2] ∧ (r1.xP.ls.length = p0.xP.ls.length) ∧ (RsOk r1.xP.ls) ∧ (0 ≤ r1.xHand ∧ r1.xHand < ((r1.xP.ls.length : Nat) : Int)) ∧ (r2.xCalls.length ≤ p0l0.xCalls.length + 2) ∧ (r1.xHand = p0.xHand)) := by
 have hc0x0 := H.rowC (i := 1) rfl
 refine Calls.body (args := [.pointer (some ⟨g0, 0, none⟩), .int .i64 p1]) Try.func29 rfl rfl rfl ?_
 show Wp _ _ _ [(0, .pointer (some ⟨g0, 0, none⟩)), (1, .int .i64 p1)] _ _
 refine sr (Ar rfl (Mz rfl (Kz (.pointer (some ⟨g0, 0, none⟩)) (Kz (.pointer (some ⟨g0, 0, none⟩)) (Lz (.slice A0x0 p0.xP.ls.length c0x0) H 0 Try.isAgg49 (fw (.int .i64 ((Int.toNat p1 : Nat) : Int)) (Yl.int (e := p1) (Yl.move rfl) (by omega)) ?_))))))
 obtain ⟨x21, hx22⟩ := rds_at (ls := p0.xP.ls) (i := Int.toNat p1) PlaceD.len (by decide) (H.rds (i := 1) rfl) (by first | omega | (simp; done) | (simp; omega))
 have hb24 : RsOk p0.xP.ls := by first | assumption | exact rs_rep (Nat.zero_le _) | exact rs_set (by assumption) (Nat.zero_le _) | exact rs_set (by assumption) (by omega) | exact rs_set (by assumption) (by dsimp only; omega)
 have hz23 : x21.xBytes.length ≤ 140737488351232 := rs_at hb24 hx22
 refine fw (.pointer (some ⟨ab A0x0, ao A0x0 + (Int.toNat p1) * 7, none⟩)) (Yl.indexAddr (El49) rfl rfl ((H.rds (i := 1) rfl).addr (i := Int.toNat p1) (by omega)) (by omega)) (An rfl (Wp.seq (sr (Mz rfl (Kz (.pointer (some ⟨ab A0x0, ao A0x0 + (Int.toNat p1) * 7, none⟩)) (Kz (.pointer (some ⟨ab A0x0, ao A0x0 + (Int.toNat p1) * 7, none⟩)) (fw (.bool x21.xFull) (Yl.load rfl (Lds.one Try.isAgg4 (((H.rds (i := 1) rfl).elem PlaceD.len hx22 (by decide)).at_ (k := 0) rfl))) (Kz (.bool (!x21.xFull)) (Mz rfl ?_)))))))))
 rcases Bool.eq_false_or_eq_true (x21.xFull) with h25 | h25
 refine gw (.pointer (some ⟨ab A0x0, ao A0x0 + (Int.toNat p1) * 7, none⟩)) (cn h25) (Yl.move rfl) (Gz (.pointer (some ⟨ab A0x0, ao A0x0 + (Int.toNat p1) * 7, none⟩)) (cn h25) (Gz (.pointer (some ⟨ab A0x0, ao A0x0 + (Int.toNat p1) * 7 + 5, none⟩)) (cn h25) (gw (.bool x21.xDirty) (cn h25) (Yl.load rfl (Lds.one Try.isAgg4 (((H.rds (i := 1) rfl).elem PlaceD.len hx22 (by decide)).at_ (k := 5) rfl))) (Gz (.bool (!x21.xDirty)) (cn h25) (fw (.bool (!x21.xDirty)) (Yl.pickF rfl (cn h25) rfl) (nt ?_))))))
 rcases Bool.eq_false_or_eq_true (x21.xDirty) with h26 | h26
 refine jF (cn h26) (sk (Wp.seq (Wp.seq ?_)))
 have H28 := H.drew
 refine Wp.drawnX [] (fun W => ∃ L', Own w D W ([blk g0 [.slice A0x0 p0.xP.ls.length c0x0, .int .i64 p0.xHand, .pointer (some ⟨g0l0, 0, none⟩)] 51, row A0x0 p0.xP.ls.length c0x0 (List.flatMap PlaceD.cells p0.xP.ls) 78 7, BackO g0l0 p0l0] ++ L')) (by kernel_rfl) (by kernel_rfl) (NoP.then (NoP.then NoP.base)) ⟨_, H28⟩ ?_
 revert H28
 generalize World.drew w = w27
 intro H28
 refine GX.take (v := .pointer (some ⟨g0, 0, none⟩)) (rs := []) 0 rfl (by kernel_rfl) (fun _ _ => Yl.move rfl) (GX.take (v := .pointer (some ⟨g0, 0, none⟩)) (rs := []) 1 rfl (by kernel_rfl) (fun _ _ => yk) (GX.take (v := .pointer (some ⟨g0, 2, none⟩)) (rs := []) 2 rfl (by kernel_rfl) (fun _ _ => yk) (GX.take (v := .pointer (some ⟨g0l0, 0, none⟩)) (rs := []) 3 rfl (by kernel_rfl) (fun _ ⟨_, H9⟩ => Yl.load rfl (Lds.one Try.isAgg24 (Cls.of (H9.cls (i := 0) rfl) rfl))) (GX.take (v := .pointer (some ⟨ab A0x0, ao A0x0 + (Int.toNat p1) * 7, none⟩)) (rs := []) 5 rfl (by kernel_rfl) (fun _ _ => Yl.move rfl) (GX.take (v := .pointer (some ⟨ab A0x0, ao A0x0 + (Int.toNat p1) * 7, none⟩)) (rs := []) 6 rfl (by kernel_rfl) (fun _ _ => yk) (GX.take (v := .pointer (some ⟨ab A0x0, ao A0x0 + (Int.toNat p1) * 7 + 6, none⟩)) (rs := []) 7 rfl (by kernel_rfl) (fun _ _ => yk) (GX.take (v := .int .u64 ((x21.xLsn : Nat) : Int)) (rs := []) 8 rfl (by kernel_rfl) (fun _ ⟨_, H9⟩ => Yl.load rfl (Lds.one Try.isAgg33 (((H9.rds (i := 1) rfl).elem PlaceD.len hx22 (by decide)).at_ (k := 6) rfl))) ?_)))))))
 have H29 := H28.pk [2, 0, 1]
 obtain ⟨r35, hr36⟩ : ∃ q, r10_Back_Safe p0l0 = q := ⟨_, rfl⟩
 obtain ⟨D30, HP31, ro32, bk33, rr34⟩ := Own.enter1 H29
 refine GX.do 4 rfl (by kernel_rfl) (Do.call Try.call34 rfl (r10_Back_Safe_ok _ _ g0l0 p0l0 r35 HP31 hr36) ?_)
 rintro _ w37 ⟨rfl, HQ38⟩
 have H39 := bk33 _ _ HQ38
 have H40 := H39.pk [1, 2, 0]
 refine ⟨.inr ⟨_, H40⟩, ?_⟩
 refine GX.take (v := .bool (decide (((r35 : Nat) : Int) < ((x21.xLsn : Nat) : Int)))) (rs := []) 9 rfl (by kernel_rfl) (fun _ _ => yk) (GX.done (by kernel_rfl) (Fin.then ?_))
 by_cases h41 : ((r35 : Nat) : Int) < ((x21.xLsn : Nat) : Int)
 refine jT (dT h41) (Wp.seq ?_)
 have H43 := H40.drew
 refine Wp.drawnX [] (fun W => ∃ L', Own w D W ([blk g0 [.slice A0x0 p0.xP.ls.length c0x0, .int .i64 p0.xHand, .pointer (some ⟨g0l0, 0, none⟩)] 51, row A0x0 p0.xP.ls.length c0x0 (List.flatMap PlaceD.cells p0.xP.ls) 78 7] ++ L')) (by kernel_rfl) (by kernel_rfl) (NoP.then (NoP.then NoP.base)) ⟨_, H43⟩ ?_
 revert H43
 generalize World.drew w37 = w42
 intro H43
 refine GX.take (v := .pointer (some ⟨g0, 0, none⟩)) (rs := []) 0 rfl (by kernel_rfl) (fun _ _ => Yl.move rfl) (GX.take (v := .pointer (some ⟨g0, 0, none⟩)) (rs := []) 1 rfl (by kernel_rfl) (fun _ _ => yk) (GX.take (v := .pointer (some ⟨g0, 2, none⟩)) (rs := []) 2 rfl (by kernel_rfl) (fun _ _ => yk) (GX.take (v := .pointer (some ⟨g0l0, 0, none⟩)) (rs := []) 3 rfl (by kernel_rfl) (fun _ ⟨_, H9⟩ => Yl.load rfl (Lds.one Try.isAgg24 (Cls.of (H9.cls (i := 0) rfl) rfl))) (GX.take (v := .pointer (some ⟨ab A0x0, ao A0x0 + (Int.toNat p1) * 7, none⟩)) (rs := []) 4 rfl (by kernel_rfl) (fun _ _ => Yl.move rfl) (GX.take (v := .pointer (some ⟨ab A0x0, ao A0x0 + (Int.toNat p1) * 7, none⟩)) (rs := []) 5 rfl (by kernel_rfl) (fun _ _ => yk) (GX.take (v := .pointer (some ⟨ab A0x0, ao A0x0 + (Int.toNat p1) * 7 + 6, none⟩)) (rs := []) 6 rfl (by kernel_rfl) (fun _ _ => yk) (GX.take (v := .int .u64 ((x21.xLsn : Nat) : Int)) (rs := []) 7 rfl (by kernel_rfl) (fun _ ⟨_, H9⟩ => Yl.load rfl (Lds.one Try.isAgg33 (((H9.rds (i := 1) rfl).elem PlaceD.len hx22 (by decide)).at_ (k := 6) rfl))) ?_)))))))
 have H44 := H43.pk [2, 0, 1]
 obtain ⟨⟨r50, r51⟩, hr52⟩ : ∃ q : Int × BackT, r10_Back_Force p0l0 x21.xLsn = q := ⟨_, rfl⟩
 obtain ⟨D45, HP46, ro47, bk48, rr49⟩ := Own.enter1 H44
 refine GX.do 8 rfl (by kernel_rfl) (Do.call Try.call35 rfl (r10_Back_Force_ok _ _ g0l0 p0l0 x21.xLsn r50 r51 HP46 (by first | omega | (dsimp only; omega)) hr52) ?_)
 rintro _ w53 ⟨rfl, HQ54, hk56⟩
 have H55 := bk48 _ _ HQ54
 replace hk56 : r51.xCalls.length = p0l0.xCalls.length + 1 := hk56
 have H57 := H55.pk [1, 2, 0]
 refine ⟨.inr ⟨_, H57⟩, ?_⟩
 refine GX.take (v := .int .i64 r50) (rs := []) 9 rfl (by kernel_rfl) (fun _ _ => Yl.assign rfl) (GX.done (by kernel_rfl) (Fin.then (sr (Mz rfl (fw (.bool (decide (¬ (r50 = 0)))) (Yl.bool (e := !(decide (r50 = 0))) yk decide_not.symm) (nt ?_))))))
 by_cases h58 : r50 = 0
 refine jF (dF (not_not_intro h58)) (sk (Wp.seq (Wp.seq ?_)))
 have H60 := H57.drew
 refine Wp.drawnX [] (fun W => ∃ L', Own w D W ([blk g0 [.slice A0x0 p0.xP.ls.length c0x0, .int .i64 p0.xHand, .pointer (some ⟨g0l0, 0, none⟩)] 51, row A0x0 p0.xP.ls.length c0x0 (List.flatMap PlaceD.cells p0.xP.ls) 78 7] ++ L')) (by kernel_rfl) (by kernel_rfl) (NoP.then (NoP.then NoP.base)) ⟨_, H60⟩ ?_
 revert H60
 generalize World.drew w53 = w59
 intro H60
 refine GX.take (v := .pointer (some ⟨g0, 0, none⟩)) (rs := []) 0 rfl (by kernel_rfl) (fun _ _ => Yl.move rfl) (GX.take (v := .pointer (some ⟨g0, 0, none⟩)) (rs := []) 1 rfl (by kernel_rfl) (fun _ _ => yk) (GX.take (v := .pointer (some ⟨g0, 2, none⟩)) (rs := []) 2 rfl (by kernel_rfl) (fun _ _ => yk) (GX.take (v := .pointer (some ⟨g0l0, 0, none⟩)) (rs := []) 3 rfl (by kernel_rfl) (fun _ ⟨_, H9⟩ => Yl.load rfl (Lds.one Try.isAgg24 (Cls.of (H9.cls (i := 0) rfl) rfl))) (GX.take (v := .pointer (some ⟨ab A0x0, ao A0x0 + (Int.toNat p1) * 7, none⟩)) (rs := []) 4 rfl (by kernel_rfl) (fun _ _ => Yl.move rfl) (GX.take (v := .pointer (some ⟨ab A0x0, ao A0x0 + (Int.toNat p1) * 7, none⟩)) (rs := []) 5 rfl (by kernel_rfl) (fun _ _ => yk) (GX.take (v := .pointer (some ⟨ab A0x0, ao A0x0 + (Int.toNat p1) * 7 + 1, none⟩)) (rs := []) 6 rfl (by kernel_rfl) (fun _ _ => yk) (GX.take (v := .int .i64 x21.xId) (rs := []) 7 rfl (by kernel_rfl) (fun _ ⟨_, H9⟩ => Yl.load rfl (Lds.one Try.isAgg3 (((H9.rds (i := 1) rfl).elem PlaceD.len hx22 (by decide)).at_ (k := 1) rfl))) (GX.take (v := .pointer (some ⟨ab A0x0, ao A0x0 + (Int.toNat p1) * 7, none⟩)) (rs := []) 8 rfl (by kernel_rfl) (fun _ _ => Yl.move rfl) (GX.take (v := .pointer (some ⟨ab A0x0, ao A0x0 + (Int.toNat p1) * 7, none⟩)) (rs := []) 9 rfl (by kernel_rfl) (fun _ _ => yk) (GX.take (v := .pointer (some ⟨ab A0x0, ao A0x0 + (Int.toNat p1) * 7 + 3, none⟩)) (rs := []) 10 rfl (by kernel_rfl) (fun _ _ => yk) (GX.take (v := .string ⟨List.toArray x21.xBytes⟩) (rs := []) 11 rfl (by kernel_rfl) (fun _ ⟨_, H9⟩ => Yl.load rfl (Lds.one Try.isAgg9 (((H9.rds (i := 1) rfl).elem PlaceD.len hx22 (by decide)).at_ (k := 3) rfl))) ?_)))))))))))
 refine GX.do 12 rfl (by kernel_rfl) (Do.toBytesE (l := x21.xBytes) Try.underlying9 Try.underlying36 Try.underlying5 H60 rfl (by unfold maxLen; omega) ?_)
 intro A61 c62 w63 H64
 have H65 := H64.pk [1, 2, 0, 3]
 refine ⟨.inr ⟨_, H65⟩, ?_⟩
 have H66 := H65.pk [3, 0, 1, 2]
 obtain ⟨⟨r72, r73⟩, hr74⟩ : ∃ q : Int × BackT, r10_Back_Save r51 x21.xId x21.xBytes = q := ⟨_, rfl⟩
 obtain ⟨D67, HP68, ro69, bk70, rr71⟩ := Own.enter1 H66
 refine GX.do 13 rfl (by kernel_rfl) (Do.call Try.call36 rfl (r10_Back_Save_ok _ _ g0l0 r51 x21.xId A61 x21.xBytes.length c62 x21.xBytes r72 r73 HP68 (rr71 _ 2 _ rfl row_rds) rfl (by omega) (by first | omega | (dsimp only; omega)) (by first | omega | assumption) hr74) ?_)
 rintro _ w75 ⟨rfl, HQ76, hk78⟩
 have H77 := bk70 _ _ HQ76
 replace hk78 : r73.xCalls.length = r51.xCalls.length + 1 := hk78
 have H79 := H77.pk [1, 2, 0, 3]
 refine ⟨.inr ⟨_, H79⟩, ?_⟩
 refine GX.take (v := .int .i64 r72) (rs := []) 14 rfl (by kernel_rfl) (fun _ _ => Yl.assign rfl) (GX.done (by kernel_rfl) (Fin.then (Wp.seq ?_)))
 have H80 := H79.pk [0, 1, 2]
 refine Wp.region (Mz rfl (fw (.bool (decide (¬ (r72 = 0)))) (Yl.bool (e := !(decide (r72 = 0))) yk decide_not.symm) (nt ?_)))
 by_cases h81 : r72 = 0
 refine jF (dF (not_not_intro h81)) (sk (sr (Mz rfl (Kz (.pointer (some ⟨ab A0x0, ao A0x0 + (Int.toNat p1) * 7, none⟩)) (Kz (.pointer (some ⟨ab A0x0, ao A0x0 + (Int.toNat p1) * 7 + 5, none⟩)) ?_)))))
 have H82 := H80.pk [1, 0, 2]
 refine WL.do0 (Do.storeRow (vs := [.bool false]) (o := (Int.toNat p1) * 7 + 5) (q := ao A0x0 + (Int.toNat p1) * 7 + 5) H82 rfl (by omega) rfl Try.sizeOf4 rfl rfl (Nat.le_of_ble_eq_true rfl) (store_fits PlaceD.len hx22 (Nat.le_of_ble_eq_true rfl)) (flat_set (y := ⟨x21.xFull, x21.xId, x21.xPins, x21.xBytes, x21.xTouched, false, x21.xLsn⟩) PlaceD.len rfl (Nat.le_of_ble_eq_true rfl) hx22) ?_)
 intro w83 H84
 refine ns (An rfl (rt (rs ?_)))
 have hn85 : p0.xP.ls.length = List.length (List.set p0.xP.ls (Int.toNat p1) (⟨x21.xFull, x21.xId, x21.xPins, x21.xBytes, x21.xTouched, false, x21.xLsn⟩)) := by first | omega | (simp only [List.length_set]; done) | (simp only [List.length_set, List.length_append, List.length_cons, List.length_nil, List.length_take, List.length_drop, List.length_replicate]; omega)
 have H86 : Own w D w83 [row A0x0 (List.length (List.set p0.xP.ls (Int.toNat p1) (⟨x21.xFull, x21.xId, x21.xPins, x21.xBytes, x21.xTouched, false, x21.xLsn⟩))) c0x0 (List.flatMap PlaceD.cells (List.set p0.xP.ls (Int.toNat p1) (⟨x21.xFull, x21.xId, x21.xPins, x21.xBytes, x21.xTouched, false, x21.xLsn⟩))) 78 7, blk g0 [.slice A0x0 (List.length (List.set p0.xP.ls (Int.toNat p1) (⟨x21.xFull, x21.xId, x21.xPins, x21.xBytes, x21.xTouched, false, x21.xLsn⟩))) c0x0, .int .i64 p0.xHand, .pointer (some ⟨g0l0, 0, none⟩)] 51, BackO g0l0 r73] := by rw [← hn85]; exact H84
 have H87 := H86.pk [1, 0, 2]
 have e : r10_Cache_back p0 p1 p0l0 = (0, CacheDT.mk (Ll.mk (List.set p0.xP.ls (Int.toNat p1) (⟨x21.xFull, x21.xId, x21.xPins, x21.xBytes, x21.xTouched, false, x21.xLsn⟩))) p0.xHand, r73) := et (bnd_of (getD_of hx22)) (et (ip h25) (et (ip h26) (et (bnd_of hr36) (et (ip h41) (et (bnd_of hr52) (et (ip h58) (et (bnd_of hr74) (ip h81))))))))
 obtain ⟨rfl, rfl, rfl⟩ := pj3 (e.symm.trans hr)
 exact ⟨A0x0, c0x0, (by first | rfl | (rw [← hn85]; done) | (rw [← hn85]; rfl)), H87, (by first | rfl | omega | (simp only [List.length_set] <;> omega)), (by first | assumption | exact rs_rep (Nat.zero_le _) | exact rs_set (by assumption) (Nat.zero_le _) | exact rs_set (by assumption) (by omega) | exact rs_set (by assumption) (by dsimp only; omega)), (by first | omega | (dsimp only; omega) | (dsimp only; simp only [List.length_set] <;> omega)), (by first | omega | (dsimp only; omega)), (by first | rfl | omega)⟩
 refine jT (dT h81) (sr (Mz rfl (An rfl (rt (tR (rs ?_))))))
 have H88 := H80.pk [0, 1, 2]
 have e : r10_Cache_back p0 p1 p0l0 = (r72, p0, r73) := et (bnd_of (getD_of hx22)) (et (ip h25) (et (ip h26) (et (bnd_of hr36) (et (ip h41) (et (bnd_of hr52) (et (ip h58) (et (bnd_of hr74) (iN h81))))))))
 obtain ⟨rfl, rfl, rfl⟩ := pj3 (e.symm.trans hr)
 exact ⟨A0x0, c0x0, rfl, H88, (by first | rfl | omega | (simp only [List.length_set] <;> omega)), (by first | assumption | exact rs_rep (Nat.zero_le _) | exact rs_set (by assumption) (Nat.zero_le _) | exact rs_set (by assumption) (by omega) | exact rs_set (by assumption) (by dsimp only; omega)), (by first | omega | (dsimp only; omega) | (dsimp only; simp only [List.length_set] <;> omega)), (by first | omega | (dsimp only; omega)), (by first | rfl | omega)⟩
 refine jT (dT h58) (sr (Mz rfl (An rfl (rt (tR (rs ?_))))))
 have H89 := H57.pk [0, 1, 2]
 have e : r10_Cache_back p0 p1 p0l0 = (r50, p0, r51) := et (bnd_of (getD_of hx22)) (et (ip h25) (et (ip h26) (et (bnd_of hr36) (et (ip h41) (et (bnd_of hr52) (iN h58))))))
 obtain ⟨rfl, rfl, rfl⟩ := pj3 (e.symm.trans hr)
 exact ⟨A0x0, c0x0, rfl, H89, (by first | rfl | omega | (simp only [List.length_set] <;> omega)), (by first | assumption | exact rs_rep (Nat.zero_le _) | exact rs_set (by assumption) (Nat.zero_le _) | exact rs_set (by assumption) (by omega) | exact rs_set (by assumption) (by dsimp only; omega)), (by first | omega | (dsimp only; omega) | (dsimp only; simp only [List.length_set] <;> omega)), (by first | omega | (dsimp only; omega)), (by first | rfl | omega)⟩
 refine jF (dF h41) (sk (Wp.seq (Wp.seq ?_)))
 have H91 := H40.drew
 refine Wp.drawnX [] (fun W => ∃ L', Own w D W ([blk g0 [.slice A0x0 p0.xP.ls.length c0x0, .int .i64 p0.xHand, .pointer (some ⟨g0l0, 0, none⟩)] 51, row A0x0 p0.xP.ls.length c0x0 (List.flatMap PlaceD.cells p0.xP.ls) 78 7] ++ L')) (by kernel_rfl) (by kernel_rfl) (NoP.then (NoP.then NoP.base)) ⟨_, H91⟩ ?_
 revert H91
 generalize World.drew w37 = w90
 intro H91
 refine GX.take (v := .pointer (some ⟨g0, 0, none⟩)) (rs := []) 0 rfl (by kernel_rfl) (fun _ _ => Yl.move rfl) (GX.take (v := .pointer (some ⟨g0, 0, none⟩)) (rs := []) 1 rfl (by kernel_rfl) (fun _ _ => yk) (GX.take (v := .pointer (some ⟨g0, 2, none⟩)) (rs := []) 2 rfl (by kernel_rfl) (fun _ _ => yk) (GX.take (v := .pointer (some ⟨g0l0, 0, none⟩)) (rs := []) 3 rfl (by kernel_rfl) (fun _ ⟨_, H9⟩ => Yl.load rfl (Lds.one Try.isAgg24 (Cls.of (H9.cls (i := 0) rfl) rfl))) (GX.take (v := .pointer (some ⟨ab A0x0, ao A0x0 + (Int.toNat p1) * 7, none⟩)) (rs := []) 4 rfl (by kernel_rfl) (fun _ _ => Yl.move rfl) (GX.take (v := .pointer (some ⟨ab A0x0, ao A0x0 + (Int.toNat p1) * 7, none⟩)) (rs := []) 5 rfl (by kernel_rfl) (fun _ _ => yk) (GX.take (v := .pointer (some ⟨ab A0x0, ao A0x0 + (Int.toNat p1) * 7 + 1, none⟩)) (rs := []) 6 rfl (by kernel_rfl) (fun _ _ => yk) (GX.take (v := .int .i64 x21.xId) (rs := []) 7 rfl (by kernel_rfl) (fun _ ⟨_, H9⟩ => Yl.load rfl (Lds.one Try.isAgg3 (((H9.rds (i := 1) rfl).elem PlaceD.len hx22 (by decide)).at_ (k := 1) rfl))) (GX.take (v := .pointer (some ⟨ab A0x0, ao A0x0 + (Int.toNat p1) * 7, none⟩)) (rs := []) 8 rfl (by kernel_rfl) (fun _ _ => Yl.move rfl) (GX.take (v := .pointer (some ⟨ab A0x0, ao A0x0 + (Int.toNat p1) * 7, none⟩)) (rs := []) 9 rfl (by kernel_rfl) (fun _ _ => yk) (GX.take (v := .pointer (some ⟨ab A0x0, ao A0x0 + (Int.toNat p1) * 7 + 3, none⟩)) (rs := []) 10 rfl (by kernel_rfl) (fun _ _ => yk) (GX.take (v := .string ⟨List.toArray x21.xBytes⟩) (rs := []) 11 rfl (by kernel_rfl) (fun _ ⟨_, H9⟩ => Yl.load rfl (Lds.one Try.isAgg9 (((H9.rds (i := 1) rfl).elem PlaceD.len hx22 (by decide)).at_ (k := 3) rfl))) ?_)))))))))))
 refine GX.do 12 rfl (by kernel_rfl) (Do.toBytesE (l := x21.xBytes) Try.underlying9 Try.underlying36 Try.underlying5 H91 rfl (by unfold maxLen; omega) ?_)
 intro A92 c93 w94 H95
 have H96 := H95.pk [1, 2, 0, 3]
 refine ⟨.inr ⟨_, H96⟩, ?_⟩
 have H97 := H96.pk [3, 0, 1, 2]
 obtain ⟨⟨r103, r104⟩, hr105⟩ : ∃ q : Int × BackT, r10_Back_Save p0l0 x21.xId x21.xBytes = q := ⟨_, rfl⟩
 obtain ⟨D98, HP99, ro100, bk101, rr102⟩ := Own.enter1 H97
 refine GX.do 13 rfl (by kernel_rfl) (Do.call Try.call36 rfl (r10_Back_Save_ok _ _ g0l0 p0l0 x21.xId A92 x21.xBytes.length c93 x21.xBytes r103 r104 HP99 (rr102 _ 2 _ rfl row_rds) rfl (by omega) (by first | omega | (dsimp only; omega)) (by first | omega | assumption) hr105) ?_)
 rintro _ w106 ⟨rfl, HQ107, hk109⟩
 have H108 := bk101 _ _ HQ107
 replace hk109 : r104.xCalls.length = p0l0.xCalls.length + 1 := hk109
 have H110 := H108.pk [1, 2, 0, 3]
 refine ⟨.inr ⟨_, H110⟩, ?_⟩
 refine GX.take (v := .int .i64 r103) (rs := []) 14 rfl (by kernel_rfl) (fun _ _ => Yl.assign rfl) (GX.done (by kernel_rfl) (Fin.then (Wp.seq ?_)))
 have H111 := H110.pk [0, 1, 2]
 refine Wp.region (Mz rfl (fw (.bool (decide (¬ (r103 = 0)))) (Yl.bool (e := !(decide (r103 = 0))) yk decide_not.symm) (nt ?_)))
 by_cases h112 : r103 = 0
 refine jF (dF (not_not_intro h112)) (sk (sr (Mz rfl (Kz (.pointer (some ⟨ab A0x0, ao A0x0 + (Int.toNat p1) * 7, none⟩)) (Kz (.pointer (some ⟨ab A0x0, ao A0x0 + (Int.toNat p1) * 7 + 5, none⟩)) ?_)))))
 have H113 := H111.pk [1, 0, 2]
 refine WL.do0 (Do.storeRow (vs := [.bool false]) (o := (Int.toNat p1) * 7 + 5) (q := ao A0x0 + (Int.toNat p1) * 7 + 5) H113 rfl (by omega) rfl Try.sizeOf4 rfl rfl (Nat.le_of_ble_eq_true rfl) (store_fits PlaceD.len hx22 (Nat.le_of_ble_eq_true rfl)) (flat_set (y := ⟨x21.xFull, x21.xId, x21.xPins, x21.xBytes, x21.xTouched, false, x21.xLsn⟩) PlaceD.len rfl (Nat.le_of_ble_eq_true rfl) hx22) ?_)
 intro w114 H115
 refine ns (An rfl (rt (rs ?_)))
 have hn116 : p0.xP.ls.length = List.length (List.set p0.xP.ls (Int.toNat p1) (⟨x21.xFull, x21.xId, x21.xPins, x21.xBytes, x21.xTouched, false, x21.xLsn⟩)) := by first | omega | (simp only [List.length_set]; done) | (simp only [List.length_set, List.length_append, List.length_cons, List.length_nil, List.length_take, List.length_drop, List.length_replicate]; omega)
 have H117 : Own w D w114 [row A0x0 (List.length (List.set p0.xP.ls (Int.toNat p1) (⟨x21.xFull, x21.xId, x21.xPins, x21.xBytes, x21.xTouched, false, x21.xLsn⟩))) c0x0 (List.flatMap PlaceD.cells (List.set p0.xP.ls (Int.toNat p1) (⟨x21.xFull, x21.xId, x21.xPins, x21.xBytes, x21.xTouched, false, x21.xLsn⟩))) 78 7, blk g0 [.slice A0x0 (List.length (List.set p0.xP.ls (Int.toNat p1) (⟨x21.xFull, x21.xId, x21.xPins, x21.xBytes, x21.xTouched, false, x21.xLsn⟩))) c0x0, .int .i64 p0.xHand, .pointer (some ⟨g0l0, 0, none⟩)] 51, BackO g0l0 r104] := by rw [← hn116]; exact H115
 have H118 := H117.pk [1, 0, 2]
 have e : r10_Cache_back p0 p1 p0l0 = (0, CacheDT.mk (Ll.mk (List.set p0.xP.ls (Int.toNat p1) (⟨x21.xFull, x21.xId, x21.xPins, x21.xBytes, x21.xTouched, false, x21.xLsn⟩))) p0.xHand, r104) := et (bnd_of (getD_of hx22)) (et (ip h25) (et (ip h26) (et (bnd_of hr36) (et (iN h41) (et (bnd_of hr105) (ip h112))))))
 obtain ⟨rfl, rfl, rfl⟩ := pj3 (e.symm.trans hr)
 exact ⟨A0x0, c0x0, (by first | rfl | (rw [← hn116]; done) | (rw [← hn116]; rfl)), H118, (by first | rfl | omega | (simp only [List.length_set] <;> omega)), (by first | assumption | exact rs_rep (Nat.zero_le _) | exact rs_set (by assumption) (Nat.zero_le _) | exact rs_set (by assumption) (by omega) | exact rs_set (by assumption) (by dsimp only; omega)), (by first | omega | (dsimp only; omega) | (dsimp only; simp only [List.length_set] <;> omega)), (by first | omega | (dsimp only; omega)), (by first | rfl | omega)⟩
 refine jT (dT h112) (sr (Mz rfl (An rfl (rt (tR (rs ?_))))))
 have H119 := H111.pk [0, 1, 2]
 have e : r10_Cache_back p0 p1 p0l0 = (r103, p0, r104) := et (bnd_of (getD_of hx22)) (et (ip h25) (et (ip h26) (et (bnd_of hr36) (et (iN h41) (et (bnd_of hr105) (iN h112))))))
 obtain ⟨rfl, rfl, rfl⟩ := pj3 (e.symm.trans hr)
 exact ⟨A0x0, c0x0, rfl, H119, (by first | rfl | omega | (simp only [List.length_set] <;> omega)), (by first | assumption | exact rs_rep (Nat.zero_le _) | exact rs_set (by assumption) (Nat.zero_le _) | exact rs_set (by assumption) (by omega) | exact rs_set (by assumption) (by dsimp only; omega)), (by first | omega | (dsimp only; omega) | (dsimp only; simp only [List.length_set] <;> omega)), (by first | omega | (dsimp only; omega)), (by first | rfl | omega)⟩
 refine jT (cn h26) (sr (An rfl (rt (tR (rs ?_)))))
 have H120 : Own w D w [blk g0 [.slice A0x0 p0.xP.ls.length c0x0, .int .i64 p0.xHand, .pointer (some ⟨g0l0, 0, none⟩)] 51, row A0x0 p0.xP.ls.length c0x0 (List.flatMap PlaceD.cells p0.xP.ls) 78 7, BackO g0l0 p0l0] := H.pk [0, 1, 2]
 have e : r10_Cache_back p0 p1 p0l0 = (0, p0, p0l0) := et (bnd_of (getD_of hx22)) (et (ip h25) (ifF h26))
 obtain ⟨rfl, rfl, rfl⟩ := pj3 (e.symm.trans hr)
 exact ⟨A0x0, c0x0, rfl, H120, (by first | rfl | omega | (simp only [List.length_set] <;> omega)), (by first | assumption | exact rs_rep (Nat.zero_le _) | exact rs_set (by assumption) (Nat.zero_le _) | exact rs_set (by assumption) (by omega) | exact rs_set (by assumption) (by dsimp only; omega)), (by first | omega | (dsimp only; omega) | (dsimp only; simp only [List.length_set] <;> omega)), (by first | omega | (dsimp only; omega)), (by first | rfl | omega)⟩
 refine Sz (cn h25) (Sz (cn h25) (Sz (cn h25) (Sz (cn h25) (Sz (cn h25) (fw (.bool true) (Yl.pickT rfl (cn h25) rfl) (nt (jt (sr (An rfl (rt (tR (rs ?_))))))))))))
 have H121 : Own w D w [blk g0 [.slice A0x0 p0.xP.ls.length c0x0, .int .i64 p0.xHand, .pointer (some ⟨g0l0, 0, none⟩)] 51, row A0x0 p0.xP.ls.length c0x0 (List.flatMap PlaceD.cells p0.xP.ls) 78 7, BackO g0l0 p0l0] := H.pk [0, 1, 2]
 have e : r10_Cache_back p0 p1 p0l0 = (0, p0, p0l0) := et (bnd_of (getD_of hx22)) (ifF h25)
 obtain ⟨rfl, rfl, rfl⟩ := pj3 (e.symm.trans hr)
 exact ⟨A0x0, c0x0, rfl, H121, (by first | rfl | omega | (simp only [List.length_set] <;> omega)), (by first | assumption | exact rs_rep (Nat.zero_le _) | exact rs_set (by assumption) (Nat.zero_le _) | exact rs_set (by assumption) (by omega) | exact rs_set (by assumption) (by dsimp only; omega)), (by first | omega | (dsimp only; omega) | (dsimp only; simp only [List.length_set] <;> omega)), (by first | omega | (dsimp only; omega)), (by first | rfl | omega)⟩

def r10_Cache_free_L0 (p0 : CacheDT) (p0l0 : BackT) : List PlaceD → Bool → Nat → Bool ⊕ (Int × Int × CacheDT × BackT)
  | [], b21, k22 => Sum.inl b21
  | x35 :: q23, b21, k22 => if x35.xFull = true then if b21 = true then r10_Cache_free_L0 p0 p0l0 q23 (decide (x35.xPins > 0)) (k22 + 1) else r10_Cache_free_L0 p0 p0l0 q23 false (k22 + 1) else Sum.inr (((k22 : Nat) : Int), 0, p0, p0l0)

def r10_Cache_free_L1 (p0 : CacheDT) (p0l0 : BackT) : Nat → Int → List PlaceD → Unit ⊕ (Int × Int × CacheDT × BackT)
  | 0, z55, l56 => Sum.inl default
  | q57 + 1, z55, l56 => bnd (List.getD l56 (Int.toNat z55) default) fun yx81 => if yx81.xPins > 0 then r10_Cache_free_L1 p0 p0l0 q57 (remI (z55 + 1) p0.xP.ls.length) l56 else if yx81.xTouched = true then r10_Cache_free_L1 p0 p0l0 q57 (remI (z55 + 1) p0.xP.ls.length) (List.set l56 (Int.toNat z55) (PlaceD.mk yx81.xFull yx81.xId yx81.xPins yx81.xBytes false yx81.xDirty yx81.xLsn)) else bnd (r10_Cache_back (CacheDT.mk (Ll.mk l56) (remI (z55 + 1) p0.xP.ls.length)) z55 p0l0) fun yr99 => if yr99.1 = 0 then Sum.inr (z55, 0, CacheDT.mk (Ll.mk (List.set yr99.2.1.xP.ls (Int.toNat z55) (PlaceD.mk false 0 0 ([]) false false 0))) yr99.2.1.xHand, yr99.2.2) else Sum.inr (0, yr99.1, yr99.2.1, yr99.2.2)

def r10_Cache_free (p0 : CacheDT) (p0l0 : BackT) : Int × Int × CacheDT × BackT :=
 lp (r10_Cache_free_L0 p0 p0l0 p0.xP.ls true 0) fun sLrL => if sLrL = true then (0, 100, p0, p0l0) else lp (r10_Cache_free_L1 p0 p0l0 ((tmR p0.xP.ls (Int.toNat p0.xHand)) + 1) p0.xHand p0.xP.ls) fun _ => default

set_option maxRecDepth 100000 in
theorem r10_Cache_free_ok (w : World) (D : Nat → Prop) (g0 : Nat) (p0 : CacheDT) (A0x0 : Option Addr) (c0x0 : Nat) (g0l0 : Nat) (p0l0 : BackT) (r0 : Int) (r1 : Int) (r2 : CacheDT) (r3 : BackT) (H : Own w D w [blk g0 [.slice A0x0 p0.xP.ls.length c0x0, .int .i64 p0.xHand, .pointer (some ⟨g0l0, 0, none⟩)] 51, row A0x0 p0.xP.ls.length c0x0 (List.flatMap PlaceD.cells p0.xP.ls) 78 7, BackO g0l0 p0l0]) (hh0 : 1 ≤ p0.xP.ls.length ∧ p0.xP.ls.length ≤ 64) (hh1 : 0 ≤ p0.xHand ∧ p0.xHand < ((p0.xP.ls.length : Nat) : Int)) (hh2 : RsOk p0.xP.ls) (hh3 : p0l0.xCalls.length ≤ 150000) (hr : r10_Cache_free p0 p0l0 = (r0, r1, r2, r3)) :
    Calls Try.prog 25 #[.pointer (some ⟨g0, 0, none⟩)] w (Ret fun v w' => ∃ (B2ox0 : Option Addr) (b2ox0 : Nat), v = .tuple #[.int .i64 r0, .int .i64 r1] ∧ Own w D w' [blk g0 [.slice B2ox0 r2.xP.ls.length b2ox0, .int .i64 r2.xHand, .pointer (some ⟨g0l0, 0, none⟩)] 51, row B2ox0 r2.xP.ls.length b2ox0 (List.flatMap PlaceD.cells r2.xP.ls) 78 7, BackO g0l0 r3] ∧ (r2.xP.ls.length = p0.xP.ls.length) ∧ (RsOk r2.xP.ls) ∧ (0 ≤ r2.xHand ∧ r2.xHand < ((r2.xP.ls.length : Nat) : Int)) ∧ (r3.xCalls.length ≤ p0l0.xCalls.length + 2) ∧ (0 ≤ r0 ∧ r0 < ((p0.xP.ls.length : Nat) : Int))) := by
 have hc0x0 := H.rowC (i := 1) rfl
 refine Calls.body (args := [.pointer (some ⟨g0, 0, none⟩)]) Try.func25 rfl rfl rfl ?_
 show Wp _ _ _ [(0, .pointer (some ⟨g0, 0, none⟩))] _ _
 refine sr (Az rfl (Ar rfl (An rfl (Wp.seq (sr (Mz rfl (Kz (.pointer (some ⟨g0, 0, none⟩)) (Kz (.pointer (some ⟨g0, 0, none⟩)) (Lz (.slice A0x0 p0.xP.ls.length c0x0) H 0 Try.isAgg49 (Kz (.int .i64 ((p0.xP.ls.length : Nat) : Int)) (Mn rfl (bo ?_))))))))))))
 have H24 : Own w D w [blk g0 [.slice A0x0 p0.xP.ls.length c0x0, .int .i64 p0.xHand, .pointer (some ⟨g0l0, 0, none⟩)] 51, row A0x0 p0.xP.ls.length c0x0 (List.flatMap PlaceD.cells p0.xP.ls) 78 7, BackO g0l0 p0l0] := H.pk [0, 1, 2]
 obtain ⟨I28, hI29⟩ : ∃ q : (Bool × Nat) → World → Prop, q = fun (i : Bool × Nat) w' => Own w D w' [blk g0 [.slice A0x0 p0.xP.ls.length c0x0, .int .i64 p0.xHand, .pointer (some ⟨g0l0, 0, none⟩)] 51, row A0x0 p0.xP.ls.length c0x0 (List.flatMap PlaceD.cells p0.xP.ls) 78 7, BackO g0l0 p0l0] ∧ (i.2 ≤ p0.xP.ls.length ∧ (UnR p0.xP.ls ∨ i.1 = true) ∧ r10_Cache_free_L0 p0 p0l0 p0.xP.ls true 0 = r10_Cache_free_L0 p0 p0l0 (List.drop i.2 p0.xP.ls) i.1 i.2) := ⟨_, rfl⟩
 have dm30 : ∀ {b21 : Bool} {k22 : Nat} {w' : World}, I28 (b21, k22) w' ↔ Own w D w' [blk g0 [.slice A0x0 p0.xP.ls.length c0x0, .int .i64 p0.xHand, .pointer (some ⟨g0l0, 0, none⟩)] 51, row A0x0 p0.xP.ls.length c0x0 (List.flatMap PlaceD.cells p0.xP.ls) 78 7, BackO g0l0 p0l0] ∧ k22 ≤ p0.xP.ls.length ∧ (UnR p0.xP.ls ∨ b21 = true) ∧ r10_Cache_free_L0 p0 p0l0 p0.xP.ls true 0 = r10_Cache_free_L0 p0 p0l0 (List.drop k22 p0.xP.ls) b21 k22 := by intros; subst hI29; exact Iff.rfl
 refine Wp.loop (fun i : Bool × Nat => [(2, .int .i64 0), (3, .int .i64 0), (4, .bool i.1), (15, .int .i64 ((i.2 : Nat) : Int)), (14, .int .i64 ((p0.xP.ls.length : Nat) : Int)), (13, .slice A0x0 p0.xP.ls.length c0x0), (0, .pointer (some ⟨g0, 0, none⟩))]) I28 (fun i => p0.xP.ls.length - i.2) (true, 0) ⟨rfl, rfl, rfl, rfl, rfl, rfl, rfl, trivial⟩ (dm30.2 ⟨H24, (show 0 ≤ p0.xP.ls.length ∧ (UnR p0.xP.ls ∨ true = true) ∧ r10_Cache_free_L0 p0 p0l0 p0.xP.ls true 0 = r10_Cache_free_L0 p0 p0l0 (List.drop 0 p0.xP.ls) true 0 from ⟨by omega, by first | assumption | exact .inr rfl | exact unr_dec (by assumption) | exact unr_keep (by assumption) (by assumption), rfl⟩)⟩) ?_
 rintro ⟨b21, k22⟩ w25 hf27
 show Wp _ _ _ [(2, .int .i64 0), (3, .int .i64 0), (4, .bool b21), (15, .int .i64 ((k22 : Nat) : Int)), (14, .int .i64 ((p0.xP.ls.length : Nat) : Int)), (13, .slice A0x0 p0.xP.ls.length c0x0), (0, .pointer (some ⟨g0, 0, none⟩))] _ _
 obtain ⟨H26, hi32, hi33, hq31⟩ := dm30.1 hf27
 refine sr (Kz (.bool (decide (((k22 : Nat) : Int) < ((p0.xP.ls.length : Nat) : Int)))) (nt (Wp.seq ?_)))
 by_cases h34 : ((k22 : Nat) : Int) < ((p0.xP.ls.length : Nat) : Int)
 obtain ⟨x35, hx36⟩ := rds_at (ls := p0.xP.ls) (i := k22) PlaceD.len (by decide) (H26.rds (i := 1) rfl) (by first | omega | (simp; done) | (simp; omega))
 have hb38 : RsOk p0.xP.ls := by first | assumption | exact rs_rep (Nat.zero_le _) | exact rs_set (by assumption) (Nat.zero_le _) | exact rs_set (by assumption) (by omega) | exact rs_set (by assumption) (by dsimp only; omega)
 have hz37 : x35.xBytes.length ≤ 140737488351232 := rs_at hb38 hx36
 have hd39 := drop_at hx36
 refine jT (dT h34) (sk (Wp.seq (bo (sr (Mz rfl (fw (.pointer (some ⟨ab A0x0, ao A0x0 + k22 * 7, none⟩)) (Yl.indexAddr (El49) rfl rfl ((H26.rds (i := 1) rfl).addr (i := k22) (by omega)) (by omega)) (fw (.agg (PlaceD.cells x35).toArray) (Yl.load rfl (Lds.agg (cs := (PlaceD.cells x35)) Try.isAgg78 Try.sizeOf78 ((H26.rds (i := 1) rfl).elem PlaceD.len hx36 (by decide)))) ?_)))))))
 refine npw [.bool false, .int .i64 0, .int .i64 0, .string ⟨List.toArray ([])⟩, .bool false, .bool false, .int .u64 0] 78 H26 ?_
 intro g40 w41 H42
 refine Az rfl ?_
 refine sto (PlaceD.cells x35) 0 H42 Try.sizeOf78 ?_
 intro w43 H44
 refine nt (Wp.seq (sr (Kz (.pointer (some ⟨g40, 0, none⟩)) (Lz (.bool x35.xFull) H44 0 Try.isAgg4 (Kz (.bool (!x35.xFull)) (nt ?_))))))
 rcases Bool.eq_false_or_eq_true (x35.xFull) with h45 | h45
 refine jF (cn h45) (sk (Wp.region (Mz rfl (Mz rfl ?_))))
 rcases Bool.eq_false_or_eq_true (b21) with h46 | h46
 refine Gz (.pointer (some ⟨g40, 2, none⟩)) h46 (Gl (.int .i64 x35.xPins) h46 H44 0 Try.isAgg3 (Gz (.bool (decide (x35.xPins > 0))) h46 (fw (.bool (decide (x35.xPins > 0))) (Yl.pickT rfl h46 rfl) (Az rfl (WL.nil (bN (Fin.then ?_)))))))
 have H47 := H44.pk [1, 2, 3]
 refine Wp.region (fw (.int .i64 ((k22 + 1 : Nat) : Int)) (Yl.int (e := IntKind.i64.wrap (((k22 : Nat) : Int) + 1)) yk (by rw [IntWalk.i64_in _ (by omega)]; omega)) (Mz rfl (WL.nil ?_)))
 have H48 := H47.pk [0, 1, 2]
 exact Fin.round (decide (x35.xPins > 0), k22 + 1) ⟨rfl, rfl, rfl, rfl, rfl, rfl, rfl, trivial⟩ (dm30.2 ⟨H48, by omega, by first | assumption | exact .inr rfl | exact unr_dec (by assumption) | exact unr_keep (by assumption) (by assumption), et (hq31) (et (congrArg (fun q => r10_Cache_free_L0 p0 p0l0 q b21 k22) hd39) (et (ip h45) (ip h46)))⟩) (by show p0.xP.ls.length - (k22 + 1) < p0.xP.ls.length - k22; omega)
 refine Sz h46 (Sz h46 (Sz h46 (fw (.bool false) (Yl.pickF rfl h46 rfl) (Az rfl (WL.nil (bN (Fin.then ?_)))))))
 have H49 := H44.pk [1, 2, 3]
 refine Wp.region (fw (.int .i64 ((k22 + 1 : Nat) : Int)) (Yl.int (e := IntKind.i64.wrap (((k22 : Nat) : Int) + 1)) yk (by rw [IntWalk.i64_in _ (by omega)]; omega)) (Mz rfl (WL.nil ?_)))
 have H50 := H49.pk [0, 1, 2]
 exact Fin.round (false, k22 + 1) ⟨rfl, rfl, rfl, rfl, rfl, rfl, rfl, trivial⟩ (dm30.2 ⟨H50, (show (k22 + 1) ≤ p0.xP.ls.length ∧ (UnR p0.xP.ls ∨ false = true) ∧ r10_Cache_free_L0 p0 p0l0 p0.xP.ls true 0 = r10_Cache_free_L0 p0 p0l0 (List.drop (k22 + 1) p0.xP.ls) false (k22 + 1) from ⟨by omega, by first | assumption | exact .inr rfl | exact unr_dec (by assumption) | exact unr_keep (by assumption) (by assumption), et (hq31) (et (congrArg (fun q => r10_Cache_free_L0 p0 p0l0 q b21 k22) hd39) (et (ip h45) (ifF h46)))⟩)⟩) (by show p0.xP.ls.length - (k22 + 1) < p0.xP.ls.length - k22; omega)
 refine jT (cn h45) (sr (Mz rfl (Az rfl (An rfl (rt (tR (bR (tR (tR (bR (tR (Fin.res (res2 rfl rfl rfl) ?_))))))))))))
 have H51 := H44.pk [1, 2, 3]
 have e : r10_Cache_free p0 p0l0 = (((k22 : Nat) : Int), 0, p0, p0l0) := lp_r (et (hq31) (et (congrArg (fun q => r10_Cache_free_L0 p0 p0l0 q b21 k22) hd39) (ifF h45)))
 obtain ⟨rfl, rfl, rfl, rfl⟩ := pj4 (e.symm.trans hr)
 exact ⟨A0x0, c0x0, rfl, H51, (by first | rfl | omega | (simp only [List.length_set] <;> omega)), (by first | assumption | exact rs_rep (Nat.zero_le _) | exact rs_set (by assumption) (Nat.zero_le _) | exact rs_set (by assumption) (by omega) | exact rs_set (by assumption) (by dsimp only; omega)), (by first | omega | (dsimp only; omega) | (dsimp only; simp only [List.length_set] <;> omega)), (by first | omega | (dsimp only; omega)), (by first | omega | (dsimp only; omega))⟩
 refine jF (dF h34) (Wp.exit (Fin.thenX ?_))
 have hL52 : r10_Cache_free_L0 p0 p0l0 p0.xP.ls true 0 = Sum.inl b21 := et (hq31) (et (congrArg (fun q => r10_Cache_free_L0 p0 p0l0 q b21 k22) (drop_end (ls := p0.xP.ls) (i := k22) (by omega))) rfl)
 refine Fin.thenX (Fin.blockX (Fin.then (Wp.seq (sr (Mn rfl ?_)))))
 rcases Bool.eq_false_or_eq_true (b21) with h53 | h53
 refine jT h53 (sr (Az rfl (An rfl (rt (tR (Fin.res (res2 rfl rfl rfl) ?_))))))
 have H54 := H26.pk [0, 1, 2]
 have e : r10_Cache_free p0 p0l0 = (0, 100, p0, p0l0) := et (lp_l hL52) (ip h53)
 obtain ⟨rfl, rfl, rfl, rfl⟩ := pj4 (e.symm.trans hr)
 exact ⟨A0x0, c0x0, rfl, H54, (by first | rfl | omega | (simp only [List.length_set] <;> omega)), (by first | assumption | exact rs_rep (Nat.zero_le _) | exact rs_set (by assumption) (Nat.zero_le _) | exact rs_set (by assumption) (by omega) | exact rs_set (by assumption) (by dsimp only; omega)), (by first | omega | (dsimp only; omega) | (dsimp only; simp only [List.length_set] <;> omega)), (by first | omega | (dsimp only; omega)), (by first | omega | (dsimp only; omega))⟩
 refine jF h53 (sk (bo ?_))
 have H59 := H26.pk [0, 1, 2]
 obtain ⟨I63, hI64⟩ : ∃ q : (Int × (List PlaceD) × Nat) → World → Prop, q = fun (i : Int × (List PlaceD) × Nat) w' => Own w D w' [blk g0 [.slice A0x0 p0.xP.ls.length c0x0, .int .i64 i.1, .pointer (some ⟨g0l0, 0, none⟩)] 51, row A0x0 p0.xP.ls.length c0x0 (List.flatMap PlaceD.cells i.2.1) 78 7, BackO g0l0 p0l0] ∧ (i.2.1.length = p0.xP.ls.length ∧ UnR i.2.1 ∧ (0 ≤ i.1 ∧ i.1 < ((p0.xP.ls.length : Nat) : Int)) ∧ i.2.1.length = p0.xP.ls.length ∧ RsOk i.2.1 ∧ tmR i.2.1 (Int.toNat i.1) < i.2.2 ∧ r10_Cache_free_L1 p0 p0l0 ((tmR p0.xP.ls (Int.toNat p0.xHand)) + 1) p0.xHand p0.xP.ls = r10_Cache_free_L1 p0 p0l0 i.2.2 i.1 i.2.1) := ⟨_, rfl⟩
 have dm65 : ∀ {z55 : Int} {l56 : List PlaceD} {f58 : Nat} {w' : World}, I63 (z55, l56, f58) w' ↔ Own w D w' [blk g0 [.slice A0x0 p0.xP.ls.length c0x0, .int .i64 z55, .pointer (some ⟨g0l0, 0, none⟩)] 51, row A0x0 p0.xP.ls.length c0x0 (List.flatMap PlaceD.cells l56) 78 7, BackO g0l0 p0l0] ∧ l56.length = p0.xP.ls.length ∧ UnR l56 ∧ (0 ≤ z55 ∧ z55 < ((p0.xP.ls.length : Nat) : Int)) ∧ l56.length = p0.xP.ls.length ∧ RsOk l56 ∧ tmR l56 (Int.toNat z55) < f58 ∧ r10_Cache_free_L1 p0 p0l0 ((tmR p0.xP.ls (Int.toNat p0.xHand)) + 1) p0.xHand p0.xP.ls = r10_Cache_free_L1 p0 p0l0 f58 z55 l56 := by intros; subst hI64; exact Iff.rfl
 refine Wp.loop (fun i : Int × (List PlaceD) × Nat => [(2, .int .i64 0), (3, .int .i64 0), (0, .pointer (some ⟨g0, 0, none⟩))]) I63 (fun i => i.2.2) (p0.xHand, p0.xP.ls, (tmR p0.xP.ls (Int.toNat p0.xHand)) + 1) ⟨rfl, rfl, rfl, trivial⟩ (dm65.2 ⟨H59, by first | omega | (simp only [List.length_set] <;> omega) | (simp only [List.length_replicate]), by first | assumption | exact unr_true (by assumption) (by assumption) | (refine unr_set (x := ?x) (by assumption) ?h1 ?h2; (case h1 => assumption); (case h2 => rfl)), by omega, by first | rfl | omega | (simp only [List.length_set] <;> omega), by first | assumption | exact rs_rep (Nat.zero_le _) | exact rs_set (by assumption) (Nat.zero_le _) | exact rs_set (by assumption) (by omega) | exact rs_set (by assumption) (by dsimp only; omega), by first | omega | exact tmr_pin (by assumption) (by assumption) (by assumption) (by omega) (by omega) (hand_next (by omega) (by omega)) (by omega) | (refine tmr_touch (x := ?x) (by assumption) ?h1 ?h2 ?h3 ?h4 ?h5 (by omega); (case h1 => assumption); (case h2 => assumption); (case h3 => assumption); (case h4 => rfl); (case h5 => rfl)), rfl⟩) ?_
 rintro ⟨z55, l56, f58⟩ w60 hf62
 show Wp _ _ _ [(2, .int .i64 0), (3, .int .i64 0), (0, .pointer (some ⟨g0, 0, none⟩))] _ _
 obtain ⟨H61, hi67, hi68, hi69, hi70, hi71, hi72, hq66⟩ := dm65.1 hf62
 obtain ⟨f73, hf74⟩ : ∃ q, f58 = q + 1 := ⟨f58 - 1, by omega⟩
 subst hf74
 refine bo (sr (Mz rfl (Kz (.pointer (some ⟨g0, 0, none⟩)) (Kz (.pointer (some ⟨g0, 1, none⟩)) (Lz (.int .i64 z55) H61 0 Try.isAgg3 (An rfl (Wp.seq ?_)))))))
 have H76 := H61.drew
 refine Wp.drawnX [14] (fun W => ∃ L', Own w D W ([blk g0 [.slice A0x0 p0.xP.ls.length c0x0, .int .i64 z55, .pointer (some ⟨g0l0, 0, none⟩)] 51, row A0x0 p0.xP.ls.length c0x0 (List.flatMap PlaceD.cells l56) 78 7, BackO g0l0 p0l0] ++ L')) (by kernel_rfl) (by kernel_rfl) (NoP.then (NoP.block (NoP.then (NoP.block NoP.base)))) ⟨_, H76⟩ ?_
 revert H76
 generalize World.drew w60 = w75
 intro H76
 refine GX.take (v := .pointer (some ⟨g0, 0, none⟩)) (rs := [[]]) 0 rfl (by kernel_rfl) (fun _ _ => Yl.move rfl) (GX.take (v := .pointer (some ⟨g0, 0, none⟩)) (rs := [[]]) 1 rfl (by kernel_rfl) (fun _ _ => Yl.move rfl) (GX.take (v := .pointer (some ⟨g0, 0, none⟩)) (rs := [[]]) 2 rfl (by kernel_rfl) (fun _ _ => yk) (GX.take (v := .pointer (some ⟨g0, 1, none⟩)) (rs := [[]]) 3 rfl (by kernel_rfl) (fun _ _ => yk) (GX.take (v := .int .i64 z55) (rs := [[]]) 4 rfl (by kernel_rfl) (fun _ ⟨_, H9⟩ => Yl.load rfl (Lds.one Try.isAgg3 (Cls.of (H9.cls (i := 0) rfl) rfl))) (GX.take (v := .int .i64 (z55 + 1)) (rs := [[]]) 5 rfl (by kernel_rfl) (fun _ _ => Yl.int (e := IntKind.i64.wrap (z55 + 1)) yk (by rw [IntWalk.i64_in _ (by omega)])) (GX.take (v := .pointer (some ⟨g0, 0, none⟩)) (rs := [[]]) 6 rfl (by kernel_rfl) (fun _ _ => Yl.move rfl) (GX.take (v := .pointer (some ⟨g0, 0, none⟩)) (rs := [[]]) 7 rfl (by kernel_rfl) (fun _ _ => yk) (GX.take (v := .pointer (some ⟨g0, 0, none⟩)) (rs := [[]]) 8 rfl (by kernel_rfl) (fun _ _ => yk) (GX.take (v := .slice A0x0 p0.xP.ls.length c0x0) (rs := [[]]) 9 rfl (by kernel_rfl) (fun _ ⟨_, H9⟩ => Yl.load rfl (Lds.one Try.isAgg49 (Cls.of (H9.cls (i := 0) rfl) rfl))) (GX.take (v := .int .i64 ((p0.xP.ls.length : Nat) : Int)) (rs := [[]]) 10 rfl (by kernel_rfl) (fun _ _ => yk) ?_))))))))))
 have hz77 := remI_bd (z55 + 1) (n := p0.xP.ls.length) (by omega)
 have hz78 := remI_nn (a := z55 + 1) (n := p0.xP.ls.length) (by omega)
 refine GX.take (v := .int .i64 (remI (z55 + 1) p0.xP.ls.length)) (rs := [[]]) 11 rfl (by kernel_rfl) (fun _ _ => Yl.remI rfl rfl (by omega)) (GX.take (v := .pointer (some ⟨g0, 0, none⟩)) (rs := [[13]]) 12 rfl (by kernel_rfl) (fun _ _ => yk) (GX.take (v := .pointer (some ⟨g0, 1, none⟩)) (rs := [[]]) 13 rfl (by kernel_rfl) (fun _ _ => yk) ?_))
 refine GX.do0 14 rfl (by kernel_rfl) (Do.store (vs := [.int .i64 (remI (z55 + 1) p0.xP.ls.length)]) (o := 1) H76 rfl rfl Try.sizeOf3 rfl rfl rfl rfl ?_)
 intro w79 H80
 refine ⟨.inl (by kernel_rfl), ?_⟩
 refine GX.done (by kernel_rfl) (Fin.then (sr (Mz rfl (Kz (.pointer (some ⟨g0, 0, none⟩)) (Kz (.pointer (some ⟨g0, 0, none⟩)) (Lz (.slice A0x0 p0.xP.ls.length c0x0) H80 0 Try.isAgg49 (fw (.int .i64 ((Int.toNat z55 : Nat) : Int)) (Yl.int (e := z55) (Yl.move rfl) (by omega)) ?_)))))))
 obtain ⟨x81, hx82⟩ := rds_at (ls := l56) (i := Int.toNat z55) PlaceD.len (by decide) (H80.rds (i := 1) rfl) (by first | omega | (simp; done) | (simp; omega))
 have hb84 : RsOk l56 := by first | assumption | exact rs_rep (Nat.zero_le _) | exact rs_set (by assumption) (Nat.zero_le _) | exact rs_set (by assumption) (by omega) | exact rs_set (by assumption) (by dsimp only; omega)
 have hz83 : x81.xBytes.length ≤ 140737488351232 := rs_at hb84 hx82
 refine fw (.pointer (some ⟨ab A0x0, ao A0x0 + (Int.toNat z55) * 7, none⟩)) (Yl.indexAddr (El49) rfl rfl ((H80.rds (i := 1) rfl).addr (i := Int.toNat z55) (by omega)) (by omega)) (An rfl (bo (sr (Mz rfl (Kz (.pointer (some ⟨ab A0x0, ao A0x0 + (Int.toNat z55) * 7, none⟩)) (Kz (.pointer (some ⟨ab A0x0, ao A0x0 + (Int.toNat z55) * 7 + 2, none⟩)) (fw (.int .i64 x81.xPins) (Yl.load rfl (Lds.one Try.isAgg3 (((H80.rds (i := 1) rfl).elem PlaceD.len hx82 (by decide)).at_ (k := 2) rfl))) (Kz (.bool (decide (x81.xPins > 0))) (An rfl ?_)))))))))
 by_cases h85 : x81.xPins > 0
 refine jT (dT h85) (Wp.skip (bN (bN ?_)))
 have H86 := H80.pk [0, 1, 2]
 exact Fin.round (remI (z55 + 1) p0.xP.ls.length, l56, f73) ⟨rfl, rfl, rfl, trivial⟩ (dm65.2 ⟨H86, by first | omega | (simp only [List.length_set] <;> omega) | (simp only [List.length_replicate]), by first | assumption | exact unr_true (by assumption) (by assumption) | (refine unr_set (x := ?x) (by assumption) ?h1 ?h2; (case h1 => assumption); (case h2 => rfl)), by omega, by first | rfl | omega | (simp only [List.length_set] <;> omega), by first | assumption | exact rs_rep (Nat.zero_le _) | exact rs_set (by assumption) (Nat.zero_le _) | exact rs_set (by assumption) (by omega) | exact rs_set (by assumption) (by dsimp only; omega), by first | omega | exact tmr_pin (by assumption) (by assumption) (by assumption) (by omega) (by omega) (hand_next (by omega) (by omega)) (by omega) | (refine tmr_touch (x := ?x) (by assumption) ?h1 ?h2 ?h3 ?h4 ?h5 (by omega); (case h1 => assumption); (case h2 => assumption); (case h3 => assumption); (case h4 => rfl); (case h5 => rfl)), Eq.trans (hq66) (Eq.trans (bnd_of (getD_of hx82)) (if_pos h85))⟩) (by show f73 < f73 + 1; omega)
 refine jF (dF h85) (sr (Mz rfl (Kz (.pointer (some ⟨ab A0x0, ao A0x0 + (Int.toNat z55) * 7, none⟩)) (Kz (.pointer (some ⟨ab A0x0, ao A0x0 + (Int.toNat z55) * 7 + 4, none⟩)) (fw (.bool x81.xTouched) (Yl.load rfl (Lds.one Try.isAgg4 (((H80.rds (i := 1) rfl).elem PlaceD.len hx82 (by decide)).at_ (k := 4) rfl))) (An rfl ?_))))))
 rcases Bool.eq_false_or_eq_true (x81.xTouched) with h87 | h87
 refine jT h87 (Wp.region (Mz rfl (Kz (.pointer (some ⟨ab A0x0, ao A0x0 + (Int.toNat z55) * 7, none⟩)) (Kz (.pointer (some ⟨ab A0x0, ao A0x0 + (Int.toNat z55) * 7 + 4, none⟩)) ?_))))
 have H88 := H80.pk [1, 0, 2]
 refine WL.do0 (Do.storeRow (vs := [.bool false]) (o := (Int.toNat z55) * 7 + 4) (q := ao A0x0 + (Int.toNat z55) * 7 + 4) H88 rfl (by omega) rfl Try.sizeOf4 rfl rfl (Nat.le_of_ble_eq_true rfl) (store_fits PlaceD.len hx82 (Nat.le_of_ble_eq_true rfl)) (flat_set (y := (PlaceD.mk x81.xFull x81.xId x81.xPins x81.xBytes false x81.xDirty x81.xLsn)) PlaceD.len rfl (Nat.le_of_ble_eq_true rfl) hx82) ?_)
 intro w89 H90
 refine WL.nil (bN (bN ?_))
 have H91 := H90.pk [1, 0, 2]
 exact Fin.round (remI (z55 + 1) p0.xP.ls.length, (List.set l56 (Int.toNat z55) (PlaceD.mk x81.xFull x81.xId x81.xPins x81.xBytes false x81.xDirty x81.xLsn)), f73) ⟨rfl, rfl, rfl, trivial⟩ (dm65.2 ⟨H91, by first | omega | (simp only [List.length_set] <;> omega) | (simp only [List.length_replicate]), by first | assumption | exact unr_true (by assumption) (by assumption) | (refine unr_set (x := ?x) (by assumption) ?h1 ?h2; (case h1 => assumption); (case h2 => rfl)), by omega, by first | rfl | omega | (simp only [List.length_set] <;> omega), by first | assumption | exact rs_rep (Nat.zero_le _) | exact rs_set (by assumption) (Nat.zero_le _) | exact rs_set (by assumption) (by omega) | exact rs_set (by assumption) (by dsimp only; omega), by first | omega | exact tmr_pin (by assumption) (by assumption) (by assumption) (by omega) (by omega) (hand_next (by omega) (by omega)) (by omega) | (refine tmr_touch (x := ?x) (by assumption) ?h1 ?h2 ?h3 ?h4 ?h5 (by omega); (case h1 => assumption); (case h2 => assumption); (case h3 => assumption); (case h4 => rfl); (case h5 => rfl)), Eq.trans (hq66) (Eq.trans (bnd_of (getD_of hx82)) (Eq.trans (if_neg h85) (if_pos h87)))⟩) (by show f73 < f73 + 1; omega)
 refine jF h87 (Wp.seq (sr (Mz rfl (Mz rfl ?_))))
 have hn92 : p0.xP.ls.length = l56.length := by first | omega | (simp only [List.length_set]; done) | (simp only [List.length_set, List.length_append, List.length_cons, List.length_nil, List.length_take, List.length_drop, List.length_replicate]; omega)
 have H93 : Own w D w79 [blk g0 [.slice A0x0 l56.length c0x0, .int .i64 (remI (z55 + 1) p0.xP.ls.length), .pointer (some ⟨g0l0, 0, none⟩)] 51, row A0x0 l56.length c0x0 (List.flatMap PlaceD.cells l56) 78 7, BackO g0l0 p0l0] := by rw [← hn92]; exact H80
 obtain ⟨⟨r99, r100, r101⟩, hr102⟩ : ∃ q : Int × CacheDT × BackT, r10_Cache_back (CacheDT.mk (Ll.mk l56) (remI (z55 + 1) p0.xP.ls.length)) z55 p0l0 = q := ⟨_, rfl⟩
 obtain ⟨D94, HP95, ro96, bk97, rr98⟩ := Own.enter3 H93
 refine cl Try.call29 (r10_Cache_back_ok _ _ g0 (CacheDT.mk (Ll.mk l56) (remI (z55 + 1) p0.xP.ls.length)) A0x0 c0x0 z55 g0l0 p0l0 r99 r100 r101 HP95 (by first | omega | (dsimp only; omega) | (simp only [List.length_set, List.length_replicate] <;> omega)) (by first | omega | (dsimp only; omega) | (dsimp only; simp only [List.length_set, List.length_replicate] <;> omega)) (by first | assumption | exact rs_rep (Nat.zero_le _)) (by first | omega | (dsimp only; omega)) (by first | omega | (dsimp only; omega)) hr102) ?_
 rintro _ w103 ⟨A106, c107, rfl, HQ104, hk108, hk109, hk110, hk111, hk112⟩
 have H105 := bk97 _ _ HQ104
 have hb113 := H105.rowC (i := 1) rfl
 replace hk108 : r100.xP.ls.length = l56.length := hk108
 replace hk109 : RsOk r100.xP.ls := hk109
 replace hk110 : 0 ≤ r100.xHand ∧ r100.xHand < ((r100.xP.ls.length : Nat) : Int) := hk110
 replace hk111 : r101.xCalls.length ≤ p0l0.xCalls.length + 2 := hk111
 replace hk112 : r100.xHand = (remI (z55 + 1) p0.xP.ls.length) := hk112
 refine Ar rfl (Mz rfl (fw (.bool (decide (¬ (r99 = 0)))) (Yl.bool (e := !(decide (r99 = 0))) yk decide_not.symm) (nt ?_)))
 by_cases h114 : r99 = 0
 refine jF (dF (not_not_intro h114)) (sk (sr (Mz rfl (Kz (.pointer (some ⟨g0, 0, none⟩)) (Kz (.pointer (some ⟨g0, 0, none⟩)) (Lz (.slice A106 r100.xP.ls.length c107) H105 0 Try.isAgg49 (fw (.int .i64 ((Int.toNat z55 : Nat) : Int)) (Yl.int (e := z55) (Yl.move rfl) (by omega)) (Kz (.agg #[.bool false, .int .i64 0, .int .i64 0, .string ⟨List.toArray ([])⟩, .bool false, .bool false, .int .u64 0]) ?_))))))))
 obtain ⟨x115, hx116⟩ := rds_at (ls := r100.xP.ls) (i := Int.toNat z55) PlaceD.len (by decide) (H105.rds (i := 1) rfl) (by first | omega | (simp; done) | (simp; omega))
 have hb118 : RsOk r100.xP.ls := by first | assumption | exact rs_rep (Nat.zero_le _) | exact rs_set (by assumption) (Nat.zero_le _) | exact rs_set (by assumption) (by omega) | exact rs_set (by assumption) (by dsimp only; omega)
 have hz117 : x115.xBytes.length ≤ 140737488351232 := rs_at hb118 hx116
 refine fw (.pointer (some ⟨ab A106, ao A106 + (Int.toNat z55) * 7, none⟩)) (Yl.indexAddr (El49) rfl rfl ((H105.rds (i := 1) rfl).addr (i := Int.toNat z55) (by omega)) (by omega)) ?_
 have H119 := H105.pk [1, 0, 2]
 refine WL.do0 (Do.storeRow (vs := [.bool false, .int .i64 0, .int .i64 0, .string ⟨List.toArray ([])⟩, .bool false, .bool false, .int .u64 0]) (o := (Int.toNat z55) * 7 + 0) (q := ao A106 + (Int.toNat z55) * 7) H119 rfl (by omega) rfl Try.sizeOf78 rfl rfl (Nat.le_of_ble_eq_true rfl) (store_fits PlaceD.len hx116 (Nat.le_of_ble_eq_true rfl)) (flat_set (y := (PlaceD.mk false 0 0 ([]) false false 0)) PlaceD.len rfl (Nat.le_of_ble_eq_true rfl) hx116) ?_)
 intro w120 H121
 refine ns (Mz rfl (Az rfl (An rfl (rt (bR (bR (tR (bR (Fin.res (res2 rfl rfl rfl) ?_)))))))))
 have hn122 : r100.xP.ls.length = List.length (List.set r100.xP.ls (Int.toNat z55) (PlaceD.mk false 0 0 ([]) false false 0)) := by first | omega | (simp only [List.length_set]; done) | (simp only [List.length_set, List.length_append, List.length_cons, List.length_nil, List.length_take, List.length_drop, List.length_replicate]; omega)
 have H123 : Own w D w120 [row A106 (List.length (List.set r100.xP.ls (Int.toNat z55) (PlaceD.mk false 0 0 ([]) false false 0))) c107 (List.flatMap PlaceD.cells (List.set r100.xP.ls (Int.toNat z55) (PlaceD.mk false 0 0 ([]) false false 0))) 78 7, blk g0 [.slice A106 (List.length (List.set r100.xP.ls (Int.toNat z55) (PlaceD.mk false 0 0 ([]) false false 0))) c107, .int .i64 r100.xHand, .pointer (some ⟨g0l0, 0, none⟩)] 51, BackO g0l0 r101] := by rw [← hn122]; exact H121
 have H124 := H123.pk [1, 0, 2]
 have e : r10_Cache_free p0 p0l0 = (z55, 0, CacheDT.mk (Ll.mk (List.set r100.xP.ls (Int.toNat z55) (PlaceD.mk false 0 0 ([]) false false 0))) r100.xHand, r101) := et (lp_l hL52) (et (ifF h53) (lp_r (et (hq66) (et (bnd_of (getD_of hx82)) (et (iN h85) (et (ifF h87) (et (bnd_of hr102) (ip h114))))))))
 obtain ⟨rfl, rfl, rfl, rfl⟩ := pj4 (e.symm.trans hr)
 exact ⟨A106, c107, (by first | rw [← hn92] | skip; first | rw [← hn122] | skip; first | done | rfl), H124, (by first | rfl | omega | (simp only [List.length_set] <;> omega)), (by first | assumption | exact rs_rep (Nat.zero_le _) | exact rs_set (by assumption) (Nat.zero_le _) | exact rs_set (by assumption) (by omega) | exact rs_set (by assumption) (by dsimp only; omega)), (by first | omega | (dsimp only; omega) | (dsimp only; simp only [List.length_set] <;> omega)), (by first | omega | (dsimp only; omega)), (by first | omega | (dsimp only; omega))⟩
 refine jT (dT h114) (sr (Mz rfl (Az rfl (An rfl (rt (tR (bR (bR (tR (bR (Fin.res (res2 rfl rfl rfl) ?_)))))))))))
 have H125 := H105.pk [0, 1, 2]
 have e : r10_Cache_free p0 p0l0 = (0, r99, r100, r101) := et (lp_l hL52) (et (ifF h53) (lp_r (et (hq66) (et (bnd_of (getD_of hx82)) (et (iN h85) (et (ifF h87) (et (bnd_of hr102) (iN h114))))))))
 obtain ⟨rfl, rfl, rfl, rfl⟩ := pj4 (e.symm.trans hr)
 exact ⟨A106, c107, (by first | rfl | (rw [← hn92]; done) | (rw [← hn92]; rfl)), H125, (by first | rfl | omega | (simp only [List.length_set] <;> omega)), (by first | assumption | exact rs_rep (Nat.zero_le _) | exact rs_set (by assumption) (Nat.zero_le _) | exact rs_set (by assumption) (by omega) | exact rs_set (by assumption) (by dsimp only; omega)), (by first | omega | (dsimp only; omega) | (dsimp only; simp only [List.length_set] <;> omega)), (by first | omega | (dsimp only; omega)), (by first | omega | (dsimp only; omega))⟩

def r10_Cache_Pin (p0 : CacheDT) (p1 : Int) (p0l0 : BackT) : (List UInt8) × Int × CacheDT × BackT :=
 bnd (r10_Cache_find p0 p1 p0l0) fun yr28 => if yr28 ≥ 0 then bnd (List.getD p0.xP.ls (Int.toNat yr28) default) fun yx35 => bnd (List.getD (List.set p0.xP.ls (Int.toNat yr28) (PlaceD.mk yx35.xFull yx35.xId (IntKind.i64.wrap (yx35.xPins + 1)) yx35.xBytes yx35.xTouched yx35.xDirty yx35.xLsn)) (Int.toNat yr28) default) fun yx42 => bnd (List.getD (List.set (List.set p0.xP.ls (Int.toNat yr28) (PlaceD.mk yx35.xFull yx35.xId (IntKind.i64.wrap (yx35.xPins + 1)) yx35.xBytes yx35.xTouched yx35.xDirty yx35.xLsn)) (Int.toNat yr28) (PlaceD.mk yx42.xFull yx42.xId yx42.xPins yx42.xBytes true yx42.xDirty yx42.xLsn)) (Int.toNat yr28) default) fun yx48 => (yx48.xBytes, 0, CacheDT.mk (Ll.mk (List.set (List.set p0.xP.ls (Int.toNat yr28) (PlaceD.mk yx35.xFull yx35.xId (IntKind.i64.wrap (yx35.xPins + 1)) yx35.xBytes yx35.xTouched yx35.xDirty yx35.xLsn)) (Int.toNat yr28) (PlaceD.mk yx42.xFull yx42.xId yx42.xPins yx42.xBytes true yx42.xDirty yx42.xLsn))) p0.xHand, p0l0) else bnd (r10_Cache_free p0 p0l0) fun yr61 => if yr61.2.1 = 0 then bnd (r10_Back_Load yr61.2.2.2 p1) fun yr84 => if yr84.2.1 = 0 then (yr84.1, 0, CacheDT.mk (Ll.mk (List.set yr61.2.2.1.xP.ls (Int.toNat yr61.1) (PlaceD.mk true p1 1 yr84.1 true false 0))) yr61.2.2.1.xHand, yr84.2.2) else ([], yr84.2.1, yr61.2.2.1, yr84.2.2) else ([], yr61.2.1, yr61.2.2.1, yr61.2.2.2)

set_option maxRecDepth 100000 in
theorem r10_Cache_Pin_ok (w : World) (D : Nat → Prop) (g0 : Nat) (p0 : CacheDT) (A0x0 : Option Addr) (c0x0 : Nat) (p1 : Int) (g0l0 : Nat) (p0l0 : BackT) (r0 : List UInt8) (r1 : Int) (r2 : CacheDT) (r3 : BackT) (H : Own w D w [blk g0 [.slice A0x0 p0.xP.ls.length c0x0, .int .i64 p0.xHand, .pointer (some ⟨g0l0, 0, none⟩)] 51, row A0x0 p0.xP.ls.length c0x0 (List.flatMap PlaceD.cells p0.xP.ls) 78 7, BackO g0l0 p0l0]) (hh0 : 1 ≤ p0.xP.ls.length ∧ p0.xP.ls.length ≤ 64) (hh1 : 0 ≤ p0.xHand ∧ p0.xHand < ((p0.xP.ls.length : Nat) : Int)) (hh2 : RsOk p0.xP.ls) (hh3 : p0l0.xCalls.length ≤ 100000) (hr : r10_Cache_Pin p0 p1 p0l0 = (r0, r1, r2, r3)) :
    Calls Try.prog 11 #[.pointer (some ⟨g0, 0, none⟩), .int .i64 p1] w (Ret fun v w' => ∃ (B2ox0 : Option Addr) (b2ox0 : Nat), v = .tuple #[.string ⟨List.toArray r0⟩, .int .i64 r1] ∧ Own w D w' [blk g0 [.slice B2ox0 r2.xP.ls.length b2ox0, .int .i64 r2.xHand, .pointer (some ⟨g0l0, 0, none⟩)] 51, row B2ox0 r2.xP.ls.length b2ox0 (List.flatMap PlaceD.cells r2.xP.ls) 78 7, BackO g0l0 r3] ∧ (r2.xP.ls.length = p0.xP.ls.length) ∧ (RsOk r2.xP.ls) ∧ (r3.xCalls.length ≤ p0l0.xCalls.length + 3) ∧ (0 ≤ r2.xHand ∧ r2.xHand < ((r2.xP.ls.length : Nat) : Int))) := by
 have hc0x0 := H.rowC (i := 1) rfl
 refine Calls.body (args := [.pointer (some ⟨g0, 0, none⟩), .int .i64 p1]) Try.func11 rfl rfl rfl ?_
 show Wp _ _ _ [(0, .pointer (some ⟨g0, 0, none⟩)), (1, .int .i64 p1)] _ _
 refine sr (Az rfl (Ar rfl (Mz rfl (Mz rfl ?_))))
 have H21 : Own w D w [blk g0 [.slice A0x0 p0.xP.ls.length c0x0, .int .i64 p0.xHand, .pointer (some ⟨g0l0, 0, none⟩)] 51, BackO g0l0 p0l0, row A0x0 p0.xP.ls.length c0x0 (List.flatMap PlaceD.cells p0.xP.ls) 78 7] := H.pk [0, 2, 1]
 have hb27 := H21.rowC (i := 2) rfl
 obtain ⟨r28, hr29⟩ : ∃ q, r10_Cache_find p0 p1 p0l0 = q := ⟨_, rfl⟩
 obtain ⟨D22, HP23, ro24, bk25, rr26⟩ := Own.enter2 H21
 refine cl Try.call24 (r10_Cache_find_ok _ _ g0 p0 A0x0 c0x0 p1 g0l0 p0l0 r28 HP23 (rr26 _ 0 _ rfl row_rds) (show p0.xP.ls.length ≤ c0x0 ∧ p0.xP.ls.length ≤ 9223372036854775807 from by omega) (by first | omega | (dsimp only; omega) | (simp only [List.length_set, List.length_replicate] <;> omega)) hr29) ?_
 rintro _ w30 ⟨rfl, HQ31, hk33⟩
 have H32 := bk25 _ _ HQ31
 replace hk33 : -1 ≤ r28 ∧ r28 < ((p0.xP.ls.length : Nat) : Int) := hk33
 refine An rfl (Wp.seq (sr (Mz rfl (Kz (.bool (decide (r28 ≥ 0))) (nt ?_)))))
 by_cases h34 : r28 ≥ 0
 refine jT (dT h34) (sr (Mz rfl (Kz (.pointer (some ⟨g0, 0, none⟩)) (Kz (.pointer (some ⟨g0, 0, none⟩)) (Lz (.slice A0x0 p0.xP.ls.length c0x0) H32 0 Try.isAgg49 (fw (.int .i64 ((Int.toNat r28 : Nat) : Int)) (Yl.int (e := r28) (Yl.move rfl) (by omega)) ?_))))))
 obtain ⟨x35, hx36⟩ := rds_at (ls := p0.xP.ls) (i := Int.toNat r28) PlaceD.len (by decide) (H32.rds (i := 2) rfl) (by first | omega | (simp; done) | (simp; omega))
 have hb38 : RsOk p0.xP.ls := by first | assumption | exact rs_rep (Nat.zero_le _) | exact rs_set (by assumption) (Nat.zero_le _) | exact rs_set (by assumption) (by omega) | exact rs_set (by assumption) (by dsimp only; omega)
 have hz37 : x35.xBytes.length ≤ 140737488351232 := rs_at hb38 hx36
 refine fw (.pointer (some ⟨ab A0x0, ao A0x0 + (Int.toNat r28) * 7, none⟩)) (Yl.indexAddr (El49) rfl rfl ((H32.rds (i := 2) rfl).addr (i := Int.toNat r28) (by omega)) (by omega)) (Kz (.pointer (some ⟨ab A0x0, ao A0x0 + (Int.toNat r28) * 7 + 2, none⟩)) (fw (.int .i64 x35.xPins) (Yl.load rfl (Lds.one Try.isAgg3 (((H32.rds (i := 2) rfl).elem PlaceD.len hx36 (by decide)).at_ (k := 2) rfl))) (Kz (.int .i64 (IntKind.i64.wrap (x35.xPins + 1))) (fw (.pointer (some ⟨ab A0x0, ao A0x0 + (Int.toNat r28) * 7, none⟩)) (Yl.indexAddr (El49) rfl rfl ((H32.rds (i := 2) rfl).addr (i := Int.toNat r28) (by omega)) (by omega)) (Kz (.pointer (some ⟨ab A0x0, ao A0x0 + (Int.toNat r28) * 7 + 2, none⟩)) ?_)))))
 have H39 := H32.pk [2, 0, 1]
 refine WL.do0 (Do.storeRow (vs := [.int .i64 (IntKind.i64.wrap (x35.xPins + 1))]) (o := (Int.toNat r28) * 7 + 2) (q := ao A0x0 + (Int.toNat r28) * 7 + 2) H39 rfl (by omega) rfl Try.sizeOf3 rfl rfl (Nat.le_of_ble_eq_true rfl) (store_fits PlaceD.len hx36 (Nat.le_of_ble_eq_true rfl)) (flat_set (y := (PlaceD.mk x35.xFull x35.xId (IntKind.i64.wrap (x35.xPins + 1)) x35.xBytes x35.xTouched x35.xDirty x35.xLsn)) PlaceD.len rfl (Nat.le_of_ble_eq_true rfl) hx36) ?_)
 intro w40 H41
 refine ns (Mz rfl (Kz (.pointer (some ⟨g0, 0, none⟩)) (Kz (.pointer (some ⟨g0, 0, none⟩)) (Lz (.slice A0x0 p0.xP.ls.length c0x0) H41 1 Try.isAgg49 (fw (.int .i64 ((Int.toNat r28 : Nat) : Int)) (Yl.int (e := r28) (Yl.move rfl) (by omega)) ?_)))))
 obtain ⟨x42, hx43⟩ := rds_at (ls := (List.set p0.xP.ls (Int.toNat r28) (PlaceD.mk x35.xFull x35.xId (IntKind.i64.wrap (x35.xPins + 1)) x35.xBytes x35.xTouched x35.xDirty x35.xLsn))) (i := Int.toNat r28) PlaceD.len (by decide) (H41.rds (i := 0) rfl) (by first | omega | (simp; done) | (simp; omega))
 have hb45 : RsOk (List.set p0.xP.ls (Int.toNat r28) (PlaceD.mk x35.xFull x35.xId (IntKind.i64.wrap (x35.xPins + 1)) x35.xBytes x35.xTouched x35.xDirty x35.xLsn)) := by first | assumption | exact rs_rep (Nat.zero_le _) | exact rs_set (by assumption) (Nat.zero_le _) | exact rs_set (by assumption) (by omega) | exact rs_set (by assumption) (by dsimp only; omega)
 have hz44 : x42.xBytes.length ≤ 140737488351232 := rs_at hb45 hx43
 refine fw (.pointer (some ⟨ab A0x0, ao A0x0 + (Int.toNat r28) * 7, none⟩)) (Yl.indexAddr (El49) rfl rfl ((H41.rds (i := 0) rfl).addr (i := Int.toNat r28) (by omega)) (by omega)) (Kz (.pointer (some ⟨ab A0x0, ao A0x0 + (Int.toNat r28) * 7 + 4, none⟩)) ?_)
 refine WL.do0 (Do.storeRow (vs := [.bool true]) (o := (Int.toNat r28) * 7 + 4) (q := ao A0x0 + (Int.toNat r28) * 7 + 4) H41 rfl (by omega) rfl Try.sizeOf4 rfl rfl (Nat.le_of_ble_eq_true rfl) (store_fits PlaceD.len hx43 (Nat.le_of_ble_eq_true rfl)) (flat_set (y := (PlaceD.mk x42.xFull x42.xId x42.xPins x42.xBytes true x42.xDirty x42.xLsn)) PlaceD.len rfl (Nat.le_of_ble_eq_true rfl) hx43) ?_)
 intro w46 H47
 refine ns (Mz rfl (Kz (.pointer (some ⟨g0, 0, none⟩)) (Kz (.pointer (some ⟨g0, 0, none⟩)) (Lz (.slice A0x0 p0.xP.ls.length c0x0) H47 1 Try.isAgg49 (fw (.int .i64 ((Int.toNat r28 : Nat) : Int)) (Yl.int (e := r28) (Yl.move rfl) (by omega)) ?_)))))
 obtain ⟨x48, hx49⟩ := rds_at (ls := (List.set (List.set p0.xP.ls (Int.toNat r28) (PlaceD.mk x35.xFull x35.xId (IntKind.i64.wrap (x35.xPins + 1)) x35.xBytes x35.xTouched x35.xDirty x35.xLsn)) (Int.toNat r28) (PlaceD.mk x42.xFull x42.xId x42.xPins x42.xBytes true x42.xDirty x42.xLsn))) (i := Int.toNat r28) PlaceD.len (by decide) (H47.rds (i := 0) rfl) (by first | omega | (simp; done) | (simp; omega))
 have hb51 : RsOk (List.set (List.set p0.xP.ls (Int.toNat r28) (PlaceD.mk x35.xFull x35.xId (IntKind.i64.wrap (x35.xPins + 1)) x35.xBytes x35.xTouched x35.xDirty x35.xLsn)) (Int.toNat r28) (PlaceD.mk x42.xFull x42.xId x42.xPins x42.xBytes true x42.xDirty x42.xLsn)) := by first | assumption | exact rs_rep (Nat.zero_le _) | exact rs_set (by assumption) (Nat.zero_le _) | exact rs_set (by assumption) (by omega) | exact rs_set (by assumption) (by dsimp only; omega)
 have hz50 : x48.xBytes.length ≤ 140737488351232 := rs_at hb51 hx49
 refine fw (.pointer (some ⟨ab A0x0, ao A0x0 + (Int.toNat r28) * 7, none⟩)) (Yl.indexAddr (El49) rfl rfl ((H47.rds (i := 0) rfl).addr (i := Int.toNat r28) (by omega)) (by omega)) (Kz (.pointer (some ⟨ab A0x0, ao A0x0 + (Int.toNat r28) * 7 + 3, none⟩)) (fw (.string ⟨List.toArray x48.xBytes⟩) (Yl.load rfl (Lds.one Try.isAgg9 (((H47.rds (i := 0) rfl).elem PlaceD.len hx49 (by decide)).at_ (k := 3) rfl))) (Az rfl (An rfl (rt (tR (Fin.res (res2 rfl rfl rfl) ?_)))))))
 have hn52 : p0.xP.ls.length = List.length (List.set (List.set p0.xP.ls (Int.toNat r28) (PlaceD.mk x35.xFull x35.xId (IntKind.i64.wrap (x35.xPins + 1)) x35.xBytes x35.xTouched x35.xDirty x35.xLsn)) (Int.toNat r28) (PlaceD.mk x42.xFull x42.xId x42.xPins x42.xBytes true x42.xDirty x42.xLsn)) := by first | omega | (simp only [List.length_set]; done) | (simp only [List.length_set, List.length_append, List.length_cons, List.length_nil, List.length_take, List.length_drop, List.length_replicate]; omega)
 have H53 : Own w D w46 [row A0x0 (List.length (List.set (List.set p0.xP.ls (Int.toNat r28) (PlaceD.mk x35.xFull x35.xId (IntKind.i64.wrap (x35.xPins + 1)) x35.xBytes x35.xTouched x35.xDirty x35.xLsn)) (Int.toNat r28) (PlaceD.mk x42.xFull x42.xId x42.xPins x42.xBytes true x42.xDirty x42.xLsn))) c0x0 (List.flatMap PlaceD.cells (List.set (List.set p0.xP.ls (Int.toNat r28) (PlaceD.mk x35.xFull x35.xId (IntKind.i64.wrap (x35.xPins + 1)) x35.xBytes x35.xTouched x35.xDirty x35.xLsn)) (Int.toNat r28) (PlaceD.mk x42.xFull x42.xId x42.xPins x42.xBytes true x42.xDirty x42.xLsn))) 78 7, blk g0 [.slice A0x0 (List.length (List.set (List.set p0.xP.ls (Int.toNat r28) (PlaceD.mk x35.xFull x35.xId (IntKind.i64.wrap (x35.xPins + 1)) x35.xBytes x35.xTouched x35.xDirty x35.xLsn)) (Int.toNat r28) (PlaceD.mk x42.xFull x42.xId x42.xPins x42.xBytes true x42.xDirty x42.xLsn))) c0x0, .int .i64 p0.xHand, .pointer (some ⟨g0l0, 0, none⟩)] 51, BackO g0l0 p0l0] := by rw [← hn52]; exact H47
 have H54 := H53.pk [1, 0, 2]
 have e : r10_Cache_Pin p0 p1 p0l0 = (x48.xBytes, 0, CacheDT.mk (Ll.mk (List.set (List.set p0.xP.ls (Int.toNat r28) (PlaceD.mk x35.xFull x35.xId (IntKind.i64.wrap (x35.xPins + 1)) x35.xBytes x35.xTouched x35.xDirty x35.xLsn)) (Int.toNat r28) (PlaceD.mk x42.xFull x42.xId x42.xPins x42.xBytes true x42.xDirty x42.xLsn))) p0.xHand, p0l0) := et (bnd_of hr29) (et (ip h34) (et (bnd_of (getD_of hx36)) (et (bnd_of (getD_of hx43)) (bnd_of (getD_of hx49)))))
 obtain ⟨rfl, rfl, rfl, rfl⟩ := pj4 (e.symm.trans hr)
 exact ⟨A0x0, c0x0, (by first | rfl | (rw [← hn52]; done) | (rw [← hn52]; rfl)), H54, (by first | rfl | omega | (simp only [List.length_set] <;> omega)), (by first | assumption | exact rs_rep (Nat.zero_le _) | exact rs_set (by assumption) (Nat.zero_le _) | exact rs_set (by assumption) (by omega) | exact rs_set (by assumption) (by dsimp only; omega)), (by first | omega | (dsimp only; omega)), (by first | omega | (dsimp only; omega) | (dsimp only; simp only [List.length_set] <;> omega))⟩
 refine jF (dF h34) (sk (sr (Mz rfl ?_)))
 have H55 := H32.pk [0, 2, 1]
 obtain ⟨⟨r61, r62, r63, r64⟩, hr65⟩ : ∃ q : Int × Int × CacheDT × BackT, r10_Cache_free p0 p0l0 = q := ⟨_, rfl⟩
 obtain ⟨D56, HP57, ro58, bk59, rr60⟩ := Own.enter3 H55
 refine cl Try.call25 (r10_Cache_free_ok _ _ g0 p0 A0x0 c0x0 g0l0 p0l0 r61 r62 r63 r64 HP57 (by first | omega | (dsimp only; omega) | (simp only [List.length_set, List.length_replicate] <;> omega)) (by first | omega | (dsimp only; omega) | (dsimp only; simp only [List.length_set, List.length_replicate] <;> omega)) (by first | assumption | exact rs_rep (Nat.zero_le _)) (by first | omega | (dsimp only; omega)) hr65) ?_
 rintro _ w66 ⟨A69, c70, rfl, HQ67, hk71, hk72, hk73, hk74, hk75⟩
 have H68 := bk59 _ _ HQ67
 have hb76 := H68.rowC (i := 1) rfl
 replace hk71 : r63.xP.ls.length = p0.xP.ls.length := hk71
 replace hk72 : RsOk r63.xP.ls := hk72
 replace hk73 : 0 ≤ r63.xHand ∧ r63.xHand < ((r63.xP.ls.length : Nat) : Int) := hk73
 replace hk74 : r64.xCalls.length ≤ p0l0.xCalls.length + 2 := hk74
 replace hk75 : 0 ≤ r61 ∧ r61 < ((p0.xP.ls.length : Nat) : Int) := hk75
 refine Mz rfl (Kz (.int .i64 r61) (Kz (.int .i64 r62) (Az rfl (An rfl (Wp.seq (sr (Mz rfl (fw (.bool (decide (¬ (r62 = 0)))) (Yl.bool (e := !(decide (r62 = 0))) yk decide_not.symm) (nt ?_)))))))))
 by_cases h77 : r62 = 0
 refine jF (dF (not_not_intro h77)) (sk (sr (Mz rfl (Kz (.pointer (some ⟨g0, 0, none⟩)) (Kz (.pointer (some ⟨g0, 2, none⟩)) (Lz (.pointer (some ⟨g0l0, 0, none⟩)) H68 0 Try.isAgg24 (Mz rfl ?_)))))))
 have H78 := H68.pk [2, 0, 1]
 obtain ⟨⟨r84, r85, r86⟩, hr87⟩ : ∃ q : (List UInt8) × Int × BackT, r10_Back_Load r64 p1 = q := ⟨_, rfl⟩
 obtain ⟨D79, HP80, ro81, bk82, rr83⟩ := Own.enter1 H78
 refine cl Try.call26 (r10_Back_Load_ok _ _ g0l0 r64 p1 r84 r85 r86 HP80 (by first | omega | (dsimp only; omega)) hr87) ?_
 rintro _ w88 ⟨A91, c92, rfl, HQ89, hk93, hk94⟩
 have H90 := bk82 _ _ HQ89
 have hb95 := H90.rowC (i := 0) rfl
 replace hk93 : r86.xCalls.length = r64.xCalls.length + 1 := hk93
 replace hk94 : r84.length ≤ 140737488351232 := hk94
 refine Mz rfl (Kz (.slice A91 r84.length c92) (Kz (.int .i64 r85) (Az rfl (An rfl (Wp.seq (sr (Mz rfl (fw (.bool (decide (¬ (r85 = 0)))) (Yl.bool (e := !(decide (r85 = 0))) yk decide_not.symm) (nt ?_)))))))))
 by_cases h96 : r85 = 0
 refine jF (dF (not_not_intro h96)) (sk (Wp.seq ?_))
 have H98 := H90.drew
 refine Wp.drawnX [10] (fun W => ∃ L', Own w D W ([row A91 r84.length c92 (List.flatMap eB r84) 5 1, BackO g0l0 r86, blk g0 [.slice A69 r63.xP.ls.length c70, .int .i64 r63.xHand, .pointer (some ⟨g0l0, 0, none⟩)] 51, row A69 r63.xP.ls.length c70 (List.flatMap PlaceD.cells r63.xP.ls) 78 7] ++ L')) (by kernel_rfl) (by kernel_rfl) (NoP.then NoP.base) ⟨_, H98⟩ ?_
 revert H98
 generalize World.drew w88 = w97
 intro H98
 refine GX.take (v := .pointer (some ⟨g0, 0, none⟩)) (rs := [[]]) 0 rfl (by kernel_rfl) (fun _ _ => Yl.move rfl) (GX.take (v := .pointer (some ⟨g0, 0, none⟩)) (rs := [[]]) 1 rfl (by kernel_rfl) (fun _ _ => yk) (GX.take (v := .pointer (some ⟨g0, 0, none⟩)) (rs := [[]]) 2 rfl (by kernel_rfl) (fun _ _ => yk) (GX.take (v := .slice A69 r63.xP.ls.length c70) (rs := [[]]) 3 rfl (by kernel_rfl) (fun _ ⟨_, H9⟩ => Yl.load rfl (Lds.one Try.isAgg49 (Cls.of (H9.cls (i := 2) rfl) rfl))) (GX.take (v := .int .i64 ((Int.toNat r61 : Nat) : Int)) (rs := [[]]) 4 rfl (by kernel_rfl) (fun _ _ => Yl.int (e := r61) (Yl.move rfl) (by omega)) (GX.take (v := .int .i64 p1) (rs := [[]]) 5 rfl (by kernel_rfl) (fun _ _ => Yl.move rfl) (GX.take (v := .slice A91 r84.length c92) (rs := [[]]) 6 rfl (by kernel_rfl) (fun _ _ => Yl.move rfl) (GX.take (v := .string ⟨List.toArray r84⟩) (rs := [[]]) 7 rfl (by kernel_rfl) (fun _ ⟨_, H9⟩ => Yl.toStringE (l := r84) Try.underlying36 Try.underlying5 Try.underlying9 (H9.rds (i := 0) rfl) rfl) (GX.take (v := .agg #[.bool true, .int .i64 p1, .int .i64 1, .string ⟨List.toArray r84⟩, .bool true, .bool false, .int .u64 0]) (rs := [[]]) 8 rfl (by kernel_rfl) (fun _ _ => yk) ?_))))))))
 obtain ⟨x99, hx100⟩ := at_of (ls := r63.xP.ls) (i := Int.toNat r61) (by first | omega | (simp; done) | (simp; omega))
 have hb102 : RsOk r63.xP.ls := by first | assumption | exact rs_rep (Nat.zero_le _) | exact rs_set (by assumption) (Nat.zero_le _) | exact rs_set (by assumption) (by omega) | exact rs_set (by assumption) (by dsimp only; omega)
 have hz101 : x99.xBytes.length ≤ 140737488351232 := rs_at hb102 hx100
 refine GX.take (v := .pointer (some ⟨ab A69, ao A69 + (Int.toNat r61) * 7, none⟩)) (rs := [[]]) 9 rfl (by kernel_rfl) (fun _ ⟨_, H9⟩ => Yl.indexAddr (El49) rfl rfl ((H9.rds (i := 3) rfl).addr (i := Int.toNat r61) (by omega)) (by omega)) ?_
 have H103 := H98.pk [3, 0, 1, 2]
 refine GX.do0 10 rfl (by kernel_rfl) (Do.storeRow (vs := [.bool true, .int .i64 p1, .int .i64 1, .string ⟨List.toArray r84⟩, .bool true, .bool false, .int .u64 0]) (o := (Int.toNat r61) * 7 + 0) (q := ao A69 + (Int.toNat r61) * 7) H103 rfl (by omega) rfl Try.sizeOf78 rfl rfl (Nat.le_of_ble_eq_true rfl) (store_fits PlaceD.len hx100 (Nat.le_of_ble_eq_true rfl)) (flat_set (y := (PlaceD.mk true p1 1 r84 true false 0)) PlaceD.len rfl (Nat.le_of_ble_eq_true rfl) hx100) ?_)
 intro w104 H105
 refine ⟨.inl (by kernel_rfl), ?_⟩
 refine GX.done (by kernel_rfl) (Fin.then (sr (Mz rfl (fw (.string ⟨List.toArray r84⟩) (Yl.toStringE (l := r84) Try.underlying36 Try.underlying5 Try.underlying9 (H105.rds (i := 1) rfl) rfl) (Az rfl (An rfl (rt (Fin.res (res2 rfl rfl rfl) ?_))))))))
 have hn106 : r63.xP.ls.length = List.length (List.set r63.xP.ls (Int.toNat r61) (PlaceD.mk true p1 1 r84 true false 0)) := by first | omega | (simp only [List.length_set]; done) | (simp only [List.length_set, List.length_append, List.length_cons, List.length_nil, List.length_take, List.length_drop, List.length_replicate]; omega)
 have H107 : Own w D w104 [row A69 (List.length (List.set r63.xP.ls (Int.toNat r61) (PlaceD.mk true p1 1 r84 true false 0))) c70 (List.flatMap PlaceD.cells (List.set r63.xP.ls (Int.toNat r61) (PlaceD.mk true p1 1 r84 true false 0))) 78 7, row A91 r84.length c92 (List.flatMap eB r84) 5 1, BackO g0l0 r86, blk g0 [.slice A69 (List.length (List.set r63.xP.ls (Int.toNat r61) (PlaceD.mk true p1 1 r84 true false 0))) c70, .int .i64 r63.xHand, .pointer (some ⟨g0l0, 0, none⟩)] 51] := by rw [← hn106]; exact H105
 have H108 := H107.pk [3, 0, 2]
 have e : r10_Cache_Pin p0 p1 p0l0 = (r84, 0, CacheDT.mk (Ll.mk (List.set r63.xP.ls (Int.toNat r61) (PlaceD.mk true p1 1 r84 true false 0))) r63.xHand, r86) := et (bnd_of hr29) (et (iN h34) (et (bnd_of hr65) (et (ip h77) (et (bnd_of hr87) (ip h96)))))
 obtain ⟨rfl, rfl, rfl, rfl⟩ := pj4 (e.symm.trans hr)
 exact ⟨A69, c70, (by first | rfl | (rw [← hn106]; done) | (rw [← hn106]; rfl)), H108, (by first | rfl | omega | (simp only [List.length_set] <;> omega)), (by first | assumption | exact rs_rep (Nat.zero_le _) | exact rs_set (by assumption) (Nat.zero_le _) | exact rs_set (by assumption) (by omega) | exact rs_set (by assumption) (by dsimp only; omega)), (by first | omega | (dsimp only; omega)), (by first | omega | (dsimp only; omega) | (dsimp only; simp only [List.length_set] <;> omega))⟩
 refine jT (dT h96) (sr (Mz rfl (Az rfl (An rfl (rt (tR (Fin.res (res2 rfl rfl rfl) ?_)))))))
 have H109 := H90.pk [2, 3, 1]
 have e : r10_Cache_Pin p0 p1 p0l0 = ([], r85, r63, r86) := et (bnd_of hr29) (et (iN h34) (et (bnd_of hr65) (et (ip h77) (et (bnd_of hr87) (iN h96)))))
 obtain ⟨rfl, rfl, rfl, rfl⟩ := pj4 (e.symm.trans hr)
 exact ⟨A69, c70, rfl, H109, (by first | rfl | omega | (simp only [List.length_set] <;> omega)), (by first | assumption | exact rs_rep (Nat.zero_le _) | exact rs_set (by assumption) (Nat.zero_le _) | exact rs_set (by assumption) (by omega) | exact rs_set (by assumption) (by dsimp only; omega)), (by first | omega | (dsimp only; omega)), (by first | omega | (dsimp only; omega) | (dsimp only; simp only [List.length_set] <;> omega))⟩
 refine jT (dT h77) (sr (Mz rfl (Az rfl (An rfl (rt (tR (Fin.res (res2 rfl rfl rfl) ?_)))))))
 have H110 := H68.pk [0, 1, 2]
 have e : r10_Cache_Pin p0 p1 p0l0 = ([], r62, r63, r64) := et (bnd_of hr29) (et (iN h34) (et (bnd_of hr65) (iN h77)))
 obtain ⟨rfl, rfl, rfl, rfl⟩ := pj4 (e.symm.trans hr)
 exact ⟨A69, c70, rfl, H110, (by first | rfl | omega | (simp only [List.length_set] <;> omega)), (by first | assumption | exact rs_rep (Nat.zero_le _) | exact rs_set (by assumption) (Nat.zero_le _) | exact rs_set (by assumption) (by omega) | exact rs_set (by assumption) (by dsimp only; omega)), (by first | omega | (dsimp only; omega)), (by first | omega | (dsimp only; omega) | (dsimp only; simp only [List.length_set] <;> omega))⟩

def r10_Cache_Unpin (p0 : CacheDT) (p1 : Int) (p0l0 : BackT) : Int × CacheDT × BackT :=
 bnd (r10_Cache_find p0 p1 p0l0) fun yr28 => if yr28 < 0 then (5, p0, p0l0) else bnd (List.getD p0.xP.ls (Int.toNat yr28) default) fun yx36 => if yx36.xPins = 0 then (5, p0, p0l0) else (0, CacheDT.mk (Ll.mk (List.set p0.xP.ls (Int.toNat yr28) (PlaceD.mk yx36.xFull yx36.xId (IntKind.i64.wrap (yx36.xPins - 1)) yx36.xBytes yx36.xTouched yx36.xDirty yx36.xLsn))) p0.xHand, p0l0)

set_option maxRecDepth 100000 in
theorem r10_Cache_Unpin_ok (w : World) (D : Nat → Prop) (g0 : Nat) (p0 : CacheDT) (A0x0 : Option Addr) (c0x0 : Nat) (p1 : Int) (g0l0 : Nat) (p0l0 : BackT) (r0 : Int) (r1 : CacheDT) (r2 : BackT) (H : Own w D w [blk g0 [.slice A0x0 p0.xP.ls.length c0x0, .int .i64 p0.xHand, .pointer (some ⟨g0l0, 0, none⟩)] 51, row A0x0 p0.xP.ls.length c0x0 (List.flatMap PlaceD.cells p0.xP.ls) 78 7, BackO g0l0 p0l0]) (hh0 : 1 ≤ p0.xP.ls.length ∧ p0.xP.ls.length ≤ 64) (hh1 : 0 ≤ p0.xHand ∧ p0.xHand < ((p0.xP.ls.length : Nat) : Int)) (hh2 : RsOk p0.xP.ls) (hh3 : p0l0.xCalls.length ≤ 100000) (hr : r10_Cache_Unpin p0 p1 p0l0 = (r0, r1, r2)) :
    Calls Try.prog 13 #[.pointer (some ⟨g0, 0, none⟩), .int .i64 p1] w (Ret fun v w' => ∃ (B1ox0 : Option Addr) (b1ox0 : Nat), v = .int .i64 r0 ∧ Own w D w' [blk g0 [.slice B1ox0 r1.xP.ls.length b1ox0, .int .i64 r1.xHand, .pointer (some ⟨g0l0, 0, none⟩)] 51, row B1ox0 r1.xP.ls.length b1ox0 (List.flatMap PlaceD.cells r1.xP.ls) 78 7, BackO g0l0 r2] ∧ (r1.xP.ls.length = p0.xP.ls.length) ∧ (RsOk r1.xP.ls) ∧ (r2.xCalls.length ≤ p0l0.xCalls.length + 0) ∧ (0 ≤ r1.xHand ∧ r1.xHand < ((r1.xP.ls.length : Nat) : Int))) := by
 have hc0x0 := H.rowC (i := 1) rfl
 refine Calls.body (args := [.pointer (some ⟨g0, 0, none⟩), .int .i64 p1]) Try.func13 rfl rfl rfl ?_
 show Wp _ _ _ [(0, .pointer (some ⟨g0, 0, none⟩)), (1, .int .i64 p1)] _ _
 refine sr (Ar rfl (Mz rfl (Mz rfl ?_)))
 have H21 : Own w D w [blk g0 [.slice A0x0 p0.xP.ls.length c0x0, .int .i64 p0.xHand, .pointer (some ⟨g0l0, 0, none⟩)] 51, BackO g0l0 p0l0, row A0x0 p0.xP.ls.length c0x0 (List.flatMap PlaceD.cells p0.xP.ls) 78 7] := H.pk [0, 2, 1]
 have hb27 := H21.rowC (i := 2) rfl
 obtain ⟨r28, hr29⟩ : ∃ q, r10_Cache_find p0 p1 p0l0 = q := ⟨_, rfl⟩
 obtain ⟨D22, HP23, ro24, bk25, rr26⟩ := Own.enter2 H21
 refine cl Try.call24 (r10_Cache_find_ok _ _ g0 p0 A0x0 c0x0 p1 g0l0 p0l0 r28 HP23 (rr26 _ 0 _ rfl row_rds) (show p0.xP.ls.length ≤ c0x0 ∧ p0.xP.ls.length ≤ 9223372036854775807 from by omega) (by first | omega | (dsimp only; omega) | (simp only [List.length_set, List.length_replicate] <;> omega)) hr29) ?_
 rintro _ w30 ⟨rfl, HQ31, hk33⟩
 have H32 := bk25 _ _ HQ31
 replace hk33 : -1 ≤ r28 ∧ r28 < ((p0.xP.ls.length : Nat) : Int) := hk33
 refine An rfl (Wp.seq (sr (Mz rfl (Kz (.bool (decide (r28 < 0))) (Mz rfl ?_)))))
 by_cases h34 : r28 < 0
 refine Sz (dT h34) (Sz (dT h34) (Sz (dT h34) (Sz (dT h34) (Sz (dT h34) (Sz (dT h34) (Sz (dT h34) (Sz (dT h34) (Sz (dT h34) (fw (.bool true) (Yl.pickT rfl (dT h34) rfl) (nt (jt (sr (An rfl (rt (tR (rs ?_))))))))))))))))
 have H35 := H32.pk [0, 2, 1]
 have e : r10_Cache_Unpin p0 p1 p0l0 = (5, p0, p0l0) := et (bnd_of hr29) (ip h34)
 obtain ⟨rfl, rfl, rfl⟩ := pj3 (e.symm.trans hr)
 exact ⟨A0x0, c0x0, rfl, H35, (by first | rfl | omega | (simp only [List.length_set] <;> omega)), (by first | assumption | exact rs_rep (Nat.zero_le _) | exact rs_set (by assumption) (Nat.zero_le _) | exact rs_set (by assumption) (by omega) | exact rs_set (by assumption) (by dsimp only; omega)), (by first | omega | (dsimp only; omega)), (by first | omega | (dsimp only; omega) | (dsimp only; simp only [List.length_set] <;> omega))⟩
 refine gw (.pointer (some ⟨g0, 0, none⟩)) (dF h34) (Yl.move rfl) (Gz (.pointer (some ⟨g0, 0, none⟩)) (dF h34) (Gz (.pointer (some ⟨g0, 0, none⟩)) (dF h34) (Gl (.slice A0x0 p0.xP.ls.length c0x0) (dF h34) H32 0 Try.isAgg49 (gw (.int .i64 ((Int.toNat r28 : Nat) : Int)) (dF h34) (Yl.int (e := r28) (Yl.move rfl) (by omega)) ?_))))
 obtain ⟨x36, hx37⟩ := rds_at (ls := p0.xP.ls) (i := Int.toNat r28) PlaceD.len (by decide) (H32.rds (i := 2) rfl) (by first | omega | (simp; done) | (simp; omega))
 have hb39 : RsOk p0.xP.ls := by first | assumption | exact rs_rep (Nat.zero_le _) | exact rs_set (by assumption) (Nat.zero_le _) | exact rs_set (by assumption) (by omega) | exact rs_set (by assumption) (by dsimp only; omega)
 have hz38 : x36.xBytes.length ≤ 140737488351232 := rs_at hb39 hx37
 refine gw (.pointer (some ⟨ab A0x0, ao A0x0 + (Int.toNat r28) * 7, none⟩)) (dF h34) (Yl.indexAddr (El49) rfl rfl ((H32.rds (i := 2) rfl).addr (i := Int.toNat r28) (by omega)) (by omega)) (Gz (.pointer (some ⟨ab A0x0, ao A0x0 + (Int.toNat r28) * 7 + 2, none⟩)) (dF h34) (gw (.int .i64 x36.xPins) (dF h34) (Yl.load rfl (Lds.one Try.isAgg3 (((H32.rds (i := 2) rfl).elem PlaceD.len hx37 (by decide)).at_ (k := 2) rfl))) (Gz (.bool (decide (x36.xPins = 0))) (dF h34) (fw (.bool (decide (x36.xPins = 0))) (Yl.pickF rfl (dF h34) rfl) (nt ?_)))))
 by_cases h40 : x36.xPins = 0
 refine jT (dT h40) (sr (An rfl (rt (tR (rs ?_)))))
 have H41 := H32.pk [0, 2, 1]
 have e : r10_Cache_Unpin p0 p1 p0l0 = (5, p0, p0l0) := et (bnd_of hr29) (et (iN h34) (et (bnd_of (getD_of hx37)) (ip h40)))
 obtain ⟨rfl, rfl, rfl⟩ := pj3 (e.symm.trans hr)
 exact ⟨A0x0, c0x0, rfl, H41, (by first | rfl | omega | (simp only [List.length_set] <;> omega)), (by first | assumption | exact rs_rep (Nat.zero_le _) | exact rs_set (by assumption) (Nat.zero_le _) | exact rs_set (by assumption) (by omega) | exact rs_set (by assumption) (by dsimp only; omega)), (by first | omega | (dsimp only; omega)), (by first | omega | (dsimp only; omega) | (dsimp only; simp only [List.length_set] <;> omega))⟩
 refine jF (dF h40) (sk (sr (Mz rfl (Kz (.pointer (some ⟨g0, 0, none⟩)) (Kz (.pointer (some ⟨g0, 0, none⟩)) (Lz (.slice A0x0 p0.xP.ls.length c0x0) H32 0 Try.isAgg49 (fw (.int .i64 ((Int.toNat r28 : Nat) : Int)) (Yl.int (e := r28) (Yl.move rfl) (by omega)) (fw (.pointer (some ⟨ab A0x0, ao A0x0 + (Int.toNat r28) * 7, none⟩)) (Yl.indexAddr (El49) rfl rfl ((H32.rds (i := 2) rfl).addr (i := Int.toNat r28) (by omega)) (by omega)) (Kz (.pointer (some ⟨ab A0x0, ao A0x0 + (Int.toNat r28) * 7 + 2, none⟩)) (fw (.int .i64 x36.xPins) (Yl.load rfl (Lds.one Try.isAgg3 (((H32.rds (i := 2) rfl).elem PlaceD.len hx37 (by decide)).at_ (k := 2) rfl))) (Kz (.int .i64 (IntKind.i64.wrap (x36.xPins - 1))) (fw (.pointer (some ⟨ab A0x0, ao A0x0 + (Int.toNat r28) * 7, none⟩)) (Yl.indexAddr (El49) rfl rfl ((H32.rds (i := 2) rfl).addr (i := Int.toNat r28) (by omega)) (by omega)) (Kz (.pointer (some ⟨ab A0x0, ao A0x0 + (Int.toNat r28) * 7 + 2, none⟩)) ?_)))))))))))))
 have H42 := H32.pk [2, 0, 1]
 refine WL.do0 (Do.storeRow (vs := [.int .i64 (IntKind.i64.wrap (x36.xPins - 1))]) (o := (Int.toNat r28) * 7 + 2) (q := ao A0x0 + (Int.toNat r28) * 7 + 2) H42 rfl (by omega) rfl Try.sizeOf3 rfl rfl (Nat.le_of_ble_eq_true rfl) (store_fits PlaceD.len hx37 (Nat.le_of_ble_eq_true rfl)) (flat_set (y := (PlaceD.mk x36.xFull x36.xId (IntKind.i64.wrap (x36.xPins - 1)) x36.xBytes x36.xTouched x36.xDirty x36.xLsn)) PlaceD.len rfl (Nat.le_of_ble_eq_true rfl) hx37) ?_)
 intro w43 H44
 refine ns (An rfl (rt (rs ?_)))
 have hn45 : p0.xP.ls.length = List.length (List.set p0.xP.ls (Int.toNat r28) (PlaceD.mk x36.xFull x36.xId (IntKind.i64.wrap (x36.xPins - 1)) x36.xBytes x36.xTouched x36.xDirty x36.xLsn)) := by first | omega | (simp only [List.length_set]; done) | (simp only [List.length_set, List.length_append, List.length_cons, List.length_nil, List.length_take, List.length_drop, List.length_replicate]; omega)
 have H46 : Own w D w43 [row A0x0 (List.length (List.set p0.xP.ls (Int.toNat r28) (PlaceD.mk x36.xFull x36.xId (IntKind.i64.wrap (x36.xPins - 1)) x36.xBytes x36.xTouched x36.xDirty x36.xLsn))) c0x0 (List.flatMap PlaceD.cells (List.set p0.xP.ls (Int.toNat r28) (PlaceD.mk x36.xFull x36.xId (IntKind.i64.wrap (x36.xPins - 1)) x36.xBytes x36.xTouched x36.xDirty x36.xLsn))) 78 7, blk g0 [.slice A0x0 (List.length (List.set p0.xP.ls (Int.toNat r28) (PlaceD.mk x36.xFull x36.xId (IntKind.i64.wrap (x36.xPins - 1)) x36.xBytes x36.xTouched x36.xDirty x36.xLsn))) c0x0, .int .i64 p0.xHand, .pointer (some ⟨g0l0, 0, none⟩)] 51, BackO g0l0 p0l0] := by rw [← hn45]; exact H44
 have H47 := H46.pk [1, 0, 2]
 have e : r10_Cache_Unpin p0 p1 p0l0 = (0, CacheDT.mk (Ll.mk (List.set p0.xP.ls (Int.toNat r28) (PlaceD.mk x36.xFull x36.xId (IntKind.i64.wrap (x36.xPins - 1)) x36.xBytes x36.xTouched x36.xDirty x36.xLsn))) p0.xHand, p0l0) := et (bnd_of hr29) (et (iN h34) (et (bnd_of (getD_of hx37)) (iN h40)))
 obtain ⟨rfl, rfl, rfl⟩ := pj3 (e.symm.trans hr)
 exact ⟨A0x0, c0x0, (by first | rfl | (rw [← hn45]; done) | (rw [← hn45]; rfl)), H47, (by first | rfl | omega | (simp only [List.length_set] <;> omega)), (by first | assumption | exact rs_rep (Nat.zero_le _) | exact rs_set (by assumption) (Nat.zero_le _) | exact rs_set (by assumption) (by omega) | exact rs_set (by assumption) (by dsimp only; omega)), (by first | omega | (dsimp only; omega)), (by first | omega | (dsimp only; omega) | (dsimp only; simp only [List.length_set] <;> omega))⟩

def r10_Cache_Put (p0 : CacheDT) (p1 : Int) (p2 : List UInt8) (p3 : Nat) (p0l0 : BackT) : Int × CacheDT × BackT :=
 bnd (r10_Cache_find p0 p1 p0l0) fun yr28 => if yr28 < 0 then (5, p0, p0l0) else bnd (List.getD p0.xP.ls (Int.toNat yr28) default) fun yx36 => if yx36.xPins = 0 then (5, p0, p0l0) else if yx36.xDirty = true then bnd (List.getD (List.set p0.xP.ls (Int.toNat yr28) (PlaceD.mk yx36.xFull yx36.xId yx36.xPins p2 yx36.xTouched yx36.xDirty yx36.xLsn)) (Int.toNat yr28) default) fun yx46 => bnd (List.getD (List.set (List.set p0.xP.ls (Int.toNat yr28) (PlaceD.mk yx36.xFull yx36.xId yx36.xPins p2 yx36.xTouched yx36.xDirty yx36.xLsn)) (Int.toNat yr28) (PlaceD.mk yx46.xFull yx46.xId yx46.xPins yx46.xBytes yx46.xTouched true yx46.xLsn)) (Int.toNat yr28) default) fun yx52 => bnd (List.getD (List.set (List.set (List.set p0.xP.ls (Int.toNat yr28) (PlaceD.mk yx36.xFull yx36.xId yx36.xPins p2 yx36.xTouched yx36.xDirty yx36.xLsn)) (Int.toNat yr28) (PlaceD.mk yx46.xFull yx46.xId yx46.xPins yx46.xBytes yx46.xTouched true yx46.xLsn)) (Int.toNat yr28) (PlaceD.mk yx52.xFull yx52.xId yx52.xPins yx52.xBytes true yx52.xDirty yx52.xLsn)) (Int.toNat yr28) default) fun yx58 => (0, CacheDT.mk (Ll.mk (List.set (List.set (List.set (List.set p0.xP.ls (Int.toNat yr28) (PlaceD.mk yx36.xFull yx36.xId yx36.xPins p2 yx36.xTouched yx36.xDirty yx36.xLsn)) (Int.toNat yr28) (PlaceD.mk yx46.xFull yx46.xId yx46.xPins yx46.xBytes yx46.xTouched true yx46.xLsn)) (Int.toNat yr28) (PlaceD.mk yx52.xFull yx52.xId yx52.xPins yx52.xBytes true yx52.xDirty yx52.xLsn)) (Int.toNat yr28) (PlaceD.mk yx58.xFull yx58.xId yx58.xPins yx58.xBytes yx58.xTouched yx58.xDirty (max p3 yx36.xLsn)))) p0.xHand, p0l0) else bnd (List.getD (List.set p0.xP.ls (Int.toNat yr28) (PlaceD.mk yx36.xFull yx36.xId yx36.xPins p2 yx36.xTouched yx36.xDirty yx36.xLsn)) (Int.toNat yr28) default) fun yx70 => bnd (List.getD (List.set (List.set p0.xP.ls (Int.toNat yr28) (PlaceD.mk yx36.xFull yx36.xId yx36.xPins p2 yx36.xTouched yx36.xDirty yx36.xLsn)) (Int.toNat yr28) (PlaceD.mk yx70.xFull yx70.xId yx70.xPins yx70.xBytes yx70.xTouched true yx70.xLsn)) (Int.toNat yr28) default) fun yx76 => bnd (List.getD (List.set (List.set (List.set p0.xP.ls (Int.toNat yr28) (PlaceD.mk yx36.xFull yx36.xId yx36.xPins p2 yx36.xTouched yx36.xDirty yx36.xLsn)) (Int.toNat yr28) (PlaceD.mk yx70.xFull yx70.xId yx70.xPins yx70.xBytes yx70.xTouched true yx70.xLsn)) (Int.toNat yr28) (PlaceD.mk yx76.xFull yx76.xId yx76.xPins yx76.xBytes true yx76.xDirty yx76.xLsn)) (Int.toNat yr28) default) fun yx82 => (0, CacheDT.mk (Ll.mk (List.set (List.set (List.set (List.set p0.xP.ls (Int.toNat yr28) (PlaceD.mk yx36.xFull yx36.xId yx36.xPins p2 yx36.xTouched yx36.xDirty yx36.xLsn)) (Int.toNat yr28) (PlaceD.mk yx70.xFull yx70.xId yx70.xPins yx70.xBytes yx70.xTouched true yx70.xLsn)) (Int.toNat yr28) (PlaceD.mk yx76.xFull yx76.xId yx76.xPins yx76.xBytes true yx76.xDirty yx76.xLsn)) (Int.toNat yr28) (PlaceD.mk yx82.xFull yx82.xId yx82.xPins yx82.xBytes yx82.xTouched yx82.xDirty p3))) p0.xHand, p0l0)

set_option maxRecDepth 100000 in
theorem r10_Cache_Put_ok (w : World) (D : Nat → Prop) (g0 : Nat) (p0 : CacheDT) (A0x0 : Option Addr) (c0x0 : Nat) (p1 : Int) (p2 : List UInt8) (p3 : Nat) (g0l0 : Nat) (p0l0 : BackT) (r0 : Int) (r1 : CacheDT) (r2 : BackT) (H : Own w D w [blk g0 [.slice A0x0 p0.xP.ls.length c0x0, .int .i64 p0.xHand, .pointer (some ⟨g0l0, 0, none⟩)] 51, row A0x0 p0.xP.ls.length c0x0 (List.flatMap PlaceD.cells p0.xP.ls) 78 7, BackO g0l0 p0l0]) (hh0 : 1 ≤ p0.xP.ls.length ∧ p0.xP.ls.length ≤ 64) (hh1 : 0 ≤ p0.xHand ∧ p0.xHand < ((p0.xP.ls.length : Nat) : Int)) (hh2 : RsOk p0.xP.ls) (hh3 : p0l0.xCalls.length ≤ 100000) (hh4 : p2.length ≤ 140737488351232) (hr : r10_Cache_Put p0 p1 p2 p3 p0l0 = (r0, r1, r2)) :
    Calls Try.prog 15 #[.pointer (some ⟨g0, 0, none⟩), .int .i64 p1, .string ⟨List.toArray p2⟩, .int .u64 ((p3 : Nat) : Int)] w (Ret fun v w' => ∃ (B1ox0 : Option Addr) (b1ox0 : Nat), v = .int .i64 r0 ∧ Own w D w' [blk g0 [.slice B1ox0 r1.xP.ls.length b1ox0, .int .i64 r1.xHand, .pointer (some ⟨g0l0, 0, none⟩)] 51, row B1ox0 r1.xP.ls.length b1ox0 (List.flatMap PlaceD.cells r1.xP.ls) 78 7, BackO g0l0 r2] ∧ (r1.xP.ls.length = p0.xP.ls.length) ∧ (RsOk r1.xP.ls) ∧ (r2.xCalls.length ≤ p0l0.xCalls.length + 0) ∧ (0 ≤ r1.xHand ∧ r1.xHand < ((r1.xP.ls.length : Nat) : Int))) := by
 have hc0x0 := H.rowC (i := 1) rfl
 refine Calls.body (args := [.pointer (some ⟨g0, 0, none⟩), .int .i64 p1, .string ⟨List.toArray p2⟩, .int .u64 ((p3 : Nat) : Int)]) Try.func15 rfl rfl rfl ?_
 show Wp _ _ _ [(0, .pointer (some ⟨g0, 0, none⟩)), (1, .int .i64 p1), (2, .string ⟨List.toArray p2⟩), (3, .int .u64 ((p3 : Nat) : Int))] _ _
 refine sr (Ar rfl (Mz rfl (Mz rfl ?_)))
 have H21 : Own w D w [blk g0 [.slice A0x0 p0.xP.ls.length c0x0, .int .i64 p0.xHand, .pointer (some ⟨g0l0, 0, none⟩)] 51, BackO g0l0 p0l0, row A0x0 p0.xP.ls.length c0x0 (List.flatMap PlaceD.cells p0.xP.ls) 78 7] := H.pk [0, 2, 1]
 have hb27 := H21.rowC (i := 2) rfl
 obtain ⟨r28, hr29⟩ : ∃ q, r10_Cache_find p0 p1 p0l0 = q := ⟨_, rfl⟩
 obtain ⟨D22, HP23, ro24, bk25, rr26⟩ := Own.enter2 H21
 refine cl Try.call24 (r10_Cache_find_ok _ _ g0 p0 A0x0 c0x0 p1 g0l0 p0l0 r28 HP23 (rr26 _ 0 _ rfl row_rds) (show p0.xP.ls.length ≤ c0x0 ∧ p0.xP.ls.length ≤ 9223372036854775807 from by omega) (by first | omega | (dsimp only; omega) | (simp only [List.length_set, List.length_replicate] <;> omega)) hr29) ?_
 rintro _ w30 ⟨rfl, HQ31, hk33⟩
 have H32 := bk25 _ _ HQ31
 replace hk33 : -1 ≤ r28 ∧ r28 < ((p0.xP.ls.length : Nat) : Int) := hk33
 refine An rfl (Wp.seq (sr (Mz rfl (Kz (.bool (decide (r28 < 0))) (Mz rfl ?_)))))
 by_cases h34 : r28 < 0
 refine Sz (dT h34) (Sz (dT h34) (Sz (dT h34) (Sz (dT h34) (Sz (dT h34) (Sz (dT h34) (Sz (dT h34) (Sz (dT h34) (Sz (dT h34) (fw (.bool true) (Yl.pickT rfl (dT h34) rfl) (nt (jt (sr (An rfl (rt (tR (rs ?_))))))))))))))))
 have H35 := H32.pk [0, 2, 1]
 have e : r10_Cache_Put p0 p1 p2 p3 p0l0 = (5, p0, p0l0) := et (bnd_of hr29) (ip h34)
 obtain ⟨rfl, rfl, rfl⟩ := pj3 (e.symm.trans hr)
 exact ⟨A0x0, c0x0, rfl, H35, (by first | rfl | omega | (simp only [List.length_set] <;> omega)), (by first | assumption | exact rs_rep (Nat.zero_le _) | exact rs_set (by assumption) (Nat.zero_le _) | exact rs_set (by assumption) (by omega) | exact rs_set (by assumption) (by dsimp only; omega)), (by first | omega | (dsimp only; omega)), (by first | omega | (dsimp only; omega) | (dsimp only; simp only [List.length_set] <;> omega))⟩
 refine gw (.pointer (some ⟨g0, 0, none⟩)) (dF h34) (Yl.move rfl) (Gz (.pointer (some ⟨g0, 0, none⟩)) (dF h34) (Gz (.pointer (some ⟨g0, 0, none⟩)) (dF h34) (Gl (.slice A0x0 p0.xP.ls.length c0x0) (dF h34) H32 0 Try.isAgg49 (gw (.int .i64 ((Int.toNat r28 : Nat) : Int)) (dF h34) (Yl.int (e := r28) (Yl.move rfl) (by omega)) ?_))))
 obtain ⟨x36, hx37⟩ := rds_at (ls := p0.xP.ls) (i := Int.toNat r28) PlaceD.len (by decide) (H32.rds (i := 2) rfl) (by first | omega | (simp; done) | (simp; omega))
 have hb39 : RsOk p0.xP.ls := by first | assumption | exact rs_rep (Nat.zero_le _) | exact rs_set (by assumption) (Nat.zero_le _) | exact rs_set (by assumption) (by omega) | exact rs_set (by assumption) (by dsimp only; omega)
 have hz38 : x36.xBytes.length ≤ 140737488351232 := rs_at hb39 hx37
 refine gw (.pointer (some ⟨ab A0x0, ao A0x0 + (Int.toNat r28) * 7, none⟩)) (dF h34) (Yl.indexAddr (El49) rfl rfl ((H32.rds (i := 2) rfl).addr (i := Int.toNat r28) (by omega)) (by omega)) (Gz (.pointer (some ⟨ab A0x0, ao A0x0 + (Int.toNat r28) * 7 + 2, none⟩)) (dF h34) (gw (.int .i64 x36.xPins) (dF h34) (Yl.load rfl (Lds.one Try.isAgg3 (((H32.rds (i := 2) rfl).elem PlaceD.len hx37 (by decide)).at_ (k := 2) rfl))) (Gz (.bool (decide (x36.xPins = 0))) (dF h34) (fw (.bool (decide (x36.xPins = 0))) (Yl.pickF rfl (dF h34) rfl) (nt ?_)))))
 by_cases h40 : x36.xPins = 0
 refine jT (dT h40) (sr (An rfl (rt (tR (rs ?_)))))
 have H41 := H32.pk [0, 2, 1]
 have e : r10_Cache_Put p0 p1 p2 p3 p0l0 = (5, p0, p0l0) := et (bnd_of hr29) (et (iN h34) (et (bnd_of (getD_of hx37)) (ip h40)))
 obtain ⟨rfl, rfl, rfl⟩ := pj3 (e.symm.trans hr)
 exact ⟨A0x0, c0x0, rfl, H41, (by first | rfl | omega | (simp only [List.length_set] <;> omega)), (by first | assumption | exact rs_rep (Nat.zero_le _) | exact rs_set (by assumption) (Nat.zero_le _) | exact rs_set (by assumption) (by omega) | exact rs_set (by assumption) (by dsimp only; omega)), (by first | omega | (dsimp only; omega)), (by first | omega | (dsimp only; omega) | (dsimp only; simp only [List.length_set] <;> omega))⟩
 refine jF (dF h40) (sk (sr (Mz rfl (Kz (.pointer (some ⟨g0, 0, none⟩)) (Kz (.pointer (some ⟨g0, 0, none⟩)) (Lz (.slice A0x0 p0.xP.ls.length c0x0) H32 0 Try.isAgg49 (fw (.int .i64 ((Int.toNat r28 : Nat) : Int)) (Yl.int (e := r28) (Yl.move rfl) (by omega)) (fw (.pointer (some ⟨ab A0x0, ao A0x0 + (Int.toNat r28) * 7, none⟩)) (Yl.indexAddr (El49) rfl rfl ((H32.rds (i := 2) rfl).addr (i := Int.toNat r28) (by omega)) (by omega)) (An rfl (Wp.seq (sr (Mz rfl (Kz (.pointer (some ⟨ab A0x0, ao A0x0 + (Int.toNat r28) * 7, none⟩)) (Kz (.pointer (some ⟨ab A0x0, ao A0x0 + (Int.toNat r28) * 7 + 5, none⟩)) (fw (.bool x36.xDirty) (Yl.load rfl (Lds.one Try.isAgg4 (((H32.rds (i := 2) rfl).elem PlaceD.len hx37 (by decide)).at_ (k := 5) rfl))) (nt ?_))))))))))))))))
 rcases Bool.eq_false_or_eq_true (x36.xDirty) with h42 | h42
 refine jT h42 (Wp.region (Mz rfl (Mz rfl (Kz (.pointer (some ⟨ab A0x0, ao A0x0 + (Int.toNat r28) * 7, none⟩)) (Kz (.pointer (some ⟨ab A0x0, ao A0x0 + (Int.toNat r28) * 7 + 6, none⟩)) (fw (.int .u64 ((x36.xLsn : Nat) : Int)) (Yl.load rfl (Lds.one Try.isAgg33 (((H32.rds (i := 2) rfl).elem PlaceD.len hx37 (by decide)).at_ (k := 6) rfl))) (fw (.int .u64 ((max p3 x36.xLsn : Nat) : Int)) (Yl.int (e := if ((x36.xLsn : Nat) : Int) > ((p3 : Nat) : Int) then ((x36.xLsn : Nat) : Int) else ((p3 : Nat) : Int)) yk (by omega)) (Ar rfl (Mz rfl (Mz rfl (Kz (.pointer (some ⟨ab A0x0, ao A0x0 + (Int.toNat r28) * 7, none⟩)) (Kz (.pointer (some ⟨ab A0x0, ao A0x0 + (Int.toNat r28) * 7 + 3, none⟩)) ?_))))))))))))
 have H43 := H32.pk [2, 0, 1]
 refine WL.do0 (Do.storeRow (vs := [.string ⟨List.toArray p2⟩]) (o := (Int.toNat r28) * 7 + 3) (q := ao A0x0 + (Int.toNat r28) * 7 + 3) H43 rfl (by omega) rfl Try.sizeOf9 rfl rfl (Nat.le_of_ble_eq_true rfl) (store_fits PlaceD.len hx37 (Nat.le_of_ble_eq_true rfl)) (flat_set (y := (PlaceD.mk x36.xFull x36.xId x36.xPins p2 x36.xTouched x36.xDirty x36.xLsn)) PlaceD.len rfl (Nat.le_of_ble_eq_true rfl) hx37) ?_)
 intro w44 H45
 refine ns (Mz rfl (Kz (.pointer (some ⟨ab A0x0, ao A0x0 + (Int.toNat r28) * 7, none⟩)) (Kz (.pointer (some ⟨ab A0x0, ao A0x0 + (Int.toNat r28) * 7 + 5, none⟩)) ?_)))
 obtain ⟨x46, hx47⟩ := at_of (ls := (List.set p0.xP.ls (Int.toNat r28) (PlaceD.mk x36.xFull x36.xId x36.xPins p2 x36.xTouched x36.xDirty x36.xLsn))) (i := Int.toNat r28) (by first | omega | (simp; done) | (simp; omega))
 have hb49 : RsOk (List.set p0.xP.ls (Int.toNat r28) (PlaceD.mk x36.xFull x36.xId x36.xPins p2 x36.xTouched x36.xDirty x36.xLsn)) := by first | assumption | exact rs_rep (Nat.zero_le _) | exact rs_set (by assumption) (Nat.zero_le _) | exact rs_set (by assumption) (by omega) | exact rs_set (by assumption) (by dsimp only; omega)
 have hz48 : x46.xBytes.length ≤ 140737488351232 := rs_at hb49 hx47
 refine WL.do0 (Do.storeRow (vs := [.bool true]) (o := (Int.toNat r28) * 7 + 5) (q := ao A0x0 + (Int.toNat r28) * 7 + 5) H45 rfl (by omega) rfl Try.sizeOf4 rfl rfl (Nat.le_of_ble_eq_true rfl) (store_fits PlaceD.len hx47 (Nat.le_of_ble_eq_true rfl)) (flat_set (y := (PlaceD.mk x46.xFull x46.xId x46.xPins x46.xBytes x46.xTouched true x46.xLsn)) PlaceD.len rfl (Nat.le_of_ble_eq_true rfl) hx47) ?_)
 intro w50 H51
 refine ns (Mz rfl (Kz (.pointer (some ⟨ab A0x0, ao A0x0 + (Int.toNat r28) * 7, none⟩)) (Kz (.pointer (some ⟨ab A0x0, ao A0x0 + (Int.toNat r28) * 7 + 4, none⟩)) ?_)))
 obtain ⟨x52, hx53⟩ := at_of (ls := (List.set (List.set p0.xP.ls (Int.toNat r28) (PlaceD.mk x36.xFull x36.xId x36.xPins p2 x36.xTouched x36.xDirty x36.xLsn)) (Int.toNat r28) (PlaceD.mk x46.xFull x46.xId x46.xPins x46.xBytes x46.xTouched true x46.xLsn))) (i := Int.toNat r28) (by first | omega | (simp; done) | (simp; omega))
 have hb55 : RsOk (List.set (List.set p0.xP.ls (Int.toNat r28) (PlaceD.mk x36.xFull x36.xId x36.xPins p2 x36.xTouched x36.xDirty x36.xLsn)) (Int.toNat r28) (PlaceD.mk x46.xFull x46.xId x46.xPins x46.xBytes x46.xTouched true x46.xLsn)) := by first | assumption | exact rs_rep (Nat.zero_le _) | exact rs_set (by assumption) (Nat.zero_le _) | exact rs_set (by assumption) (by omega) | exact rs_set (by assumption) (by dsimp only; omega)
 have hz54 : x52.xBytes.length ≤ 140737488351232 := rs_at hb55 hx53
 refine WL.do0 (Do.storeRow (vs := [.bool true]) (o := (Int.toNat r28) * 7 + 4) (q := ao A0x0 + (Int.toNat r28) * 7 + 4) H51 rfl (by omega) rfl Try.sizeOf4 rfl rfl (Nat.le_of_ble_eq_true rfl) (store_fits PlaceD.len hx53 (Nat.le_of_ble_eq_true rfl)) (flat_set (y := (PlaceD.mk x52.xFull x52.xId x52.xPins x52.xBytes true x52.xDirty x52.xLsn)) PlaceD.len rfl (Nat.le_of_ble_eq_true rfl) hx53) ?_)
 intro w56 H57
 refine ns (Mz rfl (Mz rfl (Kz (.pointer (some ⟨ab A0x0, ao A0x0 + (Int.toNat r28) * 7, none⟩)) (Kz (.pointer (some ⟨ab A0x0, ao A0x0 + (Int.toNat r28) * 7 + 6, none⟩)) ?_))))
 obtain ⟨x58, hx59⟩ := at_of (ls := (List.set (List.set (List.set p0.xP.ls (Int.toNat r28) (PlaceD.mk x36.xFull x36.xId x36.xPins p2 x36.xTouched x36.xDirty x36.xLsn)) (Int.toNat r28) (PlaceD.mk x46.xFull x46.xId x46.xPins x46.xBytes x46.xTouched true x46.xLsn)) (Int.toNat r28) (PlaceD.mk x52.xFull x52.xId x52.xPins x52.xBytes true x52.xDirty x52.xLsn))) (i := Int.toNat r28) (by first | omega | (simp; done) | (simp; omega))
 have hb61 : RsOk (List.set (List.set (List.set p0.xP.ls (Int.toNat r28) (PlaceD.mk x36.xFull x36.xId x36.xPins p2 x36.xTouched x36.xDirty x36.xLsn)) (Int.toNat r28) (PlaceD.mk x46.xFull x46.xId x46.xPins x46.xBytes x46.xTouched true x46.xLsn)) (Int.toNat r28) (PlaceD.mk x52.xFull x52.xId x52.xPins x52.xBytes true x52.xDirty x52.xLsn)) := by first | assumption | exact rs_rep (Nat.zero_le _) | exact rs_set (by assumption) (Nat.zero_le _) | exact rs_set (by assumption) (by omega) | exact rs_set (by assumption) (by dsimp only; omega)
 have hz60 : x58.xBytes.length ≤ 140737488351232 := rs_at hb61 hx59
 refine WL.do0 (Do.storeRow (vs := [.int .u64 ((max p3 x36.xLsn : Nat) : Int)]) (o := (Int.toNat r28) * 7 + 6) (q := ao A0x0 + (Int.toNat r28) * 7 + 6) H57 rfl (by omega) rfl Try.sizeOf33 rfl rfl (Nat.le_of_ble_eq_true rfl) (store_fits PlaceD.len hx59 (Nat.le_of_ble_eq_true rfl)) (flat_set (y := (PlaceD.mk x58.xFull x58.xId x58.xPins x58.xBytes x58.xTouched x58.xDirty (max p3 x36.xLsn))) PlaceD.len rfl (Nat.le_of_ble_eq_true rfl) hx59) ?_)
 intro w62 H63
 refine ns (An rfl (rt (rs ?_)))
 have hn64 : p0.xP.ls.length = List.length (List.set (List.set (List.set (List.set p0.xP.ls (Int.toNat r28) (PlaceD.mk x36.xFull x36.xId x36.xPins p2 x36.xTouched x36.xDirty x36.xLsn)) (Int.toNat r28) (PlaceD.mk x46.xFull x46.xId x46.xPins x46.xBytes x46.xTouched true x46.xLsn)) (Int.toNat r28) (PlaceD.mk x52.xFull x52.xId x52.xPins x52.xBytes true x52.xDirty x52.xLsn)) (Int.toNat r28) (PlaceD.mk x58.xFull x58.xId x58.xPins x58.xBytes x58.xTouched x58.xDirty (max p3 x36.xLsn))) := by first | omega | (simp only [List.length_set]; done) | (simp only [List.length_set, List.length_append, List.length_cons, List.length_nil, List.length_take, List.length_drop, List.length_replicate]; omega)
 have H65 : Own w D w62 [row A0x0 (List.length (List.set (List.set (List.set (List.set p0.xP.ls (Int.toNat r28) (PlaceD.mk x36.xFull x36.xId x36.xPins p2 x36.xTouched x36.xDirty x36.xLsn)) (Int.toNat r28) (PlaceD.mk x46.xFull x46.xId x46.xPins x46.xBytes x46.xTouched true x46.xLsn)) (Int.toNat r28) (PlaceD.mk x52.xFull x52.xId x52.xPins x52.xBytes true x52.xDirty x52.xLsn)) (Int.toNat r28) (PlaceD.mk x58.xFull x58.xId x58.xPins x58.xBytes x58.xTouched x58.xDirty (max p3 x36.xLsn)))) c0x0 (List.flatMap PlaceD.cells (List.set (List.set (List.set (List.set p0.xP.ls (Int.toNat r28) (PlaceD.mk x36.xFull x36.xId x36.xPins p2 x36.xTouched x36.xDirty x36.xLsn)) (Int.toNat r28) (PlaceD.mk x46.xFull x46.xId x46.xPins x46.xBytes x46.xTouched true x46.xLsn)) (Int.toNat r28) (PlaceD.mk x52.xFull x52.xId x52.xPins x52.xBytes true x52.xDirty x52.xLsn)) (Int.toNat r28) (PlaceD.mk x58.xFull x58.xId x58.xPins x58.xBytes x58.xTouched x58.xDirty (max p3 x36.xLsn)))) 78 7, blk g0 [.slice A0x0 (List.length (List.set (List.set (List.set (List.set p0.xP.ls (Int.toNat r28) (PlaceD.mk x36.xFull x36.xId x36.xPins p2 x36.xTouched x36.xDirty x36.xLsn)) (Int.toNat r28) (PlaceD.mk x46.xFull x46.xId x46.xPins x46.xBytes x46.xTouched true x46.xLsn)) (Int.toNat r28) (PlaceD.mk x52.xFull x52.xId x52.xPins x52.xBytes true x52.xDirty x52.xLsn)) (Int.toNat r28) (PlaceD.mk x58.xFull x58.xId x58.xPins x58.xBytes x58.xTouched x58.xDirty (max p3 x36.xLsn)))) c0x0, .int .i64 p0.xHand, .pointer (some ⟨g0l0, 0, none⟩)] 51, BackO g0l0 p0l0] := by rw [← hn64]; exact H63
 have H66 := H65.pk [1, 0, 2]
 have e : r10_Cache_Put p0 p1 p2 p3 p0l0 = (0, CacheDT.mk (Ll.mk (List.set (List.set (List.set (List.set p0.xP.ls (Int.toNat r28) (PlaceD.mk x36.xFull x36.xId x36.xPins p2 x36.xTouched x36.xDirty x36.xLsn)) (Int.toNat r28) (PlaceD.mk x46.xFull x46.xId x46.xPins x46.xBytes x46.xTouched true x46.xLsn)) (Int.toNat r28) (PlaceD.mk x52.xFull x52.xId x52.xPins x52.xBytes true x52.xDirty x52.xLsn)) (Int.toNat r28) (PlaceD.mk x58.xFull x58.xId x58.xPins x58.xBytes x58.xTouched x58.xDirty (max p3 x36.xLsn)))) p0.xHand, p0l0) := et (bnd_of hr29) (et (iN h34) (et (bnd_of (getD_of hx37)) (et (iN h40) (et (ip h42) (et (bnd_of (getD_of hx47)) (et (bnd_of (getD_of hx53)) (bnd_of (getD_of hx59))))))))
 obtain ⟨rfl, rfl, rfl⟩ := pj3 (e.symm.trans hr)
 exact ⟨A0x0, c0x0, (by first | rfl | (rw [← hn64]; done) | (rw [← hn64]; rfl)), H66, (by first | rfl | omega | (simp only [List.length_set] <;> omega)), (by first | assumption | exact rs_rep (Nat.zero_le _) | exact rs_set (by assumption) (Nat.zero_le _) | exact rs_set (by assumption) (by omega) | exact rs_set (by assumption) (by dsimp only; omega)), (by first | omega | (dsimp only; omega)), (by first | omega | (dsimp only; omega) | (dsimp only; simp only [List.length_set] <;> omega))⟩
 refine jF h42 (sk (sr (Mz rfl (Mz rfl (Kz (.pointer (some ⟨ab A0x0, ao A0x0 + (Int.toNat r28) * 7, none⟩)) (Kz (.pointer (some ⟨ab A0x0, ao A0x0 + (Int.toNat r28) * 7 + 3, none⟩)) ?_))))))
 have H67 := H32.pk [2, 0, 1]
 refine WL.do0 (Do.storeRow (vs := [.string ⟨List.toArray p2⟩]) (o := (Int.toNat r28) * 7 + 3) (q := ao A0x0 + (Int.toNat r28) * 7 + 3) H67 rfl (by omega) rfl Try.sizeOf9 rfl rfl (Nat.le_of_ble_eq_true rfl) (store_fits PlaceD.len hx37 (Nat.le_of_ble_eq_true rfl)) (flat_set (y := (PlaceD.mk x36.xFull x36.xId x36.xPins p2 x36.xTouched x36.xDirty x36.xLsn)) PlaceD.len rfl (Nat.le_of_ble_eq_true rfl) hx37) ?_)
 intro w68 H69
 refine ns (Mz rfl (Kz (.pointer (some ⟨ab A0x0, ao A0x0 + (Int.toNat r28) * 7, none⟩)) (Kz (.pointer (some ⟨ab A0x0, ao A0x0 + (Int.toNat r28) * 7 + 5, none⟩)) ?_)))
 obtain ⟨x70, hx71⟩ := at_of (ls := (List.set p0.xP.ls (Int.toNat r28) (PlaceD.mk x36.xFull x36.xId x36.xPins p2 x36.xTouched x36.xDirty x36.xLsn))) (i := Int.toNat r28) (by first | omega | (simp; done) | (simp; omega))
 have hb73 : RsOk (List.set p0.xP.ls (Int.toNat r28) (PlaceD.mk x36.xFull x36.xId x36.xPins p2 x36.xTouched x36.xDirty x36.xLsn)) := by first | assumption | exact rs_rep (Nat.zero_le _) | exact rs_set (by assumption) (Nat.zero_le _) | exact rs_set (by assumption) (by omega) | exact rs_set (by assumption) (by dsimp only; omega)
 have hz72 : x70.xBytes.length ≤ 140737488351232 := rs_at hb73 hx71
 refine WL.do0 (Do.storeRow (vs := [.bool true]) (o := (Int.toNat r28) * 7 + 5) (q := ao A0x0 + (Int.toNat r28) * 7 + 5) H69 rfl (by omega) rfl Try.sizeOf4 rfl rfl (Nat.le_of_ble_eq_true rfl) (store_fits PlaceD.len hx71 (Nat.le_of_ble_eq_true rfl)) (flat_set (y := (PlaceD.mk x70.xFull x70.xId x70.xPins x70.xBytes x70.xTouched true x70.xLsn)) PlaceD.len rfl (Nat.le_of_ble_eq_true rfl) hx71) ?_)
 intro w74 H75
 refine ns (Mz rfl (Kz (.pointer (some ⟨ab A0x0, ao A0x0 + (Int.toNat r28) * 7, none⟩)) (Kz (.pointer (some ⟨ab A0x0, ao A0x0 + (Int.toNat r28) * 7 + 4, none⟩)) ?_)))
 obtain ⟨x76, hx77⟩ := at_of (ls := (List.set (List.set p0.xP.ls (Int.toNat r28) (PlaceD.mk x36.xFull x36.xId x36.xPins p2 x36.xTouched x36.xDirty x36.xLsn)) (Int.toNat r28) (PlaceD.mk x70.xFull x70.xId x70.xPins x70.xBytes x70.xTouched true x70.xLsn))) (i := Int.toNat r28) (by first | omega | (simp; done) | (simp; omega))
 have hb79 : RsOk (List.set (List.set p0.xP.ls (Int.toNat r28) (PlaceD.mk x36.xFull x36.xId x36.xPins p2 x36.xTouched x36.xDirty x36.xLsn)) (Int.toNat r28) (PlaceD.mk x70.xFull x70.xId x70.xPins x70.xBytes x70.xTouched true x70.xLsn)) := by first | assumption | exact rs_rep (Nat.zero_le _) | exact rs_set (by assumption) (Nat.zero_le _) | exact rs_set (by assumption) (by omega) | exact rs_set (by assumption) (by dsimp only; omega)
 have hz78 : x76.xBytes.length ≤ 140737488351232 := rs_at hb79 hx77
 refine WL.do0 (Do.storeRow (vs := [.bool true]) (o := (Int.toNat r28) * 7 + 4) (q := ao A0x0 + (Int.toNat r28) * 7 + 4) H75 rfl (by omega) rfl Try.sizeOf4 rfl rfl (Nat.le_of_ble_eq_true rfl) (store_fits PlaceD.len hx77 (Nat.le_of_ble_eq_true rfl)) (flat_set (y := (PlaceD.mk x76.xFull x76.xId x76.xPins x76.xBytes true x76.xDirty x76.xLsn)) PlaceD.len rfl (Nat.le_of_ble_eq_true rfl) hx77) ?_)
 intro w80 H81
 refine ns (Mz rfl (Mz rfl (Kz (.pointer (some ⟨ab A0x0, ao A0x0 + (Int.toNat r28) * 7, none⟩)) (Kz (.pointer (some ⟨ab A0x0, ao A0x0 + (Int.toNat r28) * 7 + 6, none⟩)) ?_))))
 obtain ⟨x82, hx83⟩ := at_of (ls := (List.set (List.set (List.set p0.xP.ls (Int.toNat r28) (PlaceD.mk x36.xFull x36.xId x36.xPins p2 x36.xTouched x36.xDirty x36.xLsn)) (Int.toNat r28) (PlaceD.mk x70.xFull x70.xId x70.xPins x70.xBytes x70.xTouched true x70.xLsn)) (Int.toNat r28) (PlaceD.mk x76.xFull x76.xId x76.xPins x76.xBytes true x76.xDirty x76.xLsn))) (i := Int.toNat r28) (by first | omega | (simp; done) | (simp; omega))
 have hb85 : RsOk (List.set (List.set (List.set p0.xP.ls (Int.toNat r28) (PlaceD.mk x36.xFull x36.xId x36.xPins p2 x36.xTouched x36.xDirty x36.xLsn)) (Int.toNat r28) (PlaceD.mk x70.xFull x70.xId x70.xPins x70.xBytes x70.xTouched true x70.xLsn)) (Int.toNat r28) (PlaceD.mk x76.xFull x76.xId x76.xPins x76.xBytes true x76.xDirty x76.xLsn)) := by first | assumption | exact rs_rep (Nat.zero_le _) | exact rs_set (by assumption) (Nat.zero_le _) | exact rs_set (by assumption) (by omega) | exact rs_set (by assumption) (by dsimp only; omega)
 have hz84 : x82.xBytes.length ≤ 140737488351232 := rs_at hb85 hx83
 refine WL.do0 (Do.storeRow (vs := [.int .u64 ((p3 : Nat) : Int)]) (o := (Int.toNat r28) * 7 + 6) (q := ao A0x0 + (Int.toNat r28) * 7 + 6) H81 rfl (by omega) rfl Try.sizeOf33 rfl rfl (Nat.le_of_ble_eq_true rfl) (store_fits PlaceD.len hx83 (Nat.le_of_ble_eq_true rfl)) (flat_set (y := (PlaceD.mk x82.xFull x82.xId x82.xPins x82.xBytes x82.xTouched x82.xDirty p3)) PlaceD.len rfl (Nat.le_of_ble_eq_true rfl) hx83) ?_)
 intro w86 H87
 refine ns (An rfl (rt (rs ?_)))
 have hn88 : p0.xP.ls.length = List.length (List.set (List.set (List.set (List.set p0.xP.ls (Int.toNat r28) (PlaceD.mk x36.xFull x36.xId x36.xPins p2 x36.xTouched x36.xDirty x36.xLsn)) (Int.toNat r28) (PlaceD.mk x70.xFull x70.xId x70.xPins x70.xBytes x70.xTouched true x70.xLsn)) (Int.toNat r28) (PlaceD.mk x76.xFull x76.xId x76.xPins x76.xBytes true x76.xDirty x76.xLsn)) (Int.toNat r28) (PlaceD.mk x82.xFull x82.xId x82.xPins x82.xBytes x82.xTouched x82.xDirty p3)) := by first | omega | (simp only [List.length_set]; done) | (simp only [List.length_set, List.length_append, List.length_cons, List.length_nil, List.length_take, List.length_drop, List.length_replicate]; omega)
 have H89 : Own w D w86 [row A0x0 (List.length (List.set (List.set (List.set (List.set p0.xP.ls (Int.toNat r28) (PlaceD.mk x36.xFull x36.xId x36.xPins p2 x36.xTouched x36.xDirty x36.xLsn)) (Int.toNat r28) (PlaceD.mk x70.xFull x70.xId x70.xPins x70.xBytes x70.xTouched true x70.xLsn)) (Int.toNat r28) (PlaceD.mk x76.xFull x76.xId x76.xPins x76.xBytes true x76.xDirty x76.xLsn)) (Int.toNat r28) (PlaceD.mk x82.xFull x82.xId x82.xPins x82.xBytes x82.xTouched x82.xDirty p3))) c0x0 (List.flatMap PlaceD.cells (List.set (List.set (List.set (List.set p0.xP.ls (Int.toNat r28) (PlaceD.mk x36.xFull x36.xId x36.xPins p2 x36.xTouched x36.xDirty x36.xLsn)) (Int.toNat r28) (PlaceD.mk x70.xFull x70.xId x70.xPins x70.xBytes x70.xTouched true x70.xLsn)) (Int.toNat r28) (PlaceD.mk x76.xFull x76.xId x76.xPins x76.xBytes true x76.xDirty x76.xLsn)) (Int.toNat r28) (PlaceD.mk x82.xFull x82.xId x82.xPins x82.xBytes x82.xTouched x82.xDirty p3))) 78 7, blk g0 [.slice A0x0 (List.length (List.set (List.set (List.set (List.set p0.xP.ls (Int.toNat r28) (PlaceD.mk x36.xFull x36.xId x36.xPins p2 x36.xTouched x36.xDirty x36.xLsn)) (Int.toNat r28) (PlaceD.mk x70.xFull x70.xId x70.xPins x70.xBytes x70.xTouched true x70.xLsn)) (Int.toNat r28) (PlaceD.mk x76.xFull x76.xId x76.xPins x76.xBytes true x76.xDirty x76.xLsn)) (Int.toNat r28) (PlaceD.mk x82.xFull x82.xId x82.xPins x82.xBytes x82.xTouched x82.xDirty p3))) c0x0, .int .i64 p0.xHand, .pointer (some ⟨g0l0, 0, none⟩)] 51, BackO g0l0 p0l0] := by rw [← hn88]; exact H87
 have H90 := H89.pk [1, 0, 2]
 have e : r10_Cache_Put p0 p1 p2 p3 p0l0 = (0, CacheDT.mk (Ll.mk (List.set (List.set (List.set (List.set p0.xP.ls (Int.toNat r28) (PlaceD.mk x36.xFull x36.xId x36.xPins p2 x36.xTouched x36.xDirty x36.xLsn)) (Int.toNat r28) (PlaceD.mk x70.xFull x70.xId x70.xPins x70.xBytes x70.xTouched true x70.xLsn)) (Int.toNat r28) (PlaceD.mk x76.xFull x76.xId x76.xPins x76.xBytes true x76.xDirty x76.xLsn)) (Int.toNat r28) (PlaceD.mk x82.xFull x82.xId x82.xPins x82.xBytes x82.xTouched x82.xDirty p3))) p0.xHand, p0l0) := et (bnd_of hr29) (et (iN h34) (et (bnd_of (getD_of hx37)) (et (iN h40) (et (ifF h42) (et (bnd_of (getD_of hx71)) (et (bnd_of (getD_of hx77)) (bnd_of (getD_of hx83))))))))
 obtain ⟨rfl, rfl, rfl⟩ := pj3 (e.symm.trans hr)
 exact ⟨A0x0, c0x0, (by first | rfl | (rw [← hn88]; done) | (rw [← hn88]; rfl)), H90, (by first | rfl | omega | (simp only [List.length_set] <;> omega)), (by first | assumption | exact rs_rep (Nat.zero_le _) | exact rs_set (by assumption) (Nat.zero_le _) | exact rs_set (by assumption) (by omega) | exact rs_set (by assumption) (by dsimp only; omega)), (by first | omega | (dsimp only; omega)), (by first | omega | (dsimp only; omega) | (dsimp only; simp only [List.length_set] <;> omega))⟩

def r10_Cache_Flush_L0 : Nat → Nat → List PlaceD → Int → BackT → ((List PlaceD) × Int × BackT) ⊕ (Int × CacheDT × BackT)
  | 0, k21, l24, z25, m26 => Sum.inl (l24, z25, m26)
  | q27 + 1, k21, l24, z25, m26 => bnd (r10_Cache_back (CacheDT.mk (Ll.mk l24) z25) ((k21 : Nat) : Int) m26) fun yr50 => if yr50.1 = 0 then r10_Cache_Flush_L0 q27 (k21 + 1) yr50.2.1.xP.ls yr50.2.1.xHand yr50.2.2 else Sum.inr (yr50.1, yr50.2.1, yr50.2.2)

def r10_Cache_Flush (p0 : CacheDT) (p0l0 : BackT) : Int × CacheDT × BackT :=
 lp (r10_Cache_Flush_L0 p0.xP.ls.length 0 p0.xP.ls p0.xHand p0l0) fun sLrL => (0, CacheDT.mk (Ll.mk sLrL.1) sLrL.2.1, sLrL.2.2)

set_option maxRecDepth 100000 in
theorem r10_Cache_Flush_ok (w : World) (D : Nat → Prop) (g0 : Nat) (p0 : CacheDT) (A0x0 : Option Addr) (c0x0 : Nat) (g0l0 : Nat) (p0l0 : BackT) (r0 : Int) (r1 : CacheDT) (r2 : BackT) (H : Own w D w [blk g0 [.slice A0x0 p0.xP.ls.length c0x0, .int .i64 p0.xHand, .pointer (some ⟨g0l0, 0, none⟩)] 51, row A0x0 p0.xP.ls.length c0x0 (List.flatMap PlaceD.cells p0.xP.ls) 78 7, BackO g0l0 p0l0]) (hh0 : 1 ≤ p0.xP.ls.length ∧ p0.xP.ls.length ≤ 64) (hh1 : 0 ≤ p0.xHand ∧ p0.xHand < ((p0.xP.ls.length : Nat) : Int)) (hh2 : RsOk p0.xP.ls) (hh3 : p0l0.xCalls.length ≤ 100000) (hr : r10_Cache_Flush p0 p0l0 = (r0, r1, r2)) :
    Calls Try.prog 17 #[.pointer (some ⟨g0, 0, none⟩)] w (Ret fun v w' => ∃ (B1ox0 : Option Addr) (b1ox0 : Nat), v = .int .i64 r0 ∧ Own w D w' [blk g0 [.slice B1ox0 r1.xP.ls.length b1ox0, .int .i64 r1.xHand, .pointer (some ⟨g0l0, 0, none⟩)] 51, row B1ox0 r1.xP.ls.length b1ox0 (List.flatMap PlaceD.cells r1.xP.ls) 78 7, BackO g0l0 r2] ∧ (r1.xP.ls.length = p0.xP.ls.length) ∧ (RsOk r1.xP.ls) ∧ (r2.xCalls.length ≤ p0l0.xCalls.length + 200) ∧ (0 ≤ r1.xHand ∧ r1.xHand < ((r1.xP.ls.length : Nat) : Int))) := by
 have hc0x0 := H.rowC (i := 1) rfl
 refine Calls.body (args := [.pointer (some ⟨g0, 0, none⟩)]) Try.func17 rfl rfl rfl ?_
 show Wp _ _ _ [(0, .pointer (some ⟨g0, 0, none⟩))] _ _
 refine sr (An rfl (Wp.seq (sr (Mz rfl (Kz (.pointer (some ⟨g0, 0, none⟩)) (Kz (.pointer (some ⟨g0, 0, none⟩)) (Lz (.slice A0x0 p0.xP.ls.length c0x0) H 0 Try.isAgg49 (Kz (.int .i64 ((p0.xP.ls.length : Nat) : Int)) (Mn rfl (bo ?_))))))))))
 have H28 : Own w D w [blk g0 [.slice A0x0 p0.xP.ls.length c0x0, .int .i64 p0.xHand, .pointer (some ⟨g0l0, 0, none⟩)] 51, BackO g0l0 p0l0, row A0x0 p0.xP.ls.length c0x0 (List.flatMap PlaceD.cells p0.xP.ls) 78 7] := H.pk [0, 2, 1]
 obtain ⟨I32, hI33⟩ : ∃ q : (Nat × (Option Addr) × Nat × (List PlaceD) × Int × BackT) → World → Prop, q = fun (i : Nat × (Option Addr) × Nat × (List PlaceD) × Int × BackT) w' => Own w D w' [blk g0 [.slice i.2.1 i.2.2.2.1.length i.2.2.1, .int .i64 i.2.2.2.2.1, .pointer (some ⟨g0l0, 0, none⟩)] 51, BackO g0l0 i.2.2.2.2.2, row i.2.1 i.2.2.2.1.length i.2.2.1 (List.flatMap PlaceD.cells i.2.2.2.1) 78 7] ∧ (i.1 ≤ p0.xP.ls.length ∧ i.2.2.2.1.length ≤ p0.xP.ls.length + i.1 ∧ i.2.2.2.1.length ≤ p0.xP.ls.length ∧ RsOk i.2.2.2.1 ∧ i.2.2.2.1.length = p0.xP.ls.length ∧ (0 ≤ i.2.2.2.2.1 ∧ i.2.2.2.2.1 < ((p0.xP.ls.length : Nat) : Int)) ∧ i.2.2.2.2.2.xCalls.length ≤ p0l0.xCalls.length + 2 * i.1 ∧ r10_Cache_Flush_L0 p0.xP.ls.length 0 p0.xP.ls p0.xHand p0l0 = r10_Cache_Flush_L0 (p0.xP.ls.length - i.1) i.1 i.2.2.2.1 i.2.2.2.2.1 i.2.2.2.2.2) := ⟨_, rfl⟩
 have dm34 : ∀ {k21 : Nat} {A22 : Option Addr} {c23 : Nat} {l24 : List PlaceD} {z25 : Int} {m26 : BackT} {w' : World}, I32 (k21, A22, c23, l24, z25, m26) w' ↔ Own w D w' [blk g0 [.slice A22 l24.length c23, .int .i64 z25, .pointer (some ⟨g0l0, 0, none⟩)] 51, BackO g0l0 m26, row A22 l24.length c23 (List.flatMap PlaceD.cells l24) 78 7] ∧ k21 ≤ p0.xP.ls.length ∧ l24.length ≤ p0.xP.ls.length + k21 ∧ l24.length ≤ p0.xP.ls.length ∧ RsOk l24 ∧ l24.length = p0.xP.ls.length ∧ (0 ≤ z25 ∧ z25 < ((p0.xP.ls.length : Nat) : Int)) ∧ m26.xCalls.length ≤ p0l0.xCalls.length + 2 * k21 ∧ r10_Cache_Flush_L0 p0.xP.ls.length 0 p0.xP.ls p0.xHand p0l0 = r10_Cache_Flush_L0 (p0.xP.ls.length - k21) k21 l24 z25 m26 := by intros; subst hI33; exact Iff.rfl
 refine Wp.loop (fun i : Nat × (Option Addr) × Nat × (List PlaceD) × Int × BackT => [(2, .int .i64 0), (10, .int .i64 ((i.1 : Nat) : Int)), (9, .int .i64 ((p0.xP.ls.length : Nat) : Int)), (0, .pointer (some ⟨g0, 0, none⟩))]) I32 (fun i => p0.xP.ls.length - i.1) (0, A0x0, c0x0, p0.xP.ls, p0.xHand, p0l0) ⟨rfl, rfl, rfl, rfl, trivial⟩ (dm34.2 ⟨H28, by omega, by omega, by omega, by first | assumption | exact rs_rep (Nat.zero_le _) | exact rs_set (by assumption) (Nat.zero_le _) | exact rs_set (by assumption) (by omega) | exact rs_set (by assumption) (by dsimp only; omega), by first | rfl | omega | (simp only [List.length_set] <;> omega), by omega, by omega, rfl⟩) ?_
 rintro ⟨k21, A22, c23, l24, z25, m26⟩ w29 hf31
 show Wp _ _ _ [(2, .int .i64 0), (10, .int .i64 ((k21 : Nat) : Int)), (9, .int .i64 ((p0.xP.ls.length : Nat) : Int)), (0, .pointer (some ⟨g0, 0, none⟩))] _ _
 obtain ⟨H30, hi36, hi37, hi38, hi39, hi40, hi41, hi42, hq35⟩ := dm34.1 hf31
 refine sr (Kz (.bool (decide (((k21 : Nat) : Int) < ((p0.xP.ls.length : Nat) : Int)))) (nt (Wp.seq ?_)))
 by_cases h43 : ((k21 : Nat) : Int) < ((p0.xP.ls.length : Nat) : Int)
 refine jT (dT h43) (sk (Wp.seq (bo (sr (Mz rfl (Ar rfl (Mz rfl (Mz rfl ?_))))))))
 have H44 := H30.pk [0, 2, 1]
 obtain ⟨⟨r50, r51, r52⟩, hr53⟩ : ∃ q : Int × CacheDT × BackT, r10_Cache_back (CacheDT.mk (Ll.mk l24) z25) ((k21 : Nat) : Int) m26 = q := ⟨_, rfl⟩
 obtain ⟨D45, HP46, ro47, bk48, rr49⟩ := Own.enter3 H44
 refine cl Try.call29 (r10_Cache_back_ok _ _ g0 (CacheDT.mk (Ll.mk l24) z25) A22 c23 ((k21 : Nat) : Int) g0l0 m26 r50 r51 r52 HP46 (by first | omega | (dsimp only; omega) | (simp only [List.length_set, List.length_replicate] <;> omega)) (by first | omega | (dsimp only; omega) | (dsimp only; simp only [List.length_set, List.length_replicate] <;> omega)) (by first | assumption | exact rs_rep (Nat.zero_le _)) (by first | omega | (dsimp only; omega)) (by first | omega | (dsimp only; omega)) hr53) ?_
 rintro _ w54 ⟨A57, c58, rfl, HQ55, hk59, hk60, hk61, hk62, hk63⟩
 have H56 := bk48 _ _ HQ55
 have hb64 := H56.rowC (i := 1) rfl
 replace hk59 : r51.xP.ls.length = l24.length := hk59
 replace hk60 : RsOk r51.xP.ls := hk60
 replace hk61 : 0 ≤ r51.xHand ∧ r51.xHand < ((r51.xP.ls.length : Nat) : Int) := hk61
 replace hk62 : r52.xCalls.length ≤ m26.xCalls.length + 2 := hk62
 replace hk63 : r51.xHand = z25 := hk63
 refine Ar rfl (Mz rfl (fw (.bool (decide (¬ (r50 = 0)))) (Yl.bool (e := !(decide (r50 = 0))) yk decide_not.symm) (nt ?_)))
 by_cases h65 : r50 = 0
 refine jF (dF (not_not_intro h65)) (Wp.skip (bN (Fin.then (Wp.region (fw (.int .i64 ((k21 + 1 : Nat) : Int)) (Yl.int (e := IntKind.i64.wrap (((k21 : Nat) : Int) + 1)) yk (by rw [IntWalk.i64_in _ (by omega)]; omega)) (Mz rfl (WL.nil ?_)))))))
 have H66 := H56.pk [0, 2, 1]
 exact Fin.round (k21 + 1, A57, c58, r51.xP.ls, r51.xHand, r52) ⟨rfl, rfl, rfl, rfl, trivial⟩ (dm34.2 ⟨H66, by omega, by omega, by omega, by first | assumption | exact rs_rep (Nat.zero_le _) | exact rs_set (by assumption) (Nat.zero_le _) | exact rs_set (by assumption) (by omega) | exact rs_set (by assumption) (by dsimp only; omega), by first | rfl | omega | (simp only [List.length_set] <;> omega), by omega, by omega, Eq.trans (hq35) (Eq.trans (congrArg (fun q => r10_Cache_Flush_L0 q k21 l24 z25 m26) (sub_at (n := p0.xP.ls.length) (i := k21) (by omega))) (Eq.trans (bnd_of hr53) (if_pos h65)))⟩) (by show p0.xP.ls.length - (k21 + 1) < p0.xP.ls.length - k21; omega)
 refine jT (dT h65) (sr (Mz rfl (An rfl (rt (bR (tR (tR (bR (tR (rs ?_))))))))))
 have H67 := H56.pk [0, 1, 2]
 have e : r10_Cache_Flush p0 p0l0 = (r50, r51, r52) := lp_r (et (hq35) (et (congrArg (fun q => r10_Cache_Flush_L0 q k21 l24 z25 m26) (sub_at (n := p0.xP.ls.length) (i := k21) (by omega))) (et (bnd_of hr53) (iN h65))))
 obtain ⟨rfl, rfl, rfl⟩ := pj3 (e.symm.trans hr)
 exact ⟨A57, c58, rfl, H67, (by first | rfl | omega | (simp only [List.length_set] <;> omega)), (by first | assumption | exact rs_rep (Nat.zero_le _) | exact rs_set (by assumption) (Nat.zero_le _) | exact rs_set (by assumption) (by omega) | exact rs_set (by assumption) (by dsimp only; omega)), (by first | omega | (dsimp only; omega)), (by first | omega | (dsimp only; omega) | (dsimp only; simp only [List.length_set] <;> omega))⟩
 refine jF (dF h43) (Wp.exit (Fin.thenX ?_))
 have hL68 : r10_Cache_Flush_L0 p0.xP.ls.length 0 p0.xP.ls p0.xHand p0l0 = Sum.inl (l24, z25, m26) := et (hq35) (et (congrArg (fun q => r10_Cache_Flush_L0 q k21 l24 z25 m26) (sub_end (n := p0.xP.ls.length) (i := k21) (by omega))) rfl)
 refine Fin.thenX (Fin.blockX (Fin.then (sr (An rfl (rt (rs ?_))))))
 have H69 := H30.pk [0, 2, 1]
 have e : r10_Cache_Flush p0 p0l0 = (0, CacheDT.mk (Ll.mk l24) z25, m26) := lp_l hL68
 obtain ⟨rfl, rfl, rfl⟩ := pj3 (e.symm.trans hr)
 exact ⟨A22, c23, rfl, H69, (by first | rfl | omega | (simp only [List.length_set] <;> omega)), (by first | assumption | exact rs_rep (Nat.zero_le _) | exact rs_set (by assumption) (Nat.zero_le _) | exact rs_set (by assumption) (by omega) | exact rs_set (by assumption) (by dsimp only; omega)), (by first | omega | (dsimp only; omega)), (by first | omega | (dsimp only; omega) | (dsimp only; simp only [List.length_set] <;> omega))⟩

def r10_Cache_Dirty_L1 (x41 : PlaceD) : List Int → Nat → Nat
  | [], k55 => k55
  | x70 :: q56, k55 => if x70 < x41.xId then r10_Cache_Dirty_L1 x41 q56 (k55 + 1) else k55

def r10_Cache_Dirty_L0 : List PlaceD → List Int → (List Int)
  | [], l24 => l24
  | x41 :: q26, l24 => if x41.xFull = true then if x41.xDirty = true then bnd (bnd (r10_Cache_Dirty_L1 x41 l24 0) fun sLrLsttJjL => sLrLsttJjL) fun sJrLsttJ => r10_Cache_Dirty_L0 q26 (((List.take sJrLsttJ l24) ++ [x41.xId]) ++ (List.drop sJrLsttJ l24)) else r10_Cache_Dirty_L0 q26 l24 else r10_Cache_Dirty_L0 q26 l24

def r10_Cache_Dirty (p0 : CacheDT) (p0l0 : BackT) : (List Int) :=
 bnd (r10_Cache_Dirty_L0 p0.xP.ls ([])) fun sLrL => sLrL

set_option maxRecDepth 100000 in
theorem r10_Cache_Dirty_ok (w : World) (D : Nat → Prop) (g0 : Nat) (p0 : CacheDT) (A0x0 : Option Addr) (c0x0 : Nat) (g0l0 : Nat) (p0l0 : BackT) (r0 : List Int) (H : Own w D w [blk g0 [.slice A0x0 p0.xP.ls.length c0x0, .int .i64 p0.xHand, .pointer (some ⟨g0l0, 0, none⟩)] 51, BackO g0l0 p0l0]) (hx0x0 : Ro w D fun w' => Rds w' 7 A0x0 p0.xP.ls.length (List.flatMap PlaceD.cells p0.xP.ls)) (hb0x0 : p0.xP.ls.length ≤ c0x0 ∧ p0.xP.ls.length ≤ 9223372036854775807) (hh0 : 1 ≤ p0.xP.ls.length ∧ p0.xP.ls.length ≤ 64) (hr : r10_Cache_Dirty p0 p0l0 = r0) :
    Calls Try.prog 30 #[.pointer (some ⟨g0, 0, none⟩)] w (Ret fun v w' => ∃ (B0 : Option Addr) (b0 : Nat), v = .slice B0 r0.length b0 ∧ Own w D w' [row B0 r0.length b0 (List.flatMap (eI .i64) r0) 3 1, blk g0 [.slice A0x0 p0.xP.ls.length c0x0, .int .i64 p0.xHand, .pointer (some ⟨g0l0, 0, none⟩)] 51, BackO g0l0 p0l0] ∧ (r0.length ≤ 64)) := by
 refine Calls.body (args := [.pointer (some ⟨g0, 0, none⟩)]) Try.func30 rfl rfl rfl ?_
 show Wp _ _ _ [(0, .pointer (some ⟨g0, 0, none⟩))] _ _
 refine sr (Ar rfl (An rfl (Wp.seq (sr (Mz rfl (Kz (.pointer (some ⟨g0, 0, none⟩)) (Kz (.pointer (some ⟨g0, 0, none⟩)) (Lz (.slice A0x0 p0.xP.ls.length c0x0) H 0 Try.isAgg49 (Kz (.int .i64 ((p0.xP.ls.length : Nat) : Int)) (Mn rfl (bo ?_)))))))))))
 have H21 : Own w D w [row none 0 0 (List.flatMap (eI .i64) ([])) 3 1, blk g0 [.slice A0x0 p0.xP.ls.length c0x0, .int .i64 p0.xHand, .pointer (some ⟨g0l0, 0, none⟩)] 51, BackO g0l0 p0l0] := H.free (row_nil 3 1)
 have H27 := H21.pk [1, 2, 0]
 obtain ⟨I31, hI32⟩ : ∃ q : ((Option Addr) × Nat × (List Int) × Nat) → World → Prop, q = fun (i : (Option Addr) × Nat × (List Int) × Nat) w' => Own w D w' [blk g0 [.slice A0x0 p0.xP.ls.length c0x0, .int .i64 p0.xHand, .pointer (some ⟨g0l0, 0, none⟩)] 51, BackO g0l0 p0l0, row i.1 i.2.2.1.length i.2.1 (List.flatMap (eI .i64) i.2.2.1) 3 1] ∧ (i.2.2.2 ≤ p0.xP.ls.length ∧ i.2.2.1.length ≤ i.2.2.2 ∧ i.2.2.1.length ≤ i.2.2.2 ∧ i.2.2.2 ≤ 64 ∧ r10_Cache_Dirty_L0 p0.xP.ls ([]) = r10_Cache_Dirty_L0 (List.drop i.2.2.2 p0.xP.ls) i.2.2.1) := ⟨_, rfl⟩
 have dm33 : ∀ {A22 : Option Addr} {c23 : Nat} {l24 : List Int} {k25 : Nat} {w' : World}, I31 (A22, c23, l24, k25) w' ↔ Own w D w' [blk g0 [.slice A0x0 p0.xP.ls.length c0x0, .int .i64 p0.xHand, .pointer (some ⟨g0l0, 0, none⟩)] 51, BackO g0l0 p0l0, row A22 l24.length c23 (List.flatMap (eI .i64) l24) 3 1] ∧ k25 ≤ p0.xP.ls.length ∧ l24.length ≤ k25 ∧ l24.length ≤ k25 ∧ k25 ≤ 64 ∧ r10_Cache_Dirty_L0 p0.xP.ls ([]) = r10_Cache_Dirty_L0 (List.drop k25 p0.xP.ls) l24 := by intros; subst hI32; exact Iff.rfl
 refine Wp.loop (fun i : (Option Addr) × Nat × (List Int) × Nat => [(3, .slice i.1 i.2.2.1.length i.2.1), (13, .int .i64 ((i.2.2.2 : Nat) : Int)), (12, .int .i64 ((p0.xP.ls.length : Nat) : Int)), (11, .slice A0x0 p0.xP.ls.length c0x0), (2, .slice none 0 0)]) I31 (fun i => p0.xP.ls.length - i.2.2.2) (none, 0, [], 0) ⟨rfl, rfl, rfl, rfl, rfl, trivial⟩ (dm33.2 ⟨H27, (show 0 ≤ p0.xP.ls.length ∧ 0 ≤ 0 ∧ 0 ≤ 0 ∧ 0 ≤ 64 ∧ r10_Cache_Dirty_L0 p0.xP.ls ([]) = r10_Cache_Dirty_L0 (List.drop 0 p0.xP.ls) ([]) from ⟨by omega, by omega, by first | omega | (simp only [List.length_append, List.length_take, List.length_drop, List.length_cons, List.length_nil]; omega), by omega, rfl⟩)⟩) ?_
 rintro ⟨A22, c23, l24, k25⟩ w28 hf30
 show Wp _ _ _ [(3, .slice A22 l24.length c23), (13, .int .i64 ((k25 : Nat) : Int)), (12, .int .i64 ((p0.xP.ls.length : Nat) : Int)), (11, .slice A0x0 p0.xP.ls.length c0x0), (2, .slice none 0 0)] _ _
 obtain ⟨H29, hi35, hi36, hi37, hi38, hq34⟩ := dm33.1 hf30
 have hb39 := H29.rowC (i := 2) rfl
 refine sr (Kz (.bool (decide (((k25 : Nat) : Int) < ((p0.xP.ls.length : Nat) : Int)))) (nt (Wp.seq ?_)))
 by_cases h40 : ((k25 : Nat) : Int) < ((p0.xP.ls.length : Nat) : Int)
 obtain ⟨x41, hx42⟩ := rds_at (ls := p0.xP.ls) (i := k25) PlaceD.len (by decide) (H29.ro hx0x0) (by first | omega | (simp; done) | (simp; omega))
 have hd43 := drop_at hx42
 refine jT (dT h40) (sk (Wp.seq (bo (sr (fw (.pointer (some ⟨ab A0x0, ao A0x0 + k25 * 7, none⟩)) (Yl.indexAddr (El49) rfl rfl ((H29.ro hx0x0).addr (i := k25) (by omega)) (by omega)) (fw (.agg (PlaceD.cells x41).toArray) (Yl.load rfl (Lds.agg (cs := (PlaceD.cells x41)) Try.isAgg78 Try.sizeOf78 ((H29.ro hx0x0).elem PlaceD.len hx42 (by decide)))) ?_))))))
 refine npw [.bool false, .int .i64 0, .int .i64 0, .string ⟨List.toArray ([])⟩, .bool false, .bool false, .int .u64 0] 78 H29 ?_
 intro g44 w45 H46
 refine sto (PlaceD.cells x41) 0 H46 Try.sizeOf78 ?_
 intro w47 H48
 refine nt (Wp.seq (sr (Kz (.pointer (some ⟨g44, 0, none⟩)) (Lz (.bool x41.xFull) H48 0 Try.isAgg4 (Kz (.bool (!x41.xFull)) (Mz rfl ?_))))))
 rcases Bool.eq_false_or_eq_true (x41.xFull) with h49 | h49
 refine Gz (.pointer (some ⟨g44, 5, none⟩)) (cn h49) (Gl (.bool x41.xDirty) (cn h49) H48 0 Try.isAgg4 (Gz (.bool (!x41.xDirty)) (cn h49) (fw (.bool (!x41.xDirty)) (Yl.pickF rfl (cn h49) rfl) (nt ?_))))
 rcases Bool.eq_false_or_eq_true (x41.xDirty) with h50 | h50
 refine jF (cn h50) (sk (sr (An rfl (Wp.seq ?_))))
 obtain ⟨I52, hI53⟩ : ∃ q : Nat → World → Prop, q = fun (i : Nat) w' => Own w D w' [blk g44 (PlaceD.cells x41) 78, blk g0 [.slice A0x0 p0.xP.ls.length c0x0, .int .i64 p0.xHand, .pointer (some ⟨g0l0, 0, none⟩)] 51, BackO g0l0 p0l0, row A22 l24.length c23 (List.flatMap (eI .i64) l24) 3 1] ∧ (i ≤ 9223372036854775807 ∧ i ≤ l24.length ∧ 0 ≤ i ∧ (bnd (r10_Cache_Dirty_L1 x41 l24 0) fun sLrLsttJjL => sLrLsttJjL) = i) := ⟨_, rfl⟩
 have dm54 : ∀ {k51 : Nat} {w' : World}, I52 k51 w' ↔ Own w D w' [blk g44 (PlaceD.cells x41) 78, blk g0 [.slice A0x0 p0.xP.ls.length c0x0, .int .i64 p0.xHand, .pointer (some ⟨g0l0, 0, none⟩)] 51, BackO g0l0 p0l0, row A22 l24.length c23 (List.flatMap (eI .i64) l24) 3 1] ∧ k51 ≤ 9223372036854775807 ∧ k51 ≤ l24.length ∧ 0 ≤ k51 ∧ (bnd (r10_Cache_Dirty_L1 x41 l24 0) fun sLrLsttJjL => sLrLsttJjL) = k51 := by intros; subst hI53; exact Iff.rfl
 refine Wp.joinT (fun i : Nat => [(6, .int .i64 ((i : Nat) : Int)), (5, .pointer (some ⟨g44, 0, none⟩)), (3, .slice A22 l24.length c23), (13, .int .i64 ((k25 : Nat) : Int)), (12, .int .i64 ((p0.xP.ls.length : Nat) : Int)), (11, .slice A0x0 p0.xP.ls.length c0x0), (2, .slice none 0 0)]) I52 ?_ ?_
 refine bo ?_
 have H57 := H48.pk [0, 1, 2, 3]
 obtain ⟨I61, hI62⟩ : ∃ q : Nat → World → Prop, q = fun (i : Nat) w' => Own w D w' [blk g44 (PlaceD.cells x41) 78, blk g0 [.slice A0x0 p0.xP.ls.length c0x0, .int .i64 p0.xHand, .pointer (some ⟨g0l0, 0, none⟩)] 51, BackO g0l0 p0l0, row A22 l24.length c23 (List.flatMap (eI .i64) l24) 3 1] ∧ (i ≤ l24.length ∧ 0 ≤ i ∧ r10_Cache_Dirty_L1 x41 l24 0 = r10_Cache_Dirty_L1 x41 (List.drop i l24) i) := ⟨_, rfl⟩
 have dm63 : ∀ {k55 : Nat} {w' : World}, I61 k55 w' ↔ Own w D w' [blk g44 (PlaceD.cells x41) 78, blk g0 [.slice A0x0 p0.xP.ls.length c0x0, .int .i64 p0.xHand, .pointer (some ⟨g0l0, 0, none⟩)] 51, BackO g0l0 p0l0, row A22 l24.length c23 (List.flatMap (eI .i64) l24) 3 1] ∧ k55 ≤ l24.length ∧ 0 ≤ k55 ∧ r10_Cache_Dirty_L1 x41 l24 0 = r10_Cache_Dirty_L1 x41 (List.drop k55 l24) k55 := by intros; subst hI62; exact Iff.rfl
 refine Wp.loop (fun i : Nat => [(6, .int .i64 ((i : Nat) : Int)), (5, .pointer (some ⟨g44, 0, none⟩)), (3, .slice A22 l24.length c23), (13, .int .i64 ((k25 : Nat) : Int)), (12, .int .i64 ((p0.xP.ls.length : Nat) : Int)), (11, .slice A0x0 p0.xP.ls.length c0x0), (2, .slice none 0 0)]) I61 (fun i => l24.length - i) 0 ⟨rfl, rfl, rfl, rfl, rfl, rfl, rfl, trivial⟩ (dm63.2 ⟨H57, by omega, by omega, rfl⟩) ?_
 rintro k55 w58 hf60
 show Wp _ _ _ [(6, .int .i64 ((k55 : Nat) : Int)), (5, .pointer (some ⟨g44, 0, none⟩)), (3, .slice A22 l24.length c23), (13, .int .i64 ((k25 : Nat) : Int)), (12, .int .i64 ((p0.xP.ls.length : Nat) : Int)), (11, .slice A0x0 p0.xP.ls.length c0x0), (2, .slice none 0 0)] _ _
 obtain ⟨H59, hi65, hi66, hq64⟩ := dm63.1 hf60
 refine Wp.seq (Wp.seq ?_)
 have H68 := H59.drew
 refine Wp.drawnX [] (fun W => ∃ L', Own w D W ([blk g44 (PlaceD.cells x41) 78, blk g0 [.slice A0x0 p0.xP.ls.length c0x0, .int .i64 p0.xHand, .pointer (some ⟨g0l0, 0, none⟩)] 51, BackO g0l0 p0l0, row A22 l24.length c23 (List.flatMap (eI .i64) l24) 3 1] ++ L')) (by kernel_rfl) (by kernel_rfl) (NoP.then (NoP.then (NoP.then (NoP.block (NoP.then (NoP.block (NoP.then (NoP.then (NoP.block (NoP.then NoP.base)))))))))) ⟨_, H68⟩ ?_
 revert H68
 generalize World.drew w58 = w67
 intro H68
 refine GX.take (v := .int .i64 ((k55 : Nat) : Int)) (rs := []) 0 rfl (by kernel_rfl) (fun _ _ => Yl.move rfl) (GX.take (v := .slice A22 l24.length c23) (rs := []) 1 rfl (by kernel_rfl) (fun _ _ => Yl.move rfl) (GX.take (v := .int .i64 ((l24.length : Nat) : Int)) (rs := []) 2 rfl (by kernel_rfl) (fun _ _ => yk) (GX.take (v := .bool (decide (((k55 : Nat) : Int) < ((l24.length : Nat) : Int)))) (rs := []) 3 rfl (by kernel_rfl) (fun _ _ => yk) (GX.take (v := .bool (decide (((k55 : Nat) : Int) < ((l24.length : Nat) : Int)))) (rs := []) 4 rfl (by kernel_rfl) (fun _ _ => Yl.move rfl) ?_))))
 by_cases h69 : ((k55 : Nat) : Int) < ((l24.length : Nat) : Int)
 obtain ⟨x70, hx71⟩ := rds_at (ls := l24) (i := k55) eI_len (by decide) (H68.rds (i := 3) rfl) (by first | omega | (simp; done) | (simp; omega))
 have hd72 := drop_at hx71
 refine GX.takeG (v := .slice A22 l24.length c23) (rs := []) 5 rfl rfl rfl (dT h69) (by kernel_rfl) (fun _ _ => Yl.move rfl) (GX.takeG (v := .int .i64 ((k55 : Nat) : Int)) (rs := []) 6 rfl rfl rfl (dT h69) (by kernel_rfl) (fun _ _ => Yl.move rfl) (GX.takeG (v := .pointer (some ⟨ab A22, ao A22 + k55 * 1, none⟩)) (rs := []) 7 rfl rfl rfl (dT h69) (by kernel_rfl) (fun _ ⟨_, H9⟩ => Yl.indexAddr (El58) rfl rfl ((H9.rds (i := 3) rfl).addr (i := k55) (by omega)) (by omega)) (GX.takeG (v := .int .i64 x70) (rs := []) 8 rfl rfl rfl (dT h69) (by kernel_rfl) (fun _ ⟨_, H9⟩ => Yl.load rfl (Lds.one Try.isAgg3 (((H9.rds (i := 3) rfl).elem eI_len hx71 (by decide)).at_ (k := 0) rfl))) (GX.takeG (v := .pointer (some ⟨g44, 1, none⟩)) (rs := []) 9 rfl rfl rfl (dT h69) (by kernel_rfl) (fun _ _ => yk) (GX.takeG (v := .int .i64 x41.xId) (rs := []) 10 rfl rfl rfl (dT h69) (by kernel_rfl) (fun _ ⟨_, H9⟩ => Yl.load rfl (Lds.one Try.isAgg3 (Cls.of (H9.cls (i := 0) rfl) rfl))) (GX.takeG (v := .bool (decide (x70 < x41.xId))) (rs := []) 11 rfl rfl rfl (dT h69) (by kernel_rfl) (fun _ _ => yk) (GX.take (v := .bool (decide (x70 < x41.xId))) (rs := []) 12 rfl (by kernel_rfl) (fun _ _ => Yl.pickT rfl (dT h69) rfl) (GX.done (by kernel_rfl) (Fin.then ?_)))))))))
 by_cases h73 : x70 < x41.xId
 refine jT (dT h73) (sk (bo (Wp.region (Mz rfl (fw (.int .i64 ((k55 + 1 : Nat) : Int)) (Yl.int (e := IntKind.i64.wrap (((k55 : Nat) : Int) + 1)) yk (by rw [IntWalk.i64_in _ (by omega)]; omega)) (Az rfl (WL.nil (bN ?_))))))))
 have H74 := H68.pk [0, 1, 2, 3]
 exact Fin.round (k55 + 1) ⟨rfl, rfl, rfl, rfl, rfl, rfl, rfl, trivial⟩ (dm63.2 ⟨H74, by omega, by omega, et (hq64) (et (congrArg (fun q => r10_Cache_Dirty_L1 x41 q k55) hd72) (ip h73))⟩) (by show l24.length - (k55 + 1) < l24.length - k55; omega)
 refine jF (dF h73) (Wp.exit (Fin.thenX (Fin.thenX (Fin.blockX ?_))))
 have H75 := H68.pk [0, 1, 2, 3]
 exact Fin.join k55 ⟨rfl, rfl, rfl, rfl, rfl, rfl, rfl, trivial⟩ (dm54.2 ⟨H75, by omega, by omega, by omega, bnd_of (et (hq64) (et (congrArg (fun q => r10_Cache_Dirty_L1 x41 q k55) hd72) (iN h73)))⟩)
 refine GX.skipG (rs := []) 5 rfl rfl rfl (dF h69) (by kernel_rfl) (GX.skipG (rs := []) 6 rfl rfl rfl (dF h69) (by kernel_rfl) (GX.skipG (rs := []) 7 rfl rfl rfl (dF h69) (by kernel_rfl) (GX.skipG (rs := []) 8 rfl rfl rfl (dF h69) (by kernel_rfl) (GX.skipG (rs := []) 9 rfl rfl rfl (dF h69) (by kernel_rfl) (GX.skipG (rs := []) 10 rfl rfl rfl (dF h69) (by kernel_rfl) (GX.skipG (rs := []) 11 rfl rfl rfl (dF h69) (by kernel_rfl) (GX.take (v := .bool false) (rs := []) 12 rfl (by kernel_rfl) (fun _ _ => Yl.pickF rfl (dF h69) rfl) (GX.done (by kernel_rfl) (Fin.then (jf (Wp.exit (Fin.thenX (Fin.thenX (Fin.blockX ?_))))))))))))))
 have H76 := H68.pk [0, 1, 2, 3]
 exact Fin.join k55 ⟨rfl, rfl, rfl, rfl, rfl, rfl, rfl, trivial⟩ (dm54.2 ⟨H76, by omega, by omega, by omega, bnd_of (et (hq64) (et (congrArg (fun q => r10_Cache_Dirty_L1 x41 q k55) (drop_end (ls := l24) (i := k55) (by omega))) rfl))⟩)
 rintro k51 w77 hf79
 show Wp _ _ _ [(6, .int .i64 ((k51 : Nat) : Int)), (5, .pointer (some ⟨g44, 0, none⟩)), (3, .slice A22 l24.length c23), (13, .int .i64 ((k25 : Nat) : Int)), (12, .int .i64 ((p0.xP.ls.length : Nat) : Int)), (11, .slice A0x0 p0.xP.ls.length c0x0), (2, .slice none 0 0)] _ _
 obtain ⟨H78, hi81, hi82, hi83, hj80⟩ := dm54.1 hf79
 refine sr (Mz rfl (Mz rfl (fw (.slice A22 k51 c23) (Yl.cutTo (El58) rfl rfl (by omega)) ?_)))
 have hz84 : k51 = List.length (List.take k51 l24) := (by first | rfl | omega | (simp only [List.length_append, List.length_cons, List.length_nil, List.length_take, List.length_drop, List.length_set, List.length_replicate, List.length_map] <;> omega))
 have H85 : Own w D w77 [row none 0 0 (List.flatMap (eI .i64) ([])) 3 1, blk g44 (PlaceD.cells x41) 78, blk g0 [.slice A0x0 p0.xP.ls.length c0x0, .int .i64 p0.xHand, .pointer (some ⟨g0l0, 0, none⟩)] 51, BackO g0l0 p0l0, row A22 l24.length c23 (List.flatMap (eI .i64) l24) 3 1] := H78.free (row_nil 3 1)
 refine WL.do rfl (Do.appendW (k := 0) (m := k51) (El58) H85 rfl rfl (src_of Try.underlying58 (Rds.toE (hi := k51) eI_len (H85.rds (i := 4) rfl) (by omega)) (flat_one eI_one (List.take k51 l24))) rfl (by omega) (s := List.length (List.take k51 l24)) (by first | omega | (simp only [List.length_append, List.length_cons, List.length_nil] <;> omega)) rfl ?_)
 intro A86 c87 w88 H89
 refine Ar rfl (Mz rfl (Kz (.pointer (some ⟨g44, 1, none⟩)) (Lz (.int .i64 x41.xId) H89 1 Try.isAgg3 ?_)))
 refine nrw [.int .i64 x41.xId] 3 1 1 H89 ?_
 intro A90 w91 H92
 replace H92 := Own.reh (y := row A90 1 1 (List.flatMap (eI .i64) ([x41.xId])) 3 1) rfl H92
 have H93 := H92.pk [1, 0, 2, 3, 4, 5]
 refine WL.do rfl (Do.appendW (k := List.length (List.take k51 l24)) (m := 1) (El58) H93 rfl rfl (src_of Try.underlying58 (H93.rds (i := 1) rfl) (flat_one eI_one ([x41.xId]))) rfl (by omega) (s := List.length ((List.take k51 l24) ++ [x41.xId])) (by first | omega | (simp only [List.length_append, List.length_cons, List.length_nil] <;> omega)) (List.flatMap_append).symm ?_)
 intro A94 c95 w96 H97
 have hl98 : List.length ((List.take k51 l24) ++ [x41.xId]) = (List.length (List.take k51 l24)) + 1 := by simp only [List.length_append, List.length_cons, List.length_nil]
 refine An rfl ?_
 have H99 := H97.pk [0, 3, 4, 5]
 refine Wp.region (Mz rfl (Mz rfl (Mz rfl (fw (.slice (cutA A22 k51 1 c23) (l24.length - k51) (c23 - k51)) (Yl.cutFrom (El58) rfl rfl (by omega)) ?_))))
 have hz100 : l24.length - k51 = List.length (List.drop k51 l24) := (by first | rfl | omega | (simp only [List.length_append, List.length_cons, List.length_nil, List.length_take, List.length_drop, List.length_set, List.length_replicate, List.length_map] <;> omega))
 refine WL.do rfl (Do.appendW (k := List.length ((List.take k51 l24) ++ [x41.xId])) (m := l24.length - k51) (El58) H99 rfl rfl (src_of Try.underlying58 (Rds.fromE (lo := k51) eI_len (H99.rds (i := 3) rfl) (by omega) (by omega) (by decide)) (flat_one eI_one (List.drop k51 l24))) rfl (by omega) (s := List.length (((List.take k51 l24) ++ [x41.xId]) ++ (List.drop k51 l24))) (by first | omega | (simp only [List.length_append, List.length_cons, List.length_nil] <;> omega)) (List.flatMap_append).symm ?_)
 intro A101 c102 w103 H104
 have hl105 : List.length (((List.take k51 l24) ++ [x41.xId]) ++ (List.drop k51 l24)) = (List.length ((List.take k51 l24) ++ [x41.xId])) + (List.length (List.drop k51 l24)) := by simp only [List.length_append, List.length_cons, List.length_nil]
 refine Az rfl (WL.nil (bN (Fin.then (Wp.region (fw (.int .i64 ((k25 + 1 : Nat) : Int)) (Yl.int (e := IntKind.i64.wrap (((k25 : Nat) : Int) + 1)) yk (by rw [IntWalk.i64_in _ (by omega)]; omega)) (Mz rfl (WL.nil ?_)))))))
 have H106 := H104.pk [1, 2, 0]
 exact Fin.round (A101, c102, (((List.take k51 l24) ++ [x41.xId]) ++ (List.drop k51 l24)), k25 + 1) ⟨rfl, rfl, rfl, rfl, rfl, trivial⟩ (dm33.2 ⟨H106, by omega, by omega, by first | omega | (simp only [List.length_append, List.length_take, List.length_drop, List.length_cons, List.length_nil]; omega), by omega, Eq.trans (hq34) (Eq.trans (congrArg (fun q => r10_Cache_Dirty_L0 q l24) hd43) (Eq.trans (if_pos h49) (Eq.trans (if_pos h50) (bnd_of hj80))))⟩) (by show p0.xP.ls.length - (k25 + 1) < p0.xP.ls.length - k25; omega)
 refine jT (cn h50) (Wp.exit (Fin.thenX (Fin.blockX (Fin.then ?_))))
 have H107 := H48.pk [1, 2, 3]
 refine Wp.region (fw (.int .i64 ((k25 + 1 : Nat) : Int)) (Yl.int (e := IntKind.i64.wrap (((k25 : Nat) : Int) + 1)) yk (by rw [IntWalk.i64_in _ (by omega)]; omega)) (Mz rfl (WL.nil ?_)))
 have H108 := H107.pk [0, 1, 2]
 exact Fin.round (A22, c23, l24, k25 + 1) ⟨rfl, rfl, rfl, rfl, rfl, trivial⟩ (dm33.2 ⟨H108, by omega, by omega, by first | omega | (simp only [List.length_append, List.length_take, List.length_drop, List.length_cons, List.length_nil]; omega), by omega, Eq.trans (hq34) (Eq.trans (congrArg (fun q => r10_Cache_Dirty_L0 q l24) hd43) (Eq.trans (if_pos h49) (ifF h50)))⟩) (by show p0.xP.ls.length - (k25 + 1) < p0.xP.ls.length - k25; omega)
 refine Sz (cn h49) (Sz (cn h49) (Sz (cn h49) (fw (.bool true) (Yl.pickT rfl (cn h49) rfl) (nt (jt (Wp.exit (Fin.thenX (Fin.blockX (Fin.then ?_)))))))))
 have H109 := H48.pk [1, 2, 3]
 refine Wp.region (fw (.int .i64 ((k25 + 1 : Nat) : Int)) (Yl.int (e := IntKind.i64.wrap (((k25 : Nat) : Int) + 1)) yk (by rw [IntWalk.i64_in _ (by omega)]; omega)) (Mz rfl (WL.nil ?_)))
 have H110 := H109.pk [0, 1, 2]
 exact Fin.round (A22, c23, l24, k25 + 1) ⟨rfl, rfl, rfl, rfl, rfl, trivial⟩ (dm33.2 ⟨H110, by omega, by omega, by first | omega | (simp only [List.length_append, List.length_take, List.length_drop, List.length_cons, List.length_nil]; omega), by omega, Eq.trans (hq34) (Eq.trans (congrArg (fun q => r10_Cache_Dirty_L0 q l24) hd43) (ifF h49))⟩) (by show p0.xP.ls.length - (k25 + 1) < p0.xP.ls.length - k25; omega)
 refine jF (dF h40) (Wp.exit (Fin.thenX ?_))
 have hL111 : r10_Cache_Dirty_L0 p0.xP.ls ([]) = l24 := et (hq34) (et (congrArg (fun q => r10_Cache_Dirty_L0 q l24) (drop_end (ls := p0.xP.ls) (i := k25) (by omega))) rfl)
 refine Fin.thenX (Fin.blockX (Fin.then (sr (Mz rfl (An rfl (rt (rs ?_)))))))
 have H112 := H29.pk [2, 0, 1]
 obtain rfl : _ = l24 := hr.symm.trans (bnd_of hL111)
 exact ⟨A22, c23, rfl, H112, (by first | omega | (dsimp only; omega))⟩
end Go.Proofs.Ytkekaemfokmhdaa
