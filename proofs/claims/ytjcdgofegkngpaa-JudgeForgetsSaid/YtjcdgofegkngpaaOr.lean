/-
  op: the document's answer.
-/
import Derived.Test.YtjcdgofegkngpaaOb
namespace Go.Proofs.Ytjcdgofegkngpaa
open Go.RowKit
set_option linter.unusedVariables false
set_option linter.unusedSectionVars false
set_option linter.unusedSimpArgs false

theorem El89 : Elem Try.prog 89 5 1 1 := elem_of (z := .int .u8 0) Try.underlying89 (by kernel_rfl) rfl (by decide)

def r02_CheckKey (p0 : List UInt8) : Int :=
  if ((p0.length : Nat) : Int) < 1 then 20 else if ((p0.length : Nat) : Int) > 12 then 20 else 0

set_option maxRecDepth 100000 in
theorem r02_CheckKey_ok (w : World) (D : Nat → Prop) (p0 : List UInt8) (r0 : Int) (H : Own w D w [])  (hr : r02_CheckKey p0 = r0) :
    Calls Try.prog 39 #[.string ⟨List.toArray p0⟩] w (Ret fun v w' => v = .int .i64 r0 ∧ Own w D w' [] ∧ (¬ (r0 = 0) ∨ (1 ≤ p0.length ∧ p0.length ≤ 12))) := by
  refine Calls.body (args := [.string ⟨List.toArray p0⟩]) Try.func39 rfl rfl rfl ?_
  show Wp _ _ _ [(0, .string ⟨List.toArray p0⟩)] _ _
  refine Wp.seq (Wp.region (As rfl rfl (WL.nil (Fin.then (Wp.seq (Wp.seq (Wp.region (Mv rfl rfl (Kn (v := .int .i64 ((p0.length : Nat) : Int)) rfl rfl rfl (fun _ => by kernel_rfl) (Kn (v := .bool (decide (((p0.length : Nat) : Int) < 1))) rfl rfl rfl (fun _ => by kernel_rfl) (Mv rfl rfl ?_)))))))))))
  by_cases h21 : ((p0.length : Nat) : Int) < 1
  refine Sk rfl rfl (decide_eq_true h21) rfl (Sk rfl rfl (decide_eq_true h21) rfl (Sk rfl rfl (decide_eq_true h21) rfl (WL.val (v := .bool true) rfl (Yl.pickT rfl (decide_eq_true h21) rfl) (WL.nil (Fin.then (Wp.cond1 rfl rfl (Wp.seq (Wp.region (As rfl rfl (WL.nil (Fin.then (Wp.ret (Fin.thenR (Fin.res (res1 rfl rfl) ?_))))))))))))))
  have H22 : Own w D w [] := H.pick [] (by decide) rfl
  have e : r02_CheckKey p0 = 20 := if_pos h21
  obtain rfl := e.symm.trans hr
  exact ⟨rfl, H22, (by omega)⟩
  refine WL.valG (v := .string ⟨List.toArray p0⟩) rfl rfl (decide_eq_false h21) rfl (Yl.move rfl) (WL.valG (v := .int .i64 ((p0.length : Nat) : Int)) rfl rfl (decide_eq_false h21) rfl (Yl.kern rfl rfl (fun _ => by kernel_rfl)) (WL.valG (v := .bool (decide (((p0.length : Nat) : Int) > 12))) rfl rfl (decide_eq_false h21) rfl (Yl.kern rfl rfl (fun _ => by kernel_rfl)) (WL.val (v := .bool (decide (((p0.length : Nat) : Int) > 12))) rfl (Yl.pickF rfl (decide_eq_false h21) rfl) (WL.nil (Fin.then ?_)))))
  by_cases h23 : ((p0.length : Nat) : Int) > 12
  refine Wp.cond1 rfl (decide_eq_true h23) (Wp.seq (Wp.region (As rfl rfl (WL.nil (Fin.then (Wp.ret (Fin.thenR (Fin.res (res1 rfl rfl) ?_))))))))
  have H24 : Own w D w [] := H.pick [] (by decide) rfl
  have e : r02_CheckKey p0 = 20 := Eq.trans (if_neg h21) (if_pos h23)
  obtain rfl := e.symm.trans hr
  exact ⟨rfl, H24, (by omega)⟩
  refine Wp.cond0 rfl (decide_eq_false h23) (Wp.skip (Fin.then (Wp.seq (Wp.region (As rfl rfl (WL.nil (Fin.then (Wp.ret (Fin.res (res1 rfl rfl) ?_)))))))))
  have H25 : Own w D w [] := H.pick [] (by decide) rfl
  have e : r02_CheckKey p0 = 0 := Eq.trans (if_neg h21) (if_neg h23)
  obtain rfl := e.symm.trans hr
  exact ⟨rfl, H25, (by omega)⟩

def r02_Point_L0 (p0 : List UInt8) : Nat → Nat → Nat
  | 0, k41 => default
  | q42 + 1, k41 => if ((k41 : Nat) : Int) > 0 then bnd (List.getD p0 (k41 - 1) default) fun yb54 => if ((yb54.toNat : Nat) : Int) = 255 then r02_Point_L0 p0 q42 (k41 - 1) else k41 else k41

def r02_Point (p0 : List UInt8) : RangeD × Int :=
  bnd (r02_CheckKey p0) fun yr29 => if yr29 = 0 then if ((p0.length : Nat) : Int) < 12 then (RangeD.mk p0 (p0 ++ ([0])), 0) else bnd (bnd (r02_Point_L0 p0 (12 + 1) 12) fun sLrbtfJjL => sLrbtfJjL) fun sJrbtfJ => if ((sJrbtfJ : Nat) : Int) = 0 then (RangeD.mk p0 ([]), 0) else bnd (List.getD p0 (sJrbtfJ - 1) default) fun yb72 => (RangeD.mk p0 ((List.take (sJrbtfJ - 1) p0) ++ ([(yb72 + (1 : UInt8))])), 0) else (RangeD.mk ([]) ([]), yr29)

set_option maxRecDepth 100000 in
theorem r02_Point_ok (w : World) (D : Nat → Prop) (p0 : List UInt8) (r0 : RangeD) (r1 : Int) (H : Own w D w [])  (hr : r02_Point p0 = (r0, r1)) :
    Calls Try.prog 32 #[.string ⟨List.toArray p0⟩] w (Ret fun v w' => v = .tuple #[.agg (RangeD.cells r0).toArray, .int .i64 r1] ∧ Own w D w' []) := by
  refine Calls.body (args := [.string ⟨List.toArray p0⟩]) Try.func32 rfl rfl rfl ?_
  show Wp _ _ _ [(0, .string ⟨List.toArray p0⟩)] _ _
  refine Wp.seq (Wp.region ?_)
  refine WL.do rfl (Do.newP (cs := [.string ⟨List.toArray ([])⟩, .string ⟨List.toArray ([])⟩]) (t := 46) H rfl rfl (fun _ => by kernel_rfl) ?_)
  intro g21 w22 H23
  refine As rfl rfl (WL.nil (Fin.then (Wp.seq (Wp.seq (Wp.region (Mv rfl rfl ?_))))))
  obtain ⟨r29, hr30⟩ : ∃ q, r02_CheckKey p0 = q := ⟨_, rfl⟩
  obtain ⟨D24, HP25, ro26, bk27, rr28⟩ := Own.enter0 H23
  refine WL.do rfl (Do.call Try.call39 rfl (r02_CheckKey_ok _ _ p0 r29 HP25 hr30) ?_)
  rintro _ w31 ⟨rfl, HQ32, hk34⟩
  have H33 := bk27 _ _ HQ32
  replace hk34 : ¬ (r29 = 0) ∨ (1 ≤ p0.length ∧ p0.length ≤ 12) := hk34
  refine As rfl rfl (WL.nil (Fin.then (Wp.seq (Wp.region (Mv rfl rfl (WL.val (v := .bool (decide (¬ (r29 = 0)))) rfl (Yl.bool (e := !(decide (r29 = 0))) (Yl.kern rfl rfl (fun _ => by kernel_rfl)) decide_not.symm) (WL.nil (Fin.then ?_))))))))
  by_cases h35 : r29 = 0
  refine Wp.cond0 rfl (decide_eq_false (not_not_intro h35)) (Wp.skip (Fin.then (Wp.seq (Wp.seq (Wp.region (Mv rfl rfl (Kn (v := .int .i64 ((p0.length : Nat) : Int)) rfl rfl rfl (fun _ => by kernel_rfl) (Kn (v := .bool (decide (((p0.length : Nat) : Int) < 12))) rfl rfl rfl (fun _ => by kernel_rfl) (WL.nil (Fin.then ?_))))))))))
  by_cases h36 : ((p0.length : Nat) : Int) < 12
  refine Wp.cond1 rfl (decide_eq_true h36) (Wp.seq (Wp.region (Mv rfl rfl (Mv rfl rfl (WL.val (v := .string ⟨List.toArray (p0 ++ ([0]))⟩) rfl (Yl.strCat rfl rfl (by first | omega | (simp only [List.length_drop, List.length_take, List.length_append, List.length_cons, List.length_nil]; omega))) (Kn (v := .agg #[.string ⟨List.toArray p0⟩, .string ⟨List.toArray (p0 ++ ([0]))⟩]) rfl rfl rfl (fun _ => by kernel_rfl) ?_))))))
  refine WL.do0 (Do.store (vs := [.string ⟨List.toArray p0⟩, .string ⟨List.toArray (p0 ++ ([0]))⟩]) (o := 0) H33 rfl rfl Try.sizeOf46 rfl rfl rfl rfl ?_)
  intro w37 H38
  refine As rfl rfl (WL.nil (Fin.then (Wp.ret (Fin.thenR (Fin.res (resN (vs := [.agg #[.string ⟨List.toArray p0⟩, .string ⟨List.toArray (p0 ++ ([0]))⟩], .int .i64 0]) rfl (ResV.cell rfl (Lds.agg (cs := [.string ⟨List.toArray p0⟩, .string ⟨List.toArray (p0 ++ ([0]))⟩]) Try.isAgg46 Try.sizeOf46 ((H38.cls (i := 0) rfl).lit (k := 0) (m := 2) rfl)) (ResV.tmp rfl ResV.nil)) (Nat.le_of_ble_eq_true rfl)) ?_)))))
  have H39 := H38.pick [] (by decide) rfl
  have e : r02_Point p0 = (RangeD.mk p0 (p0 ++ ([0])), 0) := Eq.trans (bnd_of hr30) (Eq.trans (if_pos h35) (if_pos h36))
  obtain ⟨rfl, rfl⟩ := pj2 (e.symm.trans hr)
  exact ⟨rfl, H39⟩
  refine Wp.cond0 rfl (decide_eq_false h36) (Wp.skip (Fin.then (Wp.seq (Wp.region (As rfl rfl (WL.nil (Fin.then (Wp.seq ?_))))))))
  refine Wp.joinT (ι := Nat) (fun i => [(5, .int .i64 ((i : Nat) : Int)), (3, .int .i64 0), (2, .pointer (some ⟨g21, 0, none⟩)), (0, .string ⟨List.toArray p0⟩)]) (fun (i : Nat) w' => Own w D w' [blk g21 [.string ⟨List.toArray ([])⟩, .string ⟨List.toArray ([])⟩] 46] ∧ (i ≤ 9223372036854775807 ∧ i ≤ p0.length ∧ (bnd (r02_Point_L0 p0 (12 + 1) 12) fun sLrbtfJjL => sLrbtfJjL) = i)) ?_ ?_
  refine Wp.block ?_
  have H44 := H33.pick [0] (by decide) rfl
  refine Wp.loop (ι := Nat × Nat) (fun i => [(5, .int .i64 ((i.1 : Nat) : Int)), (3, .int .i64 0), (2, .pointer (some ⟨g21, 0, none⟩)), (0, .string ⟨List.toArray p0⟩)]) (fun (i : Nat × Nat) w' => Own w D w' [blk g21 [.string ⟨List.toArray ([])⟩, .string ⟨List.toArray ([])⟩] 46] ∧ (i.1 ≤ p0.length ∧ i.1 < i.2 ∧ r02_Point_L0 p0 (12 + 1) 12 = r02_Point_L0 p0 i.2 i.1)) (fun i => i.2) (12, 12 + 1) ⟨rfl, rfl, rfl, rfl, trivial⟩ ⟨H44, (show 12 ≤ p0.length ∧ 12 < (12 + 1) ∧ r02_Point_L0 p0 (12 + 1) 12 = r02_Point_L0 p0 (12 + 1) 12 from ⟨by omega, by omega, rfl⟩)⟩ ?_
  rintro ⟨k41, f43⟩ w45 ⟨H46, hf47⟩
  show Wp _ _ _ [(5, .int .i64 ((k41 : Nat) : Int)), (3, .int .i64 0), (2, .pointer (some ⟨g21, 0, none⟩)), (0, .string ⟨List.toArray p0⟩)] _ _
  replace hf47 : k41 ≤ p0.length ∧ k41 < f43 ∧ r02_Point_L0 p0 (12 + 1) 12 = r02_Point_L0 p0 f43 k41 := hf47
  obtain ⟨hi49, hi50, hq48⟩ := hf47
  obtain ⟨f51, hf52⟩ : ∃ q, f43 = q + 1 := ⟨f43 - 1, by omega⟩
  subst hf52
  refine Wp.seq (Wp.seq (Wp.region (Mv rfl rfl (Kn (v := .bool (decide (((k41 : Nat) : Int) > 0))) rfl rfl rfl (fun _ => by kernel_rfl) (Mv rfl rfl ?_)))))
  by_cases h53 : ((k41 : Nat) : Int) > 0
  refine WL.valG (v := .string ⟨List.toArray p0⟩) rfl rfl (decide_eq_true h53) rfl (Yl.move rfl) (WL.valG (v := .int .i64 ((k41 : Nat) : Int)) rfl rfl (decide_eq_true h53) rfl (Yl.move rfl) (WL.valG (v := .int .i64 ((k41 - 1 : Nat) : Int)) rfl rfl (decide_eq_true h53) rfl (Yl.int (e := IntKind.i64.wrap (((k41 : Nat) : Int) - 1)) (Yl.kern rfl rfl (fun _ => by kernel_rfl)) (by rw [IntWalk.i64_in _ (by omega)]; omega)) ?_))
  obtain ⟨b54, hx55⟩ := at_of (ls := p0) (i := k41 - 1) (by omega)
  refine WL.valG (v := .int .u8 ((b54.toNat : Nat) : Int)) rfl rfl (decide_eq_true h53) rfl (Yl.strIndex Try.underlying9 rfl rfl hx55) (WL.valG (v := .bool (decide (((b54.toNat : Nat) : Int) = 255))) rfl rfl (decide_eq_true h53) rfl (Yl.kern rfl rfl (fun _ => by kernel_rfl)) (WL.val (v := .bool (decide (((b54.toNat : Nat) : Int) = 255))) rfl (Yl.pickT rfl (decide_eq_true h53) rfl) (WL.nil (Fin.then ?_))))
  by_cases h56 : ((b54.toNat : Nat) : Int) = 255
  refine Wp.cond1 rfl (decide_eq_true h56) (Wp.skip (Fin.then (Wp.block (Wp.region (Mv rfl rfl (WL.val (v := .int .i64 ((k41 - 1 : Nat) : Int)) rfl (Yl.int (e := IntKind.i64.wrap (((k41 : Nat) : Int) - 1)) (Yl.kern rfl rfl (fun _ => by kernel_rfl)) (by rw [IntWalk.i64_in _ (by omega)]; omega)) (As rfl rfl (WL.nil (Fin.blockN ?_)))))))))
  have H57 := H46.pick [0] (by decide) rfl
  exact Fin.round (k41 - 1, f51) ⟨rfl, rfl, rfl, rfl, trivial⟩ ⟨H57, (show (k41 - 1) ≤ p0.length ∧ (k41 - 1) < f51 ∧ r02_Point_L0 p0 (12 + 1) 12 = r02_Point_L0 p0 f51 (k41 - 1) from ⟨by omega, by omega, Eq.trans (hq48) (Eq.trans (if_pos h53) (Eq.trans (bnd_of (getD_of hx55)) (if_pos h56)))⟩)⟩ (by show f51 < f51 + 1; omega)
  refine Wp.cond0 rfl (decide_eq_false h56) (Wp.exit (Fin.thenX (Fin.thenX (Fin.blockX ?_))))
  have H58 := H46.pick [0] (by decide) rfl
  exact Fin.join k41 ⟨rfl, rfl, rfl, rfl, trivial⟩ ⟨H58, (show k41 ≤ 9223372036854775807 ∧ k41 ≤ p0.length ∧ (bnd (r02_Point_L0 p0 (12 + 1) 12) fun sLrbtfJjL => sLrbtfJjL) = k41 from ⟨by omega, by omega, bnd_of (Eq.trans (hq48) (Eq.trans (if_pos h53) (Eq.trans (bnd_of (getD_of hx55)) (if_neg h56))))⟩)⟩
  refine Sk rfl rfl (decide_eq_false h53) rfl (Sk rfl rfl (decide_eq_false h53) rfl (Sk rfl rfl (decide_eq_false h53) rfl (Sk rfl rfl (decide_eq_false h53) rfl (Sk rfl rfl (decide_eq_false h53) rfl (WL.val (v := .bool false) rfl (Yl.pickF rfl (decide_eq_false h53) rfl) (WL.nil (Fin.then (Wp.cond0 rfl rfl (Wp.exit (Fin.thenX (Fin.thenX (Fin.blockX ?_))))))))))))
  have H59 := H46.pick [0] (by decide) rfl
  exact Fin.join k41 ⟨rfl, rfl, rfl, rfl, trivial⟩ ⟨H59, (show k41 ≤ 9223372036854775807 ∧ k41 ≤ p0.length ∧ (bnd (r02_Point_L0 p0 (12 + 1) 12) fun sLrbtfJjL => sLrbtfJjL) = k41 from ⟨by omega, by omega, bnd_of (Eq.trans (hq48) (if_neg h53))⟩)⟩
  rintro k40 w60 ⟨H61, hf62⟩
  show Wp _ _ _ [(5, .int .i64 ((k40 : Nat) : Int)), (3, .int .i64 0), (2, .pointer (some ⟨g21, 0, none⟩)), (0, .string ⟨List.toArray p0⟩)] _ _
  replace hf62 : k40 ≤ 9223372036854775807 ∧ k40 ≤ p0.length ∧ (bnd (r02_Point_L0 p0 (12 + 1) 12) fun sLrbtfJjL => sLrbtfJjL) = k40 := hf62
  obtain ⟨hi64, hi65, hj63⟩ := hf62
  refine Wp.seq (Wp.seq (Wp.region (Mv rfl rfl (Kn (v := .bool (decide (((k40 : Nat) : Int) = 0))) rfl rfl rfl (fun _ => by kernel_rfl) (WL.nil (Fin.then ?_))))))
  by_cases h66 : ((k40 : Nat) : Int) = 0
  refine Wp.cond1 rfl (decide_eq_true h66) (Wp.seq (Wp.region (Mv rfl rfl (Kn (v := .agg #[.string ⟨List.toArray p0⟩, .string ⟨List.toArray ([])⟩]) rfl rfl rfl (fun _ => by kernel_rfl) ?_))))
  refine WL.do0 (Do.store (vs := [.string ⟨List.toArray p0⟩, .string ⟨List.toArray ([])⟩]) (o := 0) H61 rfl rfl Try.sizeOf46 rfl rfl rfl rfl ?_)
  intro w67 H68
  refine As rfl rfl (WL.nil (Fin.then (Wp.ret (Fin.thenR (Fin.res (resN (vs := [.agg #[.string ⟨List.toArray p0⟩, .string ⟨List.toArray ([])⟩], .int .i64 0]) rfl (ResV.cell rfl (Lds.agg (cs := [.string ⟨List.toArray p0⟩, .string ⟨List.toArray ([])⟩]) Try.isAgg46 Try.sizeOf46 ((H68.cls (i := 0) rfl).lit (k := 0) (m := 2) rfl)) (ResV.tmp rfl ResV.nil)) (Nat.le_of_ble_eq_true rfl)) ?_)))))
  have H69 := H68.pick [] (by decide) rfl
  have e : r02_Point p0 = (RangeD.mk p0 ([]), 0) := Eq.trans (bnd_of hr30) (Eq.trans (if_pos h35) (Eq.trans (if_neg h36) (Eq.trans (bnd_of hj63) (if_pos h66))))
  obtain ⟨rfl, rfl⟩ := pj2 (e.symm.trans hr)
  exact ⟨rfl, H69⟩
  refine Wp.cond0 rfl (decide_eq_false h66) (Wp.skip (Fin.then (Wp.seq ?_)))
  have H71 := H61.drew
  refine Wp.drawnX [] (fun W => ∃ L', Own w D W ([] ++ L')) (by kernel_rfl) (by kernel_rfl) (NoP.then NoP.base) ⟨_, H71⟩ ?_
  revert H71
  generalize World.drew w60 = w70
  intro H71
  refine GX.take (v := .string ⟨List.toArray p0⟩) (rs := []) 0 rfl (by kernel_rfl) (fun _ _ => Yl.move rfl) (GX.take (v := .string ⟨List.toArray p0⟩) (rs := []) 1 rfl (by kernel_rfl) (fun _ _ => Yl.move rfl) (GX.take (v := .int .i64 ((k40 : Nat) : Int)) (rs := []) 2 rfl (by kernel_rfl) (fun _ _ => Yl.move rfl) (GX.take (v := .int .i64 ((k40 - 1 : Nat) : Int)) (rs := []) 3 rfl (by kernel_rfl) (fun _ _ => Yl.int (e := IntKind.i64.wrap (((k40 : Nat) : Int) - 1)) (Yl.kern rfl rfl (fun _ => by kernel_rfl)) (by rw [IntWalk.i64_in _ (by omega)]; omega)) (GX.take (v := .string ⟨List.toArray (List.take (k40 - 1) p0)⟩) (rs := []) 4 rfl (by kernel_rfl) (fun _ _ => Yl.strTo Try.underlying9 rfl rfl (by first | omega | (simp only [List.length_drop, List.length_take, List.length_append, List.length_cons, List.length_nil]; omega))) (GX.take (v := .string ⟨List.toArray p0⟩) (rs := []) 5 rfl (by kernel_rfl) (fun _ _ => Yl.move rfl) (GX.take (v := .int .i64 ((k40 : Nat) : Int)) (rs := []) 6 rfl (by kernel_rfl) (fun _ _ => Yl.move rfl) (GX.take (v := .int .i64 ((k40 - 1 : Nat) : Int)) (rs := []) 7 rfl (by kernel_rfl) (fun _ _ => Yl.int (e := IntKind.i64.wrap (((k40 : Nat) : Int) - 1)) (Yl.kern rfl rfl (fun _ => by kernel_rfl)) (by rw [IntWalk.i64_in _ (by omega)]; omega)) ?_)))))))
  obtain ⟨b72, hx73⟩ := at_of (ls := p0) (i := k40 - 1) (by omega)
  refine GX.take (v := .int .u8 ((b72.toNat : Nat) : Int)) (rs := []) 8 rfl (by kernel_rfl) (fun _ _ => Yl.strIndex Try.underlying9 rfl rfl hx73) (GX.take (v := .int .u8 (((b72 + (1 : UInt8)).toNat : Nat) : Int)) (rs := []) 9 rfl (by kernel_rfl) (fun _ _ => Yl.int (e := IntKind.u8.wrap (((b72.toNat : Nat) : Int) + 1)) (Yl.kern rfl rfl (fun _ => by kernel_rfl)) (u8_add b72 (1 : UInt8))) ?_)
  refine GX.do 10 rfl (by kernel_rfl) (Do.newRow (cs := [.int .u8 (((b72 + (1 : UInt8)).toNat : Nat) : Int)]) (t := 5) (sz := 1) (m := 1) H71 rfl rfl (fun _ => by kernel_rfl) rfl (by decide) ?_)
  intro A74 w75 H76
  replace H76 : Own w D w75 [row A74 1 1 (List.flatMap eB ([(b72 + (1 : UInt8))])) 5 1, blk g21 [.string ⟨List.toArray ([])⟩, .string ⟨List.toArray ([])⟩] 46] := H76
  refine ⟨.inr ⟨_, H76⟩, ?_⟩
  refine GX.more (Good' := fun W => ∃ L', Own w D W ([row A74 1 1 (List.flatMap eB ([(b72 + (1 : UInt8))])) 5 1] ++ L')) (fun _ ⟨L', h⟩ => ⟨[row A74 1 1 (List.flatMap eB ([(b72 + (1 : UInt8))])) 5 1] ++ L', h⟩) ⟨_, H76⟩ (GX.take (v := .string ⟨List.toArray ([(b72 + (1 : UInt8))])⟩) (rs := []) 11 rfl (by kernel_rfl) (fun _ ⟨_, H9⟩ => Yl.toStringE (l := [(b72 + (1 : UInt8))]) Try.underlying89 Try.underlying5 Try.underlying9 (H9.rds (i := 0) rfl) rfl) (GX.take (v := .string ⟨List.toArray ((List.take (k40 - 1) p0) ++ ([(b72 + (1 : UInt8))]))⟩) (rs := []) 12 rfl (by kernel_rfl) (fun _ _ => Yl.strCat rfl rfl (by first | omega | (simp only [List.length_drop, List.length_take, List.length_append, List.length_cons, List.length_nil]; omega))) (GX.take (v := .agg #[.string ⟨List.toArray p0⟩, .string ⟨List.toArray ((List.take (k40 - 1) p0) ++ ([(b72 + (1 : UInt8))]))⟩]) (rs := []) 13 rfl (by kernel_rfl) (fun _ _ => Yl.kern rfl rfl (fun _ => by kernel_rfl)) ?_)))
  have H77 := H76.pick [1, 0] (by decide) rfl
  refine GX.do0 14 rfl (by kernel_rfl) (Do.store (vs := [.string ⟨List.toArray p0⟩, .string ⟨List.toArray ((List.take (k40 - 1) p0) ++ ([(b72 + (1 : UInt8))]))⟩]) (o := 0) H77 rfl rfl Try.sizeOf46 rfl rfl rfl rfl ?_)
  intro w78 H79
  have H80 := H79.pick [1, 0] (by decide) rfl
  refine ⟨.inr ⟨_, H80⟩, ?_⟩
  refine GX.take (v := .int .i64 0) (rs := []) 15 rfl (by kernel_rfl) (fun _ _ => Yl.assign rfl) (GX.done (by kernel_rfl) (Fin.then (Wp.ret (Fin.res (resN (vs := [.agg #[.string ⟨List.toArray p0⟩, .string ⟨List.toArray ((List.take (k40 - 1) p0) ++ ([(b72 + (1 : UInt8))]))⟩], .int .i64 0]) rfl (ResV.cell rfl (Lds.agg (cs := [.string ⟨List.toArray p0⟩, .string ⟨List.toArray ((List.take (k40 - 1) p0) ++ ([(b72 + (1 : UInt8))]))⟩]) Try.isAgg46 Try.sizeOf46 ((H80.cls (i := 1) rfl).lit (k := 0) (m := 2) rfl)) (ResV.tmp rfl ResV.nil)) (Nat.le_of_ble_eq_true rfl)) ?_))))
  have H81 := H80.pick [] (by decide) rfl
  have e : r02_Point p0 = (RangeD.mk p0 ((List.take (k40 - 1) p0) ++ ([(b72 + (1 : UInt8))])), 0) := Eq.trans (bnd_of hr30) (Eq.trans (if_pos h35) (Eq.trans (if_neg h36) (Eq.trans (bnd_of hj63) (Eq.trans (if_neg h66) (bnd_of (getD_of hx73))))))
  obtain ⟨rfl, rfl⟩ := pj2 (e.symm.trans hr)
  exact ⟨rfl, H81⟩
  refine Wp.cond1 rfl (decide_eq_true h35) (Wp.seq (Wp.region (Kn (v := .agg #[.string ⟨List.toArray ([])⟩, .string ⟨List.toArray ([])⟩]) rfl rfl rfl (fun _ => by kernel_rfl) (Mv rfl rfl ?_))))
  refine WL.do0 (Do.store (vs := [.string ⟨List.toArray ([])⟩, .string ⟨List.toArray ([])⟩]) (o := 0) H33 rfl rfl Try.sizeOf46 rfl rfl rfl rfl ?_)
  intro w82 H83
  refine As rfl rfl (WL.nil (Fin.then (Wp.ret (Fin.thenR (Fin.res (resN (vs := [.agg #[.string ⟨List.toArray ([])⟩, .string ⟨List.toArray ([])⟩], .int .i64 r29]) rfl (ResV.cell rfl (Lds.agg (cs := [.string ⟨List.toArray ([])⟩, .string ⟨List.toArray ([])⟩]) Try.isAgg46 Try.sizeOf46 ((H83.cls (i := 0) rfl).lit (k := 0) (m := 2) rfl)) (ResV.tmp rfl ResV.nil)) (Nat.le_of_ble_eq_true rfl)) ?_)))))
  have H84 := H83.pick [] (by decide) rfl
  have e : r02_Point p0 = (RangeD.mk ([]) ([]), r29) := Eq.trans (bnd_of hr30) (if_neg h35)
  obtain ⟨rfl, rfl⟩ := pj2 (e.symm.trans hr)
  exact ⟨rfl, H84⟩

def r02_Check (p0 : RangeD) : Int :=
  if ((p0.xLo.length : Nat) : Int) > 12 then 21 else if ((p0.xHi.length : Nat) : Int) > 12 then 21 else if p0.xHi ≠ ([]) then if p0.xHi ≤ p0.xLo then 21 else 0 else 0

set_option maxRecDepth 100000 in
theorem r02_Check_ok (w : World) (D : Nat → Prop) (p0 : RangeD) (r0 : Int) (H : Own w D w [])  (hr : r02_Check p0 = r0) :
    Calls Try.prog 25 #[.agg (RangeD.cells p0).toArray] w (Ret fun v w' => v = .int .i64 r0 ∧ Own w D w' []) := by
  refine Calls.body (args := [.agg (RangeD.cells p0).toArray]) Try.func25 rfl rfl rfl ?_
  show Wp _ _ _ [(0, .agg (RangeD.cells p0).toArray)] _ _
  refine Wp.seq (Wp.region ?_)
  refine WL.do rfl (Do.newP (cs := (RangeD.cells p0)) (t := 46) H rfl rfl (fun _ => by kernel_rfl) ?_)
  intro g21 w22 H23
  refine As rfl rfl (WL.nil (Fin.then (Wp.seq (Wp.seq (Wp.region (Kn (v := .pointer (some ⟨g21, 0, none⟩)) rfl rfl rfl (fun _ => by kernel_rfl) (WL.val (v := .string ⟨List.toArray p0.xLo⟩) rfl (Yl.load rfl (Lds.one Try.isAgg9 (Cls.of (H23.cls (i := 0) rfl) rfl))) (Kn (v := .int .i64 ((p0.xLo.length : Nat) : Int)) rfl rfl rfl (fun _ => by kernel_rfl) (Kn (v := .bool (decide (((p0.xLo.length : Nat) : Int) > 12))) rfl rfl rfl (fun _ => by kernel_rfl) (Mv rfl rfl ?_))))))))))
  by_cases h24 : ((p0.xLo.length : Nat) : Int) > 12
  refine Sk rfl rfl (decide_eq_true h24) rfl (Sk rfl rfl (decide_eq_true h24) rfl (Sk rfl rfl (decide_eq_true h24) rfl (Sk rfl rfl (decide_eq_true h24) rfl (WL.val (v := .bool true) rfl (Yl.pickT rfl (decide_eq_true h24) rfl) (Mv rfl rfl (Sk rfl rfl rfl rfl (Sk rfl rfl rfl rfl (Sk rfl rfl rfl rfl (Sk rfl rfl rfl rfl (WL.skipU rfl rfl rfl (WL.skipU rfl rfl rfl (WL.skipU rfl rfl rfl (WL.skipU rfl rfl rfl (WL.skipU rfl rfl rfl (Sk rfl rfl rfl rfl (WL.val (v := .bool true) rfl (Yl.pickT rfl rfl rfl) (WL.nil (Fin.then (Wp.cond1 rfl rfl (Wp.seq (Wp.region (As rfl rfl (WL.nil (Fin.then (Wp.ret (Fin.thenR (Fin.res (res1 rfl rfl) ?_)))))))))))))))))))))))))))
  have H25 := H23.pick [] (by decide) rfl
  have e : r02_Check p0 = 21 := if_pos h24
  obtain rfl := e.symm.trans hr
  exact ⟨rfl, H25⟩
  refine WL.valG (v := .pointer (some ⟨g21, 1, none⟩)) rfl rfl (decide_eq_false h24) rfl (Yl.kern rfl rfl (fun _ => by kernel_rfl)) (WL.valG (v := .string ⟨List.toArray p0.xHi⟩) rfl rfl (decide_eq_false h24) rfl (Yl.load rfl (Lds.one Try.isAgg9 (Cls.of (H23.cls (i := 0) rfl) rfl))) (WL.valG (v := .int .i64 ((p0.xHi.length : Nat) : Int)) rfl rfl (decide_eq_false h24) rfl (Yl.kern rfl rfl (fun _ => by kernel_rfl)) (WL.valG (v := .bool (decide (((p0.xHi.length : Nat) : Int) > 12))) rfl rfl (decide_eq_false h24) rfl (Yl.kern rfl rfl (fun _ => by kernel_rfl)) (WL.val (v := .bool (decide (((p0.xHi.length : Nat) : Int) > 12))) rfl (Yl.pickF rfl (decide_eq_false h24) rfl) (Mv rfl rfl ?_)))))
  by_cases h26 : ((p0.xHi.length : Nat) : Int) > 12
  refine Sk rfl rfl (decide_eq_true h26) rfl (Sk rfl rfl (decide_eq_true h26) rfl (Sk rfl rfl (decide_eq_true h26) rfl (Sk rfl rfl (decide_eq_true h26) rfl (WL.skipU rfl rfl rfl (WL.skipU rfl rfl rfl (WL.skipU rfl rfl rfl (WL.skipU rfl rfl rfl (WL.skipU rfl rfl rfl (Sk rfl rfl (decide_eq_true h26) rfl (WL.val (v := .bool true) rfl (Yl.pickT rfl (decide_eq_true h26) rfl) (WL.nil (Fin.then (Wp.cond1 rfl rfl (Wp.seq (Wp.region (As rfl rfl (WL.nil (Fin.then (Wp.ret (Fin.thenR (Fin.res (res1 rfl rfl) ?_)))))))))))))))))))))
  have H27 := H23.pick [] (by decide) rfl
  have e : r02_Check p0 = 21 := Eq.trans (if_neg h24) (if_pos h26)
  obtain rfl := e.symm.trans hr
  exact ⟨rfl, H27⟩
  refine WL.valG (v := .pointer (some ⟨g21, 1, none⟩)) rfl rfl (decide_eq_false h26) rfl (Yl.kern rfl rfl (fun _ => by kernel_rfl)) (WL.valG (v := .string ⟨List.toArray p0.xHi⟩) rfl rfl (decide_eq_false h26) rfl (Yl.load rfl (Lds.one Try.isAgg9 (Cls.of (H23.cls (i := 0) rfl) rfl))) (WL.valG (v := .bool (decide (p0.xHi ≠ ([])))) rfl rfl (decide_eq_false h26) rfl (Yl.strNe rfl rfl) (WL.valG (v := .bool (decide (p0.xHi ≠ ([])))) rfl rfl (decide_eq_false h26) rfl (Yl.move rfl) ?_)))
  by_cases h28 : p0.xHi ≠ ([])
  refine WL.valG (v := .pointer (some ⟨g21, 0, none⟩)) rfl rfl (decide_eq_true h28) rfl (Yl.kern rfl rfl (fun _ => by kernel_rfl)) (WL.valG (v := .string ⟨List.toArray p0.xLo⟩) rfl rfl (decide_eq_true h28) rfl (Yl.load rfl (Lds.one Try.isAgg9 (Cls.of (H23.cls (i := 0) rfl) rfl))) (WL.valG (v := .pointer (some ⟨g21, 1, none⟩)) rfl rfl (decide_eq_true h28) rfl (Yl.kern rfl rfl (fun _ => by kernel_rfl)) (WL.valG (v := .string ⟨List.toArray p0.xHi⟩) rfl rfl (decide_eq_true h28) rfl (Yl.load rfl (Lds.one Try.isAgg9 (Cls.of (H23.cls (i := 0) rfl) rfl))) (WL.valG (v := .bool (decide (p0.xHi ≤ p0.xLo))) rfl rfl (decide_eq_true h28) rfl (Yl.bool (e := !(Op.bytesLess p0.xLo p0.xHi)) (Yl.strGe rfl rfl) (bl_ge _ _)) (WL.valG (v := .bool (decide (p0.xHi ≤ p0.xLo))) rfl rfl (decide_eq_false h26) rfl (Yl.pickT rfl (decide_eq_true h28) rfl) (WL.val (v := .bool (decide (p0.xHi ≤ p0.xLo))) rfl (Yl.pickF rfl (decide_eq_false h26) rfl) (WL.nil (Fin.then ?_))))))))
  by_cases h29 : p0.xHi ≤ p0.xLo
  refine Wp.cond1 rfl (decide_eq_true h29) (Wp.seq (Wp.region (As rfl rfl (WL.nil (Fin.then (Wp.ret (Fin.thenR (Fin.res (res1 rfl rfl) ?_))))))))
  have H30 := H23.pick [] (by decide) rfl
  have e : r02_Check p0 = 21 := Eq.trans (if_neg h24) (Eq.trans (if_neg h26) (Eq.trans (if_pos h28) (if_pos h29)))
  obtain rfl := e.symm.trans hr
  exact ⟨rfl, H30⟩
  refine Wp.cond0 rfl (decide_eq_false h29) (Wp.skip (Fin.then (Wp.seq (Wp.region (As rfl rfl (WL.nil (Fin.then (Wp.ret (Fin.res (res1 rfl rfl) ?_)))))))))
  have H31 := H23.pick [] (by decide) rfl
  have e : r02_Check p0 = 0 := Eq.trans (if_neg h24) (Eq.trans (if_neg h26) (Eq.trans (if_pos h28) (if_neg h29)))
  obtain rfl := e.symm.trans hr
  exact ⟨rfl, H31⟩
  refine Sk rfl rfl (decide_eq_false h28) rfl (Sk rfl rfl (decide_eq_false h28) rfl (Sk rfl rfl (decide_eq_false h28) rfl (Sk rfl rfl (decide_eq_false h28) rfl (Sk rfl rfl (decide_eq_false h28) rfl (WL.valG (v := .bool false) rfl rfl (decide_eq_false h26) rfl (Yl.pickF rfl (decide_eq_false h28) rfl) (WL.val (v := .bool false) rfl (Yl.pickF rfl (decide_eq_false h26) rfl) (WL.nil (Fin.then (Wp.cond0 rfl rfl (Wp.skip (Fin.then (Wp.seq (Wp.region (As rfl rfl (WL.nil (Fin.then (Wp.ret (Fin.res (res1 rfl rfl) ?_))))))))))))))))))
  have H32 := H23.pick [] (by decide) rfl
  have e : r02_Check p0 = 0 := Eq.trans (if_neg h24) (Eq.trans (if_neg h26) (if_neg h28))
  obtain rfl := e.symm.trans hr
  exact ⟨rfl, H32⟩

def r04_CheckOp (p0 : OpD) : Int :=
  if p0.xKind = 1 then if p0.xLo ≠ ([]) then 40 else if p0.xHi ≠ ([]) then 40 else if p0.xValue ≠ ([]) then 40 else if p0.xMost = 0 then bnd (r02_CheckKey p0.xKey) fun yr41 => if yr41 = 0 then if ((p0.xValue.length : Nat) : Int) > 16 then 2 else 0 else 20 else 40 else if p0.xKind = 2 then if p0.xLo ≠ ([]) then 40 else if p0.xHi ≠ ([]) then 40 else if p0.xMost = 0 then bnd (r02_CheckKey p0.xKey) fun yr68 => if yr68 = 0 then if ((p0.xValue.length : Nat) : Int) > 16 then 2 else 0 else 20 else 40 else if p0.xKind = 4 then if p0.xKey ≠ ([]) then 40 else if p0.xValue ≠ ([]) then 40 else if ((p0.xValue.length : Nat) : Int) > 16 then 2 else bnd (r02_Check (RangeD.mk p0.xLo p0.xHi)) fun yr96 => if yr96 = 0 then if p0.xMost < 1 then 1 else if p0.xMost > 4 then 1 else 0 else 21 else if p0.xKind = 3 then if p0.xLo ≠ ([]) then 40 else if p0.xHi ≠ ([]) then 40 else if p0.xValue ≠ ([]) then 40 else if p0.xMost = 0 then bnd (r02_CheckKey p0.xKey) fun yr124 => if yr124 = 0 then if ((p0.xValue.length : Nat) : Int) > 16 then 2 else 0 else 20 else 40 else if p0.xKind = 5 then if p0.xKey ≠ ([]) then 40 else if p0.xValue ≠ ([]) then 40 else if p0.xMost = 0 then if ((p0.xValue.length : Nat) : Int) > 16 then 2 else bnd (r02_Check (RangeD.mk p0.xLo p0.xHi)) fun yr151 => if yr151 = 0 then 0 else 21 else 40 else 40

set_option maxRecDepth 100000 in
theorem r04_CheckOp_ok (w : World) (D : Nat → Prop) (p0 : OpD) (r0 : Int) (H : Own w D w [])  (hr : r04_CheckOp p0 = r0) :
    Calls Try.prog 31 #[.agg (OpD.cells p0).toArray] w (Ret fun v w' => v = .int .i64 r0 ∧ Own w D w' [] ∧ (¬ (r0 = 0) ∨ (1 ≤ p0.xKind ∧ p0.xKind ≤ 5))) := by
  refine Calls.body (args := [.agg (OpD.cells p0).toArray]) Try.func31 rfl rfl rfl ?_
  show Wp _ _ _ [(0, .agg (OpD.cells p0).toArray)] _ _
  refine Wp.seq (Wp.region ?_)
  refine WL.do rfl (Do.newP (cs := (OpD.cells p0)) (t := 53) H rfl rfl (fun _ => by kernel_rfl) ?_)
  intro g21 w22 H23
  refine As rfl rfl (WL.nil (Fin.then (Wp.seq (Wp.region (Kn (v := .pointer (some ⟨g21, 0, none⟩)) rfl rfl rfl (fun _ => by kernel_rfl) (WL.val (v := .int .i64 p0.xKind) rfl (Yl.load rfl (Lds.one Try.isAgg3 (Cls.of (H23.cls (i := 0) rfl) rfl))) (Kn (v := .bool (decide (p0.xKind = 1))) rfl rfl rfl (fun _ => by kernel_rfl) (Mv rfl rfl ?_))))))))
  by_cases h24 : p0.xKind = 1
  refine Sk rfl rfl (decide_eq_true h24) rfl (Sk rfl rfl (decide_eq_true h24) rfl (Sk rfl rfl (decide_eq_true h24) rfl (WL.val (v := .bool true) rfl (Yl.pickT rfl (decide_eq_true h24) rfl) (Mv rfl rfl (Sk rfl rfl rfl rfl (Sk rfl rfl rfl rfl (Sk rfl rfl rfl rfl (WL.val (v := .bool true) rfl (Yl.pickT rfl rfl rfl) (As rfl rfl (WL.nil (Fin.then (Wp.seq (Wp.region (Kn (v := .pointer (some ⟨g21, 0, none⟩)) rfl rfl rfl (fun _ => by kernel_rfl) (WL.val (v := .int .i64 p0.xKind) rfl (Yl.load rfl (Lds.one Try.isAgg3 (Cls.of (H23.cls (i := 0) rfl) rfl))) (Kn (v := .bool (decide (p0.xKind = 4))) rfl rfl rfl (fun _ => by kernel_rfl) (Mv rfl rfl ?_)))))))))))))))))
  have hb25 : (decide (p0.xKind = 4)) = false := (decide_eq_false (by omega))
  refine WL.valG (v := .pointer (some ⟨g21, 0, none⟩)) rfl rfl hb25 rfl (Yl.kern rfl rfl (fun _ => by kernel_rfl)) (WL.valG (v := .int .i64 p0.xKind) rfl rfl hb25 rfl (Yl.load rfl (Lds.one Try.isAgg3 (Cls.of (H23.cls (i := 0) rfl) rfl))) (WL.valG (v := .bool (decide (p0.xKind = 5))) rfl rfl hb25 rfl (Yl.kern rfl rfl (fun _ => by kernel_rfl)) (WL.val (v := .bool (decide (p0.xKind = 5))) rfl (Yl.pickF rfl hb25 rfl) (As rfl rfl (WL.nil (Fin.then (Wp.seq (Wp.seq (Wp.region (Mv rfl rfl (Kn (v := .bool false) rfl rfl rfl (fun _ => by kernel_rfl) (Mv rfl rfl (Sk rfl rfl rfl rfl (Sk rfl rfl rfl rfl (WL.val (v := .bool false) rfl (Yl.pickF rfl rfl rfl) (Mv rfl rfl (WL.valG (v := .bool true) rfl rfl rfl rfl (Yl.move rfl) (WL.valG (v := .bool true) rfl rfl rfl rfl (Yl.move rfl) (WL.valG (v := .pointer (some ⟨g21, 3, none⟩)) rfl rfl rfl rfl (Yl.kern rfl rfl (fun _ => by kernel_rfl)) (WL.valG (v := .string ⟨List.toArray p0.xLo⟩) rfl rfl rfl rfl (Yl.load rfl (Lds.one Try.isAgg9 (Cls.of (H23.cls (i := 0) rfl) rfl))) (WL.valG (v := .bool (decide (p0.xLo ≠ ([])))) rfl rfl rfl rfl (Yl.strNe rfl rfl) (WL.valG (v := .bool (decide (p0.xLo ≠ ([])))) rfl rfl rfl rfl (Yl.move rfl) ?_))))))))))))))))))))))
  by_cases h26 : p0.xLo ≠ ([])
  refine Sk rfl rfl (decide_eq_true h26) rfl (Sk rfl rfl (decide_eq_true h26) rfl (Sk rfl rfl (decide_eq_true h26) rfl (WL.valG (v := .bool true) rfl rfl rfl rfl (Yl.pickT rfl (decide_eq_true h26) rfl) (WL.valG (v := .bool true) rfl rfl rfl rfl (Yl.pickT rfl rfl rfl) (WL.val (v := .bool true) rfl (Yl.pickF rfl rfl rfl) (Mv rfl rfl (Sk rfl rfl rfl rfl (Sk rfl rfl rfl rfl (WL.skipU rfl rfl rfl (WL.skipU rfl rfl rfl (WL.skipU rfl rfl rfl (Sk rfl rfl rfl rfl (WL.val (v := .bool true) rfl (Yl.pickT rfl rfl rfl) (Mv rfl rfl (Sk rfl rfl rfl rfl (Sk rfl rfl rfl rfl (Sk rfl rfl rfl rfl (Sk rfl rfl rfl rfl (WL.skipU rfl rfl rfl (WL.skipU rfl rfl rfl (WL.skipU rfl rfl rfl (Sk rfl rfl rfl rfl (WL.val (v := .bool true) rfl (Yl.pickT rfl rfl rfl) (Mv rfl rfl (Sk rfl rfl rfl rfl (Sk rfl rfl rfl rfl (Sk rfl rfl rfl rfl (Sk rfl rfl rfl rfl (WL.skipU rfl rfl rfl (WL.skipU rfl rfl rfl (WL.skipU rfl rfl rfl (Sk rfl rfl rfl rfl (WL.val (v := .bool true) rfl (Yl.pickT rfl rfl rfl) (WL.nil (Fin.then (Wp.cond1 rfl rfl (Wp.seq (Wp.region (As rfl rfl ?_)))))))))))))))))))))))))))))))))))))))
  refine WL.nil (Fin.then (Wp.ret (Fin.thenR (Fin.res (res1 rfl rfl) ?_))))
  have H27 := H23.pick [] (by decide) rfl
  have e : r04_CheckOp p0 = 40 := Eq.trans (if_pos h24) (if_pos h26)
  obtain rfl := e.symm.trans hr
  exact ⟨rfl, H27, (by omega)⟩
  refine WL.valG (v := .pointer (some ⟨g21, 4, none⟩)) rfl rfl (decide_eq_false h26) rfl (Yl.kern rfl rfl (fun _ => by kernel_rfl)) (WL.valG (v := .string ⟨List.toArray p0.xHi⟩) rfl rfl (decide_eq_false h26) rfl (Yl.load rfl (Lds.one Try.isAgg9 (Cls.of (H23.cls (i := 0) rfl) rfl))) (WL.valG (v := .bool (decide (p0.xHi ≠ ([])))) rfl rfl (decide_eq_false h26) rfl (Yl.strNe rfl rfl) (WL.valG (v := .bool (decide (p0.xHi ≠ ([])))) rfl rfl rfl rfl (Yl.pickF rfl (decide_eq_false h26) rfl) (WL.valG (v := .bool (decide (p0.xHi ≠ ([])))) rfl rfl rfl rfl (Yl.pickT rfl rfl rfl) (WL.val (v := .bool (decide (p0.xHi ≠ ([])))) rfl (Yl.pickF rfl rfl rfl) (Mv rfl rfl ?_))))))
  by_cases h28 : p0.xHi ≠ ([])
  refine Sk rfl rfl (decide_eq_true h28) rfl (Sk rfl rfl (decide_eq_true h28) rfl (WL.skipU rfl rfl rfl (WL.skipU rfl rfl rfl (WL.skipU rfl rfl rfl (Sk rfl rfl (decide_eq_true h28) rfl (WL.val (v := .bool true) rfl (Yl.pickT rfl (decide_eq_true h28) rfl) (Mv rfl rfl (Sk rfl rfl rfl rfl (Sk rfl rfl rfl rfl (Sk rfl rfl rfl rfl (Sk rfl rfl rfl rfl (WL.skipU rfl rfl rfl (WL.skipU rfl rfl rfl (WL.skipU rfl rfl rfl (Sk rfl rfl rfl rfl (WL.val (v := .bool true) rfl (Yl.pickT rfl rfl rfl) (Mv rfl rfl (Sk rfl rfl rfl rfl (Sk rfl rfl rfl rfl (Sk rfl rfl rfl rfl (Sk rfl rfl rfl rfl (WL.skipU rfl rfl rfl (WL.skipU rfl rfl rfl (WL.skipU rfl rfl rfl (Sk rfl rfl rfl rfl (WL.val (v := .bool true) rfl (Yl.pickT rfl rfl rfl) (WL.nil (Fin.then (Wp.cond1 rfl rfl (Wp.seq (Wp.region (As rfl rfl (WL.nil (Fin.then (Wp.ret (Fin.thenR (Fin.res (res1 rfl rfl) ?_)))))))))))))))))))))))))))))))))))))
  have H29 := H23.pick [] (by decide) rfl
  have e : r04_CheckOp p0 = 40 := Eq.trans (if_pos h24) (Eq.trans (if_neg h26) (if_pos h28))
  obtain rfl := e.symm.trans hr
  exact ⟨rfl, H29, (by omega)⟩
  refine WL.valG (v := .bool (decide (p0.xKind = 5))) rfl rfl (decide_eq_false h28) rfl (Yl.move rfl) (WL.valG (v := .bool (decide (p0.xKind = 5))) rfl rfl (decide_eq_false h28) rfl (Yl.move rfl) ?_)
  have hb30 : (decide (p0.xKind = 5)) = false := (decide_eq_false (by omega))
  refine Sk rfl rfl hb30 rfl (Sk rfl rfl hb30 rfl (Sk rfl rfl hb30 rfl (WL.valG (v := .bool false) rfl rfl (decide_eq_false h28) rfl (Yl.pickF rfl hb30 rfl) (WL.val (v := .bool false) rfl (Yl.pickF rfl (decide_eq_false h28) rfl) (Mv rfl rfl (WL.valG (v := .pointer (some ⟨g21, 0, none⟩)) rfl rfl rfl rfl (Yl.kern rfl rfl (fun _ => by kernel_rfl)) (WL.valG (v := .int .i64 p0.xKind) rfl rfl rfl rfl (Yl.load rfl (Lds.one Try.isAgg3 (Cls.of (H23.cls (i := 0) rfl) rfl))) (WL.valG (v := .bool (decide (¬ (p0.xKind = 2)))) rfl rfl rfl rfl (Yl.bool (e := !(decide (p0.xKind = 2))) (Yl.kern rfl rfl (fun _ => by kernel_rfl)) decide_not.symm) (WL.valG (v := .bool (decide (¬ (p0.xKind = 2)))) rfl rfl rfl rfl (Yl.move rfl) ?_)))))))))
  have hb31 : (decide (¬ (p0.xKind = 2))) = true := (decide_eq_true (by omega))
  refine WL.valG (v := .pointer (some ⟨g21, 2, none⟩)) rfl rfl hb31 rfl (Yl.kern rfl rfl (fun _ => by kernel_rfl)) (WL.valG (v := .string ⟨List.toArray p0.xValue⟩) rfl rfl hb31 rfl (Yl.load rfl (Lds.one Try.isAgg9 (Cls.of (H23.cls (i := 0) rfl) rfl))) (WL.valG (v := .bool (decide (p0.xValue ≠ ([])))) rfl rfl hb31 rfl (Yl.strNe rfl rfl) (WL.valG (v := .bool (decide (p0.xValue ≠ ([])))) rfl rfl rfl rfl (Yl.pickT rfl hb31 rfl) (WL.val (v := .bool (decide (p0.xValue ≠ ([])))) rfl (Yl.pickF rfl rfl rfl) (Mv rfl rfl ?_)))))
  by_cases h32 : p0.xValue ≠ ([])
  refine Sk rfl rfl (decide_eq_true h32) rfl (Sk rfl rfl (decide_eq_true h32) rfl (Sk rfl rfl (decide_eq_true h32) rfl (Sk rfl rfl (decide_eq_true h32) rfl (WL.skipU rfl rfl rfl (WL.skipU rfl rfl rfl (WL.skipU rfl rfl rfl (Sk rfl rfl (decide_eq_true h32) rfl (WL.val (v := .bool true) rfl (Yl.pickT rfl (decide_eq_true h32) rfl) (WL.nil (Fin.then (Wp.cond1 rfl rfl (Wp.seq (Wp.region (As rfl rfl (WL.nil (Fin.then (Wp.ret (Fin.thenR (Fin.res (res1 rfl rfl) ?_)))))))))))))))))))
  have H33 := H23.pick [] (by decide) rfl
  have e : r04_CheckOp p0 = 40 := Eq.trans (if_pos h24) (Eq.trans (if_neg h26) (Eq.trans (if_neg h28) (if_pos h32)))
  obtain rfl := e.symm.trans hr
  exact ⟨rfl, H33, (by omega)⟩
  refine WL.valG (v := .pointer (some ⟨g21, 0, none⟩)) rfl rfl (decide_eq_false h32) rfl (Yl.kern rfl rfl (fun _ => by kernel_rfl)) (WL.valG (v := .int .i64 p0.xKind) rfl rfl (decide_eq_false h32) rfl (Yl.load rfl (Lds.one Try.isAgg3 (Cls.of (H23.cls (i := 0) rfl) rfl))) (WL.valG (v := .bool (decide (¬ (p0.xKind = 4)))) rfl rfl (decide_eq_false h32) rfl (Yl.bool (e := !(decide (p0.xKind = 4))) (Yl.kern rfl rfl (fun _ => by kernel_rfl)) decide_not.symm) (WL.valG (v := .bool (decide (¬ (p0.xKind = 4)))) rfl rfl (decide_eq_false h32) rfl (Yl.move rfl) ?_)))
  have hb34 : (decide (¬ (p0.xKind = 4))) = true := (decide_eq_true (by omega))
  refine WL.valG (v := .pointer (some ⟨g21, 5, none⟩)) rfl rfl hb34 rfl (Yl.kern rfl rfl (fun _ => by kernel_rfl)) (WL.valG (v := .int .i64 p0.xMost) rfl rfl hb34 rfl (Yl.load rfl (Lds.one Try.isAgg3 (Cls.of (H23.cls (i := 0) rfl) rfl))) (WL.valG (v := .bool (decide (¬ (p0.xMost = 0)))) rfl rfl hb34 rfl (Yl.bool (e := !(decide (p0.xMost = 0))) (Yl.kern rfl rfl (fun _ => by kernel_rfl)) decide_not.symm) (WL.valG (v := .bool (decide (¬ (p0.xMost = 0)))) rfl rfl (decide_eq_false h32) rfl (Yl.pickT rfl hb34 rfl) (WL.val (v := .bool (decide (¬ (p0.xMost = 0)))) rfl (Yl.pickF rfl (decide_eq_false h32) rfl) (WL.nil (Fin.then ?_))))))
  by_cases h35 : p0.xMost = 0
  refine Wp.cond0 rfl (decide_eq_false (not_not_intro h35)) (Wp.skip (Fin.then (Wp.seq (Wp.seq (Wp.region (Mv rfl rfl (Mv rfl rfl (WL.valG (v := .pointer (some ⟨g21, 1, none⟩)) rfl rfl rfl rfl (Yl.kern rfl rfl (fun _ => by kernel_rfl)) (WL.valG (v := .string ⟨List.toArray p0.xKey⟩) rfl rfl rfl rfl (Yl.load rfl (Lds.one Try.isAgg9 (Cls.of (H23.cls (i := 0) rfl) rfl))) ?_)))))))))
  obtain ⟨r41, hr42⟩ : ∃ q, r02_CheckKey p0.xKey = q := ⟨_, rfl⟩
  obtain ⟨D36, HP37, ro38, bk39, rr40⟩ := Own.enter0 H23
  refine WL.doG rfl rfl rfl rfl (Do.call Try.call39 rfl (r02_CheckKey_ok _ _ p0.xKey r41 HP37 hr42) ?_)
  rintro _ w43 ⟨rfl, HQ44, hk46⟩
  have H45 := bk39 _ _ HQ44
  replace hk46 : ¬ (r41 = 0) ∨ (1 ≤ p0.xKey.length ∧ p0.xKey.length ≤ 12) := hk46
  refine WL.valG (v := .bool (decide (¬ (r41 = 0)))) rfl rfl rfl rfl (Yl.bool (e := !(decide (r41 = 0))) (Yl.kern rfl rfl (fun _ => by kernel_rfl)) decide_not.symm) (WL.val (v := .bool (decide (¬ (r41 = 0)))) rfl (Yl.pickT rfl rfl rfl) (WL.nil (Fin.then ?_)))
  by_cases h47 : r41 = 0
  refine Wp.cond0 rfl (decide_eq_false (not_not_intro h47)) (Wp.skip (Fin.then (Wp.seq (Wp.seq (Wp.region (Kn (v := .pointer (some ⟨g21, 2, none⟩)) rfl rfl rfl (fun _ => by kernel_rfl) (WL.val (v := .string ⟨List.toArray p0.xValue⟩) rfl (Yl.load rfl (Lds.one Try.isAgg9 (Cls.of (H45.cls (i := 0) rfl) rfl))) (Kn (v := .int .i64 ((p0.xValue.length : Nat) : Int)) rfl rfl rfl (fun _ => by kernel_rfl) (Kn (v := .bool (decide (((p0.xValue.length : Nat) : Int) > 16))) rfl rfl rfl (fun _ => by kernel_rfl) (WL.nil (Fin.then ?_)))))))))))
  by_cases h48 : ((p0.xValue.length : Nat) : Int) > 16
  refine Wp.cond1 rfl (decide_eq_true h48) (Wp.seq (Wp.region (As rfl rfl (WL.nil (Fin.then (Wp.ret (Fin.thenR (Fin.res (res1 rfl rfl) ?_))))))))
  have H49 := H45.pick [] (by decide) rfl
  have e : r04_CheckOp p0 = 2 := Eq.trans (if_pos h24) (Eq.trans (if_neg h26) (Eq.trans (if_neg h28) (Eq.trans (if_neg h32) (Eq.trans (if_pos h35) (Eq.trans (bnd_of hr42) (Eq.trans (if_pos h47) (if_pos h48)))))))
  obtain rfl := e.symm.trans hr
  exact ⟨rfl, H49, (by omega)⟩
  refine Wp.cond0 rfl (decide_eq_false h48) (Wp.skip (Fin.then (Wp.seq (Wp.seq (Wp.region (Mv rfl rfl (Mv rfl rfl (Sk rfl rfl hb30 rfl (Sk rfl rfl hb30 rfl (Sk rfl rfl hb30 rfl (Sk rfl rfl hb30 rfl (Sk rfl rfl hb30 rfl (Sk rfl rfl hb30 rfl (Sk rfl rfl hb30 rfl (WL.val (v := .bool false) rfl (Yl.pickF rfl hb30 rfl) (WL.nil (Fin.then (Wp.cond0 rfl rfl (Wp.skip (Fin.then (Wp.seq (Wp.seq (Wp.region (Kn (v := .pointer (some ⟨g21, 0, none⟩)) rfl rfl rfl (fun _ => by kernel_rfl) (WL.val (v := .int .i64 p0.xKind) rfl (Yl.load rfl (Lds.one Try.isAgg3 (Cls.of (H45.cls (i := 0) rfl) rfl))) (Kn (v := .bool (decide (p0.xKind = 4))) rfl rfl rfl (fun _ => by kernel_rfl) (Mv rfl rfl (Sk rfl rfl hb25 rfl (Sk rfl rfl hb25 rfl (Sk rfl rfl hb25 rfl (Sk rfl rfl hb25 rfl (WL.skipU rfl rfl rfl (WL.skipU rfl rfl rfl (WL.skipU rfl rfl rfl (Sk rfl rfl hb25 rfl (WL.val (v := .bool false) rfl (Yl.pickF rfl hb25 rfl) (WL.nil (Fin.then (Wp.cond0 rfl rfl ?_)))))))))))))))))))))))))))))))))))))))
  refine Wp.skip (Fin.then (Wp.seq (Wp.region (As rfl rfl (WL.nil (Fin.then (Wp.ret (Fin.res (res1 rfl rfl) ?_))))))))
  have H50 := H45.pick [] (by decide) rfl
  have e : r04_CheckOp p0 = 0 := Eq.trans (if_pos h24) (Eq.trans (if_neg h26) (Eq.trans (if_neg h28) (Eq.trans (if_neg h32) (Eq.trans (if_pos h35) (Eq.trans (bnd_of hr42) (Eq.trans (if_pos h47) (if_neg h48)))))))
  obtain rfl := e.symm.trans hr
  exact ⟨rfl, H50, (by omega)⟩
  refine Wp.cond1 rfl (decide_eq_true h47) (Wp.seq (Wp.region (As rfl rfl (WL.nil (Fin.then (Wp.ret (Fin.thenR (Fin.res (res1 rfl rfl) ?_))))))))
  have H51 := H45.pick [] (by decide) rfl
  have e : r04_CheckOp p0 = 20 := Eq.trans (if_pos h24) (Eq.trans (if_neg h26) (Eq.trans (if_neg h28) (Eq.trans (if_neg h32) (Eq.trans (if_pos h35) (Eq.trans (bnd_of hr42) (if_neg h47))))))
  obtain rfl := e.symm.trans hr
  exact ⟨rfl, H51, (by omega)⟩
  refine Wp.cond1 rfl (decide_eq_true h35) (Wp.seq (Wp.region (As rfl rfl (WL.nil (Fin.then (Wp.ret (Fin.thenR (Fin.res (res1 rfl rfl) ?_))))))))
  have H52 := H23.pick [] (by decide) rfl
  have e : r04_CheckOp p0 = 40 := Eq.trans (if_pos h24) (Eq.trans (if_neg h26) (Eq.trans (if_neg h28) (Eq.trans (if_neg h32) (if_neg h35))))
  obtain rfl := e.symm.trans hr
  exact ⟨rfl, H52, (by omega)⟩
  refine WL.valG (v := .pointer (some ⟨g21, 0, none⟩)) rfl rfl (decide_eq_false h24) rfl (Yl.kern rfl rfl (fun _ => by kernel_rfl)) (WL.valG (v := .int .i64 p0.xKind) rfl rfl (decide_eq_false h24) rfl (Yl.load rfl (Lds.one Try.isAgg3 (Cls.of (H23.cls (i := 0) rfl) rfl))) (WL.valG (v := .bool (decide (p0.xKind = 2))) rfl rfl (decide_eq_false h24) rfl (Yl.kern rfl rfl (fun _ => by kernel_rfl)) (WL.val (v := .bool (decide (p0.xKind = 2))) rfl (Yl.pickF rfl (decide_eq_false h24) rfl) (Mv rfl rfl ?_))))
  by_cases h53 : p0.xKind = 2
  refine Sk rfl rfl (decide_eq_true h53) rfl (Sk rfl rfl (decide_eq_true h53) rfl (Sk rfl rfl (decide_eq_true h53) rfl (WL.val (v := .bool true) rfl (Yl.pickT rfl (decide_eq_true h53) rfl) (As rfl rfl (WL.nil (Fin.then (Wp.seq (Wp.region (Kn (v := .pointer (some ⟨g21, 0, none⟩)) rfl rfl rfl (fun _ => by kernel_rfl) (WL.val (v := .int .i64 p0.xKind) rfl (Yl.load rfl (Lds.one Try.isAgg3 (Cls.of (H23.cls (i := 0) rfl) rfl))) (Kn (v := .bool (decide (p0.xKind = 4))) rfl rfl rfl (fun _ => by kernel_rfl) (Mv rfl rfl ?_))))))))))))
  have hb54 : (decide (p0.xKind = 4)) = false := (decide_eq_false (by omega))
  refine WL.valG (v := .pointer (some ⟨g21, 0, none⟩)) rfl rfl hb54 rfl (Yl.kern rfl rfl (fun _ => by kernel_rfl)) (WL.valG (v := .int .i64 p0.xKind) rfl rfl hb54 rfl (Yl.load rfl (Lds.one Try.isAgg3 (Cls.of (H23.cls (i := 0) rfl) rfl))) (WL.valG (v := .bool (decide (p0.xKind = 5))) rfl rfl hb54 rfl (Yl.kern rfl rfl (fun _ => by kernel_rfl)) (WL.val (v := .bool (decide (p0.xKind = 5))) rfl (Yl.pickF rfl hb54 rfl) (As rfl rfl (WL.nil (Fin.then (Wp.seq (Wp.seq (Wp.region (Mv rfl rfl (Kn (v := .bool false) rfl rfl rfl (fun _ => by kernel_rfl) (Mv rfl rfl (Sk rfl rfl rfl rfl (Sk rfl rfl rfl rfl (WL.val (v := .bool false) rfl (Yl.pickF rfl rfl rfl) (Mv rfl rfl (WL.valG (v := .bool true) rfl rfl rfl rfl (Yl.move rfl) (WL.valG (v := .bool true) rfl rfl rfl rfl (Yl.move rfl) (WL.valG (v := .pointer (some ⟨g21, 3, none⟩)) rfl rfl rfl rfl (Yl.kern rfl rfl (fun _ => by kernel_rfl)) (WL.valG (v := .string ⟨List.toArray p0.xLo⟩) rfl rfl rfl rfl (Yl.load rfl (Lds.one Try.isAgg9 (Cls.of (H23.cls (i := 0) rfl) rfl))) (WL.valG (v := .bool (decide (p0.xLo ≠ ([])))) rfl rfl rfl rfl (Yl.strNe rfl rfl) (WL.valG (v := .bool (decide (p0.xLo ≠ ([])))) rfl rfl rfl rfl (Yl.move rfl) ?_))))))))))))))))))))))
  by_cases h55 : p0.xLo ≠ ([])
  refine Sk rfl rfl (decide_eq_true h55) rfl (Sk rfl rfl (decide_eq_true h55) rfl (Sk rfl rfl (decide_eq_true h55) rfl (WL.valG (v := .bool true) rfl rfl rfl rfl (Yl.pickT rfl (decide_eq_true h55) rfl) (WL.valG (v := .bool true) rfl rfl rfl rfl (Yl.pickT rfl rfl rfl) (WL.val (v := .bool true) rfl (Yl.pickF rfl rfl rfl) (Mv rfl rfl (Sk rfl rfl rfl rfl (Sk rfl rfl rfl rfl (WL.skipU rfl rfl rfl (WL.skipU rfl rfl rfl (WL.skipU rfl rfl rfl (Sk rfl rfl rfl rfl (WL.val (v := .bool true) rfl (Yl.pickT rfl rfl rfl) (Mv rfl rfl (Sk rfl rfl rfl rfl (Sk rfl rfl rfl rfl (Sk rfl rfl rfl rfl (Sk rfl rfl rfl rfl (WL.skipU rfl rfl rfl (WL.skipU rfl rfl rfl (WL.skipU rfl rfl rfl (Sk rfl rfl rfl rfl (WL.val (v := .bool true) rfl (Yl.pickT rfl rfl rfl) (Mv rfl rfl (Sk rfl rfl rfl rfl (Sk rfl rfl rfl rfl (Sk rfl rfl rfl rfl (Sk rfl rfl rfl rfl (WL.skipU rfl rfl rfl (WL.skipU rfl rfl rfl (WL.skipU rfl rfl rfl (Sk rfl rfl rfl rfl (WL.val (v := .bool true) rfl (Yl.pickT rfl rfl rfl) (WL.nil (Fin.then (Wp.cond1 rfl rfl (Wp.seq (Wp.region (As rfl rfl ?_)))))))))))))))))))))))))))))))))))))))
  refine WL.nil (Fin.then (Wp.ret (Fin.thenR (Fin.res (res1 rfl rfl) ?_))))
  have H56 := H23.pick [] (by decide) rfl
  have e : r04_CheckOp p0 = 40 := Eq.trans (if_neg h24) (Eq.trans (if_pos h53) (if_pos h55))
  obtain rfl := e.symm.trans hr
  exact ⟨rfl, H56, (by omega)⟩
  refine WL.valG (v := .pointer (some ⟨g21, 4, none⟩)) rfl rfl (decide_eq_false h55) rfl (Yl.kern rfl rfl (fun _ => by kernel_rfl)) (WL.valG (v := .string ⟨List.toArray p0.xHi⟩) rfl rfl (decide_eq_false h55) rfl (Yl.load rfl (Lds.one Try.isAgg9 (Cls.of (H23.cls (i := 0) rfl) rfl))) (WL.valG (v := .bool (decide (p0.xHi ≠ ([])))) rfl rfl (decide_eq_false h55) rfl (Yl.strNe rfl rfl) (WL.valG (v := .bool (decide (p0.xHi ≠ ([])))) rfl rfl rfl rfl (Yl.pickF rfl (decide_eq_false h55) rfl) (WL.valG (v := .bool (decide (p0.xHi ≠ ([])))) rfl rfl rfl rfl (Yl.pickT rfl rfl rfl) (WL.val (v := .bool (decide (p0.xHi ≠ ([])))) rfl (Yl.pickF rfl rfl rfl) (Mv rfl rfl ?_))))))
  by_cases h57 : p0.xHi ≠ ([])
  refine Sk rfl rfl (decide_eq_true h57) rfl (Sk rfl rfl (decide_eq_true h57) rfl (WL.skipU rfl rfl rfl (WL.skipU rfl rfl rfl (WL.skipU rfl rfl rfl (Sk rfl rfl (decide_eq_true h57) rfl (WL.val (v := .bool true) rfl (Yl.pickT rfl (decide_eq_true h57) rfl) (Mv rfl rfl (Sk rfl rfl rfl rfl (Sk rfl rfl rfl rfl (Sk rfl rfl rfl rfl (Sk rfl rfl rfl rfl (WL.skipU rfl rfl rfl (WL.skipU rfl rfl rfl (WL.skipU rfl rfl rfl (Sk rfl rfl rfl rfl (WL.val (v := .bool true) rfl (Yl.pickT rfl rfl rfl) (Mv rfl rfl (Sk rfl rfl rfl rfl (Sk rfl rfl rfl rfl (Sk rfl rfl rfl rfl (Sk rfl rfl rfl rfl (WL.skipU rfl rfl rfl (WL.skipU rfl rfl rfl (WL.skipU rfl rfl rfl (Sk rfl rfl rfl rfl (WL.val (v := .bool true) rfl (Yl.pickT rfl rfl rfl) (WL.nil (Fin.then (Wp.cond1 rfl rfl (Wp.seq (Wp.region (As rfl rfl (WL.nil (Fin.then (Wp.ret (Fin.thenR (Fin.res (res1 rfl rfl) ?_)))))))))))))))))))))))))))))))))))))
  have H58 := H23.pick [] (by decide) rfl
  have e : r04_CheckOp p0 = 40 := Eq.trans (if_neg h24) (Eq.trans (if_pos h53) (Eq.trans (if_neg h55) (if_pos h57)))
  obtain rfl := e.symm.trans hr
  exact ⟨rfl, H58, (by omega)⟩
  refine WL.valG (v := .bool (decide (p0.xKind = 5))) rfl rfl (decide_eq_false h57) rfl (Yl.move rfl) (WL.valG (v := .bool (decide (p0.xKind = 5))) rfl rfl (decide_eq_false h57) rfl (Yl.move rfl) ?_)
  have hb59 : (decide (p0.xKind = 5)) = false := (decide_eq_false (by omega))
  refine Sk rfl rfl hb59 rfl (Sk rfl rfl hb59 rfl (Sk rfl rfl hb59 rfl (WL.valG (v := .bool false) rfl rfl (decide_eq_false h57) rfl (Yl.pickF rfl hb59 rfl) (WL.val (v := .bool false) rfl (Yl.pickF rfl (decide_eq_false h57) rfl) (Mv rfl rfl (WL.valG (v := .pointer (some ⟨g21, 0, none⟩)) rfl rfl rfl rfl (Yl.kern rfl rfl (fun _ => by kernel_rfl)) (WL.valG (v := .int .i64 p0.xKind) rfl rfl rfl rfl (Yl.load rfl (Lds.one Try.isAgg3 (Cls.of (H23.cls (i := 0) rfl) rfl))) (WL.valG (v := .bool (decide (¬ (p0.xKind = 2)))) rfl rfl rfl rfl (Yl.bool (e := !(decide (p0.xKind = 2))) (Yl.kern rfl rfl (fun _ => by kernel_rfl)) decide_not.symm) (WL.valG (v := .bool (decide (¬ (p0.xKind = 2)))) rfl rfl rfl rfl (Yl.move rfl) ?_)))))))))
  have hb60 : (decide (¬ (p0.xKind = 2))) = false := (decide_eq_false (by omega))
  refine Sk rfl rfl hb60 rfl (Sk rfl rfl hb60 rfl (Sk rfl rfl hb60 rfl (WL.valG (v := .bool false) rfl rfl rfl rfl (Yl.pickF rfl hb60 rfl) (WL.val (v := .bool false) rfl (Yl.pickF rfl rfl rfl) (Mv rfl rfl (WL.valG (v := .pointer (some ⟨g21, 0, none⟩)) rfl rfl rfl rfl (Yl.kern rfl rfl (fun _ => by kernel_rfl)) (WL.valG (v := .int .i64 p0.xKind) rfl rfl rfl rfl (Yl.load rfl (Lds.one Try.isAgg3 (Cls.of (H23.cls (i := 0) rfl) rfl))) (WL.valG (v := .bool (decide (¬ (p0.xKind = 4)))) rfl rfl rfl rfl (Yl.bool (e := !(decide (p0.xKind = 4))) (Yl.kern rfl rfl (fun _ => by kernel_rfl)) decide_not.symm) (WL.valG (v := .bool (decide (¬ (p0.xKind = 4)))) rfl rfl rfl rfl (Yl.move rfl) ?_)))))))))
  have hb61 : (decide (¬ (p0.xKind = 4))) = true := (decide_eq_true (by omega))
  refine WL.valG (v := .pointer (some ⟨g21, 5, none⟩)) rfl rfl hb61 rfl (Yl.kern rfl rfl (fun _ => by kernel_rfl)) (WL.valG (v := .int .i64 p0.xMost) rfl rfl hb61 rfl (Yl.load rfl (Lds.one Try.isAgg3 (Cls.of (H23.cls (i := 0) rfl) rfl))) (WL.valG (v := .bool (decide (¬ (p0.xMost = 0)))) rfl rfl hb61 rfl (Yl.bool (e := !(decide (p0.xMost = 0))) (Yl.kern rfl rfl (fun _ => by kernel_rfl)) decide_not.symm) (WL.valG (v := .bool (decide (¬ (p0.xMost = 0)))) rfl rfl rfl rfl (Yl.pickT rfl hb61 rfl) (WL.val (v := .bool (decide (¬ (p0.xMost = 0)))) rfl (Yl.pickF rfl rfl rfl) (WL.nil (Fin.then ?_))))))
  by_cases h62 : p0.xMost = 0
  refine Wp.cond0 rfl (decide_eq_false (not_not_intro h62)) (Wp.skip (Fin.then (Wp.seq (Wp.seq (Wp.region (Mv rfl rfl (Mv rfl rfl (WL.valG (v := .pointer (some ⟨g21, 1, none⟩)) rfl rfl rfl rfl (Yl.kern rfl rfl (fun _ => by kernel_rfl)) (WL.valG (v := .string ⟨List.toArray p0.xKey⟩) rfl rfl rfl rfl (Yl.load rfl (Lds.one Try.isAgg9 (Cls.of (H23.cls (i := 0) rfl) rfl))) ?_)))))))))
  obtain ⟨r68, hr69⟩ : ∃ q, r02_CheckKey p0.xKey = q := ⟨_, rfl⟩
  obtain ⟨D63, HP64, ro65, bk66, rr67⟩ := Own.enter0 H23
  refine WL.doG rfl rfl rfl rfl (Do.call Try.call39 rfl (r02_CheckKey_ok _ _ p0.xKey r68 HP64 hr69) ?_)
  rintro _ w70 ⟨rfl, HQ71, hk73⟩
  have H72 := bk66 _ _ HQ71
  replace hk73 : ¬ (r68 = 0) ∨ (1 ≤ p0.xKey.length ∧ p0.xKey.length ≤ 12) := hk73
  refine WL.valG (v := .bool (decide (¬ (r68 = 0)))) rfl rfl rfl rfl (Yl.bool (e := !(decide (r68 = 0))) (Yl.kern rfl rfl (fun _ => by kernel_rfl)) decide_not.symm) (WL.val (v := .bool (decide (¬ (r68 = 0)))) rfl (Yl.pickT rfl rfl rfl) (WL.nil (Fin.then ?_)))
  by_cases h74 : r68 = 0
  refine Wp.cond0 rfl (decide_eq_false (not_not_intro h74)) (Wp.skip (Fin.then (Wp.seq (Wp.seq (Wp.region (Kn (v := .pointer (some ⟨g21, 2, none⟩)) rfl rfl rfl (fun _ => by kernel_rfl) (WL.val (v := .string ⟨List.toArray p0.xValue⟩) rfl (Yl.load rfl (Lds.one Try.isAgg9 (Cls.of (H72.cls (i := 0) rfl) rfl))) (Kn (v := .int .i64 ((p0.xValue.length : Nat) : Int)) rfl rfl rfl (fun _ => by kernel_rfl) (Kn (v := .bool (decide (((p0.xValue.length : Nat) : Int) > 16))) rfl rfl rfl (fun _ => by kernel_rfl) (WL.nil (Fin.then ?_)))))))))))
  by_cases h75 : ((p0.xValue.length : Nat) : Int) > 16
  refine Wp.cond1 rfl (decide_eq_true h75) (Wp.seq (Wp.region (As rfl rfl (WL.nil (Fin.then (Wp.ret (Fin.thenR (Fin.res (res1 rfl rfl) ?_))))))))
  have H76 := H72.pick [] (by decide) rfl
  have e : r04_CheckOp p0 = 2 := Eq.trans (if_neg h24) (Eq.trans (if_pos h53) (Eq.trans (if_neg h55) (Eq.trans (if_neg h57) (Eq.trans (if_pos h62) (Eq.trans (bnd_of hr69) (Eq.trans (if_pos h74) (if_pos h75)))))))
  obtain rfl := e.symm.trans hr
  exact ⟨rfl, H76, (by omega)⟩
  refine Wp.cond0 rfl (decide_eq_false h75) (Wp.skip (Fin.then (Wp.seq (Wp.seq (Wp.region (Mv rfl rfl (Mv rfl rfl (Sk rfl rfl hb59 rfl (Sk rfl rfl hb59 rfl (Sk rfl rfl hb59 rfl (Sk rfl rfl hb59 rfl (Sk rfl rfl hb59 rfl (Sk rfl rfl hb59 rfl (Sk rfl rfl hb59 rfl (WL.val (v := .bool false) rfl (Yl.pickF rfl hb59 rfl) (WL.nil (Fin.then (Wp.cond0 rfl rfl (Wp.skip (Fin.then (Wp.seq (Wp.seq (Wp.region (Kn (v := .pointer (some ⟨g21, 0, none⟩)) rfl rfl rfl (fun _ => by kernel_rfl) (WL.val (v := .int .i64 p0.xKind) rfl (Yl.load rfl (Lds.one Try.isAgg3 (Cls.of (H72.cls (i := 0) rfl) rfl))) (Kn (v := .bool (decide (p0.xKind = 4))) rfl rfl rfl (fun _ => by kernel_rfl) (Mv rfl rfl (Sk rfl rfl hb54 rfl (Sk rfl rfl hb54 rfl (Sk rfl rfl hb54 rfl (Sk rfl rfl hb54 rfl (WL.skipU rfl rfl rfl (WL.skipU rfl rfl rfl (WL.skipU rfl rfl rfl (Sk rfl rfl hb54 rfl (WL.val (v := .bool false) rfl (Yl.pickF rfl hb54 rfl) (WL.nil (Fin.then (Wp.cond0 rfl rfl ?_)))))))))))))))))))))))))))))))))))))))
  refine Wp.skip (Fin.then (Wp.seq (Wp.region (As rfl rfl (WL.nil (Fin.then (Wp.ret (Fin.res (res1 rfl rfl) ?_))))))))
  have H77 := H72.pick [] (by decide) rfl
  have e : r04_CheckOp p0 = 0 := Eq.trans (if_neg h24) (Eq.trans (if_pos h53) (Eq.trans (if_neg h55) (Eq.trans (if_neg h57) (Eq.trans (if_pos h62) (Eq.trans (bnd_of hr69) (Eq.trans (if_pos h74) (if_neg h75)))))))
  obtain rfl := e.symm.trans hr
  exact ⟨rfl, H77, (by omega)⟩
  refine Wp.cond1 rfl (decide_eq_true h74) (Wp.seq (Wp.region (As rfl rfl (WL.nil (Fin.then (Wp.ret (Fin.thenR (Fin.res (res1 rfl rfl) ?_))))))))
  have H78 := H72.pick [] (by decide) rfl
  have e : r04_CheckOp p0 = 20 := Eq.trans (if_neg h24) (Eq.trans (if_pos h53) (Eq.trans (if_neg h55) (Eq.trans (if_neg h57) (Eq.trans (if_pos h62) (Eq.trans (bnd_of hr69) (if_neg h74))))))
  obtain rfl := e.symm.trans hr
  exact ⟨rfl, H78, (by omega)⟩
  refine Wp.cond1 rfl (decide_eq_true h62) (Wp.seq (Wp.region (As rfl rfl (WL.nil (Fin.then (Wp.ret (Fin.thenR (Fin.res (res1 rfl rfl) ?_))))))))
  have H79 := H23.pick [] (by decide) rfl
  have e : r04_CheckOp p0 = 40 := Eq.trans (if_neg h24) (Eq.trans (if_pos h53) (Eq.trans (if_neg h55) (Eq.trans (if_neg h57) (if_neg h62))))
  obtain rfl := e.symm.trans hr
  exact ⟨rfl, H79, (by omega)⟩
  refine WL.valG (v := .pointer (some ⟨g21, 0, none⟩)) rfl rfl (decide_eq_false h53) rfl (Yl.kern rfl rfl (fun _ => by kernel_rfl)) (WL.valG (v := .int .i64 p0.xKind) rfl rfl (decide_eq_false h53) rfl (Yl.load rfl (Lds.one Try.isAgg3 (Cls.of (H23.cls (i := 0) rfl) rfl))) (WL.valG (v := .bool (decide (p0.xKind = 3))) rfl rfl (decide_eq_false h53) rfl (Yl.kern rfl rfl (fun _ => by kernel_rfl)) (WL.val (v := .bool (decide (p0.xKind = 3))) rfl (Yl.pickF rfl (decide_eq_false h53) rfl) (As rfl rfl (WL.nil (Fin.then (Wp.seq (Wp.region (Kn (v := .pointer (some ⟨g21, 0, none⟩)) rfl rfl rfl (fun _ => by kernel_rfl) (WL.val (v := .int .i64 p0.xKind) rfl (Yl.load rfl (Lds.one Try.isAgg3 (Cls.of (H23.cls (i := 0) rfl) rfl))) (Kn (v := .bool (decide (p0.xKind = 4))) rfl rfl rfl (fun _ => by kernel_rfl) (Mv rfl rfl ?_))))))))))))
  by_cases h80 : p0.xKind = 4
  refine Sk rfl rfl (decide_eq_true h80) rfl (Sk rfl rfl (decide_eq_true h80) rfl (Sk rfl rfl (decide_eq_true h80) rfl (WL.val (v := .bool true) rfl (Yl.pickT rfl (decide_eq_true h80) rfl) (As rfl rfl (WL.nil (Fin.then (Wp.seq (Wp.seq (Wp.region (Mv rfl rfl (WL.val (v := .bool (decide (¬ (p0.xKind = 3)))) rfl (Yl.bool (e := !(decide (p0.xKind = 3))) (Yl.kern rfl rfl (fun _ => by kernel_rfl)) decide_not.symm) (Mv rfl rfl ?_))))))))))))
  have hb81 : (decide (¬ (p0.xKind = 3))) = true := (decide_eq_true (by omega))
  refine WL.valG (v := .bool true) rfl rfl hb81 rfl (Yl.move rfl) (WL.valG (v := .bool false) rfl rfl hb81 rfl (Yl.kern rfl rfl (fun _ => by kernel_rfl)) (WL.val (v := .bool false) rfl (Yl.pickT rfl hb81 rfl) (Mv rfl rfl (WL.valG (v := .bool (decide (p0.xKind = 3))) rfl rfl rfl rfl (Yl.move rfl) (WL.valG (v := .bool (decide (p0.xKind = 3))) rfl rfl rfl rfl (Yl.move rfl) ?_)))))
  have hb82 : (decide (p0.xKind = 3)) = false := (decide_eq_false (by omega))
  refine Sk rfl rfl hb82 rfl (Sk rfl rfl hb82 rfl (Sk rfl rfl hb82 rfl (Sk rfl rfl hb82 rfl (WL.skipU rfl rfl rfl (WL.skipU rfl rfl rfl (WL.skipU rfl rfl rfl (Sk rfl rfl hb82 rfl (WL.valG (v := .bool false) rfl rfl rfl rfl (Yl.pickF rfl hb82 rfl) (WL.val (v := .bool false) rfl (Yl.pickF rfl rfl rfl) (Mv rfl rfl (WL.valG (v := .bool true) rfl rfl rfl rfl (Yl.move rfl) (WL.valG (v := .bool true) rfl rfl rfl rfl (Yl.move rfl) (WL.valG (v := .pointer (some ⟨g21, 1, none⟩)) rfl rfl rfl rfl (Yl.kern rfl rfl (fun _ => by kernel_rfl)) (WL.valG (v := .string ⟨List.toArray p0.xKey⟩) rfl rfl rfl rfl (Yl.load rfl (Lds.one Try.isAgg9 (Cls.of (H23.cls (i := 0) rfl) rfl))) (WL.valG (v := .bool (decide (p0.xKey ≠ ([])))) rfl rfl rfl rfl (Yl.strNe rfl rfl) (WL.valG (v := .bool (decide (p0.xKey ≠ ([])))) rfl rfl rfl rfl (Yl.pickT rfl rfl rfl) (WL.val (v := .bool (decide (p0.xKey ≠ ([])))) rfl (Yl.pickF rfl rfl rfl) (Mv rfl rfl ?_))))))))))))))))))
  by_cases h83 : p0.xKey ≠ ([])
  refine Sk rfl rfl (decide_eq_true h83) rfl (Sk rfl rfl (decide_eq_true h83) rfl (Sk rfl rfl (decide_eq_true h83) rfl (Sk rfl rfl (decide_eq_true h83) rfl (WL.skipU rfl rfl rfl (WL.skipU rfl rfl rfl (WL.skipU rfl rfl rfl (Sk rfl rfl (decide_eq_true h83) rfl (WL.val (v := .bool true) rfl (Yl.pickT rfl (decide_eq_true h83) rfl) (Mv rfl rfl (Sk rfl rfl rfl rfl (Sk rfl rfl rfl rfl (Sk rfl rfl rfl rfl (Sk rfl rfl rfl rfl (WL.skipU rfl rfl rfl (WL.skipU rfl rfl rfl (WL.skipU rfl rfl rfl (Sk rfl rfl rfl rfl (WL.val (v := .bool true) rfl (Yl.pickT rfl rfl rfl) (WL.nil (Fin.then (Wp.cond1 rfl rfl (Wp.seq (Wp.region (As rfl rfl (WL.nil (Fin.then (Wp.ret (Fin.thenR (Fin.res (res1 rfl rfl) ?_)))))))))))))))))))))))))))))
  have H84 := H23.pick [] (by decide) rfl
  have e : r04_CheckOp p0 = 40 := Eq.trans (if_neg h24) (Eq.trans (if_neg h53) (Eq.trans (if_pos h80) (if_pos h83)))
  obtain rfl := e.symm.trans hr
  exact ⟨rfl, H84, (by omega)⟩
  refine WL.valG (v := .pointer (some ⟨g21, 0, none⟩)) rfl rfl (decide_eq_false h83) rfl (Yl.kern rfl rfl (fun _ => by kernel_rfl)) (WL.valG (v := .int .i64 p0.xKind) rfl rfl (decide_eq_false h83) rfl (Yl.load rfl (Lds.one Try.isAgg3 (Cls.of (H23.cls (i := 0) rfl) rfl))) (WL.valG (v := .bool (decide (¬ (p0.xKind = 2)))) rfl rfl (decide_eq_false h83) rfl (Yl.bool (e := !(decide (p0.xKind = 2))) (Yl.kern rfl rfl (fun _ => by kernel_rfl)) decide_not.symm) (WL.valG (v := .bool (decide (¬ (p0.xKind = 2)))) rfl rfl (decide_eq_false h83) rfl (Yl.move rfl) ?_)))
  have hb85 : (decide (¬ (p0.xKind = 2))) = true := (decide_eq_true (by omega))
  refine WL.valG (v := .pointer (some ⟨g21, 2, none⟩)) rfl rfl hb85 rfl (Yl.kern rfl rfl (fun _ => by kernel_rfl)) (WL.valG (v := .string ⟨List.toArray p0.xValue⟩) rfl rfl hb85 rfl (Yl.load rfl (Lds.one Try.isAgg9 (Cls.of (H23.cls (i := 0) rfl) rfl))) (WL.valG (v := .bool (decide (p0.xValue ≠ ([])))) rfl rfl hb85 rfl (Yl.strNe rfl rfl) (WL.valG (v := .bool (decide (p0.xValue ≠ ([])))) rfl rfl (decide_eq_false h83) rfl (Yl.pickT rfl hb85 rfl) (WL.val (v := .bool (decide (p0.xValue ≠ ([])))) rfl (Yl.pickF rfl (decide_eq_false h83) rfl) (Mv rfl rfl ?_)))))
  by_cases h86 : p0.xValue ≠ ([])
  refine Sk rfl rfl (decide_eq_true h86) rfl (Sk rfl rfl (decide_eq_true h86) rfl (Sk rfl rfl (decide_eq_true h86) rfl (Sk rfl rfl (decide_eq_true h86) rfl (WL.skipU rfl rfl rfl (WL.skipU rfl rfl rfl (WL.skipU rfl rfl rfl (Sk rfl rfl (decide_eq_true h86) rfl (WL.val (v := .bool true) rfl (Yl.pickT rfl (decide_eq_true h86) rfl) (WL.nil (Fin.then (Wp.cond1 rfl rfl (Wp.seq (Wp.region (As rfl rfl (WL.nil (Fin.then (Wp.ret (Fin.thenR (Fin.res (res1 rfl rfl) ?_)))))))))))))))))))
  have H87 := H23.pick [] (by decide) rfl
  have e : r04_CheckOp p0 = 40 := Eq.trans (if_neg h24) (Eq.trans (if_neg h53) (Eq.trans (if_pos h80) (Eq.trans (if_neg h83) (if_pos h86))))
  obtain rfl := e.symm.trans hr
  exact ⟨rfl, H87, (by omega)⟩
  refine WL.valG (v := .pointer (some ⟨g21, 0, none⟩)) rfl rfl (decide_eq_false h86) rfl (Yl.kern rfl rfl (fun _ => by kernel_rfl)) (WL.valG (v := .int .i64 p0.xKind) rfl rfl (decide_eq_false h86) rfl (Yl.load rfl (Lds.one Try.isAgg3 (Cls.of (H23.cls (i := 0) rfl) rfl))) (WL.valG (v := .bool (decide (¬ (p0.xKind = 4)))) rfl rfl (decide_eq_false h86) rfl (Yl.bool (e := !(decide (p0.xKind = 4))) (Yl.kern rfl rfl (fun _ => by kernel_rfl)) decide_not.symm) (WL.valG (v := .bool (decide (¬ (p0.xKind = 4)))) rfl rfl (decide_eq_false h86) rfl (Yl.move rfl) ?_)))
  have hb88 : (decide (¬ (p0.xKind = 4))) = false := (decide_eq_false (by omega))
  refine Sk rfl rfl hb88 rfl (Sk rfl rfl hb88 rfl (Sk rfl rfl hb88 rfl (WL.valG (v := .bool false) rfl rfl (decide_eq_false h86) rfl (Yl.pickF rfl hb88 rfl) (WL.val (v := .bool false) rfl (Yl.pickF rfl (decide_eq_false h86) rfl) (WL.nil (Fin.then (Wp.cond0 rfl rfl (Wp.skip (Fin.then (Wp.seq (Wp.seq (Wp.region (Mv rfl rfl (Mv rfl rfl (Sk rfl rfl hb82 rfl (Sk rfl rfl hb82 rfl (Sk rfl rfl hb82 rfl (Sk rfl rfl hb82 rfl (WL.val (v := .bool false) rfl (Yl.pickF rfl hb82 rfl) (WL.nil (Fin.then (Wp.cond0 rfl rfl (Wp.skip (Fin.then (Wp.seq (Wp.seq (Wp.region (Kn (v := .pointer (some ⟨g21, 2, none⟩)) rfl rfl rfl (fun _ => by kernel_rfl) (WL.val (v := .string ⟨List.toArray p0.xValue⟩) rfl (Yl.load rfl (Lds.one Try.isAgg9 (Cls.of (H23.cls (i := 0) rfl) rfl))) (Kn (v := .int .i64 ((p0.xValue.length : Nat) : Int)) rfl rfl rfl (fun _ => by kernel_rfl) (Kn (v := .bool (decide (((p0.xValue.length : Nat) : Int) > 16))) rfl rfl rfl (fun _ => by kernel_rfl) (WL.nil (Fin.then ?_)))))))))))))))))))))))))))))))))
  by_cases h89 : ((p0.xValue.length : Nat) : Int) > 16
  refine Wp.cond1 rfl (decide_eq_true h89) (Wp.seq (Wp.region (As rfl rfl (WL.nil (Fin.then (Wp.ret (Fin.thenR (Fin.res (res1 rfl rfl) ?_))))))))
  have H90 := H23.pick [] (by decide) rfl
  have e : r04_CheckOp p0 = 2 := Eq.trans (if_neg h24) (Eq.trans (if_neg h53) (Eq.trans (if_pos h80) (Eq.trans (if_neg h83) (Eq.trans (if_neg h86) (if_pos h89)))))
  obtain rfl := e.symm.trans hr
  exact ⟨rfl, H90, (by omega)⟩
  refine Wp.cond0 rfl (decide_eq_false h89) (Wp.skip (Fin.then (Wp.seq (Wp.seq (Wp.region (Mv rfl rfl (Mv rfl rfl (WL.valG (v := .pointer (some ⟨g21, 3, none⟩)) rfl rfl rfl rfl (Yl.kern rfl rfl (fun _ => by kernel_rfl)) (WL.valG (v := .string ⟨List.toArray p0.xLo⟩) rfl rfl rfl rfl (Yl.load rfl (Lds.one Try.isAgg9 (Cls.of (H23.cls (i := 0) rfl) rfl))) (WL.valG (v := .pointer (some ⟨g21, 4, none⟩)) rfl rfl rfl rfl (Yl.kern rfl rfl (fun _ => by kernel_rfl)) (WL.valG (v := .string ⟨List.toArray p0.xHi⟩) rfl rfl rfl rfl (Yl.load rfl (Lds.one Try.isAgg9 (Cls.of (H23.cls (i := 0) rfl) rfl))) (WL.valG (v := .agg #[.string ⟨List.toArray p0.xLo⟩, .string ⟨List.toArray p0.xHi⟩]) rfl rfl rfl rfl (Yl.kern rfl rfl (fun _ => by kernel_rfl)) ?_))))))))))))
  obtain ⟨r96, hr97⟩ : ∃ q, r02_Check (RangeD.mk p0.xLo p0.xHi) = q := ⟨_, rfl⟩
  obtain ⟨D91, HP92, ro93, bk94, rr95⟩ := Own.enter0 H23
  refine WL.doG rfl rfl rfl rfl (Do.call Try.call25 rfl (r02_Check_ok _ _ (RangeD.mk p0.xLo p0.xHi) r96 HP92 hr97) ?_)
  rintro _ w98 ⟨rfl, HQ99⟩
  have H100 := bk94 _ _ HQ99
  refine WL.valG (v := .bool (decide (¬ (r96 = 0)))) rfl rfl rfl rfl (Yl.bool (e := !(decide (r96 = 0))) (Yl.kern rfl rfl (fun _ => by kernel_rfl)) decide_not.symm) (WL.val (v := .bool (decide (¬ (r96 = 0)))) rfl (Yl.pickT rfl rfl rfl) (WL.nil (Fin.then ?_)))
  by_cases h101 : r96 = 0
  refine Wp.cond0 rfl (decide_eq_false (not_not_intro h101)) (Wp.skip (Fin.then (Wp.seq (Wp.seq (Wp.region (Kn (v := .pointer (some ⟨g21, 0, none⟩)) rfl rfl rfl (fun _ => by kernel_rfl) (WL.val (v := .int .i64 p0.xKind) rfl (Yl.load rfl (Lds.one Try.isAgg3 (Cls.of (H100.cls (i := 0) rfl) rfl))) (Kn (v := .bool (decide (p0.xKind = 4))) rfl rfl rfl (fun _ => by kernel_rfl) (Mv rfl rfl (WL.valG (v := .pointer (some ⟨g21, 5, none⟩)) rfl rfl (decide_eq_true h80) rfl (Yl.kern rfl rfl (fun _ => by kernel_rfl)) (WL.valG (v := .int .i64 p0.xMost) rfl rfl (decide_eq_true h80) rfl (Yl.load rfl (Lds.one Try.isAgg3 (Cls.of (H100.cls (i := 0) rfl) rfl))) (WL.valG (v := .bool (decide (p0.xMost < 1))) rfl rfl (decide_eq_true h80) rfl (Yl.kern rfl rfl (fun _ => by kernel_rfl)) (WL.valG (v := .bool (decide (p0.xMost < 1))) rfl rfl (decide_eq_true h80) rfl (Yl.move rfl) ?_)))))))))))))
  by_cases h102 : p0.xMost < 1
  refine Sk rfl rfl (decide_eq_true h102) rfl (Sk rfl rfl (decide_eq_true h102) rfl (Sk rfl rfl (decide_eq_true h102) rfl (WL.valG (v := .bool true) rfl rfl (decide_eq_true h80) rfl (Yl.pickT rfl (decide_eq_true h102) rfl) (WL.val (v := .bool true) rfl (Yl.pickT rfl (decide_eq_true h80) rfl) (WL.nil (Fin.then (Wp.cond1 rfl rfl (Wp.seq (Wp.region (As rfl rfl (WL.nil (Fin.then (Wp.ret (Fin.thenR (Fin.res (res1 rfl rfl) ?_)))))))))))))))
  have H103 := H100.pick [] (by decide) rfl
  have e : r04_CheckOp p0 = 1 := Eq.trans (if_neg h24) (Eq.trans (if_neg h53) (Eq.trans (if_pos h80) (Eq.trans (if_neg h83) (Eq.trans (if_neg h86) (Eq.trans (if_neg h89) (Eq.trans (bnd_of hr97) (Eq.trans (if_pos h101) (if_pos h102))))))))
  obtain rfl := e.symm.trans hr
  exact ⟨rfl, H103, (by omega)⟩
  refine WL.valG (v := .pointer (some ⟨g21, 5, none⟩)) rfl rfl (decide_eq_false h102) rfl (Yl.kern rfl rfl (fun _ => by kernel_rfl)) (WL.valG (v := .int .i64 p0.xMost) rfl rfl (decide_eq_false h102) rfl (Yl.load rfl (Lds.one Try.isAgg3 (Cls.of (H100.cls (i := 0) rfl) rfl))) (WL.valG (v := .bool (decide (p0.xMost > 4))) rfl rfl (decide_eq_false h102) rfl (Yl.kern rfl rfl (fun _ => by kernel_rfl)) (WL.valG (v := .bool (decide (p0.xMost > 4))) rfl rfl (decide_eq_true h80) rfl (Yl.pickF rfl (decide_eq_false h102) rfl) (WL.val (v := .bool (decide (p0.xMost > 4))) rfl (Yl.pickT rfl (decide_eq_true h80) rfl) (WL.nil (Fin.then ?_))))))
  by_cases h104 : p0.xMost > 4
  refine Wp.cond1 rfl (decide_eq_true h104) (Wp.seq (Wp.region (As rfl rfl (WL.nil (Fin.then (Wp.ret (Fin.thenR (Fin.res (res1 rfl rfl) ?_))))))))
  have H105 := H100.pick [] (by decide) rfl
  have e : r04_CheckOp p0 = 1 := Eq.trans (if_neg h24) (Eq.trans (if_neg h53) (Eq.trans (if_pos h80) (Eq.trans (if_neg h83) (Eq.trans (if_neg h86) (Eq.trans (if_neg h89) (Eq.trans (bnd_of hr97) (Eq.trans (if_pos h101) (Eq.trans (if_neg h102) (if_pos h104)))))))))
  obtain rfl := e.symm.trans hr
  exact ⟨rfl, H105, (by omega)⟩
  refine Wp.cond0 rfl (decide_eq_false h104) (Wp.skip (Fin.then (Wp.seq (Wp.region (As rfl rfl (WL.nil (Fin.then (Wp.ret (Fin.res (res1 rfl rfl) ?_)))))))))
  have H106 := H100.pick [] (by decide) rfl
  have e : r04_CheckOp p0 = 0 := Eq.trans (if_neg h24) (Eq.trans (if_neg h53) (Eq.trans (if_pos h80) (Eq.trans (if_neg h83) (Eq.trans (if_neg h86) (Eq.trans (if_neg h89) (Eq.trans (bnd_of hr97) (Eq.trans (if_pos h101) (Eq.trans (if_neg h102) (if_neg h104)))))))))
  obtain rfl := e.symm.trans hr
  exact ⟨rfl, H106, (by omega)⟩
  refine Wp.cond1 rfl (decide_eq_true h101) (Wp.seq (Wp.region (As rfl rfl (WL.nil (Fin.then (Wp.ret (Fin.thenR (Fin.res (res1 rfl rfl) ?_))))))))
  have H107 := H100.pick [] (by decide) rfl
  have e : r04_CheckOp p0 = 21 := Eq.trans (if_neg h24) (Eq.trans (if_neg h53) (Eq.trans (if_pos h80) (Eq.trans (if_neg h83) (Eq.trans (if_neg h86) (Eq.trans (if_neg h89) (Eq.trans (bnd_of hr97) (if_neg h101)))))))
  obtain rfl := e.symm.trans hr
  exact ⟨rfl, H107, (by omega)⟩
  refine WL.valG (v := .pointer (some ⟨g21, 0, none⟩)) rfl rfl (decide_eq_false h80) rfl (Yl.kern rfl rfl (fun _ => by kernel_rfl)) (WL.valG (v := .int .i64 p0.xKind) rfl rfl (decide_eq_false h80) rfl (Yl.load rfl (Lds.one Try.isAgg3 (Cls.of (H23.cls (i := 0) rfl) rfl))) (WL.valG (v := .bool (decide (p0.xKind = 5))) rfl rfl (decide_eq_false h80) rfl (Yl.kern rfl rfl (fun _ => by kernel_rfl)) (WL.val (v := .bool (decide (p0.xKind = 5))) rfl (Yl.pickF rfl (decide_eq_false h80) rfl) (As rfl rfl (WL.nil (Fin.then (Wp.seq (Wp.seq (Wp.region (Mv rfl rfl (WL.val (v := .bool (decide (¬ (p0.xKind = 3)))) rfl (Yl.bool (e := !(decide (p0.xKind = 3))) (Yl.kern rfl rfl (fun _ => by kernel_rfl)) decide_not.symm) (Mv rfl rfl ?_))))))))))))
  by_cases h108 : p0.xKind = 3
  refine Sk rfl rfl (decide_eq_false (not_not_intro h108)) rfl (Sk rfl rfl (decide_eq_false (not_not_intro h108)) rfl (WL.val (v := .bool false) rfl (Yl.pickF rfl (decide_eq_false (not_not_intro h108)) rfl) (Mv rfl rfl (WL.valG (v := .bool (decide (p0.xKind = 3))) rfl rfl rfl rfl (Yl.move rfl) (WL.valG (v := .bool (decide (p0.xKind = 3))) rfl rfl rfl rfl (Yl.move rfl) (WL.valG (v := .pointer (some ⟨g21, 3, none⟩)) rfl rfl (decide_eq_true h108) rfl (Yl.kern rfl rfl (fun _ => by kernel_rfl)) (WL.valG (v := .string ⟨List.toArray p0.xLo⟩) rfl rfl (decide_eq_true h108) rfl (Yl.load rfl (Lds.one Try.isAgg9 (Cls.of (H23.cls (i := 0) rfl) rfl))) (WL.valG (v := .bool (decide (p0.xLo ≠ ([])))) rfl rfl (decide_eq_true h108) rfl (Yl.strNe rfl rfl) (WL.valG (v := .bool (decide (p0.xLo ≠ ([])))) rfl rfl (decide_eq_true h108) rfl (Yl.move rfl) ?_)))))))))
  by_cases h109 : p0.xLo ≠ ([])
  refine Sk rfl rfl (decide_eq_true h109) rfl (Sk rfl rfl (decide_eq_true h109) rfl (Sk rfl rfl (decide_eq_true h109) rfl (WL.valG (v := .bool true) rfl rfl (decide_eq_true h108) rfl (Yl.pickT rfl (decide_eq_true h109) rfl) (WL.valG (v := .bool true) rfl rfl rfl rfl (Yl.pickT rfl (decide_eq_true h108) rfl) (WL.val (v := .bool true) rfl (Yl.pickF rfl rfl rfl) (Mv rfl rfl (Sk rfl rfl rfl rfl (Sk rfl rfl rfl rfl (WL.skipU rfl rfl rfl (WL.skipU rfl rfl rfl (WL.skipU rfl rfl rfl (Sk rfl rfl rfl rfl (WL.val (v := .bool true) rfl (Yl.pickT rfl rfl rfl) (Mv rfl rfl (Sk rfl rfl rfl rfl (Sk rfl rfl rfl rfl (Sk rfl rfl rfl rfl (Sk rfl rfl rfl rfl (WL.skipU rfl rfl rfl (WL.skipU rfl rfl rfl (WL.skipU rfl rfl rfl (Sk rfl rfl rfl rfl (WL.val (v := .bool true) rfl (Yl.pickT rfl rfl rfl) (Mv rfl rfl (Sk rfl rfl rfl rfl (Sk rfl rfl rfl rfl (Sk rfl rfl rfl rfl (Sk rfl rfl rfl rfl (WL.skipU rfl rfl rfl (WL.skipU rfl rfl rfl (WL.skipU rfl rfl rfl (Sk rfl rfl rfl rfl (WL.val (v := .bool true) rfl (Yl.pickT rfl rfl rfl) (WL.nil (Fin.then (Wp.cond1 rfl rfl (Wp.seq (Wp.region (As rfl rfl ?_)))))))))))))))))))))))))))))))))))))))
  refine WL.nil (Fin.then (Wp.ret (Fin.thenR (Fin.res (res1 rfl rfl) ?_))))
  have H110 := H23.pick [] (by decide) rfl
  have e : r04_CheckOp p0 = 40 := Eq.trans (if_neg h24) (Eq.trans (if_neg h53) (Eq.trans (if_neg h80) (Eq.trans (if_pos h108) (if_pos h109))))
  obtain rfl := e.symm.trans hr
  exact ⟨rfl, H110, (by omega)⟩
  refine WL.valG (v := .pointer (some ⟨g21, 4, none⟩)) rfl rfl (decide_eq_false h109) rfl (Yl.kern rfl rfl (fun _ => by kernel_rfl)) (WL.valG (v := .string ⟨List.toArray p0.xHi⟩) rfl rfl (decide_eq_false h109) rfl (Yl.load rfl (Lds.one Try.isAgg9 (Cls.of (H23.cls (i := 0) rfl) rfl))) (WL.valG (v := .bool (decide (p0.xHi ≠ ([])))) rfl rfl (decide_eq_false h109) rfl (Yl.strNe rfl rfl) (WL.valG (v := .bool (decide (p0.xHi ≠ ([])))) rfl rfl (decide_eq_true h108) rfl (Yl.pickF rfl (decide_eq_false h109) rfl) (WL.valG (v := .bool (decide (p0.xHi ≠ ([])))) rfl rfl rfl rfl (Yl.pickT rfl (decide_eq_true h108) rfl) (WL.val (v := .bool (decide (p0.xHi ≠ ([])))) rfl (Yl.pickF rfl rfl rfl) (Mv rfl rfl ?_))))))
  by_cases h111 : p0.xHi ≠ ([])
  refine Sk rfl rfl (decide_eq_true h111) rfl (Sk rfl rfl (decide_eq_true h111) rfl (WL.skipU rfl rfl rfl (WL.skipU rfl rfl rfl (WL.skipU rfl rfl rfl (Sk rfl rfl (decide_eq_true h111) rfl (WL.val (v := .bool true) rfl (Yl.pickT rfl (decide_eq_true h111) rfl) (Mv rfl rfl (Sk rfl rfl rfl rfl (Sk rfl rfl rfl rfl (Sk rfl rfl rfl rfl (Sk rfl rfl rfl rfl (WL.skipU rfl rfl rfl (WL.skipU rfl rfl rfl (WL.skipU rfl rfl rfl (Sk rfl rfl rfl rfl (WL.val (v := .bool true) rfl (Yl.pickT rfl rfl rfl) (Mv rfl rfl (Sk rfl rfl rfl rfl (Sk rfl rfl rfl rfl (Sk rfl rfl rfl rfl (Sk rfl rfl rfl rfl (WL.skipU rfl rfl rfl (WL.skipU rfl rfl rfl (WL.skipU rfl rfl rfl (Sk rfl rfl rfl rfl (WL.val (v := .bool true) rfl (Yl.pickT rfl rfl rfl) (WL.nil (Fin.then (Wp.cond1 rfl rfl (Wp.seq (Wp.region (As rfl rfl (WL.nil (Fin.then (Wp.ret (Fin.thenR (Fin.res (res1 rfl rfl) ?_)))))))))))))))))))))))))))))))))))))
  have H112 := H23.pick [] (by decide) rfl
  have e : r04_CheckOp p0 = 40 := Eq.trans (if_neg h24) (Eq.trans (if_neg h53) (Eq.trans (if_neg h80) (Eq.trans (if_pos h108) (Eq.trans (if_neg h109) (if_pos h111)))))
  obtain rfl := e.symm.trans hr
  exact ⟨rfl, H112, (by omega)⟩
  refine WL.valG (v := .bool (decide (p0.xKind = 5))) rfl rfl (decide_eq_false h111) rfl (Yl.move rfl) (WL.valG (v := .bool (decide (p0.xKind = 5))) rfl rfl (decide_eq_false h111) rfl (Yl.move rfl) ?_)
  have hb113 : (decide (p0.xKind = 5)) = false := (decide_eq_false (by omega))
  refine Sk rfl rfl hb113 rfl (Sk rfl rfl hb113 rfl (Sk rfl rfl hb113 rfl (WL.valG (v := .bool false) rfl rfl (decide_eq_false h111) rfl (Yl.pickF rfl hb113 rfl) (WL.val (v := .bool false) rfl (Yl.pickF rfl (decide_eq_false h111) rfl) (Mv rfl rfl (WL.valG (v := .pointer (some ⟨g21, 0, none⟩)) rfl rfl rfl rfl (Yl.kern rfl rfl (fun _ => by kernel_rfl)) (WL.valG (v := .int .i64 p0.xKind) rfl rfl rfl rfl (Yl.load rfl (Lds.one Try.isAgg3 (Cls.of (H23.cls (i := 0) rfl) rfl))) (WL.valG (v := .bool (decide (¬ (p0.xKind = 2)))) rfl rfl rfl rfl (Yl.bool (e := !(decide (p0.xKind = 2))) (Yl.kern rfl rfl (fun _ => by kernel_rfl)) decide_not.symm) (WL.valG (v := .bool (decide (¬ (p0.xKind = 2)))) rfl rfl rfl rfl (Yl.move rfl) ?_)))))))))
  have hb114 : (decide (¬ (p0.xKind = 2))) = true := (decide_eq_true (by omega))
  refine WL.valG (v := .pointer (some ⟨g21, 2, none⟩)) rfl rfl hb114 rfl (Yl.kern rfl rfl (fun _ => by kernel_rfl)) (WL.valG (v := .string ⟨List.toArray p0.xValue⟩) rfl rfl hb114 rfl (Yl.load rfl (Lds.one Try.isAgg9 (Cls.of (H23.cls (i := 0) rfl) rfl))) (WL.valG (v := .bool (decide (p0.xValue ≠ ([])))) rfl rfl hb114 rfl (Yl.strNe rfl rfl) (WL.valG (v := .bool (decide (p0.xValue ≠ ([])))) rfl rfl rfl rfl (Yl.pickT rfl hb114 rfl) (WL.val (v := .bool (decide (p0.xValue ≠ ([])))) rfl (Yl.pickF rfl rfl rfl) (Mv rfl rfl ?_)))))
  by_cases h115 : p0.xValue ≠ ([])
  refine Sk rfl rfl (decide_eq_true h115) rfl (Sk rfl rfl (decide_eq_true h115) rfl (Sk rfl rfl (decide_eq_true h115) rfl (Sk rfl rfl (decide_eq_true h115) rfl (WL.skipU rfl rfl rfl (WL.skipU rfl rfl rfl (WL.skipU rfl rfl rfl (Sk rfl rfl (decide_eq_true h115) rfl (WL.val (v := .bool true) rfl (Yl.pickT rfl (decide_eq_true h115) rfl) (WL.nil (Fin.then (Wp.cond1 rfl rfl (Wp.seq (Wp.region (As rfl rfl (WL.nil (Fin.then (Wp.ret (Fin.thenR (Fin.res (res1 rfl rfl) ?_)))))))))))))))))))
  have H116 := H23.pick [] (by decide) rfl
  have e : r04_CheckOp p0 = 40 := Eq.trans (if_neg h24) (Eq.trans (if_neg h53) (Eq.trans (if_neg h80) (Eq.trans (if_pos h108) (Eq.trans (if_neg h109) (Eq.trans (if_neg h111) (if_pos h115))))))
  obtain rfl := e.symm.trans hr
  exact ⟨rfl, H116, (by omega)⟩
  refine WL.valG (v := .pointer (some ⟨g21, 0, none⟩)) rfl rfl (decide_eq_false h115) rfl (Yl.kern rfl rfl (fun _ => by kernel_rfl)) (WL.valG (v := .int .i64 p0.xKind) rfl rfl (decide_eq_false h115) rfl (Yl.load rfl (Lds.one Try.isAgg3 (Cls.of (H23.cls (i := 0) rfl) rfl))) (WL.valG (v := .bool (decide (¬ (p0.xKind = 4)))) rfl rfl (decide_eq_false h115) rfl (Yl.bool (e := !(decide (p0.xKind = 4))) (Yl.kern rfl rfl (fun _ => by kernel_rfl)) decide_not.symm) (WL.valG (v := .bool (decide (¬ (p0.xKind = 4)))) rfl rfl (decide_eq_false h115) rfl (Yl.move rfl) ?_)))
  have hb117 : (decide (¬ (p0.xKind = 4))) = true := (decide_eq_true (by omega))
  refine WL.valG (v := .pointer (some ⟨g21, 5, none⟩)) rfl rfl hb117 rfl (Yl.kern rfl rfl (fun _ => by kernel_rfl)) (WL.valG (v := .int .i64 p0.xMost) rfl rfl hb117 rfl (Yl.load rfl (Lds.one Try.isAgg3 (Cls.of (H23.cls (i := 0) rfl) rfl))) (WL.valG (v := .bool (decide (¬ (p0.xMost = 0)))) rfl rfl hb117 rfl (Yl.bool (e := !(decide (p0.xMost = 0))) (Yl.kern rfl rfl (fun _ => by kernel_rfl)) decide_not.symm) (WL.valG (v := .bool (decide (¬ (p0.xMost = 0)))) rfl rfl (decide_eq_false h115) rfl (Yl.pickT rfl hb117 rfl) (WL.val (v := .bool (decide (¬ (p0.xMost = 0)))) rfl (Yl.pickF rfl (decide_eq_false h115) rfl) (WL.nil (Fin.then ?_))))))
  by_cases h118 : p0.xMost = 0
  refine Wp.cond0 rfl (decide_eq_false (not_not_intro h118)) (Wp.skip (Fin.then (Wp.seq (Wp.seq (Wp.region (Mv rfl rfl (Mv rfl rfl (WL.valG (v := .pointer (some ⟨g21, 1, none⟩)) rfl rfl (decide_eq_true h108) rfl (Yl.kern rfl rfl (fun _ => by kernel_rfl)) (WL.valG (v := .string ⟨List.toArray p0.xKey⟩) rfl rfl (decide_eq_true h108) rfl (Yl.load rfl (Lds.one Try.isAgg9 (Cls.of (H23.cls (i := 0) rfl) rfl))) ?_)))))))))
  obtain ⟨r124, hr125⟩ : ∃ q, r02_CheckKey p0.xKey = q := ⟨_, rfl⟩
  obtain ⟨D119, HP120, ro121, bk122, rr123⟩ := Own.enter0 H23
  refine WL.doG rfl rfl (decide_eq_true h108) rfl (Do.call Try.call39 rfl (r02_CheckKey_ok _ _ p0.xKey r124 HP120 hr125) ?_)
  rintro _ w126 ⟨rfl, HQ127, hk129⟩
  have H128 := bk122 _ _ HQ127
  replace hk129 : ¬ (r124 = 0) ∨ (1 ≤ p0.xKey.length ∧ p0.xKey.length ≤ 12) := hk129
  refine WL.valG (v := .bool (decide (¬ (r124 = 0)))) rfl rfl (decide_eq_true h108) rfl (Yl.bool (e := !(decide (r124 = 0))) (Yl.kern rfl rfl (fun _ => by kernel_rfl)) decide_not.symm) (WL.val (v := .bool (decide (¬ (r124 = 0)))) rfl (Yl.pickT rfl (decide_eq_true h108) rfl) (WL.nil (Fin.then ?_)))
  by_cases h130 : r124 = 0
  refine Wp.cond0 rfl (decide_eq_false (not_not_intro h130)) (Wp.skip (Fin.then (Wp.seq (Wp.seq (Wp.region (Kn (v := .pointer (some ⟨g21, 2, none⟩)) rfl rfl rfl (fun _ => by kernel_rfl) (WL.val (v := .string ⟨List.toArray p0.xValue⟩) rfl (Yl.load rfl (Lds.one Try.isAgg9 (Cls.of (H128.cls (i := 0) rfl) rfl))) (Kn (v := .int .i64 ((p0.xValue.length : Nat) : Int)) rfl rfl rfl (fun _ => by kernel_rfl) (Kn (v := .bool (decide (((p0.xValue.length : Nat) : Int) > 16))) rfl rfl rfl (fun _ => by kernel_rfl) (WL.nil (Fin.then ?_)))))))))))
  by_cases h131 : ((p0.xValue.length : Nat) : Int) > 16
  refine Wp.cond1 rfl (decide_eq_true h131) (Wp.seq (Wp.region (As rfl rfl (WL.nil (Fin.then (Wp.ret (Fin.thenR (Fin.res (res1 rfl rfl) ?_))))))))
  have H132 := H128.pick [] (by decide) rfl
  have e : r04_CheckOp p0 = 2 := Eq.trans (if_neg h24) (Eq.trans (if_neg h53) (Eq.trans (if_neg h80) (Eq.trans (if_pos h108) (Eq.trans (if_neg h109) (Eq.trans (if_neg h111) (Eq.trans (if_neg h115) (Eq.trans (if_pos h118) (Eq.trans (bnd_of hr125) (Eq.trans (if_pos h130) (if_pos h131))))))))))
  obtain rfl := e.symm.trans hr
  exact ⟨rfl, H132, (by omega)⟩
  refine Wp.cond0 rfl (decide_eq_false h131) (Wp.skip (Fin.then (Wp.seq (Wp.seq (Wp.region (Mv rfl rfl (Mv rfl rfl (Sk rfl rfl hb113 rfl (Sk rfl rfl hb113 rfl (Sk rfl rfl hb113 rfl (Sk rfl rfl hb113 rfl (Sk rfl rfl hb113 rfl (Sk rfl rfl hb113 rfl (Sk rfl rfl hb113 rfl (WL.val (v := .bool false) rfl (Yl.pickF rfl hb113 rfl) (WL.nil (Fin.then (Wp.cond0 rfl rfl (Wp.skip (Fin.then (Wp.seq (Wp.seq (Wp.region (Kn (v := .pointer (some ⟨g21, 0, none⟩)) rfl rfl rfl (fun _ => by kernel_rfl) (WL.val (v := .int .i64 p0.xKind) rfl (Yl.load rfl (Lds.one Try.isAgg3 (Cls.of (H128.cls (i := 0) rfl) rfl))) (Kn (v := .bool (decide (p0.xKind = 4))) rfl rfl rfl (fun _ => by kernel_rfl) (Mv rfl rfl (Sk rfl rfl (decide_eq_false h80) rfl (Sk rfl rfl (decide_eq_false h80) rfl (Sk rfl rfl (decide_eq_false h80) rfl (Sk rfl rfl (decide_eq_false h80) rfl (WL.skipU rfl rfl rfl (WL.skipU rfl rfl rfl (WL.skipU rfl rfl rfl (Sk rfl rfl (decide_eq_false h80) rfl (WL.val (v := .bool false) rfl (Yl.pickF rfl (decide_eq_false h80) rfl) (WL.nil (Fin.then (Wp.cond0 rfl rfl ?_)))))))))))))))))))))))))))))))))))))))
  refine Wp.skip (Fin.then (Wp.seq (Wp.region (As rfl rfl (WL.nil (Fin.then (Wp.ret (Fin.res (res1 rfl rfl) ?_))))))))
  have H133 := H128.pick [] (by decide) rfl
  have e : r04_CheckOp p0 = 0 := Eq.trans (if_neg h24) (Eq.trans (if_neg h53) (Eq.trans (if_neg h80) (Eq.trans (if_pos h108) (Eq.trans (if_neg h109) (Eq.trans (if_neg h111) (Eq.trans (if_neg h115) (Eq.trans (if_pos h118) (Eq.trans (bnd_of hr125) (Eq.trans (if_pos h130) (if_neg h131))))))))))
  obtain rfl := e.symm.trans hr
  exact ⟨rfl, H133, (by omega)⟩
  refine Wp.cond1 rfl (decide_eq_true h130) (Wp.seq (Wp.region (As rfl rfl (WL.nil (Fin.then (Wp.ret (Fin.thenR (Fin.res (res1 rfl rfl) ?_))))))))
  have H134 := H128.pick [] (by decide) rfl
  have e : r04_CheckOp p0 = 20 := Eq.trans (if_neg h24) (Eq.trans (if_neg h53) (Eq.trans (if_neg h80) (Eq.trans (if_pos h108) (Eq.trans (if_neg h109) (Eq.trans (if_neg h111) (Eq.trans (if_neg h115) (Eq.trans (if_pos h118) (Eq.trans (bnd_of hr125) (if_neg h130)))))))))
  obtain rfl := e.symm.trans hr
  exact ⟨rfl, H134, (by omega)⟩
  refine Wp.cond1 rfl (decide_eq_true h118) (Wp.seq (Wp.region (As rfl rfl (WL.nil (Fin.then (Wp.ret (Fin.thenR (Fin.res (res1 rfl rfl) ?_))))))))
  have H135 := H23.pick [] (by decide) rfl
  have e : r04_CheckOp p0 = 40 := Eq.trans (if_neg h24) (Eq.trans (if_neg h53) (Eq.trans (if_neg h80) (Eq.trans (if_pos h108) (Eq.trans (if_neg h109) (Eq.trans (if_neg h111) (Eq.trans (if_neg h115) (if_neg h118)))))))
  obtain rfl := e.symm.trans hr
  exact ⟨rfl, H135, (by omega)⟩
  refine WL.valG (v := .bool (decide (p0.xKind = 5))) rfl rfl (decide_eq_true h108) rfl (Yl.move rfl) (WL.valG (v := .bool (decide (¬ (p0.xKind = 5)))) rfl rfl (decide_eq_true h108) rfl (Yl.bool (e := !(decide (p0.xKind = 5))) (Yl.kern rfl rfl (fun _ => by kernel_rfl)) decide_not.symm) (WL.val (v := .bool (decide (¬ (p0.xKind = 5)))) rfl (Yl.pickT rfl (decide_eq_true h108) rfl) (Mv rfl rfl ?_)))
  by_cases h136 : p0.xKind = 5
  refine WL.valG (v := .bool (decide (p0.xKind = 3))) rfl rfl (decide_eq_false (not_not_intro h136)) rfl (Yl.move rfl) (WL.valG (v := .bool (decide (p0.xKind = 3))) rfl rfl (decide_eq_false (not_not_intro h136)) rfl (Yl.move rfl) (Sk rfl rfl (decide_eq_false h108) rfl (Sk rfl rfl (decide_eq_false h108) rfl (Sk rfl rfl (decide_eq_false h108) rfl (Sk rfl rfl (decide_eq_false h108) rfl (WL.skipU rfl rfl rfl (WL.skipU rfl rfl rfl (WL.skipU rfl rfl rfl (Sk rfl rfl (decide_eq_false h108) rfl (WL.valG (v := .bool false) rfl rfl (decide_eq_false (not_not_intro h136)) rfl (Yl.pickF rfl (decide_eq_false h108) rfl) (WL.val (v := .bool false) rfl (Yl.pickF rfl (decide_eq_false (not_not_intro h136)) rfl) (Mv rfl rfl (WL.valG (v := .bool (decide (p0.xKind = 5))) rfl rfl rfl rfl (Yl.move rfl) (WL.valG (v := .bool (decide (p0.xKind = 5))) rfl rfl rfl rfl (Yl.move rfl) (WL.valG (v := .pointer (some ⟨g21, 1, none⟩)) rfl rfl (decide_eq_true h136) rfl (Yl.kern rfl rfl (fun _ => by kernel_rfl)) (WL.valG (v := .string ⟨List.toArray p0.xKey⟩) rfl rfl (decide_eq_true h136) rfl (Yl.load rfl (Lds.one Try.isAgg9 (Cls.of (H23.cls (i := 0) rfl) rfl))) (WL.valG (v := .bool (decide (p0.xKey ≠ ([])))) rfl rfl (decide_eq_true h136) rfl (Yl.strNe rfl rfl) (WL.valG (v := .bool (decide (p0.xKey ≠ ([])))) rfl rfl rfl rfl (Yl.pickT rfl (decide_eq_true h136) rfl) (WL.val (v := .bool (decide (p0.xKey ≠ ([])))) rfl (Yl.pickF rfl rfl rfl) (Mv rfl rfl ?_))))))))))))))))))))
  by_cases h137 : p0.xKey ≠ ([])
  refine Sk rfl rfl (decide_eq_true h137) rfl (Sk rfl rfl (decide_eq_true h137) rfl (Sk rfl rfl (decide_eq_true h137) rfl (Sk rfl rfl (decide_eq_true h137) rfl (WL.skipU rfl rfl rfl (WL.skipU rfl rfl rfl (WL.skipU rfl rfl rfl (Sk rfl rfl (decide_eq_true h137) rfl (WL.val (v := .bool true) rfl (Yl.pickT rfl (decide_eq_true h137) rfl) (Mv rfl rfl (Sk rfl rfl rfl rfl (Sk rfl rfl rfl rfl (Sk rfl rfl rfl rfl (Sk rfl rfl rfl rfl (WL.skipU rfl rfl rfl (WL.skipU rfl rfl rfl (WL.skipU rfl rfl rfl (Sk rfl rfl rfl rfl (WL.val (v := .bool true) rfl (Yl.pickT rfl rfl rfl) (WL.nil (Fin.then (Wp.cond1 rfl rfl (Wp.seq (Wp.region (As rfl rfl (WL.nil (Fin.then (Wp.ret (Fin.thenR (Fin.res (res1 rfl rfl) ?_)))))))))))))))))))))))))))))
  have H138 := H23.pick [] (by decide) rfl
  have e : r04_CheckOp p0 = 40 := Eq.trans (if_neg h24) (Eq.trans (if_neg h53) (Eq.trans (if_neg h80) (Eq.trans (if_neg h108) (Eq.trans (if_pos h136) (if_pos h137)))))
  obtain rfl := e.symm.trans hr
  exact ⟨rfl, H138, (by omega)⟩
  refine WL.valG (v := .pointer (some ⟨g21, 0, none⟩)) rfl rfl (decide_eq_false h137) rfl (Yl.kern rfl rfl (fun _ => by kernel_rfl)) (WL.valG (v := .int .i64 p0.xKind) rfl rfl (decide_eq_false h137) rfl (Yl.load rfl (Lds.one Try.isAgg3 (Cls.of (H23.cls (i := 0) rfl) rfl))) (WL.valG (v := .bool (decide (¬ (p0.xKind = 2)))) rfl rfl (decide_eq_false h137) rfl (Yl.bool (e := !(decide (p0.xKind = 2))) (Yl.kern rfl rfl (fun _ => by kernel_rfl)) decide_not.symm) (WL.valG (v := .bool (decide (¬ (p0.xKind = 2)))) rfl rfl (decide_eq_false h137) rfl (Yl.move rfl) ?_)))
  have hb139 : (decide (¬ (p0.xKind = 2))) = true := (decide_eq_true (by omega))
  refine WL.valG (v := .pointer (some ⟨g21, 2, none⟩)) rfl rfl hb139 rfl (Yl.kern rfl rfl (fun _ => by kernel_rfl)) (WL.valG (v := .string ⟨List.toArray p0.xValue⟩) rfl rfl hb139 rfl (Yl.load rfl (Lds.one Try.isAgg9 (Cls.of (H23.cls (i := 0) rfl) rfl))) (WL.valG (v := .bool (decide (p0.xValue ≠ ([])))) rfl rfl hb139 rfl (Yl.strNe rfl rfl) (WL.valG (v := .bool (decide (p0.xValue ≠ ([])))) rfl rfl (decide_eq_false h137) rfl (Yl.pickT rfl hb139 rfl) (WL.val (v := .bool (decide (p0.xValue ≠ ([])))) rfl (Yl.pickF rfl (decide_eq_false h137) rfl) (Mv rfl rfl ?_)))))
  by_cases h140 : p0.xValue ≠ ([])
  refine Sk rfl rfl (decide_eq_true h140) rfl (Sk rfl rfl (decide_eq_true h140) rfl (Sk rfl rfl (decide_eq_true h140) rfl (Sk rfl rfl (decide_eq_true h140) rfl (WL.skipU rfl rfl rfl (WL.skipU rfl rfl rfl (WL.skipU rfl rfl rfl (Sk rfl rfl (decide_eq_true h140) rfl (WL.val (v := .bool true) rfl (Yl.pickT rfl (decide_eq_true h140) rfl) (WL.nil (Fin.then (Wp.cond1 rfl rfl (Wp.seq (Wp.region (As rfl rfl (WL.nil (Fin.then (Wp.ret (Fin.thenR (Fin.res (res1 rfl rfl) ?_)))))))))))))))))))
  have H141 := H23.pick [] (by decide) rfl
  have e : r04_CheckOp p0 = 40 := Eq.trans (if_neg h24) (Eq.trans (if_neg h53) (Eq.trans (if_neg h80) (Eq.trans (if_neg h108) (Eq.trans (if_pos h136) (Eq.trans (if_neg h137) (if_pos h140))))))
  obtain rfl := e.symm.trans hr
  exact ⟨rfl, H141, (by omega)⟩
  refine WL.valG (v := .pointer (some ⟨g21, 0, none⟩)) rfl rfl (decide_eq_false h140) rfl (Yl.kern rfl rfl (fun _ => by kernel_rfl)) (WL.valG (v := .int .i64 p0.xKind) rfl rfl (decide_eq_false h140) rfl (Yl.load rfl (Lds.one Try.isAgg3 (Cls.of (H23.cls (i := 0) rfl) rfl))) (WL.valG (v := .bool (decide (¬ (p0.xKind = 4)))) rfl rfl (decide_eq_false h140) rfl (Yl.bool (e := !(decide (p0.xKind = 4))) (Yl.kern rfl rfl (fun _ => by kernel_rfl)) decide_not.symm) (WL.valG (v := .bool (decide (¬ (p0.xKind = 4)))) rfl rfl (decide_eq_false h140) rfl (Yl.move rfl) ?_)))
  have hb142 : (decide (¬ (p0.xKind = 4))) = true := (decide_eq_true (by omega))
  refine WL.valG (v := .pointer (some ⟨g21, 5, none⟩)) rfl rfl hb142 rfl (Yl.kern rfl rfl (fun _ => by kernel_rfl)) (WL.valG (v := .int .i64 p0.xMost) rfl rfl hb142 rfl (Yl.load rfl (Lds.one Try.isAgg3 (Cls.of (H23.cls (i := 0) rfl) rfl))) (WL.valG (v := .bool (decide (¬ (p0.xMost = 0)))) rfl rfl hb142 rfl (Yl.bool (e := !(decide (p0.xMost = 0))) (Yl.kern rfl rfl (fun _ => by kernel_rfl)) decide_not.symm) (WL.valG (v := .bool (decide (¬ (p0.xMost = 0)))) rfl rfl (decide_eq_false h140) rfl (Yl.pickT rfl hb142 rfl) (WL.val (v := .bool (decide (¬ (p0.xMost = 0)))) rfl (Yl.pickF rfl (decide_eq_false h140) rfl) (WL.nil (Fin.then ?_))))))
  by_cases h143 : p0.xMost = 0
  refine Wp.cond0 rfl (decide_eq_false (not_not_intro h143)) (Wp.skip (Fin.then (Wp.seq (Wp.seq (Wp.region (Mv rfl rfl (Mv rfl rfl (Sk rfl rfl (decide_eq_false h108) rfl (Sk rfl rfl (decide_eq_false h108) rfl (Sk rfl rfl (decide_eq_false h108) rfl (Sk rfl rfl (decide_eq_false h108) rfl (WL.val (v := .bool false) rfl (Yl.pickF rfl (decide_eq_false h108) rfl) (WL.nil (Fin.then (Wp.cond0 rfl rfl (Wp.skip (Fin.then (Wp.seq (Wp.seq (Wp.region (Kn (v := .pointer (some ⟨g21, 2, none⟩)) rfl rfl rfl (fun _ => by kernel_rfl) (WL.val (v := .string ⟨List.toArray p0.xValue⟩) rfl (Yl.load rfl (Lds.one Try.isAgg9 (Cls.of (H23.cls (i := 0) rfl) rfl))) (Kn (v := .int .i64 ((p0.xValue.length : Nat) : Int)) rfl rfl rfl (fun _ => by kernel_rfl) (Kn (v := .bool (decide (((p0.xValue.length : Nat) : Int) > 16))) rfl rfl rfl (fun _ => by kernel_rfl) (WL.nil (Fin.then ?_))))))))))))))))))))))))))
  by_cases h144 : ((p0.xValue.length : Nat) : Int) > 16
  refine Wp.cond1 rfl (decide_eq_true h144) (Wp.seq (Wp.region (As rfl rfl (WL.nil (Fin.then (Wp.ret (Fin.thenR (Fin.res (res1 rfl rfl) ?_))))))))
  have H145 := H23.pick [] (by decide) rfl
  have e : r04_CheckOp p0 = 2 := Eq.trans (if_neg h24) (Eq.trans (if_neg h53) (Eq.trans (if_neg h80) (Eq.trans (if_neg h108) (Eq.trans (if_pos h136) (Eq.trans (if_neg h137) (Eq.trans (if_neg h140) (Eq.trans (if_pos h143) (if_pos h144))))))))
  obtain rfl := e.symm.trans hr
  exact ⟨rfl, H145, (by omega)⟩
  refine Wp.cond0 rfl (decide_eq_false h144) (Wp.skip (Fin.then (Wp.seq (Wp.seq (Wp.region (Mv rfl rfl (Mv rfl rfl (WL.valG (v := .pointer (some ⟨g21, 3, none⟩)) rfl rfl (decide_eq_true h136) rfl (Yl.kern rfl rfl (fun _ => by kernel_rfl)) (WL.valG (v := .string ⟨List.toArray p0.xLo⟩) rfl rfl (decide_eq_true h136) rfl (Yl.load rfl (Lds.one Try.isAgg9 (Cls.of (H23.cls (i := 0) rfl) rfl))) (WL.valG (v := .pointer (some ⟨g21, 4, none⟩)) rfl rfl (decide_eq_true h136) rfl (Yl.kern rfl rfl (fun _ => by kernel_rfl)) (WL.valG (v := .string ⟨List.toArray p0.xHi⟩) rfl rfl (decide_eq_true h136) rfl (Yl.load rfl (Lds.one Try.isAgg9 (Cls.of (H23.cls (i := 0) rfl) rfl))) (WL.valG (v := .agg #[.string ⟨List.toArray p0.xLo⟩, .string ⟨List.toArray p0.xHi⟩]) rfl rfl (decide_eq_true h136) rfl (Yl.kern rfl rfl (fun _ => by kernel_rfl)) ?_))))))))))))
  obtain ⟨r151, hr152⟩ : ∃ q, r02_Check (RangeD.mk p0.xLo p0.xHi) = q := ⟨_, rfl⟩
  obtain ⟨D146, HP147, ro148, bk149, rr150⟩ := Own.enter0 H23
  refine WL.doG rfl rfl (decide_eq_true h136) rfl (Do.call Try.call25 rfl (r02_Check_ok _ _ (RangeD.mk p0.xLo p0.xHi) r151 HP147 hr152) ?_)
  rintro _ w153 ⟨rfl, HQ154⟩
  have H155 := bk149 _ _ HQ154
  refine WL.valG (v := .bool (decide (¬ (r151 = 0)))) rfl rfl (decide_eq_true h136) rfl (Yl.bool (e := !(decide (r151 = 0))) (Yl.kern rfl rfl (fun _ => by kernel_rfl)) decide_not.symm) (WL.val (v := .bool (decide (¬ (r151 = 0)))) rfl (Yl.pickT rfl (decide_eq_true h136) rfl) (WL.nil (Fin.then ?_)))
  by_cases h156 : r151 = 0
  refine Wp.cond0 rfl (decide_eq_false (not_not_intro h156)) (Wp.skip (Fin.then (Wp.seq (Wp.seq (Wp.region (Kn (v := .pointer (some ⟨g21, 0, none⟩)) rfl rfl rfl (fun _ => by kernel_rfl) (WL.val (v := .int .i64 p0.xKind) rfl (Yl.load rfl (Lds.one Try.isAgg3 (Cls.of (H155.cls (i := 0) rfl) rfl))) (Kn (v := .bool (decide (p0.xKind = 4))) rfl rfl rfl (fun _ => by kernel_rfl) (Mv rfl rfl (Sk rfl rfl (decide_eq_false h80) rfl (Sk rfl rfl (decide_eq_false h80) rfl (Sk rfl rfl (decide_eq_false h80) rfl (Sk rfl rfl (decide_eq_false h80) rfl (WL.skipU rfl rfl rfl (WL.skipU rfl rfl rfl (WL.skipU rfl rfl rfl (Sk rfl rfl (decide_eq_false h80) rfl (WL.val (v := .bool false) rfl (Yl.pickF rfl (decide_eq_false h80) rfl) (WL.nil (Fin.then (Wp.cond0 rfl rfl (Wp.skip (Fin.then (Wp.seq (Wp.region (As rfl rfl (WL.nil (Fin.then (Wp.ret (Fin.res (res1 rfl rfl) ?_))))))))))))))))))))))))))))))
  have H157 := H155.pick [] (by decide) rfl
  have e : r04_CheckOp p0 = 0 := Eq.trans (if_neg h24) (Eq.trans (if_neg h53) (Eq.trans (if_neg h80) (Eq.trans (if_neg h108) (Eq.trans (if_pos h136) (Eq.trans (if_neg h137) (Eq.trans (if_neg h140) (Eq.trans (if_pos h143) (Eq.trans (if_neg h144) (Eq.trans (bnd_of hr152) (if_pos h156))))))))))
  obtain rfl := e.symm.trans hr
  exact ⟨rfl, H157, (by omega)⟩
  refine Wp.cond1 rfl (decide_eq_true h156) (Wp.seq (Wp.region (As rfl rfl (WL.nil (Fin.then (Wp.ret (Fin.thenR (Fin.res (res1 rfl rfl) ?_))))))))
  have H158 := H155.pick [] (by decide) rfl
  have e : r04_CheckOp p0 = 21 := Eq.trans (if_neg h24) (Eq.trans (if_neg h53) (Eq.trans (if_neg h80) (Eq.trans (if_neg h108) (Eq.trans (if_pos h136) (Eq.trans (if_neg h137) (Eq.trans (if_neg h140) (Eq.trans (if_pos h143) (Eq.trans (if_neg h144) (Eq.trans (bnd_of hr152) (if_neg h156))))))))))
  obtain rfl := e.symm.trans hr
  exact ⟨rfl, H158, (by omega)⟩
  refine Wp.cond1 rfl (decide_eq_true h143) (Wp.seq (Wp.region (As rfl rfl (WL.nil (Fin.then (Wp.ret (Fin.thenR (Fin.res (res1 rfl rfl) ?_))))))))
  have H159 := H23.pick [] (by decide) rfl
  have e : r04_CheckOp p0 = 40 := Eq.trans (if_neg h24) (Eq.trans (if_neg h53) (Eq.trans (if_neg h80) (Eq.trans (if_neg h108) (Eq.trans (if_pos h136) (Eq.trans (if_neg h137) (Eq.trans (if_neg h140) (if_neg h143)))))))
  obtain rfl := e.symm.trans hr
  exact ⟨rfl, H159, (by omega)⟩
  refine Sk rfl rfl (decide_eq_true h136) rfl (Sk rfl rfl (decide_eq_true h136) rfl (WL.skipU rfl rfl rfl (WL.skipU rfl rfl rfl (WL.skipU rfl rfl rfl (WL.skipU rfl rfl rfl (WL.skipU rfl rfl rfl (WL.skipU rfl rfl rfl (WL.skipU rfl rfl rfl (WL.skipU rfl rfl rfl (Sk rfl rfl (decide_eq_true h136) rfl (WL.val (v := .bool true) rfl (Yl.pickT rfl (decide_eq_true h136) rfl) (Mv rfl rfl (Sk rfl rfl rfl rfl (Sk rfl rfl rfl rfl (WL.skipU rfl rfl rfl (WL.skipU rfl rfl rfl (WL.skipU rfl rfl rfl (Sk rfl rfl rfl rfl (WL.val (v := .bool true) rfl (Yl.pickT rfl rfl rfl) (Mv rfl rfl (Sk rfl rfl rfl rfl (Sk rfl rfl rfl rfl (Sk rfl rfl rfl rfl (Sk rfl rfl rfl rfl (WL.skipU rfl rfl rfl (WL.skipU rfl rfl rfl (WL.skipU rfl rfl rfl (Sk rfl rfl rfl rfl (WL.val (v := .bool true) rfl (Yl.pickT rfl rfl rfl) (Mv rfl rfl (Sk rfl rfl rfl rfl (Sk rfl rfl rfl rfl (Sk rfl rfl rfl rfl (Sk rfl rfl rfl rfl (WL.skipU rfl rfl rfl (WL.skipU rfl rfl rfl (WL.skipU rfl rfl rfl (Sk rfl rfl rfl rfl (WL.val (v := .bool true) rfl (Yl.pickT rfl rfl rfl) ?_)))))))))))))))))))))))))))))))))))))))
  refine WL.nil (Fin.then (Wp.cond1 rfl rfl (Wp.seq (Wp.region (As rfl rfl (WL.nil (Fin.then (Wp.ret (Fin.thenR (Fin.res (res1 rfl rfl) ?_))))))))))
  have H160 := H23.pick [] (by decide) rfl
  have e : r04_CheckOp p0 = 40 := Eq.trans (if_neg h24) (Eq.trans (if_neg h53) (Eq.trans (if_neg h80) (Eq.trans (if_neg h108) (if_neg h136))))
  obtain rfl := e.symm.trans hr
  exact ⟨rfl, H160, (by omega)⟩

def r04_All_L0 : List OpD → Unit ⊕ Int
  | [] => Sum.inl ()
  | x30 :: q22 => bnd (r04_CheckOp x30) fun yr43 => if yr43 = 0 then r04_All_L0 q22 else Sum.inr (yr43)

def r04_All (l0 : List OpD) : Int :=
  lp (r04_All_L0 l0) fun _ => 0

set_option maxRecDepth 100000 in
theorem r04_All_ok (w : World) (D : Nat → Prop) (A0 : Option Addr) (n0 c0 : Nat) (l0 : List OpD) (r0 : Int) (H : Own w D w []) (hx0 : Ro w D fun w' => Rds w' 6 A0 n0 (List.flatMap OpD.cells l0)) (hn0 : n0 = l0.length) (hl0 : l0.length ≤ 9223372036854775807) (hr : r04_All l0 = r0) :
    Calls Try.prog 22 #[.slice A0 n0 c0] w (Ret fun v w' => v = .int .i64 r0 ∧ Own w D w' []) := by
  subst hn0
  refine Calls.body (args := [.slice A0 l0.length c0]) Try.func22 rfl rfl rfl ?_
  show Wp _ _ _ [(0, .slice A0 l0.length c0)] _ _
  refine Wp.seq (Wp.region (As rfl rfl (WL.nil (Fin.then (Wp.seq (Wp.seq (Wp.region (Mv rfl rfl (Kn (v := .int .i64 ((l0.length : Nat) : Int)) rfl rfl rfl (fun _ => by kernel_rfl) (Mv rfl rfl (WL.nil (Fin.then (Wp.block ?_)))))))))))))
  have H23 : Own w D w [] := H.pick [] (by decide) rfl
  refine Wp.loop (ι := Nat) (fun i => [(2, .int .i64 0), (8, .int .i64 ((i : Nat) : Int)), (7, .int .i64 ((l0.length : Nat) : Int)), (6, .slice A0 l0.length c0)]) (fun (i : Nat) w' => Own w D w' [] ∧ (i ≤ l0.length ∧ r04_All_L0 l0 = r04_All_L0 (List.drop i l0))) (fun i => l0.length - i) 0 ⟨rfl, rfl, rfl, rfl, trivial⟩ ⟨H23, (show 0 ≤ l0.length ∧ r04_All_L0 l0 = r04_All_L0 (List.drop 0 l0) from ⟨by omega, rfl⟩)⟩ ?_
  rintro k21 w24 ⟨H25, hf26⟩
  show Wp _ _ _ [(2, .int .i64 0), (8, .int .i64 ((k21 : Nat) : Int)), (7, .int .i64 ((l0.length : Nat) : Int)), (6, .slice A0 l0.length c0)] _ _
  replace hf26 : k21 ≤ l0.length ∧ r04_All_L0 l0 = r04_All_L0 (List.drop k21 l0) := hf26
  obtain ⟨hi28, hq27⟩ := hf26
  refine Wp.seq (Wp.region (Kn (v := .bool (decide (((k21 : Nat) : Int) < ((l0.length : Nat) : Int)))) rfl rfl rfl (fun _ => by kernel_rfl) (WL.nil (Fin.then (Wp.seq ?_)))))
  by_cases h29 : ((k21 : Nat) : Int) < ((l0.length : Nat) : Int)
  obtain ⟨x30, hx31⟩ := rds_at (ls := l0) (i := k21) OpD.len (by decide) (H25.ro hx0) (by first | omega | (simp; done) | (simp; omega))
  have hd32 := drop_at hx31
  refine Wp.cond1 rfl (decide_eq_true h29) (Wp.skip (Fin.then (Wp.seq (Wp.block (Wp.seq (Wp.region (WL.val (v := .pointer (some ⟨ab A0, ao A0 + k21 * 6, none⟩)) rfl (Yl.indexAddr (El36) rfl rfl ((H25.ro hx0).addr (i := k21) (by omega)) (by omega)) (WL.val (v := .agg (OpD.cells x30).toArray) rfl (Yl.load rfl (Lds.agg (cs := (OpD.cells x30)) Try.isAgg53 Try.sizeOf53 ((H25.ro hx0).elem OpD.len hx31 (by decide)))) ?_))))))))
  refine WL.do rfl (Do.newP (cs := [.int .i64 0, .string ⟨List.toArray ([])⟩, .string ⟨List.toArray ([])⟩, .string ⟨List.toArray ([])⟩, .string ⟨List.toArray ([])⟩, .int .i64 0]) (t := 53) H25 rfl rfl (fun _ => by kernel_rfl) ?_)
  intro g33 w34 H35
  refine WL.do0 (Do.store (vs := (OpD.cells x30)) (o := 0) H35 rfl rfl Try.sizeOf53 rfl rfl rfl rfl ?_)
  intro w36 H37
  refine WL.nil (Fin.then (Wp.seq (Wp.region (WL.val (v := .agg (OpD.cells x30).toArray) rfl (Yl.load rfl (Lds.agg (cs := (OpD.cells x30)) Try.isAgg53 Try.sizeOf53 ((H37.cls (i := 0) rfl).lit (k := 0) (m := 6) rfl))) ?_))))
  obtain ⟨r43, hr44⟩ : ∃ q, r04_CheckOp x30 = q := ⟨_, rfl⟩
  obtain ⟨D38, HP39, ro40, bk41, rr42⟩ := Own.enter0 H37
  refine WL.do rfl (Do.call Try.call31 rfl (r04_CheckOp_ok _ _ x30 r43 HP39 hr44) ?_)
  rintro _ w45 ⟨rfl, HQ46, hk48⟩
  have H47 := bk41 _ _ HQ46
  replace hk48 : ¬ (r43 = 0) ∨ (1 ≤ x30.xKind ∧ x30.xKind ≤ 5) := hk48
  refine As rfl rfl (WL.nil (Fin.then (Wp.seq (Wp.region (Mv rfl rfl (WL.val (v := .bool (decide (¬ (r43 = 0)))) rfl (Yl.bool (e := !(decide (r43 = 0))) (Yl.kern rfl rfl (fun _ => by kernel_rfl)) decide_not.symm) (WL.nil (Fin.then ?_))))))))
  by_cases h49 : r43 = 0
  refine Wp.cond0 rfl (decide_eq_false (not_not_intro h49)) (Wp.skip (Fin.blockN (Fin.then (Wp.region (WL.val (v := .int .i64 ((k21 + 1 : Nat) : Int)) rfl (Yl.int (e := IntKind.i64.wrap (((k21 : Nat) : Int) + 1)) (Yl.kern rfl rfl (fun _ => by kernel_rfl)) (by rw [IntWalk.i64_in _ (by omega)]; omega)) (Mv rfl rfl (WL.nil ?_)))))))
  have H50 := H47.pick [] (by decide) rfl
  exact Fin.round (k21 + 1) ⟨rfl, rfl, rfl, rfl, trivial⟩ ⟨H50, (show (k21 + 1) ≤ l0.length ∧ r04_All_L0 l0 = r04_All_L0 (List.drop (k21 + 1) l0) from ⟨by omega, Eq.trans (hq27) (Eq.trans (congrArg (fun q => r04_All_L0 q) hd32) (Eq.trans (bnd_of hr44) (if_pos h49)))⟩)⟩ (by show l0.length - (k21 + 1) < l0.length - k21; omega)
  refine Wp.cond1 rfl (decide_eq_true h49) (Wp.seq (Wp.region (Mv rfl rfl (As rfl rfl (WL.nil (Fin.then (Wp.ret (Fin.blockR (Fin.thenR (Fin.thenR (Fin.blockR (Fin.thenR (Fin.res (res1 rfl rfl) ?_)))))))))))))
  have H51 := H47.pick [] (by decide) rfl
  have e : r04_All l0 = r43 := lp_r (Eq.trans (hq27) (Eq.trans (congrArg (fun q => r04_All_L0 q) hd32) (Eq.trans (bnd_of hr44) (if_neg h49))))
  obtain rfl := e.symm.trans hr
  exact ⟨rfl, H51⟩
  refine Wp.cond0 rfl (decide_eq_false h29) (Wp.exit (Fin.thenX ?_))
  have hL52 : r04_All_L0 l0 = Sum.inl () := Eq.trans (hq27) (Eq.trans (congrArg (fun q => r04_All_L0 q) (drop_end (ls := l0) (i := k21) (by omega))) rfl)
  refine Fin.thenX (Fin.blockX (Fin.then (Wp.seq (Wp.region (As rfl rfl (WL.nil (Fin.then (Wp.ret (Fin.res (res1 rfl rfl) ?_)))))))))
  have H53 := H25.pick [] (by decide) rfl
  have e : r04_All l0 = 0 := lp_l hL52
  obtain rfl := e.symm.trans hr
  exact ⟨rfl, H53⟩

theorem r04_each_kind {x : OpD} (h : r04_CheckOp x = 0) : 1 ≤ x.xKind ∧ x.xKind ≤ 5 := by
  unfold r04_CheckOp at h
  repeat' (split at h <;> first | omega | skip)
theorem r04_each_ok0 {l : List OpD} (h : r04_All l = 0) : ∀ x ∈ l, r04_CheckOp x = 0 := by
  have key : ∀ l : List OpD, lp (r04_All_L0 l) (fun _ => 0) = 0 → ∀ x ∈ l, r04_CheckOp x = 0 := by
    intro l
    induction l with
    | nil => intro _ x hx; cases hx
    | cons y q ih =>
      intro h x hx
      simp only [r04_All_L0, bnd] at h
      by_cases e : r04_CheckOp y = 0
      · rw [if_pos e] at h
        rcases List.mem_cons.1 hx with rfl | hx
        · exact e
        · exact ih h x hx
      · rw [if_neg e] at h
        exact absurd h e
  exact key l h
theorem r04_each {l : List OpD} (h : r04_All l = 0) {i : Nat} {x : OpD} (hx : l[i]? = some x) : 1 ≤ x.xKind ∧ x.xKind ≤ 5 :=
  r04_each_kind (r04_each_ok0 h x (List.mem_of_getElem? hx))

def r04_Span (p0 : OpD) : RangeD × Int :=
  bnd (r04_CheckOp p0) fun yr32 => if yr32 = 0 then if p0.xKey ≠ ([]) then bnd (r02_Point p0.xKey) fun yr45 => (yr45.1, yr45.2) else (RangeD.mk p0.xLo p0.xHi, 0) else (RangeD.mk ([]) ([]), yr32)

set_option maxRecDepth 100000 in
theorem r04_Span_ok (w : World) (D : Nat → Prop) (p0 : OpD) (r0 : RangeD) (r1 : Int) (H : Own w D w [])  (hr : r04_Span p0 = (r0, r1)) :
    Calls Try.prog 23 #[.agg (OpD.cells p0).toArray] w (Ret fun v w' => v = .tuple #[.agg (RangeD.cells r0).toArray, .int .i64 r1] ∧ Own w D w' []) := by
  refine Calls.body (args := [.agg (OpD.cells p0).toArray]) Try.func23 rfl rfl rfl ?_
  show Wp _ _ _ [(0, .agg (OpD.cells p0).toArray)] _ _
  refine Wp.seq (Wp.region ?_)
  refine WL.do rfl (Do.newP (cs := (OpD.cells p0)) (t := 53) H rfl rfl (fun _ => by kernel_rfl) ?_)
  intro g21 w22 H23
  refine WL.do rfl (Do.newP (cs := [.string ⟨List.toArray ([])⟩, .string ⟨List.toArray ([])⟩]) (t := 46) H23 rfl rfl (fun _ => by kernel_rfl) ?_)
  intro g24 w25 H26
  refine As rfl rfl (WL.nil (Fin.then (Wp.seq (Wp.seq (Wp.region (WL.val (v := .agg (OpD.cells p0).toArray) rfl (Yl.load rfl (Lds.agg (cs := (OpD.cells p0)) Try.isAgg53 Try.sizeOf53 ((H26.cls (i := 1) rfl).lit (k := 0) (m := 6) rfl))) ?_))))))
  obtain ⟨r32, hr33⟩ : ∃ q, r04_CheckOp p0 = q := ⟨_, rfl⟩
  obtain ⟨D27, HP28, ro29, bk30, rr31⟩ := Own.enter0 H26
  refine WL.do rfl (Do.call Try.call31 rfl (r04_CheckOp_ok _ _ p0 r32 HP28 hr33) ?_)
  rintro _ w34 ⟨rfl, HQ35, hk37⟩
  have H36 := bk30 _ _ HQ35
  replace hk37 : ¬ (r32 = 0) ∨ (1 ≤ p0.xKind ∧ p0.xKind ≤ 5) := hk37
  refine As rfl rfl (WL.nil (Fin.then (Wp.seq (Wp.region (Mv rfl rfl (WL.val (v := .bool (decide (¬ (r32 = 0)))) rfl (Yl.bool (e := !(decide (r32 = 0))) (Yl.kern rfl rfl (fun _ => by kernel_rfl)) decide_not.symm) (WL.nil (Fin.then ?_))))))))
  by_cases h38 : r32 = 0
  refine Wp.cond0 rfl (decide_eq_false (not_not_intro h38)) (Wp.skip (Fin.then (Wp.seq (Wp.seq (Wp.region (Kn (v := .pointer (some ⟨g21, 1, none⟩)) rfl rfl rfl (fun _ => by kernel_rfl) (WL.val (v := .string ⟨List.toArray p0.xKey⟩) rfl (Yl.load rfl (Lds.one Try.isAgg9 (Cls.of (H36.cls (i := 1) rfl) rfl))) (WL.val (v := .bool (decide (p0.xKey ≠ ([])))) rfl (Yl.strNe rfl rfl) (WL.nil (Fin.then ?_))))))))))
  by_cases h39 : p0.xKey ≠ ([])
  refine Wp.cond1 rfl (decide_eq_true h39) (Wp.seq (Wp.region (Kn (v := .pointer (some ⟨g21, 1, none⟩)) rfl rfl rfl (fun _ => by kernel_rfl) (WL.val (v := .string ⟨List.toArray p0.xKey⟩) rfl (Yl.load rfl (Lds.one Try.isAgg9 (Cls.of (H36.cls (i := 1) rfl) rfl))) ?_))))
  obtain ⟨⟨r45, r46⟩, hr47⟩ : ∃ q : RangeD × Int, r02_Point p0.xKey = q := ⟨_, rfl⟩
  obtain ⟨D40, HP41, ro42, bk43, rr44⟩ := Own.enter0 H36
  refine WL.do rfl (Do.call Try.call32 rfl (r02_Point_ok _ _ p0.xKey r45 r46 HP41 hr47) ?_)
  rintro _ w48 ⟨rfl, HQ49⟩
  have H50 := bk43 _ _ HQ49
  refine Kn (v := .agg (RangeD.cells r45).toArray) rfl rfl rfl (fun _ => by kernel_rfl) (Kn (v := .int .i64 r46) rfl rfl rfl (fun _ => by kernel_rfl) ?_)
  refine WL.do0 (Do.store (vs := (RangeD.cells r45)) (o := 0) H50 rfl rfl Try.sizeOf46 rfl rfl rfl rfl ?_)
  intro w51 H52
  refine As rfl rfl (WL.nil (Fin.then (Wp.ret (Fin.thenR (Fin.res (resN (vs := [.agg (RangeD.cells r45).toArray, .int .i64 r46]) rfl (ResV.cell rfl (Lds.agg (cs := (RangeD.cells r45)) Try.isAgg46 Try.sizeOf46 ((H52.cls (i := 0) rfl).lit (k := 0) (m := 2) rfl)) (ResV.tmp rfl ResV.nil)) (Nat.le_of_ble_eq_true rfl)) ?_)))))
  have H53 := H52.pick [] (by decide) rfl
  have e : r04_Span p0 = (r45, r46) := Eq.trans (bnd_of hr33) (Eq.trans (if_pos h38) (Eq.trans (if_pos h39) (bnd_of hr47)))
  obtain ⟨rfl, rfl⟩ := pj2 (e.symm.trans hr)
  exact ⟨rfl, H53⟩
  refine Wp.cond0 rfl (decide_eq_false h39) (Wp.skip (Fin.then (Wp.seq (Wp.region (Kn (v := .pointer (some ⟨g21, 3, none⟩)) rfl rfl rfl (fun _ => by kernel_rfl) (WL.val (v := .string ⟨List.toArray p0.xLo⟩) rfl (Yl.load rfl (Lds.one Try.isAgg9 (Cls.of (H36.cls (i := 1) rfl) rfl))) (Kn (v := .pointer (some ⟨g21, 4, none⟩)) rfl rfl rfl (fun _ => by kernel_rfl) (WL.val (v := .string ⟨List.toArray p0.xHi⟩) rfl (Yl.load rfl (Lds.one Try.isAgg9 (Cls.of (H36.cls (i := 1) rfl) rfl))) (Kn (v := .agg #[.string ⟨List.toArray p0.xLo⟩, .string ⟨List.toArray p0.xHi⟩]) rfl rfl rfl (fun _ => by kernel_rfl) ?_)))))))))
  refine WL.do0 (Do.store (vs := [.string ⟨List.toArray p0.xLo⟩, .string ⟨List.toArray p0.xHi⟩]) (o := 0) H36 rfl rfl Try.sizeOf46 rfl rfl rfl rfl ?_)
  intro w54 H55
  refine As rfl rfl (WL.nil (Fin.then (Wp.ret (Fin.res (resN (vs := [.agg #[.string ⟨List.toArray p0.xLo⟩, .string ⟨List.toArray p0.xHi⟩], .int .i64 0]) rfl (ResV.cell rfl (Lds.agg (cs := [.string ⟨List.toArray p0.xLo⟩, .string ⟨List.toArray p0.xHi⟩]) Try.isAgg46 Try.sizeOf46 ((H55.cls (i := 0) rfl).lit (k := 0) (m := 2) rfl)) (ResV.tmp rfl ResV.nil)) (Nat.le_of_ble_eq_true rfl)) ?_))))
  have H56 := H55.pick [] (by decide) rfl
  have e : r04_Span p0 = (RangeD.mk p0.xLo p0.xHi, 0) := Eq.trans (bnd_of hr33) (Eq.trans (if_pos h38) (if_neg h39))
  obtain ⟨rfl, rfl⟩ := pj2 (e.symm.trans hr)
  exact ⟨rfl, H56⟩
  refine Wp.cond1 rfl (decide_eq_true h38) (Wp.seq (Wp.region (Kn (v := .agg #[.string ⟨List.toArray ([])⟩, .string ⟨List.toArray ([])⟩]) rfl rfl rfl (fun _ => by kernel_rfl) (Mv rfl rfl ?_))))
  refine WL.do0 (Do.store (vs := [.string ⟨List.toArray ([])⟩, .string ⟨List.toArray ([])⟩]) (o := 0) H36 rfl rfl Try.sizeOf46 rfl rfl rfl rfl ?_)
  intro w57 H58
  refine As rfl rfl (WL.nil (Fin.then (Wp.ret (Fin.thenR (Fin.res (resN (vs := [.agg #[.string ⟨List.toArray ([])⟩, .string ⟨List.toArray ([])⟩], .int .i64 r32]) rfl (ResV.cell rfl (Lds.agg (cs := [.string ⟨List.toArray ([])⟩, .string ⟨List.toArray ([])⟩]) Try.isAgg46 Try.sizeOf46 ((H58.cls (i := 0) rfl).lit (k := 0) (m := 2) rfl)) (ResV.tmp rfl ResV.nil)) (Nat.le_of_ble_eq_true rfl)) ?_)))))
  have H59 := H58.pick [] (by decide) rfl
  have e : r04_Span p0 = (RangeD.mk ([]) ([]), r32) := Eq.trans (bnd_of hr33) (if_neg h38)
  obtain ⟨rfl, rfl⟩ := pj2 (e.symm.trans hr)
  exact ⟨rfl, H59⟩

theorem El42 : Elem Try.prog 42 48 3 40 := elem_of (z := .agg #[.string ⟨List.toArray ([])⟩, .string ⟨List.toArray ([])⟩, .bool false]) Try.underlying42 (by kernel_rfl) rfl (by decide)

structure LockD where
  xRange : RangeD
  xWrite : Bool

def LockD.cells (x : LockD) : List Value := [.string ⟨List.toArray x.xRange.xLo⟩, .string ⟨List.toArray x.xRange.xHi⟩, .bool x.xWrite]

instance : Bk LockD := ⟨fun x _ => bk x.xRange + (bk x.xWrite + (0))⟩

theorem LockD.len : ∀ x, (LockD.cells x).length = 3 := fun _ => rfl

theorem LockD.one : ∀ x, ∀ u ∈ LockD.cells x, u.oneCell' = true := fun x u hu => by
  simp only [LockD.cells, List.mem_cons, List.not_mem_nil, or_false] at hu
  rcases hu with rfl | rfl | rfl <;> rfl

def LockD.Ok (w : World) (x : LockD) : Prop := (RangeD.Ok w x.xRange) ∧ (True)

set_option maxRecDepth 100000 in
theorem opens_LockD (w : World) : Opens Try.prog w 48 3 LockD.cells (LockD.Ok w) :=
  (opens_struct (sz := 3) Try.underlying48 (by kernel_rfl) (OpensF.cons (i := 0) (off := 0) (s := 2) rfl rfl (opens_RangeD w) (OpensF.cons (i := 1) (off := 2) (s := 1) rfl rfl (opens_bool Try.underlying4 (by kernel_rfl)) OpensF.nil))).map (fun p => ⟨p.1, p.2.1⟩) LockD.len (fun _ => rfl) (fun _ h => ⟨h.1, h.2.1⟩) fun _ => Nat.le_refl _

instance : Inhabited LockD := ⟨⟨default, default⟩⟩

def r04_Writes (p0 : OpD) : Bool :=
  if p0.xKind = 2 then true else if p0.xKind = 3 then true else decide (p0.xKind = 5)

set_option maxRecDepth 100000 in
theorem r04_Writes_ok (w : World) (D : Nat → Prop) (p0 : OpD) (r0 : Bool) (H : Own w D w [])  (hr : r04_Writes p0 = r0) :
    Calls Try.prog 24 #[.agg (OpD.cells p0).toArray] w (Ret fun v w' => v = .bool r0 ∧ Own w D w' []) := by
  refine Calls.body (args := [.agg (OpD.cells p0).toArray]) Try.func24 rfl rfl rfl ?_
  show Wp _ _ _ [(0, .agg (OpD.cells p0).toArray)] _ _
  refine Wp.seq (Wp.region ?_)
  refine WL.do rfl (Do.newP (cs := (OpD.cells p0)) (t := 53) H rfl rfl (fun _ => by kernel_rfl) ?_)
  intro g21 w22 H23
  refine As rfl rfl (WL.nil (Fin.then (Wp.seq (Wp.region (Kn (v := .pointer (some ⟨g21, 0, none⟩)) rfl rfl rfl (fun _ => by kernel_rfl) (WL.val (v := .int .i64 p0.xKind) rfl (Yl.load rfl (Lds.one Try.isAgg3 (Cls.of (H23.cls (i := 0) rfl) rfl))) (Kn (v := .bool (decide (p0.xKind = 2))) rfl rfl rfl (fun _ => by kernel_rfl) (Mv rfl rfl ?_))))))))
  by_cases h24 : p0.xKind = 2
  refine Sk rfl rfl (decide_eq_true h24) rfl (Sk rfl rfl (decide_eq_true h24) rfl (Sk rfl rfl (decide_eq_true h24) rfl (WL.val (v := .bool true) rfl (Yl.pickT rfl (decide_eq_true h24) rfl) (Mv rfl rfl (Sk rfl rfl rfl rfl (Sk rfl rfl rfl rfl (Sk rfl rfl rfl rfl (WL.val (v := .bool true) rfl (Yl.pickT rfl rfl rfl) (As rfl rfl (WL.nil (Fin.then (Wp.ret (Fin.res (res1 rfl rfl) ?_)))))))))))))
  have H25 := H23.pick [] (by decide) rfl
  have e : r04_Writes p0 = true := if_pos h24
  obtain rfl := e.symm.trans hr
  exact ⟨rfl, H25⟩
  refine WL.valG (v := .pointer (some ⟨g21, 0, none⟩)) rfl rfl (decide_eq_false h24) rfl (Yl.kern rfl rfl (fun _ => by kernel_rfl)) (WL.valG (v := .int .i64 p0.xKind) rfl rfl (decide_eq_false h24) rfl (Yl.load rfl (Lds.one Try.isAgg3 (Cls.of (H23.cls (i := 0) rfl) rfl))) (WL.valG (v := .bool (decide (p0.xKind = 3))) rfl rfl (decide_eq_false h24) rfl (Yl.kern rfl rfl (fun _ => by kernel_rfl)) (WL.val (v := .bool (decide (p0.xKind = 3))) rfl (Yl.pickF rfl (decide_eq_false h24) rfl) (Mv rfl rfl ?_))))
  by_cases h26 : p0.xKind = 3
  refine Sk rfl rfl (decide_eq_true h26) rfl (Sk rfl rfl (decide_eq_true h26) rfl (Sk rfl rfl (decide_eq_true h26) rfl (WL.val (v := .bool true) rfl (Yl.pickT rfl (decide_eq_true h26) rfl) (As rfl rfl (WL.nil (Fin.then (Wp.ret (Fin.res (res1 rfl rfl) ?_))))))))
  have H27 := H23.pick [] (by decide) rfl
  have e : r04_Writes p0 = true := Eq.trans (if_neg h24) (if_pos h26)
  obtain rfl := e.symm.trans hr
  exact ⟨rfl, H27⟩
  refine WL.valG (v := .pointer (some ⟨g21, 0, none⟩)) rfl rfl (decide_eq_false h26) rfl (Yl.kern rfl rfl (fun _ => by kernel_rfl)) (WL.valG (v := .int .i64 p0.xKind) rfl rfl (decide_eq_false h26) rfl (Yl.load rfl (Lds.one Try.isAgg3 (Cls.of (H23.cls (i := 0) rfl) rfl))) (WL.valG (v := .bool (decide (p0.xKind = 5))) rfl rfl (decide_eq_false h26) rfl (Yl.kern rfl rfl (fun _ => by kernel_rfl)) (WL.val (v := .bool (decide (p0.xKind = 5))) rfl (Yl.pickF rfl (decide_eq_false h26) rfl) (As rfl rfl (WL.nil (Fin.then (Wp.ret (Fin.res (res1 rfl rfl) ?_))))))))
  have H28 := H23.pick [] (by decide) rfl
  have e : r04_Writes p0 = decide (p0.xKind = 5) := Eq.trans (if_neg h24) (if_neg h26)
  obtain rfl := e.symm.trans hr
  exact ⟨rfl, H28⟩

def r04_Locks_L0 : List OpD → List LockD → (List LockD)
  | [], l35 => l35
  | x47 :: q37, l35 => bnd (r04_Span x47) fun yr61 => bnd (r04_Writes x47) fun yr79 => r04_Locks_L0 q37 (l35 ++ [(LockD.mk yr61.1 yr79)])

def r04_Locks (l0 : List OpD) : (List LockD) × Int :=
  bnd (r04_All l0) fun yr26 => if yr26 = 0 then bnd (r04_Locks_L0 l0 ([])) fun sLrbtL => (sLrbtL, 0) else ([], yr26)

set_option maxRecDepth 100000 in
theorem r04_Locks_ok (w : World) (D : Nat → Prop) (A0 : Option Addr) (n0 c0 : Nat) (l0 : List OpD) (r0 : List LockD) (r1 : Int) (H : Own w D w []) (hx0 : Ro w D fun w' => Rds w' 6 A0 n0 (List.flatMap OpD.cells l0)) (hn0 : n0 = l0.length) (hl0 : l0.length * 80 ≤ 211106232532992) (hr : r04_Locks l0 = (r0, r1)) :
    Calls Try.prog 15 #[.slice A0 n0 c0] w (Ret fun v w' => ∃ (B0 : Option Addr) (b0 : Nat), v = .tuple #[.slice B0 r0.length b0, .int .i64 r1] ∧ Own w D w' [row B0 r0.length b0 (List.flatMap LockD.cells r0) 48 3]) := by
  subst hn0
  refine Calls.body (args := [.slice A0 l0.length c0]) Try.func15 rfl rfl rfl ?_
  show Wp _ _ _ [(0, .slice A0 l0.length c0)] _ _
  refine Wp.seq (Wp.region (As rfl rfl (As rfl rfl (WL.nil (Fin.then (Wp.seq (Wp.seq (Wp.region (Mv rfl rfl ?_)))))))))
  obtain ⟨r26, hr27⟩ : ∃ q, r04_All l0 = q := ⟨_, rfl⟩
  obtain ⟨D21, HP22, ro23, bk24, rr25⟩ := Own.enter0 H
  refine WL.do rfl (Do.call Try.call22 rfl (r04_All_ok _ _ A0 l0.length c0 l0 r26 HP22 (ro23 _ hx0) rfl (by omega) hr27) ?_)
  rintro _ w28 ⟨rfl, HQ29⟩
  have H30 := bk24 _ _ HQ29
  refine As rfl rfl (WL.nil (Fin.then (Wp.seq (Wp.region (Mv rfl rfl (WL.val (v := .bool (decide (¬ (r26 = 0)))) rfl (Yl.bool (e := !(decide (r26 = 0))) (Yl.kern rfl rfl (fun _ => by kernel_rfl)) decide_not.symm) (WL.nil (Fin.then ?_))))))))
  by_cases h31 : r26 = 0
  refine Wp.cond0 rfl (decide_eq_false (not_not_intro h31)) (Wp.skip (Fin.then (Wp.seq (Wp.region (As rfl rfl (WL.nil (Fin.then (Wp.seq (Wp.seq (Wp.region (Mv rfl rfl (Kn (v := .int .i64 ((l0.length : Nat) : Int)) rfl rfl rfl (fun _ => by kernel_rfl) (Mv rfl rfl (WL.nil (Fin.then (Wp.block ?_))))))))))))))))
  have H32 : Own w D w28 [row none 0 0 (List.flatMap LockD.cells ([])) 48 3] := H30.free (row_nil 48 3)
  have H38 := H32.pick [0] (by decide) rfl
  refine Wp.loop (ι := (Option Addr) × Nat × (List LockD) × Nat) (fun i => [(5, .slice i.1 i.2.2.1.length i.2.1), (17, .int .i64 ((i.2.2.2 : Nat) : Int)), (16, .int .i64 ((l0.length : Nat) : Int)), (15, .slice A0 l0.length c0), (3, .int .i64 0), (2, .slice none 0 0)]) (fun (i : (Option Addr) × Nat × (List LockD) × Nat) w' => Own w D w' [row i.1 i.2.2.1.length i.2.1 (List.flatMap LockD.cells i.2.2.1) 48 3] ∧ (i.2.2.2 ≤ l0.length ∧ i.2.2.1.length = i.2.2.2 ∧ i.2.2.1.length ≤ i.2.2.2 ∧ r04_Locks_L0 l0 ([]) = r04_Locks_L0 (List.drop i.2.2.2 l0) i.2.2.1)) (fun i => l0.length - i.2.2.2) (none, 0, [], 0) ⟨rfl, rfl, rfl, rfl, rfl, rfl, trivial⟩ ⟨H38, (show 0 ≤ l0.length ∧ 0 = 0 ∧ 0 ≤ 0 ∧ r04_Locks_L0 l0 ([]) = r04_Locks_L0 (List.drop 0 l0) ([]) from ⟨by omega, by omega, by omega, rfl⟩)⟩ ?_
  rintro ⟨A33, c34, l35, k36⟩ w39 ⟨H40, hf41⟩
  show Wp _ _ _ [(5, .slice A33 l35.length c34), (17, .int .i64 ((k36 : Nat) : Int)), (16, .int .i64 ((l0.length : Nat) : Int)), (15, .slice A0 l0.length c0), (3, .int .i64 0), (2, .slice none 0 0)] _ _
  replace H40 : Own w D w39 [row A33 l35.length c34 (List.flatMap LockD.cells l35) 48 3] := H40
  replace hf41 : k36 ≤ l0.length ∧ l35.length = k36 ∧ l35.length ≤ k36 ∧ r04_Locks_L0 l0 ([]) = r04_Locks_L0 (List.drop k36 l0) l35 := hf41
  obtain ⟨hi43, hi44, hi45, hq42⟩ := hf41
  refine Wp.seq (Wp.region (Kn (v := .bool (decide (((k36 : Nat) : Int) < ((l0.length : Nat) : Int)))) rfl rfl rfl (fun _ => by kernel_rfl) (WL.nil (Fin.then (Wp.seq ?_)))))
  by_cases h46 : ((k36 : Nat) : Int) < ((l0.length : Nat) : Int)
  obtain ⟨x47, hx48⟩ := rds_at (ls := l0) (i := k36) OpD.len (by decide) (H40.ro hx0) (by first | omega | (simp; done) | (simp; omega))
  have hz49 := r04_each (l := l0) (by rw [hr27]; omega) hx48
  have hd50 := drop_at hx48
  refine Wp.cond1 rfl (decide_eq_true h46) (Wp.skip (Fin.then (Wp.seq (Wp.block (Wp.seq (Wp.region (WL.val (v := .pointer (some ⟨ab A0, ao A0 + k36 * 6, none⟩)) rfl (Yl.indexAddr (El36) rfl rfl ((H40.ro hx0).addr (i := k36) (by omega)) (by omega)) (WL.val (v := .agg (OpD.cells x47).toArray) rfl (Yl.load rfl (Lds.agg (cs := (OpD.cells x47)) Try.isAgg53 Try.sizeOf53 ((H40.ro hx0).elem OpD.len hx48 (by decide)))) ?_))))))))
  refine WL.do rfl (Do.newP (cs := [.int .i64 0, .string ⟨List.toArray ([])⟩, .string ⟨List.toArray ([])⟩, .string ⟨List.toArray ([])⟩, .string ⟨List.toArray ([])⟩, .int .i64 0]) (t := 53) H40 rfl rfl (fun _ => by kernel_rfl) ?_)
  intro g51 w52 H53
  refine WL.do0 (Do.store (vs := (OpD.cells x47)) (o := 0) H53 rfl rfl Try.sizeOf53 rfl rfl rfl rfl ?_)
  intro w54 H55
  refine WL.nil (Fin.then (Wp.seq (Wp.region (WL.val (v := .agg (OpD.cells x47).toArray) rfl (Yl.load rfl (Lds.agg (cs := (OpD.cells x47)) Try.isAgg53 Try.sizeOf53 ((H55.cls (i := 0) rfl).lit (k := 0) (m := 6) rfl))) ?_))))
  obtain ⟨⟨r61, r62⟩, hr63⟩ : ∃ q : RangeD × Int, r04_Span x47 = q := ⟨_, rfl⟩
  obtain ⟨D56, HP57, ro58, bk59, rr60⟩ := Own.enter0 H55
  refine WL.do rfl (Do.call Try.call23 rfl (r04_Span_ok _ _ x47 r61 r62 HP57 hr63) ?_)
  rintro _ w64 ⟨rfl, HQ65⟩
  have H66 := bk59 _ _ HQ65
  refine Mv rfl rfl (Kn (v := .agg (RangeD.cells r61).toArray) rfl rfl rfl (fun _ => by kernel_rfl) (Kn (v := .int .i64 r62) rfl rfl rfl (fun _ => by kernel_rfl) ?_))
  refine WL.do rfl (Do.newP (cs := [.string ⟨List.toArray ([])⟩, .string ⟨List.toArray ([])⟩]) (t := 46) H66 rfl rfl (fun _ => by kernel_rfl) ?_)
  intro g67 w68 H69
  refine WL.do0 (Do.store (vs := (RangeD.cells r61)) (o := 0) H69 rfl rfl Try.sizeOf46 rfl rfl rfl rfl ?_)
  intro w70 H71
  refine As rfl rfl (WL.nil (Fin.then ?_))
  have H73 := H71.drew
  refine Wp.drawnX [] (fun W => ∃ L', Own w D W ([blk g67 (RangeD.cells r61) 46, blk g51 (OpD.cells x47) 53] ++ L')) (by kernel_rfl) (by kernel_rfl) (NoP.block (NoP.then (NoP.then (NoP.block (NoP.then NoP.base))))) ⟨_, H73⟩ ?_
  revert H73
  generalize World.drew w70 = w72
  intro H73
  refine GX.take (v := .slice A33 l35.length c34) (rs := []) 0 rfl (by kernel_rfl) (fun _ _ => Yl.move rfl) (GX.take (v := .agg (RangeD.cells r61).toArray) (rs := []) 1 rfl (by kernel_rfl) (fun _ ⟨_, H9⟩ => Yl.load rfl (Lds.agg (cs := (RangeD.cells r61)) Try.isAgg46 Try.sizeOf46 ((H9.cls (i := 0) rfl).lit (k := 0) (m := 2) rfl))) (GX.take (v := .agg (OpD.cells x47).toArray) (rs := []) 2 rfl (by kernel_rfl) (fun _ ⟨_, H9⟩ => Yl.load rfl (Lds.agg (cs := (OpD.cells x47)) Try.isAgg53 Try.sizeOf53 ((H9.cls (i := 1) rfl).lit (k := 0) (m := 6) rfl))) ?_))
  obtain ⟨r79, hr80⟩ : ∃ q, r04_Writes x47 = q := ⟨_, rfl⟩
  obtain ⟨D74, HP75, ro76, bk77, rr78⟩ := Own.enter0 H73
  refine GX.do 3 rfl (by kernel_rfl) (Do.call Try.call24 rfl (r04_Writes_ok _ _ x47 r79 HP75 hr80) ?_)
  rintro _ w81 ⟨rfl, HQ82⟩
  have H83 := bk77 _ _ HQ82
  refine ⟨.inr ⟨_, H83⟩, ?_⟩
  refine GX.take (v := .agg #[.string ⟨List.toArray r61.xLo⟩, .string ⟨List.toArray r61.xHi⟩, .bool r79]) (rs := []) 4 rfl (by kernel_rfl) (fun _ _ => Yl.kern rfl rfl (fun _ => by kernel_rfl)) ?_
  refine GX.do 5 rfl (by kernel_rfl) (Do.newRow (cs := [.string ⟨List.toArray r61.xLo⟩, .string ⟨List.toArray r61.xHi⟩, .bool r79]) (t := 48) (sz := 3) (m := 1) H83 rfl rfl (fun _ => by kernel_rfl) rfl (by decide) ?_)
  intro A84 w85 H86
  replace H86 : Own w D w85 [row A84 1 1 (List.flatMap LockD.cells ([(LockD.mk r61 r79)])) 48 3, blk g67 (RangeD.cells r61) 46, blk g51 (OpD.cells x47) 53, row A33 l35.length c34 (List.flatMap LockD.cells l35) 48 3] := H86
  have H87 := H86.pick [1, 2, 0, 3] (by decide) rfl
  refine ⟨.inr ⟨_, H87⟩, ?_⟩
  have H88 := H87.pick [3, 0, 1, 2] (by decide) rfl
  refine GX.do 6 rfl (by kernel_rfl) (Do.appendW (k := l35.length) (m := 1) (El42) H88 rfl rfl (src_of Try.underlying42 (H88.rds (i := 3) rfl) (flat_one LockD.one ([(LockD.mk r61 r79)]))) rfl (by omega) (s := List.length (l35 ++ [(LockD.mk r61 r79)])) (by first | omega | (simp only [List.length_append, List.length_cons, List.length_nil] <;> omega)) (List.flatMap_append).symm ?_)
  intro A89 c90 w91 H92
  have hl93 : List.length (l35 ++ [(LockD.mk r61 r79)]) = l35.length + 1 := by simp only [List.length_append, List.length_cons, List.length_nil]
  have H94 := H92.pick [1, 2, 0, 3] (by decide) rfl
  refine ⟨.inr ⟨_, H94⟩, ?_⟩
  refine GX.take (v := .slice A89 (List.length (l35 ++ [(LockD.mk r61 r79)])) c90) (rs := []) 7 rfl (by kernel_rfl) (fun _ _ => Yl.assign rfl) (GX.done (by kernel_rfl) (Fin.blockN (Fin.then (Wp.region (WL.val (v := .int .i64 ((k36 + 1 : Nat) : Int)) rfl (Yl.int (e := IntKind.i64.wrap (((k36 : Nat) : Int) + 1)) (Yl.kern rfl rfl (fun _ => by kernel_rfl)) (by rw [IntWalk.i64_in _ (by omega)]; omega)) (Mv rfl rfl (WL.nil ?_)))))))
  have H95 := H94.pick [2] (by decide) rfl
  exact Fin.round (A89, c90, (l35 ++ [(LockD.mk r61 r79)]), k36 + 1) ⟨rfl, rfl, rfl, rfl, rfl, rfl, trivial⟩ ⟨H95, (show (k36 + 1) ≤ l0.length ∧ List.length (l35 ++ [(LockD.mk r61 r79)]) = (k36 + 1) ∧ List.length (l35 ++ [(LockD.mk r61 r79)]) ≤ (k36 + 1) ∧ r04_Locks_L0 l0 ([]) = r04_Locks_L0 (List.drop (k36 + 1) l0) (l35 ++ [(LockD.mk r61 r79)]) from ⟨by omega, by omega, by omega, Eq.trans (hq42) (Eq.trans (congrArg (fun q => r04_Locks_L0 q l35) hd50) (Eq.trans (bnd_of hr63) (bnd_of hr80)))⟩)⟩ (by show l0.length - (k36 + 1) < l0.length - k36; omega)
  refine Wp.cond0 rfl (decide_eq_false h46) (Wp.exit (Fin.thenX ?_))
  have hL96 : r04_Locks_L0 l0 ([]) = l35 := Eq.trans (hq42) (Eq.trans (congrArg (fun q => r04_Locks_L0 q l35) (drop_end (ls := l0) (i := k36) (by omega))) rfl)
  refine Fin.thenX (Fin.blockX (Fin.then (Wp.seq (Wp.region (Mv rfl rfl (As rfl rfl (As rfl rfl (WL.nil (Fin.then (Wp.ret (Fin.res (res2 rfl rfl rfl) ?_)))))))))))
  have H97 := H40.pick [0] (by decide) rfl
  have e : r04_Locks l0 = (l35, 0) := Eq.trans (bnd_of hr27) (Eq.trans (if_pos h31) (bnd_of hL96))
  obtain ⟨rfl, rfl⟩ := pj2 (e.symm.trans hr)
  exact ⟨A33, c34, rfl, H97⟩
  refine Wp.cond1 rfl (decide_eq_true h31) (Wp.seq (Wp.region (Mv rfl rfl (As rfl rfl (As rfl rfl (WL.nil (Fin.then (Wp.ret (Fin.thenR (Fin.res (res2 rfl rfl rfl) ?_))))))))))
  have H98 : Own w D w28 [row none 0 0 (List.flatMap LockD.cells ([])) 48 3] := H30.free (row_nil 48 3)
  have H99 := H98.pick [0] (by decide) rfl
  have e : r04_Locks l0 = ([], r26) := Eq.trans (bnd_of hr27) (if_neg h31)
  obtain ⟨rfl, rfl⟩ := pj2 (e.symm.trans hr)
  exact ⟨none, 0, rfl, H99⟩

def r04_Check (l0 : List OpD) : Int :=
  if ((l0.length : Nat) : Int) < 1 then 3 else if ((l0.length : Nat) : Int) > 4 then 3 else bnd (r04_All l0) fun yr30 => yr30

set_option maxRecDepth 100000 in
theorem r04_Check_ok (w : World) (D : Nat → Prop) (A0 : Option Addr) (n0 c0 : Nat) (l0 : List OpD) (r0 : Int) (H : Own w D w []) (hx0 : Ro w D fun w' => Rds w' 6 A0 n0 (List.flatMap OpD.cells l0)) (hn0 : n0 = l0.length) (hl0 : l0.length ≤ 9223372036854775807) (hr : r04_Check l0 = r0) :
    Calls Try.prog 14 #[.slice A0 n0 c0] w (Ret fun v w' => v = .int .i64 r0 ∧ Own w D w' [] ∧ (¬ (r0 = 0) ∨ l0.length ≤ 24)) := by
  subst hn0
  refine Calls.body (args := [.slice A0 l0.length c0]) Try.func14 rfl rfl rfl ?_
  show Wp _ _ _ [(0, .slice A0 l0.length c0)] _ _
  refine Wp.seq (Wp.region (As rfl rfl (WL.nil (Fin.then (Wp.seq (Wp.seq (Wp.region (Mv rfl rfl (Kn (v := .int .i64 ((l0.length : Nat) : Int)) rfl rfl rfl (fun _ => by kernel_rfl) (Kn (v := .bool (decide (((l0.length : Nat) : Int) < 1))) rfl rfl rfl (fun _ => by kernel_rfl) (Mv rfl rfl ?_)))))))))))
  by_cases h21 : ((l0.length : Nat) : Int) < 1
  refine Sk rfl rfl (decide_eq_true h21) rfl (Sk rfl rfl (decide_eq_true h21) rfl (Sk rfl rfl (decide_eq_true h21) rfl (WL.val (v := .bool true) rfl (Yl.pickT rfl (decide_eq_true h21) rfl) (WL.nil (Fin.then (Wp.cond1 rfl rfl (Wp.seq (Wp.region (As rfl rfl (WL.nil (Fin.then (Wp.ret (Fin.thenR (Fin.res (res1 rfl rfl) ?_))))))))))))))
  have H22 : Own w D w [] := H.pick [] (by decide) rfl
  have e : r04_Check l0 = 3 := if_pos h21
  obtain rfl := e.symm.trans hr
  exact ⟨rfl, H22, (by omega)⟩
  refine WL.valG (v := .slice A0 l0.length c0) rfl rfl (decide_eq_false h21) rfl (Yl.move rfl) (WL.valG (v := .int .i64 ((l0.length : Nat) : Int)) rfl rfl (decide_eq_false h21) rfl (Yl.kern rfl rfl (fun _ => by kernel_rfl)) (WL.valG (v := .bool (decide (((l0.length : Nat) : Int) > 4))) rfl rfl (decide_eq_false h21) rfl (Yl.kern rfl rfl (fun _ => by kernel_rfl)) (WL.val (v := .bool (decide (((l0.length : Nat) : Int) > 4))) rfl (Yl.pickF rfl (decide_eq_false h21) rfl) (WL.nil (Fin.then ?_)))))
  by_cases h23 : ((l0.length : Nat) : Int) > 4
  refine Wp.cond1 rfl (decide_eq_true h23) (Wp.seq (Wp.region (As rfl rfl (WL.nil (Fin.then (Wp.ret (Fin.thenR (Fin.res (res1 rfl rfl) ?_))))))))
  have H24 : Own w D w [] := H.pick [] (by decide) rfl
  have e : r04_Check l0 = 3 := Eq.trans (if_neg h21) (if_pos h23)
  obtain rfl := e.symm.trans hr
  exact ⟨rfl, H24, (by omega)⟩
  refine Wp.cond0 rfl (decide_eq_false h23) (Wp.skip (Fin.then (Wp.seq (Wp.region (Mv rfl rfl ?_)))))
  obtain ⟨r30, hr31⟩ : ∃ q, r04_All l0 = q := ⟨_, rfl⟩
  obtain ⟨D25, HP26, ro27, bk28, rr29⟩ := Own.enter0 H
  refine WL.do rfl (Do.call Try.call22 rfl (r04_All_ok _ _ A0 l0.length c0 l0 r30 HP26 (ro27 _ hx0) rfl (by omega) hr31) ?_)
  rintro _ w32 ⟨rfl, HQ33⟩
  have H34 := bk28 _ _ HQ33
  refine As rfl rfl (WL.nil (Fin.then (Wp.ret (Fin.res (res1 rfl rfl) ?_))))
  have H35 := H34.pick [] (by decide) rfl
  have e : r04_Check l0 = r30 := Eq.trans (if_neg h21) (Eq.trans (if_neg h23) (bnd_of hr31))
  obtain rfl := e.symm.trans hr
  exact ⟨rfl, H35, (by omega)⟩

def r04_CheckMap_L0 (l0 : List PairD) : List PairD → Nat → Unit ⊕ Int
  | [], k21 => Sum.inl ()
  | x30 :: q22, k21 => bnd (r02_CheckKey x30.xKey) fun yr43 => if yr43 = 0 then if ((x30.xValue.length : Nat) : Int) > 16 then Sum.inr (2) else if ((k21 : Nat) : Int) > 0 then bnd (List.getD l0 (k21 - 1) default) fun yx55 => if x30.xKey ≤ yx55.xKey then Sum.inr (1) else r04_CheckMap_L0 l0 q22 (k21 + 1) else r04_CheckMap_L0 l0 q22 (k21 + 1) else Sum.inr (20)

def r04_CheckMap (l0 : List PairD) : Int :=
  lp (r04_CheckMap_L0 l0 l0 0) fun _ => 0

set_option maxRecDepth 100000 in
theorem r04_CheckMap_ok (w : World) (D : Nat → Prop) (A0 : Option Addr) (n0 c0 : Nat) (l0 : List PairD) (r0 : Int) (H : Own w D w []) (hx0 : Ro w D fun w' => Rds w' 2 A0 n0 (List.flatMap PairD.cells l0)) (hn0 : n0 = l0.length) (hl0 : l0.length * 32 ≤ 211106232532992) (hr : r04_CheckMap l0 = r0) :
    Calls Try.prog 37 #[.slice A0 n0 c0] w (Ret fun v w' => v = .int .i64 r0 ∧ Own w D w' []) := by
  subst hn0
  refine Calls.body (args := [.slice A0 l0.length c0]) Try.func37 rfl rfl rfl ?_
  show Wp _ _ _ [(0, .slice A0 l0.length c0)] _ _
  refine Wp.seq (Wp.region (As rfl rfl (WL.nil (Fin.then (Wp.seq (Wp.seq (Wp.region (Mv rfl rfl (Kn (v := .int .i64 ((l0.length : Nat) : Int)) rfl rfl rfl (fun _ => by kernel_rfl) (Mv rfl rfl (WL.nil (Fin.then (Wp.block ?_)))))))))))))
  have H23 : Own w D w [] := H.pick [] (by decide) rfl
  refine Wp.loop (ι := Nat) (fun i => [(2, .int .i64 0), (7, .int .i64 ((i : Nat) : Int)), (6, .int .i64 ((l0.length : Nat) : Int)), (5, .slice A0 l0.length c0), (0, .slice A0 l0.length c0)]) (fun (i : Nat) w' => Own w D w' [] ∧ (i ≤ l0.length ∧ r04_CheckMap_L0 l0 l0 0 = r04_CheckMap_L0 l0 (List.drop i l0) i)) (fun i => l0.length - i) 0 ⟨rfl, rfl, rfl, rfl, rfl, trivial⟩ ⟨H23, (show 0 ≤ l0.length ∧ r04_CheckMap_L0 l0 l0 0 = r04_CheckMap_L0 l0 (List.drop 0 l0) 0 from ⟨by omega, rfl⟩)⟩ ?_
  rintro k21 w24 ⟨H25, hf26⟩
  show Wp _ _ _ [(2, .int .i64 0), (7, .int .i64 ((k21 : Nat) : Int)), (6, .int .i64 ((l0.length : Nat) : Int)), (5, .slice A0 l0.length c0), (0, .slice A0 l0.length c0)] _ _
  replace hf26 : k21 ≤ l0.length ∧ r04_CheckMap_L0 l0 l0 0 = r04_CheckMap_L0 l0 (List.drop k21 l0) k21 := hf26
  obtain ⟨hi28, hq27⟩ := hf26
  refine Wp.seq (Wp.region (Kn (v := .bool (decide (((k21 : Nat) : Int) < ((l0.length : Nat) : Int)))) rfl rfl rfl (fun _ => by kernel_rfl) (WL.nil (Fin.then (Wp.seq ?_)))))
  by_cases h29 : ((k21 : Nat) : Int) < ((l0.length : Nat) : Int)
  obtain ⟨x30, hx31⟩ := rds_at (ls := l0) (i := k21) PairD.len (by decide) (H25.ro hx0) (by first | omega | (simp; done) | (simp; omega))
  have hd32 := drop_at hx31
  refine Wp.cond1 rfl (decide_eq_true h29) (Wp.skip (Fin.then (Wp.seq (Wp.block (Wp.seq (Wp.region (Mv rfl rfl (WL.val (v := .pointer (some ⟨ab A0, ao A0 + k21 * 2, none⟩)) rfl (Yl.indexAddr (El27) rfl rfl ((H25.ro hx0).addr (i := k21) (by omega)) (by omega)) (WL.val (v := .agg (PairD.cells x30).toArray) rfl (Yl.load rfl (Lds.agg (cs := (PairD.cells x30)) Try.isAgg32 Try.sizeOf32 ((H25.ro hx0).elem PairD.len hx31 (by decide)))) ?_)))))))))
  refine WL.do rfl (Do.newP (cs := [.string ⟨List.toArray ([])⟩, .string ⟨List.toArray ([])⟩]) (t := 32) H25 rfl rfl (fun _ => by kernel_rfl) ?_)
  intro g33 w34 H35
  refine As rfl rfl ?_
  refine WL.do0 (Do.store (vs := (PairD.cells x30)) (o := 0) H35 rfl rfl Try.sizeOf32 rfl rfl rfl rfl ?_)
  intro w36 H37
  refine WL.nil (Fin.then (Wp.seq (Wp.seq (Wp.region (Kn (v := .pointer (some ⟨g33, 0, none⟩)) rfl rfl rfl (fun _ => by kernel_rfl) (WL.val (v := .string ⟨List.toArray x30.xKey⟩) rfl (Yl.load rfl (Lds.one Try.isAgg9 (Cls.of (H37.cls (i := 0) rfl) rfl))) ?_))))))
  obtain ⟨r43, hr44⟩ : ∃ q, r02_CheckKey x30.xKey = q := ⟨_, rfl⟩
  obtain ⟨D38, HP39, ro40, bk41, rr42⟩ := Own.enter0 H37
  refine WL.do rfl (Do.call Try.call39 rfl (r02_CheckKey_ok _ _ x30.xKey r43 HP39 hr44) ?_)
  rintro _ w45 ⟨rfl, HQ46, hk48⟩
  have H47 := bk41 _ _ HQ46
  replace hk48 : ¬ (r43 = 0) ∨ (1 ≤ x30.xKey.length ∧ x30.xKey.length ≤ 12) := hk48
  refine WL.val (v := .bool (decide (¬ (r43 = 0)))) rfl (Yl.bool (e := !(decide (r43 = 0))) (Yl.kern rfl rfl (fun _ => by kernel_rfl)) decide_not.symm) (WL.nil (Fin.then ?_))
  by_cases h49 : r43 = 0
  refine Wp.cond0 rfl (decide_eq_false (not_not_intro h49)) (Wp.skip (Fin.then (Wp.seq (Wp.seq (Wp.region (Kn (v := .pointer (some ⟨g33, 1, none⟩)) rfl rfl rfl (fun _ => by kernel_rfl) (WL.val (v := .string ⟨List.toArray x30.xValue⟩) rfl (Yl.load rfl (Lds.one Try.isAgg9 (Cls.of (H47.cls (i := 0) rfl) rfl))) (Kn (v := .int .i64 ((x30.xValue.length : Nat) : Int)) rfl rfl rfl (fun _ => by kernel_rfl) (Kn (v := .bool (decide (((x30.xValue.length : Nat) : Int) > 16))) rfl rfl rfl (fun _ => by kernel_rfl) (WL.nil (Fin.then ?_)))))))))))
  by_cases h50 : ((x30.xValue.length : Nat) : Int) > 16
  refine Wp.cond1 rfl (decide_eq_true h50) (Wp.seq (Wp.region (As rfl rfl (WL.nil (Fin.then (Wp.ret (Fin.thenR (Fin.blockR (Fin.thenR (Fin.thenR (Fin.blockR (Fin.thenR (Fin.res (res1 rfl rfl) ?_)))))))))))))
  have H51 := H47.pick [] (by decide) rfl
  have e : r04_CheckMap l0 = 2 := lp_r (Eq.trans (hq27) (Eq.trans (congrArg (fun q => r04_CheckMap_L0 l0 q k21) hd32) (Eq.trans (bnd_of hr44) (Eq.trans (if_pos h49) (if_pos h50)))))
  obtain rfl := e.symm.trans hr
  exact ⟨rfl, H51⟩
  refine Wp.cond0 rfl (decide_eq_false h50) (Wp.skip (Fin.then (Wp.seq ?_)))
  have H53 := H47.drew
  refine Wp.drawnX [] (fun W => ∃ L', Own w D W ([blk g33 (PairD.cells x30) 32] ++ L')) (by kernel_rfl) (by kernel_rfl) (NoP.then (NoP.block (NoP.then (NoP.then (NoP.block (NoP.then NoP.base)))))) ⟨_, H53⟩ ?_
  revert H53
  generalize World.drew w45 = w52
  intro H53
  refine GX.take (v := .int .i64 ((k21 : Nat) : Int)) (rs := []) 0 rfl (by kernel_rfl) (fun _ _ => Yl.move rfl) (GX.take (v := .bool (decide (((k21 : Nat) : Int) > 0))) (rs := []) 1 rfl (by kernel_rfl) (fun _ _ => Yl.kern rfl rfl (fun _ => by kernel_rfl)) (GX.take (v := .bool (decide (((k21 : Nat) : Int) > 0))) (rs := []) 2 rfl (by kernel_rfl) (fun _ _ => Yl.move rfl) ?_))
  by_cases h54 : ((k21 : Nat) : Int) > 0
  refine GX.takeG (v := .slice A0 l0.length c0) (rs := []) 3 rfl rfl rfl (decide_eq_true h54) (by kernel_rfl) (fun _ _ => Yl.move rfl) (GX.takeG (v := .int .i64 ((k21 : Nat) : Int)) (rs := []) 4 rfl rfl rfl (decide_eq_true h54) (by kernel_rfl) (fun _ _ => Yl.move rfl) (GX.takeG (v := .int .i64 ((k21 - 1 : Nat) : Int)) (rs := []) 5 rfl rfl rfl (decide_eq_true h54) (by kernel_rfl) (fun _ _ => Yl.int (e := IntKind.i64.wrap (((k21 : Nat) : Int) - 1)) (Yl.kern rfl rfl (fun _ => by kernel_rfl)) (by rw [IntWalk.i64_in _ (by omega)]; omega)) ?_))
  obtain ⟨x55, hx56⟩ := at_of (ls := l0) (i := k21 - 1) (by first | omega | (simp; done) | (simp; omega))
  refine GX.takeG (v := .pointer (some ⟨ab A0, ao A0 + (k21 - 1) * 2, none⟩)) (rs := []) 6 rfl rfl rfl (decide_eq_true h54) (by kernel_rfl) (fun _ ⟨_, H9⟩ => Yl.indexAddr (El27) rfl rfl ((H9.ro hx0).addr (i := k21 - 1) (by omega)) (by omega)) (GX.takeG (v := .pointer (some ⟨ab A0, ao A0 + (k21 - 1) * 2, none⟩)) (rs := []) 7 rfl rfl rfl (decide_eq_true h54) (by kernel_rfl) (fun _ _ => Yl.kern rfl rfl (fun _ => by kernel_rfl)) (GX.takeG (v := .string ⟨List.toArray x55.xKey⟩) (rs := []) 8 rfl rfl rfl (decide_eq_true h54) (by kernel_rfl) (fun _ ⟨_, H9⟩ => Yl.load rfl (Lds.one Try.isAgg9 (((H9.ro hx0).elem PairD.len hx56 (by decide)).at_ (k := 0) rfl))) (GX.takeG (v := .pointer (some ⟨g33, 0, none⟩)) (rs := []) 9 rfl rfl rfl (decide_eq_true h54) (by kernel_rfl) (fun _ _ => Yl.kern rfl rfl (fun _ => by kernel_rfl)) (GX.takeG (v := .string ⟨List.toArray x30.xKey⟩) (rs := []) 10 rfl rfl rfl (decide_eq_true h54) (by kernel_rfl) (fun _ ⟨_, H9⟩ => Yl.load rfl (Lds.one Try.isAgg9 (Cls.of (H9.cls (i := 0) rfl) rfl))) (GX.takeG (v := .bool (decide (x30.xKey ≤ x55.xKey))) (rs := []) 11 rfl rfl rfl (decide_eq_true h54) (by kernel_rfl) (fun _ _ => Yl.bool (e := !(Op.bytesLess x55.xKey x30.xKey)) (Yl.strGe rfl rfl) (bl_ge _ _)) (GX.take (v := .bool (decide (x30.xKey ≤ x55.xKey))) (rs := []) 12 rfl (by kernel_rfl) (fun _ _ => Yl.pickT rfl (decide_eq_true h54) rfl) (GX.done (by kernel_rfl) (Fin.then ?_))))))))
  by_cases h57 : x30.xKey ≤ x55.xKey
  refine Wp.cond1 rfl (decide_eq_true h57) (Wp.seq (Wp.region (As rfl rfl (WL.nil (Fin.then (Wp.ret (Fin.blockR (Fin.thenR (Fin.thenR (Fin.blockR (Fin.thenR (Fin.res (res1 rfl rfl) ?_))))))))))))
  have H58 := H53.pick [] (by decide) rfl
  have e : r04_CheckMap l0 = 1 := lp_r (Eq.trans (hq27) (Eq.trans (congrArg (fun q => r04_CheckMap_L0 l0 q k21) hd32) (Eq.trans (bnd_of hr44) (Eq.trans (if_pos h49) (Eq.trans (if_neg h50) (Eq.trans (if_pos h54) (Eq.trans (bnd_of (getD_of hx56)) (if_pos h57))))))))
  obtain rfl := e.symm.trans hr
  exact ⟨rfl, H58⟩
  refine Wp.cond0 rfl (decide_eq_false h57) (Wp.skip (Fin.blockN (Fin.then (Wp.region (WL.val (v := .int .i64 ((k21 + 1 : Nat) : Int)) rfl (Yl.int (e := IntKind.i64.wrap (((k21 : Nat) : Int) + 1)) (Yl.kern rfl rfl (fun _ => by kernel_rfl)) (by rw [IntWalk.i64_in _ (by omega)]; omega)) (Mv rfl rfl (WL.nil ?_)))))))
  have H59 := H53.pick [] (by decide) rfl
  exact Fin.round (k21 + 1) ⟨rfl, rfl, rfl, rfl, rfl, trivial⟩ ⟨H59, (show (k21 + 1) ≤ l0.length ∧ r04_CheckMap_L0 l0 l0 0 = r04_CheckMap_L0 l0 (List.drop (k21 + 1) l0) (k21 + 1) from ⟨by omega, Eq.trans (hq27) (Eq.trans (congrArg (fun q => r04_CheckMap_L0 l0 q k21) hd32) (Eq.trans (bnd_of hr44) (Eq.trans (if_pos h49) (Eq.trans (if_neg h50) (Eq.trans (if_pos h54) (Eq.trans (bnd_of (getD_of hx56)) (if_neg h57)))))))⟩)⟩ (by show l0.length - (k21 + 1) < l0.length - k21; omega)
  refine GX.skipG (rs := []) 3 rfl rfl rfl (decide_eq_false h54) (by kernel_rfl) (GX.skipG (rs := []) 4 rfl rfl rfl (decide_eq_false h54) (by kernel_rfl) (GX.skipG (rs := []) 5 rfl rfl rfl (decide_eq_false h54) (by kernel_rfl) (GX.skipG (rs := []) 6 rfl rfl rfl (decide_eq_false h54) (by kernel_rfl) (GX.skipG (rs := []) 7 rfl rfl rfl (decide_eq_false h54) (by kernel_rfl) (GX.skipG (rs := []) 8 rfl rfl rfl (decide_eq_false h54) (by kernel_rfl) (GX.skipG (rs := []) 9 rfl rfl rfl (decide_eq_false h54) (by kernel_rfl) (GX.skipG (rs := []) 10 rfl rfl rfl (decide_eq_false h54) (by kernel_rfl) (GX.skipG (rs := []) 11 rfl rfl rfl (decide_eq_false h54) (by kernel_rfl) (GX.take (v := .bool false) (rs := []) 12 rfl (by kernel_rfl) (fun _ _ => Yl.pickF rfl (decide_eq_false h54) rfl) (GX.done (by kernel_rfl) (Fin.then (Wp.cond0 rfl rfl (Wp.skip (Fin.blockN (Fin.then (Wp.region (WL.val (v := .int .i64 ((k21 + 1 : Nat) : Int)) rfl (Yl.int (e := IntKind.i64.wrap (((k21 : Nat) : Int) + 1)) (Yl.kern rfl rfl (fun _ => by kernel_rfl)) (by rw [IntWalk.i64_in _ (by omega)]; omega)) (Mv rfl rfl (WL.nil ?_)))))))))))))))))))
  have H60 := H53.pick [] (by decide) rfl
  exact Fin.round (k21 + 1) ⟨rfl, rfl, rfl, rfl, rfl, trivial⟩ ⟨H60, (show (k21 + 1) ≤ l0.length ∧ r04_CheckMap_L0 l0 l0 0 = r04_CheckMap_L0 l0 (List.drop (k21 + 1) l0) (k21 + 1) from ⟨by omega, Eq.trans (hq27) (Eq.trans (congrArg (fun q => r04_CheckMap_L0 l0 q k21) hd32) (Eq.trans (bnd_of hr44) (Eq.trans (if_pos h49) (Eq.trans (if_neg h50) (if_neg h54)))))⟩)⟩ (by show l0.length - (k21 + 1) < l0.length - k21; omega)
  refine Wp.cond1 rfl (decide_eq_true h49) (Wp.seq (Wp.region (As rfl rfl (WL.nil (Fin.then (Wp.ret (Fin.thenR (Fin.blockR (Fin.thenR (Fin.thenR (Fin.blockR (Fin.thenR (Fin.res (res1 rfl rfl) ?_)))))))))))))
  have H61 := H47.pick [] (by decide) rfl
  have e : r04_CheckMap l0 = 20 := lp_r (Eq.trans (hq27) (Eq.trans (congrArg (fun q => r04_CheckMap_L0 l0 q k21) hd32) (Eq.trans (bnd_of hr44) (if_neg h49))))
  obtain rfl := e.symm.trans hr
  exact ⟨rfl, H61⟩
  refine Wp.cond0 rfl (decide_eq_false h29) (Wp.exit (Fin.thenX ?_))
  have hL62 : r04_CheckMap_L0 l0 l0 0 = Sum.inl () := Eq.trans (hq27) (Eq.trans (congrArg (fun q => r04_CheckMap_L0 l0 q k21) (drop_end (ls := l0) (i := k21) (by omega))) rfl)
  refine Fin.thenX (Fin.blockX (Fin.then (Wp.seq (Wp.region (As rfl rfl (WL.nil (Fin.then (Wp.ret (Fin.res (res1 rfl rfl) ?_)))))))))
  have H63 := H25.pick [] (by decide) rfl
  have e : r04_CheckMap l0 = 0 := lp_l hL62
  obtain rfl := e.symm.trans hr
  exact ⟨rfl, H63⟩

def r04_Find_L0 (p1 : List UInt8) : List PairD → Unit ⊕ ((List UInt8) × Bool)
  | [] => Sum.inl ()
  | x30 :: q22 => if x30.xKey = p1 then Sum.inr (x30.xValue, true) else r04_Find_L0 p1 q22

def r04_Find (l0 : List PairD) (p1 : List UInt8) : (List UInt8) × Bool :=
  lp (r04_Find_L0 p1 l0) fun _ => ([], false)

set_option maxRecDepth 100000 in
theorem r04_Find_ok (w : World) (D : Nat → Prop) (A0 : Option Addr) (n0 c0 : Nat) (l0 : List PairD) (p1 : List UInt8) (r0 : List UInt8) (r1 : Bool) (H : Own w D w []) (hx0 : Ro w D fun w' => Rds w' 2 A0 n0 (List.flatMap PairD.cells l0)) (hn0 : n0 = l0.length) (hl0 : l0.length * 32 ≤ 211106232532992) (hr : r04_Find l0 p1 = (r0, r1)) :
    Calls Try.prog 44 #[.slice A0 n0 c0, .string ⟨List.toArray p1⟩] w (Ret fun v w' => v = .tuple #[.string ⟨List.toArray r0⟩, .bool r1] ∧ Own w D w' []) := by
  subst hn0
  refine Calls.body (args := [.slice A0 l0.length c0, .string ⟨List.toArray p1⟩]) Try.func44 rfl rfl rfl ?_
  show Wp _ _ _ [(0, .slice A0 l0.length c0), (1, .string ⟨List.toArray p1⟩)] _ _
  refine Wp.seq (Wp.region (As rfl rfl (As rfl rfl (WL.nil (Fin.then (Wp.seq (Wp.seq (Wp.region (Mv rfl rfl (Kn (v := .int .i64 ((l0.length : Nat) : Int)) rfl rfl rfl (fun _ => by kernel_rfl) (Mv rfl rfl (WL.nil (Fin.then (Wp.block ?_))))))))))))))
  have H23 : Own w D w [] := H.pick [] (by decide) rfl
  refine Wp.loop (ι := Nat) (fun i => [(4, .string ⟨List.toArray ([])⟩), (5, .bool false), (10, .int .i64 ((i : Nat) : Int)), (9, .int .i64 ((l0.length : Nat) : Int)), (8, .slice A0 l0.length c0), (1, .string ⟨List.toArray p1⟩)]) (fun (i : Nat) w' => Own w D w' [] ∧ (i ≤ l0.length ∧ r04_Find_L0 p1 l0 = r04_Find_L0 p1 (List.drop i l0))) (fun i => l0.length - i) 0 ⟨rfl, rfl, rfl, rfl, rfl, rfl, trivial⟩ ⟨H23, (show 0 ≤ l0.length ∧ r04_Find_L0 p1 l0 = r04_Find_L0 p1 (List.drop 0 l0) from ⟨by omega, rfl⟩)⟩ ?_
  rintro k21 w24 ⟨H25, hf26⟩
  show Wp _ _ _ [(4, .string ⟨List.toArray ([])⟩), (5, .bool false), (10, .int .i64 ((k21 : Nat) : Int)), (9, .int .i64 ((l0.length : Nat) : Int)), (8, .slice A0 l0.length c0), (1, .string ⟨List.toArray p1⟩)] _ _
  replace hf26 : k21 ≤ l0.length ∧ r04_Find_L0 p1 l0 = r04_Find_L0 p1 (List.drop k21 l0) := hf26
  obtain ⟨hi28, hq27⟩ := hf26
  refine Wp.seq (Wp.region (Kn (v := .bool (decide (((k21 : Nat) : Int) < ((l0.length : Nat) : Int)))) rfl rfl rfl (fun _ => by kernel_rfl) (WL.nil (Fin.then (Wp.seq ?_)))))
  by_cases h29 : ((k21 : Nat) : Int) < ((l0.length : Nat) : Int)
  obtain ⟨x30, hx31⟩ := rds_at (ls := l0) (i := k21) PairD.len (by decide) (H25.ro hx0) (by first | omega | (simp; done) | (simp; omega))
  have hd32 := drop_at hx31
  refine Wp.cond1 rfl (decide_eq_true h29) (Wp.skip (Fin.then (Wp.seq (Wp.block (Wp.seq (Wp.region (WL.val (v := .pointer (some ⟨ab A0, ao A0 + k21 * 2, none⟩)) rfl (Yl.indexAddr (El27) rfl rfl ((H25.ro hx0).addr (i := k21) (by omega)) (by omega)) (WL.val (v := .agg (PairD.cells x30).toArray) rfl (Yl.load rfl (Lds.agg (cs := (PairD.cells x30)) Try.isAgg32 Try.sizeOf32 ((H25.ro hx0).elem PairD.len hx31 (by decide)))) ?_))))))))
  refine WL.do rfl (Do.newP (cs := [.string ⟨List.toArray ([])⟩, .string ⟨List.toArray ([])⟩]) (t := 32) H25 rfl rfl (fun _ => by kernel_rfl) ?_)
  intro g33 w34 H35
  refine WL.do0 (Do.store (vs := (PairD.cells x30)) (o := 0) H35 rfl rfl Try.sizeOf32 rfl rfl rfl rfl ?_)
  intro w36 H37
  refine WL.nil (Fin.then (Wp.seq (Wp.region (Kn (v := .pointer (some ⟨g33, 0, none⟩)) rfl rfl rfl (fun _ => by kernel_rfl) (WL.val (v := .string ⟨List.toArray x30.xKey⟩) rfl (Yl.load rfl (Lds.one Try.isAgg9 (Cls.of (H37.cls (i := 0) rfl) rfl))) (Mv rfl rfl (WL.val (v := .bool (decide (x30.xKey = p1))) rfl (Yl.strEq rfl rfl) (WL.nil (Fin.then ?_)))))))))
  by_cases h38 : x30.xKey = p1
  refine Wp.cond1 rfl (decide_eq_true h38) (Wp.seq (Wp.region (Kn (v := .pointer (some ⟨g33, 1, none⟩)) rfl rfl rfl (fun _ => by kernel_rfl) (WL.val (v := .string ⟨List.toArray x30.xValue⟩) rfl (Yl.load rfl (Lds.one Try.isAgg9 (Cls.of (H37.cls (i := 0) rfl) rfl))) (As rfl rfl (As rfl rfl (WL.nil (Fin.then (Wp.ret (Fin.blockR (Fin.thenR (Fin.thenR (Fin.blockR (Fin.thenR (Fin.res (res2 rfl rfl rfl) ?_)))))))))))))))
  have H39 := H37.pick [] (by decide) rfl
  have e : r04_Find l0 p1 = (x30.xValue, true) := lp_r (Eq.trans (hq27) (Eq.trans (congrArg (fun q => r04_Find_L0 p1 q) hd32) (if_pos h38)))
  obtain ⟨rfl, rfl⟩ := pj2 (e.symm.trans hr)
  exact ⟨rfl, H39⟩
  refine Wp.cond0 rfl (decide_eq_false h38) (Wp.skip (Fin.blockN (Fin.then (Wp.region (WL.val (v := .int .i64 ((k21 + 1 : Nat) : Int)) rfl (Yl.int (e := IntKind.i64.wrap (((k21 : Nat) : Int) + 1)) (Yl.kern rfl rfl (fun _ => by kernel_rfl)) (by rw [IntWalk.i64_in _ (by omega)]; omega)) (Mv rfl rfl (WL.nil ?_)))))))
  have H40 := H37.pick [] (by decide) rfl
  exact Fin.round (k21 + 1) ⟨rfl, rfl, rfl, rfl, rfl, rfl, trivial⟩ ⟨H40, (show (k21 + 1) ≤ l0.length ∧ r04_Find_L0 p1 l0 = r04_Find_L0 p1 (List.drop (k21 + 1) l0) from ⟨by omega, Eq.trans (hq27) (Eq.trans (congrArg (fun q => r04_Find_L0 p1 q) hd32) (if_neg h38))⟩)⟩ (by show l0.length - (k21 + 1) < l0.length - k21; omega)
  refine Wp.cond0 rfl (decide_eq_false h29) (Wp.exit (Fin.thenX ?_))
  have hL41 : r04_Find_L0 p1 l0 = Sum.inl () := Eq.trans (hq27) (Eq.trans (congrArg (fun q => r04_Find_L0 p1 q) (drop_end (ls := l0) (i := k21) (by omega))) rfl)
  refine Fin.thenX (Fin.blockX (Fin.then (Wp.seq (Wp.region (As rfl rfl (As rfl rfl (WL.nil (Fin.then (Wp.ret (Fin.res (res2 rfl rfl rfl) ?_))))))))))
  have H42 := H25.pick [] (by decide) rfl
  have e : r04_Find l0 p1 = ([], false) := lp_l hL41
  obtain ⟨rfl, rfl⟩ := pj2 (e.symm.trans hr)
  exact ⟨rfl, H42⟩

def r04_SameMap_L0 (l1 : List PairD) : List PairD → Nat → Unit ⊕ Bool
  | [], k22 => Sum.inl ()
  | x31 :: q23, k22 => bnd (List.getD l1 k22 default) fun yx36 => if (x31.xKey = yx36.xKey) ∧ (x31.xValue = yx36.xValue) then r04_SameMap_L0 l1 q23 (k22 + 1) else Sum.inr (false)

def r04_SameMap (l0 : List PairD) (l1 : List PairD) : Bool :=
  if ((l0.length : Nat) : Int) = ((l1.length : Nat) : Int) then lp (r04_SameMap_L0 l1 l0 0) fun _ => true else false

set_option maxRecDepth 100000 in
theorem r04_SameMap_ok (w : World) (D : Nat → Prop) (A0 : Option Addr) (n0 c0 : Nat) (l0 : List PairD) (A1 : Option Addr) (n1 c1 : Nat) (l1 : List PairD) (r0 : Bool) (H : Own w D w []) (hx0 : Ro w D fun w' => Rds w' 2 A0 n0 (List.flatMap PairD.cells l0)) (hn0 : n0 = l0.length) (hl0 : l0.length ≤ 9223372036854775807) (hx1 : Ro w D fun w' => Rds w' 2 A1 n1 (List.flatMap PairD.cells l1)) (hn1 : n1 = l1.length) (hl1 : l1.length ≤ 9223372036854775807) (hr : r04_SameMap l0 l1 = r0) :
    Calls Try.prog 13 #[.slice A0 n0 c0, .slice A1 n1 c1] w (Ret fun v w' => v = .bool r0 ∧ Own w D w' []) := by
  subst hn0 hn1
  refine Calls.body (args := [.slice A0 l0.length c0, .slice A1 l1.length c1]) Try.func13 rfl rfl rfl ?_
  show Wp _ _ _ [(0, .slice A0 l0.length c0), (1, .slice A1 l1.length c1)] _ _
  refine Wp.seq (Wp.region (As rfl rfl (WL.nil (Fin.then (Wp.seq (Wp.seq (Wp.region (Mv rfl rfl (Kn (v := .int .i64 ((l0.length : Nat) : Int)) rfl rfl rfl (fun _ => by kernel_rfl) (Mv rfl rfl (Kn (v := .int .i64 ((l1.length : Nat) : Int)) rfl rfl rfl (fun _ => by kernel_rfl) (WL.val (v := .bool (decide (¬ (((l0.length : Nat) : Int) = ((l1.length : Nat) : Int))))) rfl (Yl.bool (e := !(decide (((l0.length : Nat) : Int) = ((l1.length : Nat) : Int)))) (Yl.kern rfl rfl (fun _ => by kernel_rfl)) decide_not.symm) (WL.nil (Fin.then ?_))))))))))))))
  by_cases h21 : ((l0.length : Nat) : Int) = ((l1.length : Nat) : Int)
  refine Wp.cond0 rfl (decide_eq_false (not_not_intro h21)) (Wp.skip (Fin.then (Wp.seq (Wp.seq (Wp.region (Mv rfl rfl (Kn (v := .int .i64 ((l0.length : Nat) : Int)) rfl rfl rfl (fun _ => by kernel_rfl) (Mv rfl rfl (WL.nil (Fin.then (Wp.block ?_)))))))))))
  have H24 : Own w D w [] := H.pick [] (by decide) rfl
  refine Wp.loop (ι := Nat) (fun i => [(4, .bool false), (13, .int .i64 ((i : Nat) : Int)), (12, .int .i64 ((l0.length : Nat) : Int)), (0, .slice A0 l0.length c0), (1, .slice A1 l1.length c1)]) (fun (i : Nat) w' => Own w D w' [] ∧ (i ≤ l0.length ∧ r04_SameMap_L0 l1 l0 0 = r04_SameMap_L0 l1 (List.drop i l0) i)) (fun i => l0.length - i) 0 ⟨rfl, rfl, rfl, rfl, rfl, trivial⟩ ⟨H24, (show 0 ≤ l0.length ∧ r04_SameMap_L0 l1 l0 0 = r04_SameMap_L0 l1 (List.drop 0 l0) 0 from ⟨by omega, rfl⟩)⟩ ?_
  rintro k22 w25 ⟨H26, hf27⟩
  show Wp _ _ _ [(4, .bool false), (13, .int .i64 ((k22 : Nat) : Int)), (12, .int .i64 ((l0.length : Nat) : Int)), (0, .slice A0 l0.length c0), (1, .slice A1 l1.length c1)] _ _
  replace hf27 : k22 ≤ l0.length ∧ r04_SameMap_L0 l1 l0 0 = r04_SameMap_L0 l1 (List.drop k22 l0) k22 := hf27
  obtain ⟨hi29, hq28⟩ := hf27
  refine Wp.seq (Wp.region (Kn (v := .bool (decide (((k22 : Nat) : Int) < ((l0.length : Nat) : Int)))) rfl rfl rfl (fun _ => by kernel_rfl) (WL.nil (Fin.then (Wp.seq ?_)))))
  by_cases h30 : ((k22 : Nat) : Int) < ((l0.length : Nat) : Int)
  obtain ⟨x31, hx32⟩ := rds_at (ls := l0) (i := k22) PairD.len (by decide) (H26.ro hx0) (by first | omega | (simp; done) | (simp; omega))
  have hd33 := drop_at hx32
  refine Wp.cond1 rfl (decide_eq_true h30) (Wp.skip (Fin.then (Wp.seq (Wp.block (Wp.seq (Wp.region (Mv rfl rfl (As rfl rfl (WL.nil (Fin.then (Wp.seq ?_)))))))))))
  have H35 := H26.drew
  refine Wp.drawnX [] (fun W => ∃ L', Own w D W ([] ++ L')) (by kernel_rfl) (by kernel_rfl) (NoP.then (NoP.block (NoP.then (NoP.then (NoP.block (NoP.then NoP.base)))))) ⟨_, H35⟩ ?_
  revert H35
  generalize World.drew w25 = w34
  intro H35
  refine GX.take (v := .slice A0 l0.length c0) (rs := []) 0 rfl (by kernel_rfl) (fun _ _ => Yl.move rfl) (GX.take (v := .int .i64 ((k22 : Nat) : Int)) (rs := []) 1 rfl (by kernel_rfl) (fun _ _ => Yl.move rfl) (GX.take (v := .pointer (some ⟨ab A0, ao A0 + k22 * 2, none⟩)) (rs := []) 2 rfl (by kernel_rfl) (fun _ ⟨_, H9⟩ => Yl.indexAddr (El27) rfl rfl ((H9.ro hx0).addr (i := k22) (by omega)) (by omega)) (GX.take (v := .agg (PairD.cells x31).toArray) (rs := []) 3 rfl (by kernel_rfl) (fun _ ⟨_, H9⟩ => Yl.load rfl (Lds.agg (cs := (PairD.cells x31)) Try.isAgg32 Try.sizeOf32 ((H9.ro hx0).elem PairD.len hx32 (by decide)))) (GX.take (v := .slice A1 l1.length c1) (rs := []) 4 rfl (by kernel_rfl) (fun _ _ => Yl.move rfl) (GX.take (v := .int .i64 ((k22 : Nat) : Int)) (rs := []) 5 rfl (by kernel_rfl) (fun _ _ => Yl.move rfl) ?_)))))
  obtain ⟨x36, hx37⟩ := at_of (ls := l1) (i := k22) (by first | omega | (simp; done) | (simp; omega))
  refine GX.take (v := .pointer (some ⟨ab A1, ao A1 + k22 * 2, none⟩)) (rs := []) 6 rfl (by kernel_rfl) (fun _ ⟨_, H9⟩ => Yl.indexAddr (El27) rfl rfl ((H9.ro hx1).addr (i := k22) (by omega)) (by omega)) (GX.take (v := .agg (PairD.cells x36).toArray) (rs := []) 7 rfl (by kernel_rfl) (fun _ ⟨_, H9⟩ => Yl.load rfl (Lds.agg (cs := (PairD.cells x36)) Try.isAgg32 Try.sizeOf32 ((H9.ro hx1).elem PairD.len hx37 (by decide)))) (GX.take (v := .bool (decide (¬ ((x31.xKey = x36.xKey) ∧ (x31.xValue = x36.xValue))))) (rs := []) 8 rfl (by kernel_rfl) (fun _ _ => Yl.bool (e := !(decide ((x31.xKey = x36.xKey) ∧ (x31.xValue = x36.xValue)))) (Yl.neAgg rfl rfl (by kernel_rfl) rfl (Eqv.struct Try.underlying32 (by kernel_rfl) (EqF.dec (EqF.cons (u := .string ⟨List.toArray x31.xKey⟩) (v := .string ⟨List.toArray x36.xKey⟩) (by decide) (fun _ => by kernel_rfl) (fun _ => by kernel_rfl) (Eqv.string Try.underlying9) (EqF.cons (u := .string ⟨List.toArray x31.xValue⟩) (v := .string ⟨List.toArray x36.xValue⟩) (by decide) (fun _ => by kernel_rfl) (fun _ => by kernel_rfl) (Eqv.string Try.underlying9) (EqF.nil.up (Nat.zero_le _)))) ((congrArg (decide (x31.xKey = x36.xKey) && ·) and_dec1).trans and_dec)))) decide_not.symm) (GX.done (by kernel_rfl) (Fin.then ?_))))
  by_cases h38 : (x31.xKey = x36.xKey) ∧ (x31.xValue = x36.xValue)
  refine Wp.cond0 rfl (decide_eq_false (not_not_intro h38)) (Wp.skip (Fin.blockN (Fin.then (Wp.region (WL.val (v := .int .i64 ((k22 + 1 : Nat) : Int)) rfl (Yl.int (e := IntKind.i64.wrap (((k22 : Nat) : Int) + 1)) (Yl.kern rfl rfl (fun _ => by kernel_rfl)) (by rw [IntWalk.i64_in _ (by omega)]; omega)) (Mv rfl rfl (WL.nil ?_)))))))
  have H39 := H35.pick [] (by decide) rfl
  exact Fin.round (k22 + 1) ⟨rfl, rfl, rfl, rfl, rfl, trivial⟩ ⟨H39, (show (k22 + 1) ≤ l0.length ∧ r04_SameMap_L0 l1 l0 0 = r04_SameMap_L0 l1 (List.drop (k22 + 1) l0) (k22 + 1) from ⟨by omega, Eq.trans (hq28) (Eq.trans (congrArg (fun q => r04_SameMap_L0 l1 q k22) hd33) (Eq.trans (bnd_of (getD_of hx37)) (if_pos h38)))⟩)⟩ (by show l0.length - (k22 + 1) < l0.length - k22; omega)
  refine Wp.cond1 rfl (decide_eq_true h38) (Wp.seq (Wp.region (As rfl rfl (WL.nil (Fin.then (Wp.ret (Fin.blockR (Fin.thenR (Fin.thenR (Fin.blockR (Fin.thenR (Fin.res (res1 rfl rfl) ?_))))))))))))
  have H40 := H35.pick [] (by decide) rfl
  have e : r04_SameMap l0 l1 = false := Eq.trans (if_pos h21) (lp_r (Eq.trans (hq28) (Eq.trans (congrArg (fun q => r04_SameMap_L0 l1 q k22) hd33) (Eq.trans (bnd_of (getD_of hx37)) (if_neg h38)))))
  obtain rfl := e.symm.trans hr
  exact ⟨rfl, H40⟩
  refine Wp.cond0 rfl (decide_eq_false h30) (Wp.exit (Fin.thenX ?_))
  have hL41 : r04_SameMap_L0 l1 l0 0 = Sum.inl () := Eq.trans (hq28) (Eq.trans (congrArg (fun q => r04_SameMap_L0 l1 q k22) (drop_end (ls := l0) (i := k22) (by omega))) rfl)
  refine Fin.thenX (Fin.blockX (Fin.then (Wp.seq (Wp.region (As rfl rfl (WL.nil (Fin.then (Wp.ret (Fin.res (res1 rfl rfl) ?_)))))))))
  have H42 := H26.pick [] (by decide) rfl
  have e : r04_SameMap l0 l1 = true := Eq.trans (if_pos h21) (lp_l hL41)
  obtain rfl := e.symm.trans hr
  exact ⟨rfl, H42⟩
  refine Wp.cond1 rfl (decide_eq_true h21) (Wp.seq (Wp.region (As rfl rfl (WL.nil (Fin.then (Wp.ret (Fin.thenR (Fin.res (res1 rfl rfl) ?_))))))))
  have H43 : Own w D w [] := H.pick [] (by decide) rfl
  have e : r04_SameMap l0 l1 = false := if_neg h21
  obtain rfl := e.symm.trans hr
  exact ⟨rfl, H43⟩

def r02_Has (p0 : RangeD) (p1 : List UInt8) : Bool :=
  bnd (r02_Check p0) fun yr29 => if yr29 = 0 then bnd (r02_CheckKey p1) fun yr40 => if yr40 = 0 then if p0.xLo ≤ p1 then if p0.xHi = ([]) then true else decide (p1 < p0.xHi) else false else false else false

set_option maxRecDepth 100000 in
theorem r02_Has_ok (w : World) (D : Nat → Prop) (p0 : RangeD) (p1 : List UInt8) (r0 : Bool) (H : Own w D w [])  (hr : r02_Has p0 p1 = r0) :
    Calls Try.prog 52 #[.agg (RangeD.cells p0).toArray, .string ⟨List.toArray p1⟩] w (Ret fun v w' => v = .bool r0 ∧ Own w D w' []) := by
  refine Calls.body (args := [.agg (RangeD.cells p0).toArray, .string ⟨List.toArray p1⟩]) Try.func52 rfl rfl rfl ?_
  show Wp _ _ _ [(0, .agg (RangeD.cells p0).toArray), (1, .string ⟨List.toArray p1⟩)] _ _
  refine Wp.seq (Wp.region ?_)
  refine WL.do rfl (Do.newP (cs := (RangeD.cells p0)) (t := 46) H rfl rfl (fun _ => by kernel_rfl) ?_)
  intro g21 w22 H23
  refine As rfl rfl (WL.nil (Fin.then (Wp.seq (Wp.region (WL.val (v := .agg (RangeD.cells p0).toArray) rfl (Yl.load rfl (Lds.agg (cs := (RangeD.cells p0)) Try.isAgg46 Try.sizeOf46 ((H23.cls (i := 0) rfl).lit (k := 0) (m := 2) rfl))) ?_)))))
  obtain ⟨r29, hr30⟩ : ∃ q, r02_Check p0 = q := ⟨_, rfl⟩
  obtain ⟨D24, HP25, ro26, bk27, rr28⟩ := Own.enter0 H23
  refine WL.do rfl (Do.call Try.call25 rfl (r02_Check_ok _ _ p0 r29 HP25 hr30) ?_)
  rintro _ w31 ⟨rfl, HQ32⟩
  have H33 := bk27 _ _ HQ32
  refine Kn (v := .bool (decide (r29 = 0))) rfl rfl rfl (fun _ => by kernel_rfl) (Mv rfl rfl ?_)
  by_cases h34 : r29 = 0
  refine WL.valG (v := .string ⟨List.toArray p1⟩) rfl rfl (decide_eq_true h34) rfl (Yl.move rfl) ?_
  obtain ⟨r40, hr41⟩ : ∃ q, r02_CheckKey p1 = q := ⟨_, rfl⟩
  obtain ⟨D35, HP36, ro37, bk38, rr39⟩ := Own.enter0 H33
  refine WL.doG rfl rfl (decide_eq_true h34) rfl (Do.call Try.call39 rfl (r02_CheckKey_ok _ _ p1 r40 HP36 hr41) ?_)
  rintro _ w42 ⟨rfl, HQ43, hk45⟩
  have H44 := bk38 _ _ HQ43
  replace hk45 : ¬ (r40 = 0) ∨ (1 ≤ p1.length ∧ p1.length ≤ 12) := hk45
  refine WL.valG (v := .bool (decide (r40 = 0))) rfl rfl (decide_eq_true h34) rfl (Yl.kern rfl rfl (fun _ => by kernel_rfl)) (WL.val (v := .bool (decide (r40 = 0))) rfl (Yl.pickT rfl (decide_eq_true h34) rfl) (Mv rfl rfl ?_))
  by_cases h46 : r40 = 0
  refine WL.valG (v := .string ⟨List.toArray p1⟩) rfl rfl (decide_eq_true h46) rfl (Yl.move rfl) (WL.valG (v := .pointer (some ⟨g21, 0, none⟩)) rfl rfl (decide_eq_true h46) rfl (Yl.kern rfl rfl (fun _ => by kernel_rfl)) (WL.valG (v := .string ⟨List.toArray p0.xLo⟩) rfl rfl (decide_eq_true h46) rfl (Yl.load rfl (Lds.one Try.isAgg9 (Cls.of (H44.cls (i := 0) rfl) rfl))) (WL.valG (v := .bool (decide (p0.xLo ≤ p1))) rfl rfl (decide_eq_true h46) rfl (Yl.bool (e := !(Op.bytesLess p1 p0.xLo)) (Yl.strGe rfl rfl) (bl_ge _ _)) (WL.val (v := .bool (decide (p0.xLo ≤ p1))) rfl (Yl.pickT rfl (decide_eq_true h46) rfl) (Mv rfl rfl ?_)))))
  by_cases h47 : p0.xLo ≤ p1
  refine WL.valG (v := .pointer (some ⟨g21, 1, none⟩)) rfl rfl (decide_eq_true h47) rfl (Yl.kern rfl rfl (fun _ => by kernel_rfl)) (WL.valG (v := .string ⟨List.toArray p0.xHi⟩) rfl rfl (decide_eq_true h47) rfl (Yl.load rfl (Lds.one Try.isAgg9 (Cls.of (H44.cls (i := 0) rfl) rfl))) (WL.valG (v := .bool (decide (p0.xHi = ([])))) rfl rfl (decide_eq_true h47) rfl (Yl.strEq rfl rfl) (WL.valG (v := .bool (decide (p0.xHi = ([])))) rfl rfl (decide_eq_true h47) rfl (Yl.move rfl) ?_)))
  by_cases h48 : p0.xHi = ([])
  refine Sk rfl rfl (decide_eq_true h48) rfl (Sk rfl rfl (decide_eq_true h48) rfl (Sk rfl rfl (decide_eq_true h48) rfl (Sk rfl rfl (decide_eq_true h48) rfl (WL.valG (v := .bool true) rfl rfl (decide_eq_true h47) rfl (Yl.pickT rfl (decide_eq_true h48) rfl) (WL.val (v := .bool true) rfl (Yl.pickT rfl (decide_eq_true h47) rfl) (As rfl rfl (WL.nil (Fin.then (Wp.ret (Fin.res (res1 rfl rfl) ?_))))))))))
  have H49 := H44.pick [] (by decide) rfl
  have e : r02_Has p0 p1 = true := Eq.trans (bnd_of hr30) (Eq.trans (if_pos h34) (Eq.trans (bnd_of hr41) (Eq.trans (if_pos h46) (Eq.trans (if_pos h47) (if_pos h48)))))
  obtain rfl := e.symm.trans hr
  exact ⟨rfl, H49⟩
  refine WL.valG (v := .string ⟨List.toArray p1⟩) rfl rfl (decide_eq_false h48) rfl (Yl.move rfl) (WL.valG (v := .pointer (some ⟨g21, 1, none⟩)) rfl rfl (decide_eq_false h48) rfl (Yl.kern rfl rfl (fun _ => by kernel_rfl)) (WL.valG (v := .string ⟨List.toArray p0.xHi⟩) rfl rfl (decide_eq_false h48) rfl (Yl.load rfl (Lds.one Try.isAgg9 (Cls.of (H44.cls (i := 0) rfl) rfl))) (WL.valG (v := .bool (decide (p1 < p0.xHi))) rfl rfl (decide_eq_false h48) rfl (Yl.bool (e := Op.bytesLess p1 p0.xHi) (Yl.strLt rfl rfl) (bl_lt _ _)) (WL.valG (v := .bool (decide (p1 < p0.xHi))) rfl rfl (decide_eq_true h47) rfl (Yl.pickF rfl (decide_eq_false h48) rfl) (WL.val (v := .bool (decide (p1 < p0.xHi))) rfl (Yl.pickT rfl (decide_eq_true h47) rfl) (As rfl rfl (WL.nil (Fin.then (Wp.ret (Fin.res (res1 rfl rfl) ?_))))))))))
  have H50 := H44.pick [] (by decide) rfl
  have e : r02_Has p0 p1 = decide (p1 < p0.xHi) := Eq.trans (bnd_of hr30) (Eq.trans (if_pos h34) (Eq.trans (bnd_of hr41) (Eq.trans (if_pos h46) (Eq.trans (if_pos h47) (if_neg h48)))))
  obtain rfl := e.symm.trans hr
  exact ⟨rfl, H50⟩
  refine Sk rfl rfl (decide_eq_false h47) rfl (Sk rfl rfl (decide_eq_false h47) rfl (Sk rfl rfl (decide_eq_false h47) rfl (Sk rfl rfl (decide_eq_false h47) rfl (WL.skipU rfl rfl rfl (WL.skipU rfl rfl rfl (WL.skipU rfl rfl rfl (WL.skipU rfl rfl rfl (Sk rfl rfl (decide_eq_false h47) rfl (WL.val (v := .bool false) rfl (Yl.pickF rfl (decide_eq_false h47) rfl) (As rfl rfl (WL.nil (Fin.then (Wp.ret (Fin.res (res1 rfl rfl) ?_))))))))))))))
  have H51 := H44.pick [] (by decide) rfl
  have e : r02_Has p0 p1 = false := Eq.trans (bnd_of hr30) (Eq.trans (if_pos h34) (Eq.trans (bnd_of hr41) (Eq.trans (if_pos h46) (if_neg h47))))
  obtain rfl := e.symm.trans hr
  exact ⟨rfl, H51⟩
  refine Sk rfl rfl (decide_eq_false h46) rfl (Sk rfl rfl (decide_eq_false h46) rfl (Sk rfl rfl (decide_eq_false h46) rfl (Sk rfl rfl (decide_eq_false h46) rfl (WL.val (v := .bool false) rfl (Yl.pickF rfl (decide_eq_false h46) rfl) (Mv rfl rfl (Sk rfl rfl rfl rfl (Sk rfl rfl rfl rfl (Sk rfl rfl rfl rfl (Sk rfl rfl rfl rfl (WL.skipU rfl rfl rfl (WL.skipU rfl rfl rfl (WL.skipU rfl rfl rfl (WL.skipU rfl rfl rfl (Sk rfl rfl rfl rfl (WL.val (v := .bool false) rfl (Yl.pickF rfl rfl rfl) (As rfl rfl (WL.nil (Fin.then (Wp.ret (Fin.res (res1 rfl rfl) ?_))))))))))))))))))))
  have H52 := H44.pick [] (by decide) rfl
  have e : r02_Has p0 p1 = false := Eq.trans (bnd_of hr30) (Eq.trans (if_pos h34) (Eq.trans (bnd_of hr41) (if_neg h46)))
  obtain rfl := e.symm.trans hr
  exact ⟨rfl, H52⟩
  refine Sk rfl rfl (decide_eq_false h34) rfl (Sk rfl rfl (decide_eq_false h34) rfl (Sk rfl rfl (decide_eq_false h34) rfl (WL.val (v := .bool false) rfl (Yl.pickF rfl (decide_eq_false h34) rfl) (Mv rfl rfl (Sk rfl rfl rfl rfl (Sk rfl rfl rfl rfl (Sk rfl rfl rfl rfl (Sk rfl rfl rfl rfl (WL.val (v := .bool false) rfl (Yl.pickF rfl rfl rfl) (Mv rfl rfl (Sk rfl rfl rfl rfl (Sk rfl rfl rfl rfl (Sk rfl rfl rfl rfl (Sk rfl rfl rfl rfl (WL.skipU rfl rfl rfl (WL.skipU rfl rfl rfl (WL.skipU rfl rfl rfl (WL.skipU rfl rfl rfl (Sk rfl rfl rfl rfl (WL.val (v := .bool false) rfl (Yl.pickF rfl rfl rfl) (As rfl rfl (WL.nil (Fin.then (Wp.ret (Fin.res (res1 rfl rfl) ?_)))))))))))))))))))))))))
  have H53 := H33.pick [] (by decide) rfl
  have e : r02_Has p0 p1 = false := Eq.trans (bnd_of hr30) (if_neg h34)
  obtain rfl := e.symm.trans hr
  exact ⟨rfl, H53⟩

def r04_without_L0 (p1 : RangeD) : List PairD → List PairD → (List PairD)
  | [], l27 => l27
  | x38 :: q29, l27 => bnd (r02_Has p1 x38.xKey) fun yr51 => if yr51 = true then r04_without_L0 p1 q29 l27 else r04_without_L0 p1 q29 (l27 ++ [x38])

def r04_without (l0 : List PairD) (p1 : RangeD) : (List PairD) :=
  bnd (r04_without_L0 p1 l0 ([])) fun sLrL => sLrL

set_option maxRecDepth 100000 in
theorem r04_without_ok (w : World) (D : Nat → Prop) (A0 : Option Addr) (n0 c0 : Nat) (l0 : List PairD) (p1 : RangeD) (r0 : List PairD) (H : Own w D w []) (hx0 : Ro w D fun w' => Rds w' 2 A0 n0 (List.flatMap PairD.cells l0)) (hn0 : n0 = l0.length) (hl0 : l0.length * 32 ≤ 211106232532992) (hr : r04_without l0 p1 = r0) :
    Calls Try.prog 46 #[.slice A0 n0 c0, .agg (RangeD.cells p1).toArray] w (Ret fun v w' => ∃ (B0 : Option Addr) (b0 : Nat), v = .slice B0 r0.length b0 ∧ Own w D w' [row B0 r0.length b0 (List.flatMap PairD.cells r0) 32 2] ∧ (r0.length ≤ l0.length)) := by
  subst hn0
  refine Calls.body (args := [.slice A0 l0.length c0, .agg (RangeD.cells p1).toArray]) Try.func46 rfl rfl rfl ?_
  show Wp _ _ _ [(0, .slice A0 l0.length c0), (1, .agg (RangeD.cells p1).toArray)] _ _
  refine Wp.seq (Wp.region ?_)
  refine WL.do rfl (Do.newP (cs := (RangeD.cells p1)) (t := 46) H rfl rfl (fun _ => by kernel_rfl) ?_)
  intro g21 w22 H23
  refine As rfl rfl (WL.nil (Fin.then (Wp.seq (Wp.region (As rfl rfl (WL.nil (Fin.then (Wp.seq (Wp.seq (Wp.region (Mv rfl rfl (Kn (v := .int .i64 ((l0.length : Nat) : Int)) rfl rfl rfl (fun _ => by kernel_rfl) (Mv rfl rfl (WL.nil (Fin.then (Wp.block ?_))))))))))))))))
  have H24 : Own w D w22 [row none 0 0 (List.flatMap PairD.cells ([])) 32 2, blk g21 (RangeD.cells p1) 46] := H23.free (row_nil 32 2)
  have H30 := H24.pick [1, 0] (by decide) rfl
  refine Wp.loop (ι := (Option Addr) × Nat × (List PairD) × Nat) (fun i => [(5, .slice i.1 i.2.2.1.length i.2.1), (10, .int .i64 ((i.2.2.2 : Nat) : Int)), (9, .int .i64 ((l0.length : Nat) : Int)), (8, .slice A0 l0.length c0), (4, .slice none 0 0), (3, .pointer (some ⟨g21, 0, none⟩))]) (fun (i : (Option Addr) × Nat × (List PairD) × Nat) w' => Own w D w' [blk g21 (RangeD.cells p1) 46, row i.1 i.2.2.1.length i.2.1 (List.flatMap PairD.cells i.2.2.1) 32 2] ∧ (i.2.2.2 ≤ l0.length ∧ i.2.2.1.length ≤ i.2.2.2 ∧ r04_without_L0 p1 l0 ([]) = r04_without_L0 p1 (List.drop i.2.2.2 l0) i.2.2.1)) (fun i => l0.length - i.2.2.2) (none, 0, [], 0) ⟨rfl, rfl, rfl, rfl, rfl, rfl, trivial⟩ ⟨H30, (show 0 ≤ l0.length ∧ 0 ≤ 0 ∧ r04_without_L0 p1 l0 ([]) = r04_without_L0 p1 (List.drop 0 l0) ([]) from ⟨by omega, by omega, rfl⟩)⟩ ?_
  rintro ⟨A25, c26, l27, k28⟩ w31 ⟨H32, hf33⟩
  show Wp _ _ _ [(5, .slice A25 l27.length c26), (10, .int .i64 ((k28 : Nat) : Int)), (9, .int .i64 ((l0.length : Nat) : Int)), (8, .slice A0 l0.length c0), (4, .slice none 0 0), (3, .pointer (some ⟨g21, 0, none⟩))] _ _
  replace H32 : Own w D w31 [blk g21 (RangeD.cells p1) 46, row A25 l27.length c26 (List.flatMap PairD.cells l27) 32 2] := H32
  replace hf33 : k28 ≤ l0.length ∧ l27.length ≤ k28 ∧ r04_without_L0 p1 l0 ([]) = r04_without_L0 p1 (List.drop k28 l0) l27 := hf33
  obtain ⟨hi35, hi36, hq34⟩ := hf33
  refine Wp.seq (Wp.region (Kn (v := .bool (decide (((k28 : Nat) : Int) < ((l0.length : Nat) : Int)))) rfl rfl rfl (fun _ => by kernel_rfl) (WL.nil (Fin.then (Wp.seq ?_)))))
  by_cases h37 : ((k28 : Nat) : Int) < ((l0.length : Nat) : Int)
  obtain ⟨x38, hx39⟩ := rds_at (ls := l0) (i := k28) PairD.len (by decide) (H32.ro hx0) (by first | omega | (simp; done) | (simp; omega))
  have hd40 := drop_at hx39
  refine Wp.cond1 rfl (decide_eq_true h37) (Wp.skip (Fin.then (Wp.seq (Wp.block (Wp.seq (Wp.region (WL.val (v := .pointer (some ⟨ab A0, ao A0 + k28 * 2, none⟩)) rfl (Yl.indexAddr (El27) rfl rfl ((H32.ro hx0).addr (i := k28) (by omega)) (by omega)) (WL.val (v := .agg (PairD.cells x38).toArray) rfl (Yl.load rfl (Lds.agg (cs := (PairD.cells x38)) Try.isAgg32 Try.sizeOf32 ((H32.ro hx0).elem PairD.len hx39 (by decide)))) ?_))))))))
  refine WL.do rfl (Do.newP (cs := [.string ⟨List.toArray ([])⟩, .string ⟨List.toArray ([])⟩]) (t := 32) H32 rfl rfl (fun _ => by kernel_rfl) ?_)
  intro g41 w42 H43
  refine WL.do0 (Do.store (vs := (PairD.cells x38)) (o := 0) H43 rfl rfl Try.sizeOf32 rfl rfl rfl rfl ?_)
  intro w44 H45
  refine WL.nil (Fin.then (Wp.seq (Wp.region (WL.val (v := .agg (RangeD.cells p1).toArray) rfl (Yl.load rfl (Lds.agg (cs := (RangeD.cells p1)) Try.isAgg46 Try.sizeOf46 ((H45.cls (i := 1) rfl).lit (k := 0) (m := 2) rfl))) (Kn (v := .pointer (some ⟨g41, 0, none⟩)) rfl rfl rfl (fun _ => by kernel_rfl) (WL.val (v := .string ⟨List.toArray x38.xKey⟩) rfl (Yl.load rfl (Lds.one Try.isAgg9 (Cls.of (H45.cls (i := 0) rfl) rfl))) ?_))))))
  obtain ⟨r51, hr52⟩ : ∃ q, r02_Has p1 x38.xKey = q := ⟨_, rfl⟩
  obtain ⟨D46, HP47, ro48, bk49, rr50⟩ := Own.enter0 H45
  refine WL.do rfl (Do.call Try.call52 rfl (r02_Has_ok _ _ p1 x38.xKey r51 HP47 hr52) ?_)
  rintro _ w53 ⟨rfl, HQ54⟩
  have H55 := bk49 _ _ HQ54
  refine Kn (v := .bool (!r51)) rfl rfl rfl (fun _ => by kernel_rfl) (WL.nil (Fin.then ?_))
  rcases Bool.eq_false_or_eq_true (r51) with h56 | h56
  refine Wp.cond0 rfl (congrArg not h56) (Wp.skip (Fin.blockN (Fin.then (Wp.region (WL.val (v := .int .i64 ((k28 + 1 : Nat) : Int)) rfl (Yl.int (e := IntKind.i64.wrap (((k28 : Nat) : Int) + 1)) (Yl.kern rfl rfl (fun _ => by kernel_rfl)) (by rw [IntWalk.i64_in _ (by omega)]; omega)) (Mv rfl rfl (WL.nil ?_)))))))
  have H57 := H55.pick [1, 2] (by decide) rfl
  exact Fin.round (A25, c26, l27, k28 + 1) ⟨rfl, rfl, rfl, rfl, rfl, rfl, trivial⟩ ⟨H57, (show (k28 + 1) ≤ l0.length ∧ l27.length ≤ (k28 + 1) ∧ r04_without_L0 p1 l0 ([]) = r04_without_L0 p1 (List.drop (k28 + 1) l0) l27 from ⟨by omega, by omega, Eq.trans (hq34) (Eq.trans (congrArg (fun q => r04_without_L0 p1 q l27) hd40) (Eq.trans (bnd_of hr52) (if_pos h56)))⟩)⟩ (by show l0.length - (k28 + 1) < l0.length - k28; omega)
  refine Wp.cond1 rfl (congrArg not h56) (Wp.region (Mv rfl rfl (WL.val (v := .agg (PairD.cells x38).toArray) rfl (Yl.load rfl (Lds.agg (cs := (PairD.cells x38)) Try.isAgg32 Try.sizeOf32 ((H55.cls (i := 0) rfl).lit (k := 0) (m := 2) rfl))) ?_)))
  refine WL.do rfl (Do.newRow (cs := (PairD.cells x38)) (t := 32) (sz := 2) (m := 1) H55 rfl rfl (fun _ => by kernel_rfl) rfl (by decide) ?_)
  intro A58 w59 H60
  replace H60 : Own w D w59 [row A58 1 1 (List.flatMap PairD.cells ([x38])) 32 2, blk g41 (PairD.cells x38) 32, blk g21 (RangeD.cells p1) 46, row A25 l27.length c26 (List.flatMap PairD.cells l27) 32 2] := H60
  have H61 := H60.pick [3, 0, 1, 2] (by decide) rfl
  refine WL.do rfl (Do.appendW (k := l27.length) (m := 1) (El27) H61 rfl rfl (src_of Try.underlying27 (H61.rds (i := 1) rfl) (flat_one PairD.one ([x38]))) rfl (by omega) (s := List.length (l27 ++ [x38])) (by first | omega | (simp only [List.length_append, List.length_cons, List.length_nil] <;> omega)) (List.flatMap_append).symm ?_)
  intro A62 c63 w64 H65
  have hl66 : List.length (l27 ++ [x38]) = l27.length + 1 := by simp only [List.length_append, List.length_cons, List.length_nil]
  refine As rfl rfl (WL.nil (Fin.blockN (Fin.then (Wp.region (WL.val (v := .int .i64 ((k28 + 1 : Nat) : Int)) rfl (Yl.int (e := IntKind.i64.wrap (((k28 : Nat) : Int) + 1)) (Yl.kern rfl rfl (fun _ => by kernel_rfl)) (by rw [IntWalk.i64_in _ (by omega)]; omega)) (Mv rfl rfl (WL.nil ?_)))))))
  have H67 := H65.pick [3, 0] (by decide) rfl
  exact Fin.round (A62, c63, (l27 ++ [x38]), k28 + 1) ⟨rfl, rfl, rfl, rfl, rfl, rfl, trivial⟩ ⟨H67, (show (k28 + 1) ≤ l0.length ∧ List.length (l27 ++ [x38]) ≤ (k28 + 1) ∧ r04_without_L0 p1 l0 ([]) = r04_without_L0 p1 (List.drop (k28 + 1) l0) (l27 ++ [x38]) from ⟨by omega, by omega, Eq.trans (hq34) (Eq.trans (congrArg (fun q => r04_without_L0 p1 q l27) hd40) (Eq.trans (bnd_of hr52) (ifF h56)))⟩)⟩ (by show l0.length - (k28 + 1) < l0.length - k28; omega)
  refine Wp.cond0 rfl (decide_eq_false h37) (Wp.exit (Fin.thenX ?_))
  have hL68 : r04_without_L0 p1 l0 ([]) = l27 := Eq.trans (hq34) (Eq.trans (congrArg (fun q => r04_without_L0 p1 q l27) (drop_end (ls := l0) (i := k28) (by omega))) rfl)
  refine Fin.thenX (Fin.blockX (Fin.then (Wp.seq ?_)))
  have H69 := H32.pick [1] (by decide) rfl
  refine Wp.region (Mv rfl rfl (As rfl rfl (WL.nil (Fin.then (Wp.ret (Fin.res (res1 rfl rfl) ?_))))))
  have H70 := H69.pick [0] (by decide) rfl
  have e : r04_without l0 p1 = l27 := bnd_of hL68
  obtain rfl := e.symm.trans hr
  exact ⟨A25, c26, rfl, H70, (by first | omega | exact Nat.zero_le _)⟩

def r04_put_L0 (p1 : PairD) : List PairD → List PairD → Bool → (List PairD) × Bool
  | [], l27, b28 => (l27, b28)
  | x39 :: q30, l27, b28 => if b28 = true then if x39.xKey ≠ p1.xKey then r04_put_L0 p1 q30 (l27 ++ [x39]) b28 else r04_put_L0 p1 q30 l27 b28 else if p1.xKey ≤ x39.xKey then if x39.xKey ≠ p1.xKey then r04_put_L0 p1 q30 ((l27 ++ [p1]) ++ [x39]) true else r04_put_L0 p1 q30 (l27 ++ [p1]) true else if x39.xKey ≠ p1.xKey then r04_put_L0 p1 q30 (l27 ++ [x39]) b28 else r04_put_L0 p1 q30 l27 b28

def r04_put (l0 : List PairD) (p1 : PairD) : (List PairD) :=
  bnd (r04_put_L0 p1 l0 ([]) false) fun sLrL => if sLrL.2 = true then sLrL.1 else (sLrL.1 ++ [p1])

set_option maxRecDepth 100000 in
theorem r04_put_ok (w : World) (D : Nat → Prop) (A0 : Option Addr) (n0 c0 : Nat) (l0 : List PairD) (p1 : PairD) (r0 : List PairD) (H : Own w D w []) (hx0 : Ro w D fun w' => Rds w' 2 A0 n0 (List.flatMap PairD.cells l0)) (hn0 : n0 = l0.length) (hl0 : l0.length * 32 ≤ 211106232532992) (hh0 : (l0.length + 1) * 32 ≤ 211106232532992) (hr : r04_put l0 p1 = r0) :
    Calls Try.prog 45 #[.slice A0 n0 c0, .agg (PairD.cells p1).toArray] w (Ret fun v w' => ∃ (B0 : Option Addr) (b0 : Nat), v = .slice B0 r0.length b0 ∧ Own w D w' [row B0 r0.length b0 (List.flatMap PairD.cells r0) 32 2] ∧ (r0.length ≤ l0.length + 1)) := by
  subst hn0
  refine Calls.body (args := [.slice A0 l0.length c0, .agg (PairD.cells p1).toArray]) Try.func45 rfl rfl rfl ?_
  show Wp _ _ _ [(0, .slice A0 l0.length c0), (1, .agg (PairD.cells p1).toArray)] _ _
  refine Wp.seq (Wp.region ?_)
  refine WL.do rfl (Do.newP (cs := (PairD.cells p1)) (t := 32) H rfl rfl (fun _ => by kernel_rfl) ?_)
  intro g21 w22 H23
  refine As rfl rfl (WL.nil (Fin.then (Wp.seq (Wp.region (As rfl rfl (WL.nil (Fin.then (Wp.seq (Wp.region (As rfl rfl (WL.nil (Fin.then (Wp.seq (Wp.seq (Wp.region (Mv rfl rfl (Kn (v := .int .i64 ((l0.length : Nat) : Int)) rfl rfl rfl (fun _ => by kernel_rfl) (Mv rfl rfl (WL.nil (Fin.then (Wp.block ?_)))))))))))))))))))))
  have H24 : Own w D w22 [row none 0 0 (List.flatMap PairD.cells ([])) 32 2, blk g21 (PairD.cells p1) 32] := H23.free (row_nil 32 2)
  have H31 := H24.pick [1, 0] (by decide) rfl
  refine Wp.loop (ι := (Option Addr) × Nat × (List PairD) × Bool × Nat) (fun i => [(5, .slice i.1 i.2.2.1.length i.2.1), (6, .bool i.2.2.2.1), (11, .int .i64 ((i.2.2.2.2 : Nat) : Int)), (10, .int .i64 ((l0.length : Nat) : Int)), (9, .slice A0 l0.length c0), (4, .slice none 0 0), (3, .pointer (some ⟨g21, 0, none⟩))]) (fun (i : (Option Addr) × Nat × (List PairD) × Bool × Nat) w' => Own w D w' [blk g21 (PairD.cells p1) 32, row i.1 i.2.2.1.length i.2.1 (List.flatMap PairD.cells i.2.2.1) 32 2] ∧ (i.2.2.2.2 ≤ l0.length ∧ i.2.2.1.length ≤ i.2.2.2.2 + Bool.toNat i.2.2.2.1 ∧ r04_put_L0 p1 l0 ([]) false = r04_put_L0 p1 (List.drop i.2.2.2.2 l0) i.2.2.1 i.2.2.2.1)) (fun i => l0.length - i.2.2.2.2) (none, 0, [], false, 0) ⟨rfl, rfl, rfl, rfl, rfl, rfl, rfl, trivial⟩ ⟨H31, (show 0 ≤ l0.length ∧ 0 ≤ 0 + 0 ∧ r04_put_L0 p1 l0 ([]) false = r04_put_L0 p1 (List.drop 0 l0) ([]) false from ⟨by omega, by omega, rfl⟩)⟩ ?_
  rintro ⟨A25, c26, l27, b28, k29⟩ w32 ⟨H33, hf34⟩
  show Wp _ _ _ [(5, .slice A25 l27.length c26), (6, .bool b28), (11, .int .i64 ((k29 : Nat) : Int)), (10, .int .i64 ((l0.length : Nat) : Int)), (9, .slice A0 l0.length c0), (4, .slice none 0 0), (3, .pointer (some ⟨g21, 0, none⟩))] _ _
  replace H33 : Own w D w32 [blk g21 (PairD.cells p1) 32, row A25 l27.length c26 (List.flatMap PairD.cells l27) 32 2] := H33
  replace hf34 : k29 ≤ l0.length ∧ l27.length ≤ k29 + Bool.toNat b28 ∧ r04_put_L0 p1 l0 ([]) false = r04_put_L0 p1 (List.drop k29 l0) l27 b28 := hf34
  obtain ⟨hi36, hi37, hq35⟩ := hf34
  refine Wp.seq (Wp.region (Kn (v := .bool (decide (((k29 : Nat) : Int) < ((l0.length : Nat) : Int)))) rfl rfl rfl (fun _ => by kernel_rfl) (WL.nil (Fin.then (Wp.seq ?_)))))
  by_cases h38 : ((k29 : Nat) : Int) < ((l0.length : Nat) : Int)
  obtain ⟨x39, hx40⟩ := rds_at (ls := l0) (i := k29) PairD.len (by decide) (H33.ro hx0) (by first | omega | (simp; done) | (simp; omega))
  have hd41 := drop_at hx40
  refine Wp.cond1 rfl (decide_eq_true h38) (Wp.skip (Fin.then (Wp.seq (Wp.block (Wp.seq (Wp.region (WL.val (v := .pointer (some ⟨ab A0, ao A0 + k29 * 2, none⟩)) rfl (Yl.indexAddr (El27) rfl rfl ((H33.ro hx0).addr (i := k29) (by omega)) (by omega)) (WL.val (v := .agg (PairD.cells x39).toArray) rfl (Yl.load rfl (Lds.agg (cs := (PairD.cells x39)) Try.isAgg32 Try.sizeOf32 ((H33.ro hx0).elem PairD.len hx40 (by decide)))) ?_))))))))
  refine WL.do rfl (Do.newP (cs := [.string ⟨List.toArray ([])⟩, .string ⟨List.toArray ([])⟩]) (t := 32) H33 rfl rfl (fun _ => by kernel_rfl) ?_)
  intro g42 w43 H44
  refine WL.do0 (Do.store (vs := (PairD.cells x39)) (o := 0) H44 rfl rfl Try.sizeOf32 rfl rfl rfl rfl ?_)
  intro w45 H46
  refine WL.nil (Fin.then (Wp.seq (Wp.seq (Wp.region (Mv rfl rfl (Kn (v := .bool (!b28)) rfl rfl rfl (fun _ => by kernel_rfl) (Mv rfl rfl ?_)))))))
  rcases Bool.eq_false_or_eq_true (b28) with h47 | h47
  have h47t : Bool.toNat b28 = 1 := by rw [h47]; rfl
  refine Sk rfl rfl (congrArg not h47) rfl (Sk rfl rfl (congrArg not h47) rfl (Sk rfl rfl (congrArg not h47) rfl (Sk rfl rfl (congrArg not h47) rfl (Sk rfl rfl (congrArg not h47) rfl (WL.val (v := .bool false) rfl (Yl.pickF rfl (congrArg not h47) rfl) (WL.nil (Fin.then (Wp.cond0 rfl rfl (Wp.skip (Fin.then (Wp.seq (Wp.region (Kn (v := .pointer (some ⟨g42, 0, none⟩)) rfl rfl rfl (fun _ => by kernel_rfl) (WL.val (v := .string ⟨List.toArray x39.xKey⟩) rfl (Yl.load rfl (Lds.one Try.isAgg9 (Cls.of (H46.cls (i := 0) rfl) rfl))) (Kn (v := .pointer (some ⟨g21, 0, none⟩)) rfl rfl rfl (fun _ => by kernel_rfl) (WL.val (v := .string ⟨List.toArray p1.xKey⟩) rfl (Yl.load rfl (Lds.one Try.isAgg9 (Cls.of (H46.cls (i := 1) rfl) rfl))) (WL.val (v := .bool (decide (x39.xKey ≠ p1.xKey))) rfl (Yl.strNe rfl rfl) (WL.nil (Fin.then ?_)))))))))))))))))))
  by_cases h48 : x39.xKey ≠ p1.xKey
  refine Wp.cond1 rfl (decide_eq_true h48) (Wp.region (Mv rfl rfl (WL.val (v := .agg (PairD.cells x39).toArray) rfl (Yl.load rfl (Lds.agg (cs := (PairD.cells x39)) Try.isAgg32 Try.sizeOf32 ((H46.cls (i := 0) rfl).lit (k := 0) (m := 2) rfl))) ?_)))
  refine WL.do rfl (Do.newRow (cs := (PairD.cells x39)) (t := 32) (sz := 2) (m := 1) H46 rfl rfl (fun _ => by kernel_rfl) rfl (by decide) ?_)
  intro A49 w50 H51
  replace H51 : Own w D w50 [row A49 1 1 (List.flatMap PairD.cells ([x39])) 32 2, blk g42 (PairD.cells x39) 32, blk g21 (PairD.cells p1) 32, row A25 l27.length c26 (List.flatMap PairD.cells l27) 32 2] := H51
  have H52 := H51.pick [3, 0, 1, 2] (by decide) rfl
  refine WL.do rfl (Do.appendW (k := l27.length) (m := 1) (El27) H52 rfl rfl (src_of Try.underlying27 (H52.rds (i := 1) rfl) (flat_one PairD.one ([x39]))) rfl (by omega) (s := List.length (l27 ++ [x39])) (by first | omega | (simp only [List.length_append, List.length_cons, List.length_nil] <;> omega)) (List.flatMap_append).symm ?_)
  intro A53 c54 w55 H56
  have hl57 : List.length (l27 ++ [x39]) = l27.length + 1 := by simp only [List.length_append, List.length_cons, List.length_nil]
  refine As rfl rfl (WL.nil (Fin.blockN (Fin.then (Wp.region (WL.val (v := .int .i64 ((k29 + 1 : Nat) : Int)) rfl (Yl.int (e := IntKind.i64.wrap (((k29 : Nat) : Int) + 1)) (Yl.kern rfl rfl (fun _ => by kernel_rfl)) (by rw [IntWalk.i64_in _ (by omega)]; omega)) (Mv rfl rfl (WL.nil ?_)))))))
  have H58 := H56.pick [3, 0] (by decide) rfl
  exact Fin.round (A53, c54, (l27 ++ [x39]), b28, k29 + 1) ⟨rfl, rfl, rfl, rfl, rfl, rfl, rfl, trivial⟩ ⟨H58, (show (k29 + 1) ≤ l0.length ∧ List.length (l27 ++ [x39]) ≤ (k29 + 1) + Bool.toNat b28 ∧ r04_put_L0 p1 l0 ([]) false = r04_put_L0 p1 (List.drop (k29 + 1) l0) (l27 ++ [x39]) b28 from ⟨by omega, by omega, Eq.trans (hq35) (Eq.trans (congrArg (fun q => r04_put_L0 p1 q l27 b28) hd41) (Eq.trans (if_pos h47) (if_pos h48)))⟩)⟩ (by show l0.length - (k29 + 1) < l0.length - k29; omega)
  refine Wp.cond0 rfl (decide_eq_false h48) (Wp.skip (Fin.blockN (Fin.then (Wp.region (WL.val (v := .int .i64 ((k29 + 1 : Nat) : Int)) rfl (Yl.int (e := IntKind.i64.wrap (((k29 : Nat) : Int) + 1)) (Yl.kern rfl rfl (fun _ => by kernel_rfl)) (by rw [IntWalk.i64_in _ (by omega)]; omega)) (Mv rfl rfl (WL.nil ?_)))))))
  have H59 := H46.pick [1, 2] (by decide) rfl
  exact Fin.round (A25, c26, l27, b28, k29 + 1) ⟨rfl, rfl, rfl, rfl, rfl, rfl, rfl, trivial⟩ ⟨H59, (show (k29 + 1) ≤ l0.length ∧ l27.length ≤ (k29 + 1) + Bool.toNat b28 ∧ r04_put_L0 p1 l0 ([]) false = r04_put_L0 p1 (List.drop (k29 + 1) l0) l27 b28 from ⟨by omega, by omega, Eq.trans (hq35) (Eq.trans (congrArg (fun q => r04_put_L0 p1 q l27 b28) hd41) (Eq.trans (if_pos h47) (if_neg h48)))⟩)⟩ (by show l0.length - (k29 + 1) < l0.length - k29; omega)
  have h47t : Bool.toNat b28 = 0 := by rw [h47]; rfl
  refine WL.valG (v := .pointer (some ⟨g42, 0, none⟩)) rfl rfl (congrArg not h47) rfl (Yl.kern rfl rfl (fun _ => by kernel_rfl)) (WL.valG (v := .string ⟨List.toArray x39.xKey⟩) rfl rfl (congrArg not h47) rfl (Yl.load rfl (Lds.one Try.isAgg9 (Cls.of (H46.cls (i := 0) rfl) rfl))) (WL.valG (v := .pointer (some ⟨g21, 0, none⟩)) rfl rfl (congrArg not h47) rfl (Yl.kern rfl rfl (fun _ => by kernel_rfl)) (WL.valG (v := .string ⟨List.toArray p1.xKey⟩) rfl rfl (congrArg not h47) rfl (Yl.load rfl (Lds.one Try.isAgg9 (Cls.of (H46.cls (i := 1) rfl) rfl))) (WL.valG (v := .bool (decide (p1.xKey ≤ x39.xKey))) rfl rfl (congrArg not h47) rfl (Yl.bool (e := !(Op.bytesLess x39.xKey p1.xKey)) (Yl.strGe rfl rfl) (bl_ge _ _)) (WL.val (v := .bool (decide (p1.xKey ≤ x39.xKey))) rfl (Yl.pickT rfl (congrArg not h47) rfl) (WL.nil (Fin.then ?_)))))))
  by_cases h60 : p1.xKey ≤ x39.xKey
  refine Wp.cond1 rfl (decide_eq_true h60) (Wp.seq (Wp.region (Mv rfl rfl (WL.val (v := .agg (PairD.cells p1).toArray) rfl (Yl.load rfl (Lds.agg (cs := (PairD.cells p1)) Try.isAgg32 Try.sizeOf32 ((H46.cls (i := 1) rfl).lit (k := 0) (m := 2) rfl))) ?_))))
  refine WL.do rfl (Do.newRow (cs := (PairD.cells p1)) (t := 32) (sz := 2) (m := 1) H46 rfl rfl (fun _ => by kernel_rfl) rfl (by decide) ?_)
  intro A61 w62 H63
  replace H63 : Own w D w62 [row A61 1 1 (List.flatMap PairD.cells ([p1])) 32 2, blk g42 (PairD.cells x39) 32, blk g21 (PairD.cells p1) 32, row A25 l27.length c26 (List.flatMap PairD.cells l27) 32 2] := H63
  have H64 := H63.pick [3, 0, 1, 2] (by decide) rfl
  refine WL.do rfl (Do.appendW (k := l27.length) (m := 1) (El27) H64 rfl rfl (src_of Try.underlying27 (H64.rds (i := 1) rfl) (flat_one PairD.one ([p1]))) rfl (by omega) (s := List.length (l27 ++ [p1])) (by first | omega | (simp only [List.length_append, List.length_cons, List.length_nil] <;> omega)) (List.flatMap_append).symm ?_)
  intro A65 c66 w67 H68
  have hl69 : List.length (l27 ++ [p1]) = l27.length + 1 := by simp only [List.length_append, List.length_cons, List.length_nil]
  refine As rfl rfl (WL.nil (Fin.then (Wp.region (As rfl rfl (WL.nil (Fin.then (Wp.seq (Wp.region (Kn (v := .pointer (some ⟨g42, 0, none⟩)) rfl rfl rfl (fun _ => by kernel_rfl) (WL.val (v := .string ⟨List.toArray x39.xKey⟩) rfl (Yl.load rfl (Lds.one Try.isAgg9 (Cls.of (H68.cls (i := 2) rfl) rfl))) (Kn (v := .pointer (some ⟨g21, 0, none⟩)) rfl rfl rfl (fun _ => by kernel_rfl) (WL.val (v := .string ⟨List.toArray p1.xKey⟩) rfl (Yl.load rfl (Lds.one Try.isAgg9 (Cls.of (H68.cls (i := 3) rfl) rfl))) (WL.val (v := .bool (decide (x39.xKey ≠ p1.xKey))) rfl (Yl.strNe rfl rfl) (WL.nil (Fin.then ?_)))))))))))))))
  by_cases h70 : x39.xKey ≠ p1.xKey
  refine Wp.cond1 rfl (decide_eq_true h70) (Wp.region (Mv rfl rfl (WL.val (v := .agg (PairD.cells x39).toArray) rfl (Yl.load rfl (Lds.agg (cs := (PairD.cells x39)) Try.isAgg32 Try.sizeOf32 ((H68.cls (i := 2) rfl).lit (k := 0) (m := 2) rfl))) ?_)))
  refine WL.do rfl (Do.newRow (cs := (PairD.cells x39)) (t := 32) (sz := 2) (m := 1) H68 rfl rfl (fun _ => by kernel_rfl) rfl (by decide) ?_)
  intro A71 w72 H73
  replace H73 : Own w D w72 [row A71 1 1 (List.flatMap PairD.cells ([x39])) 32 2, row A65 (List.length (l27 ++ [p1])) c66 (List.flatMap PairD.cells (l27 ++ [p1])) 32 2, row A61 1 1 (List.flatMap PairD.cells ([p1])) 32 2, blk g42 (PairD.cells x39) 32, blk g21 (PairD.cells p1) 32] := H73
  have H74 := H73.pick [1, 0, 2, 3, 4] (by decide) rfl
  refine WL.do rfl (Do.appendW (k := List.length (l27 ++ [p1])) (m := 1) (El27) H74 rfl rfl (src_of Try.underlying27 (H74.rds (i := 1) rfl) (flat_one PairD.one ([x39]))) rfl (by omega) (s := List.length ((l27 ++ [p1]) ++ [x39])) (by first | omega | (simp only [List.length_append, List.length_cons, List.length_nil] <;> omega)) (List.flatMap_append).symm ?_)
  intro A75 c76 w77 H78
  have hl79 : List.length ((l27 ++ [p1]) ++ [x39]) = (List.length (l27 ++ [p1])) + 1 := by simp only [List.length_append, List.length_cons, List.length_nil]
  refine As rfl rfl (WL.nil (Fin.blockN (Fin.then (Wp.region (WL.val (v := .int .i64 ((k29 + 1 : Nat) : Int)) rfl (Yl.int (e := IntKind.i64.wrap (((k29 : Nat) : Int) + 1)) (Yl.kern rfl rfl (fun _ => by kernel_rfl)) (by rw [IntWalk.i64_in _ (by omega)]; omega)) (Mv rfl rfl (WL.nil ?_)))))))
  have H80 := H78.pick [4, 0] (by decide) rfl
  exact Fin.round (A75, c76, ((l27 ++ [p1]) ++ [x39]), true, k29 + 1) ⟨rfl, rfl, rfl, rfl, rfl, rfl, rfl, trivial⟩ ⟨H80, (show (k29 + 1) ≤ l0.length ∧ List.length ((l27 ++ [p1]) ++ [x39]) ≤ (k29 + 1) + 1 ∧ r04_put_L0 p1 l0 ([]) false = r04_put_L0 p1 (List.drop (k29 + 1) l0) ((l27 ++ [p1]) ++ [x39]) true from ⟨by omega, by omega, Eq.trans (hq35) (Eq.trans (congrArg (fun q => r04_put_L0 p1 q l27 b28) hd41) (Eq.trans (ifF h47) (Eq.trans (if_pos h60) (if_pos h70))))⟩)⟩ (by show l0.length - (k29 + 1) < l0.length - k29; omega)
  refine Wp.cond0 rfl (decide_eq_false h70) (Wp.skip (Fin.blockN (Fin.then (Wp.region (WL.val (v := .int .i64 ((k29 + 1 : Nat) : Int)) rfl (Yl.int (e := IntKind.i64.wrap (((k29 : Nat) : Int) + 1)) (Yl.kern rfl rfl (fun _ => by kernel_rfl)) (by rw [IntWalk.i64_in _ (by omega)]; omega)) (Mv rfl rfl (WL.nil ?_)))))))
  have H81 := H68.pick [3, 0] (by decide) rfl
  exact Fin.round (A65, c66, (l27 ++ [p1]), true, k29 + 1) ⟨rfl, rfl, rfl, rfl, rfl, rfl, rfl, trivial⟩ ⟨H81, (show (k29 + 1) ≤ l0.length ∧ List.length (l27 ++ [p1]) ≤ (k29 + 1) + 1 ∧ r04_put_L0 p1 l0 ([]) false = r04_put_L0 p1 (List.drop (k29 + 1) l0) (l27 ++ [p1]) true from ⟨by omega, by omega, Eq.trans (hq35) (Eq.trans (congrArg (fun q => r04_put_L0 p1 q l27 b28) hd41) (Eq.trans (ifF h47) (Eq.trans (if_pos h60) (if_neg h70))))⟩)⟩ (by show l0.length - (k29 + 1) < l0.length - k29; omega)
  refine Wp.cond0 rfl (decide_eq_false h60) (Wp.skip (Fin.then (Wp.seq (Wp.region (Kn (v := .pointer (some ⟨g42, 0, none⟩)) rfl rfl rfl (fun _ => by kernel_rfl) (WL.val (v := .string ⟨List.toArray x39.xKey⟩) rfl (Yl.load rfl (Lds.one Try.isAgg9 (Cls.of (H46.cls (i := 0) rfl) rfl))) (Kn (v := .pointer (some ⟨g21, 0, none⟩)) rfl rfl rfl (fun _ => by kernel_rfl) (WL.val (v := .string ⟨List.toArray p1.xKey⟩) rfl (Yl.load rfl (Lds.one Try.isAgg9 (Cls.of (H46.cls (i := 1) rfl) rfl))) (WL.val (v := .bool (decide (x39.xKey ≠ p1.xKey))) rfl (Yl.strNe rfl rfl) (WL.nil (Fin.then ?_)))))))))))
  by_cases h82 : x39.xKey ≠ p1.xKey
  refine Wp.cond1 rfl (decide_eq_true h82) (Wp.region (Mv rfl rfl (WL.val (v := .agg (PairD.cells x39).toArray) rfl (Yl.load rfl (Lds.agg (cs := (PairD.cells x39)) Try.isAgg32 Try.sizeOf32 ((H46.cls (i := 0) rfl).lit (k := 0) (m := 2) rfl))) ?_)))
  refine WL.do rfl (Do.newRow (cs := (PairD.cells x39)) (t := 32) (sz := 2) (m := 1) H46 rfl rfl (fun _ => by kernel_rfl) rfl (by decide) ?_)
  intro A83 w84 H85
  replace H85 : Own w D w84 [row A83 1 1 (List.flatMap PairD.cells ([x39])) 32 2, blk g42 (PairD.cells x39) 32, blk g21 (PairD.cells p1) 32, row A25 l27.length c26 (List.flatMap PairD.cells l27) 32 2] := H85
  have H86 := H85.pick [3, 0, 1, 2] (by decide) rfl
  refine WL.do rfl (Do.appendW (k := l27.length) (m := 1) (El27) H86 rfl rfl (src_of Try.underlying27 (H86.rds (i := 1) rfl) (flat_one PairD.one ([x39]))) rfl (by omega) (s := List.length (l27 ++ [x39])) (by first | omega | (simp only [List.length_append, List.length_cons, List.length_nil] <;> omega)) (List.flatMap_append).symm ?_)
  intro A87 c88 w89 H90
  have hl91 : List.length (l27 ++ [x39]) = l27.length + 1 := by simp only [List.length_append, List.length_cons, List.length_nil]
  refine As rfl rfl (WL.nil (Fin.blockN (Fin.then (Wp.region (WL.val (v := .int .i64 ((k29 + 1 : Nat) : Int)) rfl (Yl.int (e := IntKind.i64.wrap (((k29 : Nat) : Int) + 1)) (Yl.kern rfl rfl (fun _ => by kernel_rfl)) (by rw [IntWalk.i64_in _ (by omega)]; omega)) (Mv rfl rfl (WL.nil ?_)))))))
  have H92 := H90.pick [3, 0] (by decide) rfl
  exact Fin.round (A87, c88, (l27 ++ [x39]), b28, k29 + 1) ⟨rfl, rfl, rfl, rfl, rfl, rfl, rfl, trivial⟩ ⟨H92, (show (k29 + 1) ≤ l0.length ∧ List.length (l27 ++ [x39]) ≤ (k29 + 1) + Bool.toNat b28 ∧ r04_put_L0 p1 l0 ([]) false = r04_put_L0 p1 (List.drop (k29 + 1) l0) (l27 ++ [x39]) b28 from ⟨by omega, by omega, Eq.trans (hq35) (Eq.trans (congrArg (fun q => r04_put_L0 p1 q l27 b28) hd41) (Eq.trans (ifF h47) (Eq.trans (if_neg h60) (if_pos h82))))⟩)⟩ (by show l0.length - (k29 + 1) < l0.length - k29; omega)
  refine Wp.cond0 rfl (decide_eq_false h82) (Wp.skip (Fin.blockN (Fin.then (Wp.region (WL.val (v := .int .i64 ((k29 + 1 : Nat) : Int)) rfl (Yl.int (e := IntKind.i64.wrap (((k29 : Nat) : Int) + 1)) (Yl.kern rfl rfl (fun _ => by kernel_rfl)) (by rw [IntWalk.i64_in _ (by omega)]; omega)) (Mv rfl rfl (WL.nil ?_)))))))
  have H93 := H46.pick [1, 2] (by decide) rfl
  exact Fin.round (A25, c26, l27, b28, k29 + 1) ⟨rfl, rfl, rfl, rfl, rfl, rfl, rfl, trivial⟩ ⟨H93, (show (k29 + 1) ≤ l0.length ∧ l27.length ≤ (k29 + 1) + Bool.toNat b28 ∧ r04_put_L0 p1 l0 ([]) false = r04_put_L0 p1 (List.drop (k29 + 1) l0) l27 b28 from ⟨by omega, by omega, Eq.trans (hq35) (Eq.trans (congrArg (fun q => r04_put_L0 p1 q l27 b28) hd41) (Eq.trans (ifF h47) (Eq.trans (if_neg h60) (if_neg h82))))⟩)⟩ (by show l0.length - (k29 + 1) < l0.length - k29; omega)
  refine Wp.cond0 rfl (decide_eq_false h38) (Wp.exit (Fin.thenX ?_))
  have hL94 : r04_put_L0 p1 l0 ([]) false = (l27, b28) := Eq.trans (hq35) (Eq.trans (congrArg (fun q => r04_put_L0 p1 q l27 b28) (drop_end (ls := l0) (i := k29) (by omega))) rfl)
  refine Fin.thenX (Fin.blockX (Fin.then (Wp.seq (Wp.seq (Wp.region (Mv rfl rfl (Kn (v := .bool (!b28)) rfl rfl rfl (fun _ => by kernel_rfl) (WL.nil (Fin.then ?_)))))))))
  rcases Bool.eq_false_or_eq_true (b28) with h95 | h95
  have h95t : Bool.toNat b28 = 1 := by rw [h95]; rfl
  refine Wp.cond0 rfl (congrArg not h95) (Wp.skip (Fin.then (Wp.seq ?_)))
  have H96 := H33.pick [1] (by decide) rfl
  refine Wp.region (Mv rfl rfl (As rfl rfl (WL.nil (Fin.then (Wp.ret (Fin.res (res1 rfl rfl) ?_))))))
  have H97 := H96.pick [0] (by decide) rfl
  have e : r04_put l0 p1 = l27 := Eq.trans (bnd_of hL94) (if_pos h95)
  obtain rfl := e.symm.trans hr
  exact ⟨A25, c26, rfl, H97, (by omega)⟩
  have h95t : Bool.toNat b28 = 0 := by rw [h95]; rfl
  refine Wp.cond1 rfl (congrArg not h95) (Wp.region (Mv rfl rfl (WL.val (v := .agg (PairD.cells p1).toArray) rfl (Yl.load rfl (Lds.agg (cs := (PairD.cells p1)) Try.isAgg32 Try.sizeOf32 ((H33.cls (i := 0) rfl).lit (k := 0) (m := 2) rfl))) ?_)))
  refine WL.do rfl (Do.newRow (cs := (PairD.cells p1)) (t := 32) (sz := 2) (m := 1) H33 rfl rfl (fun _ => by kernel_rfl) rfl (by decide) ?_)
  intro A98 w99 H100
  replace H100 : Own w D w99 [row A98 1 1 (List.flatMap PairD.cells ([p1])) 32 2, blk g21 (PairD.cells p1) 32, row A25 l27.length c26 (List.flatMap PairD.cells l27) 32 2] := H100
  have H101 := H100.pick [2, 0, 1] (by decide) rfl
  refine WL.do rfl (Do.appendW (k := l27.length) (m := 1) (El27) H101 rfl rfl (src_of Try.underlying27 (H101.rds (i := 1) rfl) (flat_one PairD.one ([p1]))) rfl (by omega) (s := List.length (l27 ++ [p1])) (by first | omega | (simp only [List.length_append, List.length_cons, List.length_nil] <;> omega)) (List.flatMap_append).symm ?_)
  intro A102 c103 w104 H105
  have hl106 : List.length (l27 ++ [p1]) = l27.length + 1 := by simp only [List.length_append, List.length_cons, List.length_nil]
  refine As rfl rfl (WL.nil (Fin.then (Wp.seq ?_)))
  have H107 := H105.pick [0] (by decide) rfl
  refine Wp.region (Mv rfl rfl (As rfl rfl (WL.nil (Fin.then (Wp.ret (Fin.res (res1 rfl rfl) ?_))))))
  have H108 := H107.pick [0] (by decide) rfl
  have e : r04_put l0 p1 = (l27 ++ [p1]) := Eq.trans (bnd_of hL94) (ifF h95)
  obtain rfl := e.symm.trans hr
  exact ⟨A102, c103, rfl, H108, (by omega)⟩

def r04_Within_L0 (p1 : RangeD) (p2 : Int) : List PairD → List PairD → (List PairD)
  | [], l27 => l27
  | x38 :: q29, l27 => bnd (r02_Has p1 x38.xKey) fun yr51 => if yr51 = true then if p2 < 0 then r04_Within_L0 p1 p2 q29 (l27 ++ [x38]) else if ((l27.length : Nat) : Int) < p2 then r04_Within_L0 p1 p2 q29 (l27 ++ [x38]) else r04_Within_L0 p1 p2 q29 l27 else r04_Within_L0 p1 p2 q29 l27

def r04_Within (l0 : List PairD) (p1 : RangeD) (p2 : Int) : (List PairD) :=
  bnd (r04_Within_L0 p1 p2 l0 ([])) fun sLrL => sLrL

set_option maxRecDepth 100000 in
theorem r04_Within_ok (w : World) (D : Nat → Prop) (A0 : Option Addr) (n0 c0 : Nat) (l0 : List PairD) (p1 : RangeD) (p2 : Int) (r0 : List PairD) (H : Own w D w []) (hx0 : Ro w D fun w' => Rds w' 2 A0 n0 (List.flatMap PairD.cells l0)) (hn0 : n0 = l0.length) (hl0 : l0.length * 32 ≤ 211106232532992) (hr : r04_Within l0 p1 p2 = r0) :
    Calls Try.prog 47 #[.slice A0 n0 c0, .agg (RangeD.cells p1).toArray, .int .i64 p2] w (Ret fun v w' => ∃ (B0 : Option Addr) (b0 : Nat), v = .slice B0 r0.length b0 ∧ Own w D w' [row B0 r0.length b0 (List.flatMap PairD.cells r0) 32 2]) := by
  subst hn0
  refine Calls.body (args := [.slice A0 l0.length c0, .agg (RangeD.cells p1).toArray, .int .i64 p2]) Try.func47 rfl rfl rfl ?_
  show Wp _ _ _ [(0, .slice A0 l0.length c0), (1, .agg (RangeD.cells p1).toArray), (2, .int .i64 p2)] _ _
  refine Wp.seq (Wp.region ?_)
  refine WL.do rfl (Do.newP (cs := (RangeD.cells p1)) (t := 46) H rfl rfl (fun _ => by kernel_rfl) ?_)
  intro g21 w22 H23
  refine As rfl rfl (WL.nil (Fin.then (Wp.seq (Wp.region (As rfl rfl (WL.nil (Fin.then (Wp.seq (Wp.seq (Wp.region (Mv rfl rfl (Kn (v := .int .i64 ((l0.length : Nat) : Int)) rfl rfl rfl (fun _ => by kernel_rfl) (Mv rfl rfl (WL.nil (Fin.then (Wp.block ?_))))))))))))))))
  have H24 : Own w D w22 [row none 0 0 (List.flatMap PairD.cells ([])) 32 2, blk g21 (RangeD.cells p1) 46] := H23.free (row_nil 32 2)
  have H30 := H24.pick [1, 0] (by decide) rfl
  refine Wp.loop (ι := (Option Addr) × Nat × (List PairD) × Nat) (fun i => [(7, .slice i.1 i.2.2.1.length i.2.1), (12, .int .i64 ((i.2.2.2 : Nat) : Int)), (11, .int .i64 ((l0.length : Nat) : Int)), (10, .slice A0 l0.length c0), (6, .slice none 0 0), (4, .pointer (some ⟨g21, 0, none⟩)), (2, .int .i64 p2)]) (fun (i : (Option Addr) × Nat × (List PairD) × Nat) w' => Own w D w' [blk g21 (RangeD.cells p1) 46, row i.1 i.2.2.1.length i.2.1 (List.flatMap PairD.cells i.2.2.1) 32 2] ∧ (i.2.2.2 ≤ l0.length ∧ i.2.2.1.length ≤ i.2.2.2 ∧ r04_Within_L0 p1 p2 l0 ([]) = r04_Within_L0 p1 p2 (List.drop i.2.2.2 l0) i.2.2.1)) (fun i => l0.length - i.2.2.2) (none, 0, [], 0) ⟨rfl, rfl, rfl, rfl, rfl, rfl, rfl, trivial⟩ ⟨H30, (show 0 ≤ l0.length ∧ 0 ≤ 0 ∧ r04_Within_L0 p1 p2 l0 ([]) = r04_Within_L0 p1 p2 (List.drop 0 l0) ([]) from ⟨by omega, by omega, rfl⟩)⟩ ?_
  rintro ⟨A25, c26, l27, k28⟩ w31 ⟨H32, hf33⟩
  show Wp _ _ _ [(7, .slice A25 l27.length c26), (12, .int .i64 ((k28 : Nat) : Int)), (11, .int .i64 ((l0.length : Nat) : Int)), (10, .slice A0 l0.length c0), (6, .slice none 0 0), (4, .pointer (some ⟨g21, 0, none⟩)), (2, .int .i64 p2)] _ _
  replace H32 : Own w D w31 [blk g21 (RangeD.cells p1) 46, row A25 l27.length c26 (List.flatMap PairD.cells l27) 32 2] := H32
  replace hf33 : k28 ≤ l0.length ∧ l27.length ≤ k28 ∧ r04_Within_L0 p1 p2 l0 ([]) = r04_Within_L0 p1 p2 (List.drop k28 l0) l27 := hf33
  obtain ⟨hi35, hi36, hq34⟩ := hf33
  refine Wp.seq (Wp.region (Kn (v := .bool (decide (((k28 : Nat) : Int) < ((l0.length : Nat) : Int)))) rfl rfl rfl (fun _ => by kernel_rfl) (WL.nil (Fin.then (Wp.seq ?_)))))
  by_cases h37 : ((k28 : Nat) : Int) < ((l0.length : Nat) : Int)
  obtain ⟨x38, hx39⟩ := rds_at (ls := l0) (i := k28) PairD.len (by decide) (H32.ro hx0) (by first | omega | (simp; done) | (simp; omega))
  have hd40 := drop_at hx39
  refine Wp.cond1 rfl (decide_eq_true h37) (Wp.skip (Fin.then (Wp.seq (Wp.block (Wp.seq (Wp.region (WL.val (v := .pointer (some ⟨ab A0, ao A0 + k28 * 2, none⟩)) rfl (Yl.indexAddr (El27) rfl rfl ((H32.ro hx0).addr (i := k28) (by omega)) (by omega)) (WL.val (v := .agg (PairD.cells x38).toArray) rfl (Yl.load rfl (Lds.agg (cs := (PairD.cells x38)) Try.isAgg32 Try.sizeOf32 ((H32.ro hx0).elem PairD.len hx39 (by decide)))) ?_))))))))
  refine WL.do rfl (Do.newP (cs := [.string ⟨List.toArray ([])⟩, .string ⟨List.toArray ([])⟩]) (t := 32) H32 rfl rfl (fun _ => by kernel_rfl) ?_)
  intro g41 w42 H43
  refine WL.do0 (Do.store (vs := (PairD.cells x38)) (o := 0) H43 rfl rfl Try.sizeOf32 rfl rfl rfl rfl ?_)
  intro w44 H45
  refine WL.nil (Fin.then (Wp.seq (Wp.region (WL.val (v := .agg (RangeD.cells p1).toArray) rfl (Yl.load rfl (Lds.agg (cs := (RangeD.cells p1)) Try.isAgg46 Try.sizeOf46 ((H45.cls (i := 1) rfl).lit (k := 0) (m := 2) rfl))) (Kn (v := .pointer (some ⟨g41, 0, none⟩)) rfl rfl rfl (fun _ => by kernel_rfl) (WL.val (v := .string ⟨List.toArray x38.xKey⟩) rfl (Yl.load rfl (Lds.one Try.isAgg9 (Cls.of (H45.cls (i := 0) rfl) rfl))) ?_))))))
  obtain ⟨r51, hr52⟩ : ∃ q, r02_Has p1 x38.xKey = q := ⟨_, rfl⟩
  obtain ⟨D46, HP47, ro48, bk49, rr50⟩ := Own.enter0 H45
  refine WL.do rfl (Do.call Try.call52 rfl (r02_Has_ok _ _ p1 x38.xKey r51 HP47 hr52) ?_)
  rintro _ w53 ⟨rfl, HQ54⟩
  have H55 := bk49 _ _ HQ54
  refine Mv rfl rfl ?_
  rcases Bool.eq_false_or_eq_true (r51) with h56 | h56
  refine WL.valG (v := .int .i64 p2) rfl rfl h56 rfl (Yl.move rfl) (WL.valG (v := .bool (decide (p2 < 0))) rfl rfl h56 rfl (Yl.kern rfl rfl (fun _ => by kernel_rfl)) (WL.valG (v := .bool (decide (p2 < 0))) rfl rfl h56 rfl (Yl.move rfl) ?_))
  by_cases h57 : p2 < 0
  refine Sk rfl rfl (decide_eq_true h57) rfl (Sk rfl rfl (decide_eq_true h57) rfl (Sk rfl rfl (decide_eq_true h57) rfl (Sk rfl rfl (decide_eq_true h57) rfl (WL.valG (v := .bool true) rfl rfl h56 rfl (Yl.pickT rfl (decide_eq_true h57) rfl) (WL.val (v := .bool true) rfl (Yl.pickT rfl h56 rfl) (WL.nil (Fin.then (Wp.cond1 rfl rfl (Wp.region (Mv rfl rfl (WL.val (v := .agg (PairD.cells x38).toArray) rfl (Yl.load rfl (Lds.agg (cs := (PairD.cells x38)) Try.isAgg32 Try.sizeOf32 ((H55.cls (i := 0) rfl).lit (k := 0) (m := 2) rfl))) ?_)))))))))))
  refine WL.do rfl (Do.newRow (cs := (PairD.cells x38)) (t := 32) (sz := 2) (m := 1) H55 rfl rfl (fun _ => by kernel_rfl) rfl (by decide) ?_)
  intro A58 w59 H60
  replace H60 : Own w D w59 [row A58 1 1 (List.flatMap PairD.cells ([x38])) 32 2, blk g41 (PairD.cells x38) 32, blk g21 (RangeD.cells p1) 46, row A25 l27.length c26 (List.flatMap PairD.cells l27) 32 2] := H60
  have H61 := H60.pick [3, 0, 1, 2] (by decide) rfl
  refine WL.do rfl (Do.appendW (k := l27.length) (m := 1) (El27) H61 rfl rfl (src_of Try.underlying27 (H61.rds (i := 1) rfl) (flat_one PairD.one ([x38]))) rfl (by omega) (s := List.length (l27 ++ [x38])) (by first | omega | (simp only [List.length_append, List.length_cons, List.length_nil] <;> omega)) (List.flatMap_append).symm ?_)
  intro A62 c63 w64 H65
  have hl66 : List.length (l27 ++ [x38]) = l27.length + 1 := by simp only [List.length_append, List.length_cons, List.length_nil]
  refine As rfl rfl (WL.nil (Fin.blockN (Fin.then (Wp.region (WL.val (v := .int .i64 ((k28 + 1 : Nat) : Int)) rfl (Yl.int (e := IntKind.i64.wrap (((k28 : Nat) : Int) + 1)) (Yl.kern rfl rfl (fun _ => by kernel_rfl)) (by rw [IntWalk.i64_in _ (by omega)]; omega)) (Mv rfl rfl (WL.nil ?_)))))))
  have H67 := H65.pick [3, 0] (by decide) rfl
  exact Fin.round (A62, c63, (l27 ++ [x38]), k28 + 1) ⟨rfl, rfl, rfl, rfl, rfl, rfl, rfl, trivial⟩ ⟨H67, (show (k28 + 1) ≤ l0.length ∧ List.length (l27 ++ [x38]) ≤ (k28 + 1) ∧ r04_Within_L0 p1 p2 l0 ([]) = r04_Within_L0 p1 p2 (List.drop (k28 + 1) l0) (l27 ++ [x38]) from ⟨by omega, by omega, Eq.trans (hq34) (Eq.trans (congrArg (fun q => r04_Within_L0 p1 p2 q l27) hd40) (Eq.trans (bnd_of hr52) (Eq.trans (if_pos h56) (if_pos h57))))⟩)⟩ (by show l0.length - (k28 + 1) < l0.length - k28; omega)
  refine WL.valG (v := .slice A25 l27.length c26) rfl rfl (decide_eq_false h57) rfl (Yl.move rfl) (WL.valG (v := .int .i64 ((l27.length : Nat) : Int)) rfl rfl (decide_eq_false h57) rfl (Yl.kern rfl rfl (fun _ => by kernel_rfl)) (WL.valG (v := .int .i64 p2) rfl rfl (decide_eq_false h57) rfl (Yl.move rfl) (WL.valG (v := .bool (decide (((l27.length : Nat) : Int) < p2))) rfl rfl (decide_eq_false h57) rfl (Yl.kern rfl rfl (fun _ => by kernel_rfl)) (WL.valG (v := .bool (decide (((l27.length : Nat) : Int) < p2))) rfl rfl h56 rfl (Yl.pickF rfl (decide_eq_false h57) rfl) (WL.val (v := .bool (decide (((l27.length : Nat) : Int) < p2))) rfl (Yl.pickT rfl h56 rfl) (WL.nil (Fin.then ?_)))))))
  by_cases h68 : ((l27.length : Nat) : Int) < p2
  refine Wp.cond1 rfl (decide_eq_true h68) (Wp.region (Mv rfl rfl (WL.val (v := .agg (PairD.cells x38).toArray) rfl (Yl.load rfl (Lds.agg (cs := (PairD.cells x38)) Try.isAgg32 Try.sizeOf32 ((H55.cls (i := 0) rfl).lit (k := 0) (m := 2) rfl))) ?_)))
  refine WL.do rfl (Do.newRow (cs := (PairD.cells x38)) (t := 32) (sz := 2) (m := 1) H55 rfl rfl (fun _ => by kernel_rfl) rfl (by decide) ?_)
  intro A69 w70 H71
  replace H71 : Own w D w70 [row A69 1 1 (List.flatMap PairD.cells ([x38])) 32 2, blk g41 (PairD.cells x38) 32, blk g21 (RangeD.cells p1) 46, row A25 l27.length c26 (List.flatMap PairD.cells l27) 32 2] := H71
  have H72 := H71.pick [3, 0, 1, 2] (by decide) rfl
  refine WL.do rfl (Do.appendW (k := l27.length) (m := 1) (El27) H72 rfl rfl (src_of Try.underlying27 (H72.rds (i := 1) rfl) (flat_one PairD.one ([x38]))) rfl (by omega) (s := List.length (l27 ++ [x38])) (by first | omega | (simp only [List.length_append, List.length_cons, List.length_nil] <;> omega)) (List.flatMap_append).symm ?_)
  intro A73 c74 w75 H76
  have hl77 : List.length (l27 ++ [x38]) = l27.length + 1 := by simp only [List.length_append, List.length_cons, List.length_nil]
  refine As rfl rfl (WL.nil (Fin.blockN (Fin.then (Wp.region (WL.val (v := .int .i64 ((k28 + 1 : Nat) : Int)) rfl (Yl.int (e := IntKind.i64.wrap (((k28 : Nat) : Int) + 1)) (Yl.kern rfl rfl (fun _ => by kernel_rfl)) (by rw [IntWalk.i64_in _ (by omega)]; omega)) (Mv rfl rfl (WL.nil ?_)))))))
  have H78 := H76.pick [3, 0] (by decide) rfl
  exact Fin.round (A73, c74, (l27 ++ [x38]), k28 + 1) ⟨rfl, rfl, rfl, rfl, rfl, rfl, rfl, trivial⟩ ⟨H78, (show (k28 + 1) ≤ l0.length ∧ List.length (l27 ++ [x38]) ≤ (k28 + 1) ∧ r04_Within_L0 p1 p2 l0 ([]) = r04_Within_L0 p1 p2 (List.drop (k28 + 1) l0) (l27 ++ [x38]) from ⟨by omega, by omega, Eq.trans (hq34) (Eq.trans (congrArg (fun q => r04_Within_L0 p1 p2 q l27) hd40) (Eq.trans (bnd_of hr52) (Eq.trans (if_pos h56) (Eq.trans (if_neg h57) (if_pos h68)))))⟩)⟩ (by show l0.length - (k28 + 1) < l0.length - k28; omega)
  refine Wp.cond0 rfl (decide_eq_false h68) (Wp.skip (Fin.blockN (Fin.then (Wp.region (WL.val (v := .int .i64 ((k28 + 1 : Nat) : Int)) rfl (Yl.int (e := IntKind.i64.wrap (((k28 : Nat) : Int) + 1)) (Yl.kern rfl rfl (fun _ => by kernel_rfl)) (by rw [IntWalk.i64_in _ (by omega)]; omega)) (Mv rfl rfl (WL.nil ?_)))))))
  have H79 := H55.pick [1, 2] (by decide) rfl
  exact Fin.round (A25, c26, l27, k28 + 1) ⟨rfl, rfl, rfl, rfl, rfl, rfl, rfl, trivial⟩ ⟨H79, (show (k28 + 1) ≤ l0.length ∧ l27.length ≤ (k28 + 1) ∧ r04_Within_L0 p1 p2 l0 ([]) = r04_Within_L0 p1 p2 (List.drop (k28 + 1) l0) l27 from ⟨by omega, by omega, Eq.trans (hq34) (Eq.trans (congrArg (fun q => r04_Within_L0 p1 p2 q l27) hd40) (Eq.trans (bnd_of hr52) (Eq.trans (if_pos h56) (Eq.trans (if_neg h57) (if_neg h68)))))⟩)⟩ (by show l0.length - (k28 + 1) < l0.length - k28; omega)
  refine Sk rfl rfl h56 rfl (Sk rfl rfl h56 rfl (Sk rfl rfl h56 rfl (WL.skipU rfl rfl rfl (WL.skipU rfl rfl rfl (WL.skipU rfl rfl rfl (WL.skipU rfl rfl rfl (Sk rfl rfl h56 rfl (WL.val (v := .bool false) rfl (Yl.pickF rfl h56 rfl) (WL.nil (Fin.then (Wp.cond0 rfl rfl (Wp.skip (Fin.blockN (Fin.then (Wp.region (WL.val (v := .int .i64 ((k28 + 1 : Nat) : Int)) rfl (Yl.int (e := IntKind.i64.wrap (((k28 : Nat) : Int) + 1)) (Yl.kern rfl rfl (fun _ => by kernel_rfl)) (by rw [IntWalk.i64_in _ (by omega)]; omega)) (Mv rfl rfl (WL.nil ?_))))))))))))))))))
  have H80 := H55.pick [1, 2] (by decide) rfl
  exact Fin.round (A25, c26, l27, k28 + 1) ⟨rfl, rfl, rfl, rfl, rfl, rfl, rfl, trivial⟩ ⟨H80, (show (k28 + 1) ≤ l0.length ∧ l27.length ≤ (k28 + 1) ∧ r04_Within_L0 p1 p2 l0 ([]) = r04_Within_L0 p1 p2 (List.drop (k28 + 1) l0) l27 from ⟨by omega, by omega, Eq.trans (hq34) (Eq.trans (congrArg (fun q => r04_Within_L0 p1 p2 q l27) hd40) (Eq.trans (bnd_of hr52) (ifF h56)))⟩)⟩ (by show l0.length - (k28 + 1) < l0.length - k28; omega)
  refine Wp.cond0 rfl (decide_eq_false h37) (Wp.exit (Fin.thenX ?_))
  have hL81 : r04_Within_L0 p1 p2 l0 ([]) = l27 := Eq.trans (hq34) (Eq.trans (congrArg (fun q => r04_Within_L0 p1 p2 q l27) (drop_end (ls := l0) (i := k28) (by omega))) rfl)
  refine Fin.thenX (Fin.blockX (Fin.then (Wp.seq ?_)))
  have H82 := H32.pick [1] (by decide) rfl
  refine Wp.region (Mv rfl rfl (As rfl rfl (WL.nil (Fin.then (Wp.ret (Fin.res (res1 rfl rfl) ?_))))))
  have H83 := H82.pick [0] (by decide) rfl
  have e : r04_Within l0 p1 p2 = l27 := bnd_of hL81
  obtain rfl := e.symm.trans hr
  exact ⟨A25, c26, rfl, H83⟩
end Go.Proofs.Ytjcdgofegkngpaa
