/-
  tuple: the reference's contracts; same.
-/
import Derived.Test.YticaheijlapllaaTc
namespace Go.Proofs.Yticaheijlapllaa
open Go.RowKit
set_option linter.unusedVariables false
set_option linter.unusedSectionVars false

theorem esp_len (p : List UInt8) : List.length (esp p) ≤ 2 * List.length p := by
  induction p with
  | nil => simp [esp]
  | cons b p ih =>
    simp only [esp, List.flatMap_cons, List.length_append, List.length_cons] at ih ⊢
    have : List.length (esc b) ≤ 2 := by unfold esc; split <;> simp
    omega

set_option maxRecDepth 100000 in
theorem RJoin_ok (A : Option Addr) (c : Nat) (ls : List (List UInt8)) (w : World) (D : Nat → Prop) (H : Own w D w []) (hx : Ro w D fun w => Rds w 1 A (List.length ls) (List.flatMap eS ls)) (hs : ∀ p ∈ ls, List.length p ≤ 140737488351232) :
    Calls Try.prog 10 #[.slice A (List.length ls) c] w (Ret fun v w' => v = .tuple #[.string ⟨(jE ls).1.toArray⟩, .int .i64 (jE ls).2] ∧ Own w D w' []) := by
  refine Calls.body (args := [.slice A (List.length ls) c]) Try.func10 rfl rfl rfl ?_
  show Wp _ _ _ [(0, .slice A (List.length ls) c)] _ _
  refine Wp.seq ?_
  refine Wp.region ?_
  refine WL.val (v := .string ⟨List.toArray ([])⟩) rfl (Yl.assign rfl) ?_
  refine WL.val (v := .int .i64 0) rfl (Yl.assign rfl) ?_
  refine WL.nil ?_
  refine Fin.then ?_
  refine Wp.seq ?_
  refine Wp.seq ?_
  refine Wp.region ?_
  refine WL.val (v := .slice A (List.length ls) c) rfl (Yl.move rfl) ?_
  refine WL.val (v := .int .i64 ((List.length ls : Nat) : Int)) rfl (Yl.kern rfl rfl (fun _ => by kernel_rfl)) ?_
  refine WL.val (v := .bool (decide (((List.length ls : Nat) : Int) < 1))) rfl (Yl.kern rfl rfl (fun _ => by kernel_rfl)) ?_
  refine WL.val (v := .bool (decide (((List.length ls : Nat) : Int) < 1))) rfl (Yl.move rfl) ?_
  by_cases h1 : ((List.length ls : Nat) : Int) < 1
  · skip
    refine WL.skipG rfl rfl (decide_eq_true h1) rfl ?_
    refine WL.skipG rfl rfl (decide_eq_true h1) rfl ?_
    refine WL.skipG rfl rfl (decide_eq_true h1) rfl ?_
    refine WL.val (v := .bool true) rfl (Yl.pickT rfl (decide_eq_true h1) rfl) ?_
    refine WL.nil ?_
    refine Fin.then ?_
    refine Wp.cond1 rfl rfl ?_
    refine Wp.seq ?_
    refine Wp.region ?_
    refine WL.val (v := .string ⟨List.toArray ([])⟩) rfl (Yl.assign rfl) ?_
    refine WL.val (v := .int .i64 3) rfl (Yl.assign rfl) ?_
    refine WL.nil ?_
    refine Fin.then ?_
    refine Wp.ret ?_
    refine Fin.thenR ?_
    refine Fin.res (res2 rfl rfl rfl) ?_
    have H2 : Own w D w [] := H.pick [] (by decide) rfl
    exact ⟨by unfold jE; rw [if_pos (by omega)], H2⟩
  · skip
    refine WL.valG (v := .slice A (List.length ls) c) rfl rfl (decide_eq_false h1) rfl (Yl.move rfl) ?_
    refine WL.valG (v := .int .i64 ((List.length ls : Nat) : Int)) rfl rfl (decide_eq_false h1) rfl (Yl.kern rfl rfl (fun _ => by kernel_rfl)) ?_
    refine WL.valG (v := .bool (decide (((List.length ls : Nat) : Int) > 4))) rfl rfl (decide_eq_false h1) rfl (Yl.kern rfl rfl (fun _ => by kernel_rfl)) ?_
    refine WL.val (v := .bool (decide (((List.length ls : Nat) : Int) > 4))) rfl (Yl.pickF rfl (decide_eq_false h1) rfl) ?_
    refine WL.nil ?_
    refine Fin.then ?_
    by_cases h3 : ((List.length ls : Nat) : Int) > 4
    · skip
      refine Wp.cond1 rfl (decide_eq_true h3) ?_
      refine Wp.seq ?_
      refine Wp.region ?_
      refine WL.val (v := .string ⟨List.toArray ([])⟩) rfl (Yl.assign rfl) ?_
      refine WL.val (v := .int .i64 3) rfl (Yl.assign rfl) ?_
      refine WL.nil ?_
      refine Fin.then ?_
      refine Wp.ret ?_
      refine Fin.thenR ?_
      refine Fin.res (res2 rfl rfl rfl) ?_
      have H4 : Own w D w [] := H.pick [] (by decide) rfl
      exact ⟨by unfold jE; rw [if_pos (by omega)], H4⟩
    · skip
      refine Wp.cond0 rfl (decide_eq_false h3) ?_
      refine Wp.skip ?_
      refine Fin.then ?_
      refine Wp.seq ?_
      refine Wp.region ?_
      refine WL.val (v := .slice none 0 0) rfl (Yl.assign rfl) ?_
      refine WL.nil ?_
      refine Fin.then ?_
      refine Wp.seq ?_
      refine Wp.seq ?_
      refine Wp.region ?_
      refine WL.val (v := .slice A (List.length ls) c) rfl (Yl.move rfl) ?_
      refine WL.val (v := .int .i64 ((List.length ls : Nat) : Int)) rfl (Yl.kern rfl rfl (fun _ => by kernel_rfl)) ?_
      refine WL.val (v := .int .i64 0) rfl (Yl.move rfl) ?_
      refine WL.nil ?_
      refine Fin.then ?_
      refine Wp.block ?_
      have H5 : Own w D w [row none 0 0 (List.flatMap eB ([])) 5 1] := H.free (row_nil 5 1)
      have H6 : Own w D w [row none 0 0 (List.flatMap eB ([])) 5 1] := H5.pick [0] (by decide) rfl
      refine Wp.loop (ι := Nat × (List UInt8) × Nat × (Option Addr) × Nat) (fun i => [(18, .int .i64 ((i.1 : Nat) : Int)), (4, .slice i.2.2.2.1 i.2.2.1 i.2.2.2.2), (17, .int .i64 ((List.length ls : Nat) : Int)), (16, .slice A (List.length ls) c), (15, .bool (decide (((List.length ls : Nat) : Int) > 4))), (14, .bool (decide (((List.length ls : Nat) : Int) > 4))), (13, .int .i64 ((List.length ls : Nat) : Int)), (12, .slice A (List.length ls) c), (11, .bool (decide (((List.length ls : Nat) : Int) < 1))), (10, .bool (decide (((List.length ls : Nat) : Int) < 1))), (9, .int .i64 ((List.length ls : Nat) : Int)), (8, .slice A (List.length ls) c), (0, .slice A (List.length ls) c)]) (fun (i : Nat × (List UInt8) × Nat × (Option Addr) × Nat) w' => Own w D w' [row i.2.2.2.1 i.2.2.1 i.2.2.2.2 (List.flatMap eB i.2.1) 5 1] ∧ (i.1 ≤ List.length ls ∧ i.2.2.1 ≤ 12 + 2 * i.1 ∧ i.2.1 = jn (List.take i.1 ls) ∧ i.2.2.1 = List.length i.2.1)) (fun i => List.length ls - i.1) (0, [], 0, none, 0) ⟨rfl, rfl, rfl, rfl, rfl, rfl, rfl, rfl, rfl, rfl, rfl, rfl, rfl, trivial⟩ ⟨H6, (show 0 ≤ List.length ls ∧ 0 ≤ 12 + 2 * 0 ∧ ([]) = jn (List.take 0 ls) ∧ 0 = List.length ([]) from ⟨by omega, by omega, rfl, rfl⟩)⟩ ?_
      rintro ⟨k, q, n, A1, c1⟩ w7 ⟨H8, hf9⟩
      show Wp _ _ _ [(18, .int .i64 ((k : Nat) : Int)), (4, .slice A1 n c1), (17, .int .i64 ((List.length ls : Nat) : Int)), (16, .slice A (List.length ls) c), (15, .bool (decide (((List.length ls : Nat) : Int) > 4))), (14, .bool (decide (((List.length ls : Nat) : Int) > 4))), (13, .int .i64 ((List.length ls : Nat) : Int)), (12, .slice A (List.length ls) c), (11, .bool (decide (((List.length ls : Nat) : Int) < 1))), (10, .bool (decide (((List.length ls : Nat) : Int) < 1))), (9, .int .i64 ((List.length ls : Nat) : Int)), (8, .slice A (List.length ls) c), (0, .slice A (List.length ls) c)] _ _
      replace H8 : Own w D w7 [row A1 n c1 (List.flatMap eB q) 5 1] := H8
      replace hf9 : k ≤ List.length ls ∧ n ≤ 12 + 2 * k ∧ q = jn (List.take k ls) ∧ n = List.length q := hf9
      obtain ⟨hk, hnk, hq, hn⟩ := hf9
      refine Wp.seq ?_
      refine Wp.region ?_
      refine WL.val (v := .bool (decide (((k : Nat) : Int) < ((List.length ls : Nat) : Int)))) rfl (Yl.kern rfl rfl (fun _ => by kernel_rfl)) ?_
      refine WL.nil ?_
      refine Fin.then ?_
      refine Wp.seq ?_
      by_cases h10 : ((k : Nat) : Int) < ((List.length ls : Nat) : Int)
      · skip
        refine Wp.cond1 rfl (decide_eq_true h10) ?_
        refine Wp.skip ?_
        refine Fin.then ?_
        refine Wp.seq ?_
        refine Wp.block ?_
        refine Wp.seq ?_
        refine Wp.region ?_
        obtain ⟨x11, hx12⟩ := rds_at (ls := ls) (i := k) eS_len (by decide) (H8.ro hx) (by first | omega | (simp; done) | (simp; omega))
        have ok13 := (hs _ (List.mem_of_getElem? hx12))
        refine WL.val (v := .pointer (some ⟨ab A, ao A + k * 1, none⟩)) rfl (Yl.indexAddr (El22) rfl rfl ((H8.ro hx).addr (i := k) (by omega)) (by omega)) ?_
        refine WL.val (v := .string ⟨List.toArray x11⟩) rfl (Yl.load rfl (Lds.one Try.isAgg9 (((H8.ro hx).elem eS_len hx12 (by decide)).at_ (k := 0) rfl))) ?_
        refine WL.val (v := .string ⟨List.toArray x11⟩) rfl (Yl.assign rfl) ?_
        refine WL.nil ?_
        refine Fin.then ?_
        refine Wp.seq ?_
        refine Wp.seq ?_
        refine Wp.region ?_
        refine WL.val (v := .int .i64 0) rfl (Yl.assign rfl) ?_
        refine WL.nil ?_
        refine Fin.then ?_
        refine Wp.block ?_
        refine Wp.loop (ι := Nat × (List UInt8) × Nat × (Option Addr) × Nat) (fun i => [(7, .int .i64 ((i.1 : Nat) : Int)), (4, .slice i.2.2.2.1 i.2.2.1 i.2.2.2.2), (6, .string ⟨List.toArray x11⟩), (21, .string ⟨List.toArray x11⟩), (20, .pointer (some ⟨ab A, ao A + k * 1, none⟩)), (19, .bool (decide (((k : Nat) : Int) < ((List.length ls : Nat) : Int)))), (18, .int .i64 ((k : Nat) : Int)), (17, .int .i64 ((List.length ls : Nat) : Int)), (16, .slice A (List.length ls) c), (15, .bool (decide (((List.length ls : Nat) : Int) > 4))), (14, .bool (decide (((List.length ls : Nat) : Int) > 4))), (13, .int .i64 ((List.length ls : Nat) : Int)), (12, .slice A (List.length ls) c), (11, .bool (decide (((List.length ls : Nat) : Int) < 1))), (10, .bool (decide (((List.length ls : Nat) : Int) < 1))), (9, .int .i64 ((List.length ls : Nat) : Int)), (8, .slice A (List.length ls) c), (0, .slice A (List.length ls) c)]) (fun (i : Nat × (List UInt8) × Nat × (Option Addr) × Nat) w' => Own w D w' [row i.2.2.2.1 i.2.2.1 i.2.2.2.2 (List.flatMap eB i.2.1) 5 1] ∧ (i.1 ≤ List.length x11 ∧ i.2.2.1 ≤ 12 + 2 * k ∧ i.2.1 = jn (List.take k ls) ++ esp (List.take i.1 x11) ∧ i.2.2.1 = List.length i.2.1)) (fun i => List.length x11 - i.1) (0, q, n, A1, c1) ⟨rfl, rfl, rfl, rfl, rfl, rfl, rfl, rfl, rfl, rfl, rfl, rfl, rfl, rfl, rfl, rfl, rfl, rfl, trivial⟩ ⟨H8, (show 0 ≤ List.length x11 ∧ n ≤ 12 + 2 * k ∧ q = jn (List.take k ls) ++ esp (List.take 0 x11) ∧ n = List.length q from ⟨by omega, by omega, by rw [hq]; simp [esp], hn⟩)⟩ ?_
        rintro ⟨i, q2, n2, A2, c2⟩ w14 ⟨H15, hf16⟩
        show Wp _ _ _ [(7, .int .i64 ((i : Nat) : Int)), (4, .slice A2 n2 c2), (6, .string ⟨List.toArray x11⟩), (21, .string ⟨List.toArray x11⟩), (20, .pointer (some ⟨ab A, ao A + k * 1, none⟩)), (19, .bool (decide (((k : Nat) : Int) < ((List.length ls : Nat) : Int)))), (18, .int .i64 ((k : Nat) : Int)), (17, .int .i64 ((List.length ls : Nat) : Int)), (16, .slice A (List.length ls) c), (15, .bool (decide (((List.length ls : Nat) : Int) > 4))), (14, .bool (decide (((List.length ls : Nat) : Int) > 4))), (13, .int .i64 ((List.length ls : Nat) : Int)), (12, .slice A (List.length ls) c), (11, .bool (decide (((List.length ls : Nat) : Int) < 1))), (10, .bool (decide (((List.length ls : Nat) : Int) < 1))), (9, .int .i64 ((List.length ls : Nat) : Int)), (8, .slice A (List.length ls) c), (0, .slice A (List.length ls) c)] _ _
        replace H15 : Own w D w14 [row A2 n2 c2 (List.flatMap eB q2) 5 1] := H15
        replace hf16 : i ≤ List.length x11 ∧ n2 ≤ 12 + 2 * k ∧ q2 = jn (List.take k ls) ++ esp (List.take i x11) ∧ n2 = List.length q2 := hf16
        obtain ⟨hi, hnk2, hq2, hn2⟩ := hf16
        refine Wp.seq ?_
        refine Wp.seq ?_
        refine Wp.region ?_
        refine WL.val (v := .int .i64 ((i : Nat) : Int)) rfl (Yl.move rfl) ?_
        refine WL.val (v := .string ⟨List.toArray x11⟩) rfl (Yl.move rfl) ?_
        refine WL.val (v := .int .i64 ((List.length x11 : Nat) : Int)) rfl (Yl.kern rfl rfl (fun _ => by kernel_rfl)) ?_
        refine WL.val (v := .bool (decide (((i : Nat) : Int) < ((List.length x11 : Nat) : Int)))) rfl (Yl.kern rfl rfl (fun _ => by kernel_rfl)) ?_
        refine WL.nil ?_
        refine Fin.then ?_
        by_cases h17 : ((i : Nat) : Int) < ((List.length x11 : Nat) : Int)
        · skip
          refine Wp.cond1 rfl (decide_eq_true h17) ?_
          refine Wp.skip ?_
          refine Fin.then ?_
          refine Wp.seq ?_
          refine Wp.block ?_
          refine Wp.seq ?_
          refine Wp.region ?_
          refine WL.val (v := .slice A2 n2 c2) rfl (Yl.move rfl) ?_
          refine WL.val (v := .string ⟨List.toArray x11⟩) rfl (Yl.move rfl) ?_
          refine WL.val (v := .int .i64 ((i : Nat) : Int)) rfl (Yl.move rfl) ?_
          obtain ⟨b18, hx19⟩ := at_of (ls := x11) (i := i) (by omega)
          refine WL.val (v := .int .u8 ((b18.toNat : Nat) : Int)) rfl (Yl.strIndex Try.underlying9 rfl rfl hx19) ?_
          refine WL.do rfl (Do.newRow (cs := [.int .u8 ((b18.toNat : Nat) : Int)]) (t := 5) (sz := 1) (m := 1) H15 rfl rfl (fun _ => by kernel_rfl) rfl (by decide) ?_)
          intro A20 w21 H22
          replace H22 : Own w D w21 [row A20 1 1 (List.flatMap eB ([b18])) 5 1, row A2 n2 c2 (List.flatMap eB q2) 5 1] := H22
          have H23 : Own w D w21 [row A2 n2 c2 (List.flatMap eB q2) 5 1, row A20 1 1 (List.flatMap eB ([b18])) 5 1] := H22.pick [1, 0] (by decide) rfl
          refine WL.do rfl (Do.append (k := n2) (m := 1) (El38) H23 rfl rfl (src_of Try.underlying38 (H23.rds (i := 1) rfl) (flat_one eB_one ([b18]))) (by unfold maxLen; omega) (by omega) (s := n2 + 1) (by omega) (List.flatMap_append).symm ?_)
          intro A24 c25 w26 H27
          replace H27 : Own w D w26 [row A24 (n2 + 1) c25 (List.flatMap eB (q2 ++ [b18])) 5 1, row A20 1 1 (List.flatMap eB ([b18])) 5 1] := H27
          refine WL.val (v := .slice A24 (n2 + 1) c25) rfl (Yl.assign rfl) ?_
          refine WL.nil ?_
          refine Fin.then ?_
          refine Wp.seq ?_
          refine Wp.seq ?_
          refine Wp.region ?_
          refine WL.val (v := .string ⟨List.toArray x11⟩) rfl (Yl.move rfl) ?_
          refine WL.val (v := .int .i64 ((i : Nat) : Int)) rfl (Yl.move rfl) ?_
          refine WL.val (v := .int .u8 ((b18.toNat : Nat) : Int)) rfl (Yl.strIndex Try.underlying9 rfl rfl hx19) ?_
          refine WL.val (v := .bool (decide (((b18.toNat : Nat) : Int) = 0))) rfl (Yl.kern rfl rfl (fun _ => by kernel_rfl)) ?_
          refine WL.nil ?_
          refine Fin.then ?_
          by_cases h28 : ((b18.toNat : Nat) : Int) = 0
          · skip
            refine Wp.cond1 rfl (decide_eq_true h28) ?_
            refine Wp.region ?_
            refine WL.val (v := .slice A24 (n2 + 1) c25) rfl (Yl.move rfl) ?_
            refine WL.do rfl (Do.newRow (cs := [.int .u8 255]) (t := 5) (sz := 1) (m := 1) H27 rfl rfl (fun _ => by kernel_rfl) rfl (by decide) ?_)
            intro A29 w30 H31
            replace H31 : Own w D w30 [row A29 1 1 (List.flatMap eB ([255])) 5 1, row A24 (n2 + 1) c25 (List.flatMap eB (q2 ++ [b18])) 5 1, row A20 1 1 (List.flatMap eB ([b18])) 5 1] := H31
            have H32 : Own w D w30 [row A24 (n2 + 1) c25 (List.flatMap eB (q2 ++ [b18])) 5 1, row A29 1 1 (List.flatMap eB ([255])) 5 1, row A20 1 1 (List.flatMap eB ([b18])) 5 1] := H31.pick [1, 0, 2] (by decide) rfl
            refine WL.do rfl (Do.append (k := n2 + 1) (m := 1) (El38) H32 rfl rfl (src_of Try.underlying38 (H32.rds (i := 1) rfl) (flat_one eB_one ([255]))) (by unfold maxLen; omega) (by omega) (s := n2 + 1 + 1) (by omega) (List.flatMap_append).symm ?_)
            intro A33 c34 w35 H36
            replace H36 : Own w D w35 [row A33 (n2 + 1 + 1) c34 (List.flatMap eB ((q2 ++ [b18]) ++ [255])) 5 1, row A29 1 1 (List.flatMap eB ([255])) 5 1, row A20 1 1 (List.flatMap eB ([b18])) 5 1] := H36
            refine WL.val (v := .slice A33 (n2 + 1 + 1) c34) rfl (Yl.assign rfl) ?_
            refine WL.nil ?_
            refine Fin.then ?_
            refine Wp.seq ?_
            refine Wp.region ?_
            refine WL.val (v := .slice A33 (n2 + 1 + 1) c34) rfl (Yl.move rfl) ?_
            refine WL.val (v := .int .i64 ((n2 + 1 + 1 : Nat) : Int)) rfl (Yl.kern rfl rfl (fun _ => by kernel_rfl)) ?_
            refine WL.val (v := .bool (decide (((n2 + 1 + 1 : Nat) : Int) > 12))) rfl (Yl.kern rfl rfl (fun _ => by kernel_rfl)) ?_
            refine WL.nil ?_
            refine Fin.then ?_
            by_cases h37 : ((n2 + 1 + 1 : Nat) : Int) > 12
            · skip
              refine Wp.cond1 rfl (decide_eq_true h37) ?_
              refine Wp.seq ?_
              refine Wp.region ?_
              refine WL.val (v := .string ⟨List.toArray ([])⟩) rfl (Yl.assign rfl) ?_
              refine WL.val (v := .int .i64 2) rfl (Yl.assign rfl) ?_
              refine WL.nil ?_
              refine Fin.then ?_
              refine Wp.ret ?_
              refine Fin.blockR ?_
              refine Fin.thenR ?_
              refine Fin.thenR ?_
              refine Fin.blockR ?_
              refine Fin.thenR ?_
              refine Fin.blockR ?_
              refine Fin.thenR ?_
              refine Fin.thenR ?_
              refine Fin.blockR ?_
              refine Fin.thenR ?_
              refine Fin.res (res2 rfl rfl rfl) ?_
              have H38 : Own w D w35 [] := H36.pick [] (by decide) rfl
              have e := (pre_byte (s := [b18, 255]) hq2 hx12 hx19 (by rw [esc0 h28]; exact ⟨[], rfl⟩)).length_le
              rw [List.length_append, ← hn2] at e
              simp only [List.length_cons, List.length_nil] at e
              exact ⟨by unfold jE; rw [if_neg (by omega), if_pos (by omega)], H38⟩
            · skip
              refine Wp.cond0 rfl (decide_eq_false h37) ?_
              refine Wp.skip ?_
              refine Fin.blockN ?_
              refine Fin.then ?_
              refine Wp.region ?_
              refine WL.val (v := .int .i64 ((i : Nat) : Int)) rfl (Yl.move rfl) ?_
              refine WL.val (v := .int .i64 ((i + 1 : Nat) : Int)) rfl (Yl.int (e := IntKind.i64.wrap (((i : Nat) : Int) + 1)) (Yl.kern rfl rfl (fun _ => by kernel_rfl)) (by rw [IntWalk.i64_in _ (by omega)]; omega)) ?_
              refine WL.val (v := .int .i64 ((i + 1 : Nat) : Int)) rfl (Yl.assign rfl) ?_
              refine WL.nil ?_
              have H39 : Own w D w35 [row A33 (n2 + 1 + 1) c34 (List.flatMap eB ((q2 ++ [b18]) ++ [255])) 5 1] := H36.pick [0] (by decide) rfl
              exact Fin.round (i + 1, ((q2 ++ [b18]) ++ [255]), n2 + 1 + 1, A33, c34) ⟨rfl, rfl, rfl, rfl, rfl, rfl, rfl, rfl, rfl, rfl, rfl, rfl, rfl, rfl, rfl, rfl, rfl, rfl, trivial⟩ ⟨H39, (show (i + 1) ≤ List.length x11 ∧ (n2 + 1 + 1) ≤ 12 + 2 * k ∧ ((q2 ++ [b18]) ++ [255]) = jn (List.take k ls) ++ esp (List.take (i + 1) x11) ∧ (n2 + 1 + 1) = List.length ((q2 ++ [b18]) ++ [255]) from ⟨by omega, by omega, by rw [esp_succ hx19, esc0 h28, hq2]; simp, by rw [hn2]; simp⟩)⟩ (by show List.length x11 - (i + 1) < List.length x11 - i; omega)
          · skip
            refine Wp.cond0 rfl (decide_eq_false h28) ?_
            refine Wp.skip ?_
            refine Fin.then ?_
            refine Wp.seq ?_
            refine Wp.region ?_
            refine WL.val (v := .slice A24 (n2 + 1) c25) rfl (Yl.move rfl) ?_
            refine WL.val (v := .int .i64 ((n2 + 1 : Nat) : Int)) rfl (Yl.kern rfl rfl (fun _ => by kernel_rfl)) ?_
            refine WL.val (v := .bool (decide (((n2 + 1 : Nat) : Int) > 12))) rfl (Yl.kern rfl rfl (fun _ => by kernel_rfl)) ?_
            refine WL.nil ?_
            refine Fin.then ?_
            by_cases h40 : ((n2 + 1 : Nat) : Int) > 12
            · skip
              refine Wp.cond1 rfl (decide_eq_true h40) ?_
              refine Wp.seq ?_
              refine Wp.region ?_
              refine WL.val (v := .string ⟨List.toArray ([])⟩) rfl (Yl.assign rfl) ?_
              refine WL.val (v := .int .i64 2) rfl (Yl.assign rfl) ?_
              refine WL.nil ?_
              refine Fin.then ?_
              refine Wp.ret ?_
              refine Fin.blockR ?_
              refine Fin.thenR ?_
              refine Fin.thenR ?_
              refine Fin.blockR ?_
              refine Fin.thenR ?_
              refine Fin.blockR ?_
              refine Fin.thenR ?_
              refine Fin.thenR ?_
              refine Fin.blockR ?_
              refine Fin.thenR ?_
              refine Fin.res (res2 rfl rfl rfl) ?_
              have H41 : Own w D w26 [] := H27.pick [] (by decide) rfl
              have e := (pre_byte (s := [b18]) hq2 hx12 hx19 (by rw [esc1 h28]; exact ⟨[], rfl⟩)).length_le
              rw [List.length_append, ← hn2] at e
              simp only [List.length_cons, List.length_nil] at e
              exact ⟨by unfold jE; rw [if_neg (by omega), if_pos (by omega)], H41⟩
            · skip
              refine Wp.cond0 rfl (decide_eq_false h40) ?_
              refine Wp.skip ?_
              refine Fin.blockN ?_
              refine Fin.then ?_
              refine Wp.region ?_
              refine WL.val (v := .int .i64 ((i : Nat) : Int)) rfl (Yl.move rfl) ?_
              refine WL.val (v := .int .i64 ((i + 1 : Nat) : Int)) rfl (Yl.int (e := IntKind.i64.wrap (((i : Nat) : Int) + 1)) (Yl.kern rfl rfl (fun _ => by kernel_rfl)) (by rw [IntWalk.i64_in _ (by omega)]; omega)) ?_
              refine WL.val (v := .int .i64 ((i + 1 : Nat) : Int)) rfl (Yl.assign rfl) ?_
              refine WL.nil ?_
              have H42 : Own w D w26 [row A24 (n2 + 1) c25 (List.flatMap eB (q2 ++ [b18])) 5 1] := H27.pick [0] (by decide) rfl
              exact Fin.round (i + 1, (q2 ++ [b18]), n2 + 1, A24, c25) ⟨rfl, rfl, rfl, rfl, rfl, rfl, rfl, rfl, rfl, rfl, rfl, rfl, rfl, rfl, rfl, rfl, rfl, rfl, trivial⟩ ⟨H42, (show (i + 1) ≤ List.length x11 ∧ (n2 + 1) ≤ 12 + 2 * k ∧ (q2 ++ [b18]) = jn (List.take k ls) ++ esp (List.take (i + 1) x11) ∧ (n2 + 1) = List.length (q2 ++ [b18]) from ⟨by omega, by omega, by rw [esp_succ hx19, esc1 h28, hq2]; simp, by rw [hn2]; simp⟩)⟩ (by show List.length x11 - (i + 1) < List.length x11 - i; omega)
        · skip
          refine Wp.cond0 rfl (decide_eq_false h17) ?_
          refine Wp.exit ?_
          refine Fin.thenX ?_
          refine Fin.thenX ?_
          refine Fin.blockX ?_
          refine Fin.then ?_
          refine Wp.region ?_
          refine WL.val (v := .slice A2 n2 c2) rfl (Yl.move rfl) ?_
          refine WL.do rfl (Do.newRow (cs := [.int .u8 0, .int .u8 1]) (t := 5) (sz := 1) (m := 2) H15 rfl rfl (fun _ => by kernel_rfl) rfl (by decide) ?_)
          intro A43 w44 H45
          replace H45 : Own w D w44 [row A43 2 2 (List.flatMap eB ([0, 1])) 5 1, row A2 n2 c2 (List.flatMap eB q2) 5 1] := H45
          have H46 : Own w D w44 [row A2 n2 c2 (List.flatMap eB q2) 5 1, row A43 2 2 (List.flatMap eB ([0, 1])) 5 1] := H45.pick [1, 0] (by decide) rfl
          refine WL.do rfl (Do.append (k := n2) (m := 2) (El38) H46 rfl rfl (src_of Try.underlying38 (H46.rds (i := 1) rfl) (flat_one eB_one ([0, 1]))) (by unfold maxLen; omega) (by omega) (s := n2 + 2) (by omega) (List.flatMap_append).symm ?_)
          intro A47 c48 w49 H50
          replace H50 : Own w D w49 [row A47 (n2 + 2) c48 (List.flatMap eB (q2 ++ [0, 1])) 5 1, row A43 2 2 (List.flatMap eB ([0, 1])) 5 1] := H50
          refine WL.val (v := .slice A47 (n2 + 2) c48) rfl (Yl.assign rfl) ?_
          refine WL.nil ?_
          refine Fin.blockN ?_
          refine Fin.then ?_
          refine Wp.region ?_
          refine WL.val (v := .int .i64 ((k + 1 : Nat) : Int)) rfl (Yl.int (e := IntKind.i64.wrap (((k : Nat) : Int) + 1)) (Yl.kern rfl rfl (fun _ => by kernel_rfl)) (by rw [IntWalk.i64_in _ (by omega)]; omega)) ?_
          refine WL.val (v := .int .i64 ((k + 1 : Nat) : Int)) rfl (Yl.move rfl) ?_
          refine WL.nil ?_
          have H51 : Own w D w49 [row A47 (n2 + 2) c48 (List.flatMap eB (q2 ++ [0, 1])) 5 1] := H50.pick [0] (by decide) rfl
          exact Fin.round (k + 1, (q2 ++ [0, 1]), n2 + 2, A47, c48) ⟨rfl, rfl, rfl, rfl, rfl, rfl, rfl, rfl, rfl, rfl, rfl, rfl, rfl, trivial⟩ ⟨H51, (show (k + 1) ≤ List.length ls ∧ (n2 + 2) ≤ 12 + 2 * (k + 1) ∧ (q2 ++ [0, 1]) = jn (List.take (k + 1) ls) ∧ (n2 + 2) = List.length (q2 ++ [0, 1]) from ⟨by omega, by omega, by rw [jn_succ hx12, hq2, all_take (ls := x11) (k := i) (by omega)]; simp, by rw [hn2]; simp⟩)⟩ (by show List.length ls - (k + 1) < List.length ls - k; omega)
      · skip
        refine Wp.cond0 rfl (decide_eq_false h10) ?_
        refine Wp.exit ?_
        refine Fin.thenX ?_
        refine Fin.thenX ?_
        refine Fin.blockX ?_
        refine Fin.then ?_
        refine Wp.seq ?_
        refine Wp.seq ?_
        refine Wp.region ?_
        refine WL.val (v := .slice A1 n c1) rfl (Yl.move rfl) ?_
        refine WL.val (v := .int .i64 ((n : Nat) : Int)) rfl (Yl.kern rfl rfl (fun _ => by kernel_rfl)) ?_
        refine WL.val (v := .bool (decide (((n : Nat) : Int) > 12))) rfl (Yl.kern rfl rfl (fun _ => by kernel_rfl)) ?_
        refine WL.nil ?_
        refine Fin.then ?_
        by_cases h52 : ((n : Nat) : Int) > 12
        · skip
          refine Wp.cond1 rfl (decide_eq_true h52) ?_
          refine Wp.seq ?_
          refine Wp.region ?_
          refine WL.val (v := .string ⟨List.toArray ([])⟩) rfl (Yl.assign rfl) ?_
          refine WL.val (v := .int .i64 2) rfl (Yl.assign rfl) ?_
          refine WL.nil ?_
          refine Fin.then ?_
          refine Wp.ret ?_
          refine Fin.thenR ?_
          refine Fin.res (res2 rfl rfl rfl) ?_
          have H53 : Own w D w7 [] := H8.pick [] (by decide) rfl
          have e : q = jn ls := by rw [hq, all_take (ls := ls) (k := k) (by omega)]
          rw [e] at hn
          exact ⟨by unfold jE; rw [if_neg (by omega), if_pos (by omega)], H53⟩
        · skip
          refine Wp.cond0 rfl (decide_eq_false h52) ?_
          refine Wp.skip ?_
          refine Fin.then ?_
          refine Wp.seq ?_
          refine Wp.region ?_
          refine WL.val (v := .slice A1 n c1) rfl (Yl.move rfl) ?_
          refine WL.val (v := .string ⟨List.toArray q⟩) rfl (Yl.toStringE (l := q) Try.underlying38 Try.underlying5 Try.underlying9 (H8.rds (i := 0) rfl) rfl) ?_
          refine WL.val (v := .string ⟨List.toArray q⟩) rfl (Yl.assign rfl) ?_
          refine WL.val (v := .int .i64 0) rfl (Yl.assign rfl) ?_
          refine WL.nil ?_
          refine Fin.then ?_
          refine Wp.ret ?_
          refine Fin.res (res2 rfl rfl rfl) ?_
          have H54 : Own w D w7 [] := H8.pick [] (by decide) rfl
          have e : q = jn ls := by rw [hq, all_take (ls := ls) (k := k) (by omega)]
          rw [e] at hn
          exact ⟨by unfold jE; rw [if_neg (by omega), if_neg (by omega), e], H54⟩

set_option maxRecDepth 100000 in
theorem RCompare_ok (A B : Option Addr) (c e : Nat) (xs ys : List (List UInt8)) (w : World) (D : Nat → Prop) (H : Own w D w []) (hx : Ro w D fun w => Rds w 1 A (List.length xs) (List.flatMap eS xs)) (hy : Ro w D fun w => Rds w 1 B (List.length ys) (List.flatMap eS ys)) (hl : List.length xs ≤ 9223372036854775807) :
    Calls Try.prog 14 #[.slice A (List.length xs) c, .slice B (List.length ys) e] w (Ret fun v w' => v = .int .i64 (lcmp xs ys) ∧ Own w D w' []) := by
  refine Calls.body (args := [.slice A (List.length xs) c, .slice B (List.length ys) e]) Try.func14 rfl rfl rfl ?_
  show Wp _ _ _ [(0, .slice A (List.length xs) c), (1, .slice B (List.length ys) e)] _ _
  refine Wp.seq ?_
  refine Wp.region ?_
  refine WL.val (v := .int .i64 0) rfl (Yl.assign rfl) ?_
  refine WL.nil ?_
  refine Fin.then ?_
  refine Wp.seq ?_
  refine Wp.seq ?_
  refine Wp.region ?_
  refine WL.val (v := .slice A (List.length xs) c) rfl (Yl.move rfl) ?_
  refine WL.val (v := .int .i64 ((List.length xs : Nat) : Int)) rfl (Yl.kern rfl rfl (fun _ => by kernel_rfl)) ?_
  refine WL.val (v := .int .i64 0) rfl (Yl.move rfl) ?_
  refine WL.nil ?_
  refine Fin.then ?_
  refine Wp.block ?_
  refine Wp.loop (ι := Nat) (fun i => [(8, .int .i64 ((i : Nat) : Int)), (7, .int .i64 ((List.length xs : Nat) : Int)), (6, .slice A (List.length xs) c), (0, .slice A (List.length xs) c), (1, .slice B (List.length ys) e)]) (fun (i : Nat) w' => Own w D w' [] ∧ (i ≤ List.length xs ∧ lcmp xs ys = lcmp (List.drop (min i (List.length ys)) xs) (List.drop (min i (List.length ys)) ys))) (fun i => List.length xs - i) 0 ⟨rfl, rfl, rfl, rfl, rfl, trivial⟩ ⟨H, (show 0 ≤ List.length xs ∧ lcmp xs ys = lcmp (List.drop (min 0 (List.length ys)) xs) (List.drop (min 0 (List.length ys)) ys) from ⟨by omega, by rw [Nat.zero_min]; rfl⟩)⟩ ?_
  rintro k w1 ⟨H2, hf3⟩
  show Wp _ _ _ [(8, .int .i64 ((k : Nat) : Int)), (7, .int .i64 ((List.length xs : Nat) : Int)), (6, .slice A (List.length xs) c), (0, .slice A (List.length xs) c), (1, .slice B (List.length ys) e)] _ _
  replace H2 : Own w D w1 [] := H2
  replace hf3 : k ≤ List.length xs ∧ lcmp xs ys = lcmp (List.drop (min k (List.length ys)) xs) (List.drop (min k (List.length ys)) ys) := hf3
  obtain ⟨hk, hq⟩ := hf3
  refine Wp.seq ?_
  refine Wp.region ?_
  refine WL.val (v := .bool (decide (((k : Nat) : Int) < ((List.length xs : Nat) : Int)))) rfl (Yl.kern rfl rfl (fun _ => by kernel_rfl)) ?_
  refine WL.nil ?_
  refine Fin.then ?_
  refine Wp.seq ?_
  by_cases h4 : ((k : Nat) : Int) < ((List.length xs : Nat) : Int)
  · skip
    refine Wp.cond1 rfl (decide_eq_true h4) ?_
    refine Wp.skip ?_
    refine Fin.then ?_
    refine Wp.seq ?_
    refine Wp.block ?_
    refine Wp.seq ?_
    refine Wp.region ?_
    refine WL.val (v := .int .i64 ((k : Nat) : Int)) rfl (Yl.move rfl) ?_
    refine WL.val (v := .int .i64 ((k : Nat) : Int)) rfl (Yl.assign rfl) ?_
    refine WL.nil ?_
    refine Fin.then ?_
    refine Wp.seq ?_
    refine Wp.seq ?_
    have H6 := H2.drew
    refine Wp.drawn (Keep [] (fun W => ∃ L', Own w D W ([] ++ L'))) (by kernel_rfl) (.inr ⟨_, H6⟩) ?_
    revert H6
    generalize World.drew w1 = w5
    intro H6
    replace H6 : Own w D w5 [] := H6
    show GW _ _ _ _ 15 #[false, false, false, false, false, false, false, false, false, false, false, false, false, false, false] _ _ _
    refine GW.take (v := .int .i64 ((k : Nat) : Int)) (i := 0) (l' := #[true, false, false, false, false, false, false, false, false, false, false, false, false, false, false]) (rs := []) rfl (by kernel_rfl) rfl (NoP.then (NoP.then (NoP.block (NoP.then (NoP.then (NoP.block (NoP.then NoP.base))))))) (by kernel_rfl) (by kernel_rfl) (by kernel_rfl) (by kernel_rfl) (fun _ _ => Yl.move rfl) ?_
    refine GW.take (v := .slice B (List.length ys) e) (i := 1) (l' := #[true, true, false, false, false, false, false, false, false, false, false, false, false, false, false]) (rs := []) rfl (by kernel_rfl) rfl (NoP.then (NoP.then (NoP.block (NoP.then (NoP.then (NoP.block (NoP.then NoP.base))))))) (by kernel_rfl) (by kernel_rfl) (by kernel_rfl) (by kernel_rfl) (fun _ _ => Yl.move rfl) ?_
    refine GW.take (v := .int .i64 ((List.length ys : Nat) : Int)) (i := 2) (l' := #[true, true, true, false, false, false, false, false, false, false, false, false, false, false, false]) (rs := []) rfl (by kernel_rfl) rfl (NoP.then (NoP.then (NoP.block (NoP.then (NoP.then (NoP.block (NoP.then NoP.base))))))) (by kernel_rfl) (by kernel_rfl) (by kernel_rfl) (by kernel_rfl) (fun _ _ => Yl.kern rfl rfl (fun _ => by kernel_rfl)) ?_
    refine GW.take (v := .bool (decide (((k : Nat) : Int) < ((List.length ys : Nat) : Int)))) (i := 3) (l' := #[true, true, true, true, false, false, false, false, false, false, false, false, false, false, false]) (rs := []) rfl (by kernel_rfl) rfl (NoP.then (NoP.then (NoP.block (NoP.then (NoP.then (NoP.block (NoP.then NoP.base))))))) (by kernel_rfl) (by kernel_rfl) (by kernel_rfl) (by kernel_rfl) (fun _ _ => Yl.kern rfl rfl (fun _ => by kernel_rfl)) ?_
    refine GW.take (v := .bool (decide (((k : Nat) : Int) < ((List.length ys : Nat) : Int)))) (i := 4) (l' := #[true, true, true, true, true, false, false, false, false, false, false, false, false, false, false]) (rs := []) rfl (by kernel_rfl) rfl (NoP.then (NoP.then (NoP.block (NoP.then (NoP.then (NoP.block (NoP.then NoP.base))))))) (by kernel_rfl) (by kernel_rfl) (by kernel_rfl) (by kernel_rfl) (fun _ _ => Yl.move rfl) ?_
    by_cases h8 : ((k : Nat) : Int) < ((List.length ys : Nat) : Int)
    · skip
      refine GW.takeG (v := .slice A (List.length xs) c) (i := 5) (l' := #[true, true, true, true, true, true, false, false, false, false, false, false, false, false, false]) (rs := []) rfl rfl rfl (decide_eq_true h8) (by kernel_rfl) rfl (NoP.then (NoP.then (NoP.block (NoP.then (NoP.then (NoP.block (NoP.then NoP.base))))))) (by kernel_rfl) (by kernel_rfl) (by kernel_rfl) (by kernel_rfl) (fun _ _ => Yl.move rfl) ?_
      refine GW.takeG (v := .int .i64 ((k : Nat) : Int)) (i := 6) (l' := #[true, true, true, true, true, true, true, false, false, false, false, false, false, false, false]) (rs := []) rfl rfl rfl (decide_eq_true h8) (by kernel_rfl) rfl (NoP.then (NoP.then (NoP.block (NoP.then (NoP.then (NoP.block (NoP.then NoP.base))))))) (by kernel_rfl) (by kernel_rfl) (by kernel_rfl) (by kernel_rfl) (fun _ _ => Yl.move rfl) ?_
      obtain ⟨x9, hx10⟩ := at_of (ls := xs) (i := k) (by first | omega | (simp; done) | (simp; omega))
      refine GW.takeG (v := .pointer (some ⟨ab A, ao A + k * 1, none⟩)) (i := 7) (l' := #[true, true, true, true, true, true, true, true, false, false, false, false, false, false, false]) (rs := []) rfl rfl rfl (decide_eq_true h8) (by kernel_rfl) rfl (NoP.then (NoP.then (NoP.block (NoP.then (NoP.then (NoP.block (NoP.then NoP.base))))))) (by kernel_rfl) (by kernel_rfl) (by kernel_rfl) (by kernel_rfl) (fun _ ⟨_, H9⟩ => Yl.indexAddr (El22) rfl rfl ((H9.ro hx).addr (i := k) (by omega)) (by omega)) ?_
      refine GW.takeG (v := .string ⟨List.toArray x9⟩) (i := 8) (l' := #[true, true, true, true, true, true, true, true, true, false, false, false, false, false, false]) (rs := []) rfl rfl rfl (decide_eq_true h8) (by kernel_rfl) rfl (NoP.then (NoP.then (NoP.block (NoP.then (NoP.then (NoP.block (NoP.then NoP.base))))))) (by kernel_rfl) (by kernel_rfl) (by kernel_rfl) (by kernel_rfl) (fun _ ⟨_, H9⟩ => Yl.load rfl (Lds.one Try.isAgg9 (((H9.ro hx).elem eS_len hx10 (by decide)).at_ (k := 0) rfl))) ?_
      refine GW.takeG (v := .slice B (List.length ys) e) (i := 9) (l' := #[true, true, true, true, true, true, true, true, true, true, false, false, false, false, false]) (rs := []) rfl rfl rfl (decide_eq_true h8) (by kernel_rfl) rfl (NoP.then (NoP.then (NoP.block (NoP.then (NoP.then (NoP.block (NoP.then NoP.base))))))) (by kernel_rfl) (by kernel_rfl) (by kernel_rfl) (by kernel_rfl) (fun _ _ => Yl.move rfl) ?_
      refine GW.takeG (v := .int .i64 ((k : Nat) : Int)) (i := 10) (l' := #[true, true, true, true, true, true, true, true, true, true, true, false, false, false, false]) (rs := []) rfl rfl rfl (decide_eq_true h8) (by kernel_rfl) rfl (NoP.then (NoP.then (NoP.block (NoP.then (NoP.then (NoP.block (NoP.then NoP.base))))))) (by kernel_rfl) (by kernel_rfl) (by kernel_rfl) (by kernel_rfl) (fun _ _ => Yl.move rfl) ?_
      obtain ⟨x11, hx12⟩ := at_of (ls := ys) (i := k) (by first | omega | (simp; done) | (simp; omega))
      refine GW.takeG (v := .pointer (some ⟨ab B, ao B + k * 1, none⟩)) (i := 11) (l' := #[true, true, true, true, true, true, true, true, true, true, true, true, false, false, false]) (rs := []) rfl rfl rfl (decide_eq_true h8) (by kernel_rfl) rfl (NoP.then (NoP.then (NoP.block (NoP.then (NoP.then (NoP.block (NoP.then NoP.base))))))) (by kernel_rfl) (by kernel_rfl) (by kernel_rfl) (by kernel_rfl) (fun _ ⟨_, H9⟩ => Yl.indexAddr (El22) rfl rfl ((H9.ro hy).addr (i := k) (by omega)) (by omega)) ?_
      refine GW.takeG (v := .string ⟨List.toArray x11⟩) (i := 12) (l' := #[true, true, true, true, true, true, true, true, true, true, true, true, true, false, false]) (rs := []) rfl rfl rfl (decide_eq_true h8) (by kernel_rfl) rfl (NoP.then (NoP.then (NoP.block (NoP.then (NoP.then (NoP.block (NoP.then NoP.base))))))) (by kernel_rfl) (by kernel_rfl) (by kernel_rfl) (by kernel_rfl) (fun _ ⟨_, H9⟩ => Yl.load rfl (Lds.one Try.isAgg9 (((H9.ro hy).elem eS_len hx12 (by decide)).at_ (k := 0) rfl))) ?_
      refine GW.takeG (v := .bool (decide (x9 < x11))) (i := 13) (l' := #[true, true, true, true, true, true, true, true, true, true, true, true, true, true, false]) (rs := []) rfl rfl rfl (decide_eq_true h8) (by kernel_rfl) rfl (NoP.then (NoP.then (NoP.block (NoP.then (NoP.then (NoP.block (NoP.then NoP.base))))))) (by kernel_rfl) (by kernel_rfl) (by kernel_rfl) (by kernel_rfl) (fun _ _ => Yl.bool (e := Op.bytesLess x9 x11) (Yl.strLt rfl rfl) (bl_lt _ _)) ?_
      refine GW.take (v := .bool (decide (x9 < x11))) (i := 14) (l' := #[true, true, true, true, true, true, true, true, true, true, true, true, true, true, true]) (rs := []) rfl (by kernel_rfl) rfl (NoP.then (NoP.then (NoP.block (NoP.then (NoP.then (NoP.block (NoP.then NoP.base))))))) (by kernel_rfl) (by kernel_rfl) (by kernel_rfl) (by kernel_rfl) (fun _ _ => Yl.pickT rfl (decide_eq_true h8) rfl) ?_
      refine GW.done (by kernel_rfl) ?_
      refine Fin.then ?_
      by_cases h13 : x9 < x11
      · skip
        refine Wp.cond1 rfl (decide_eq_true h13) ?_
        refine Wp.seq ?_
        refine Wp.region ?_
        refine WL.val (v := .int .i64 (-1)) rfl (Yl.assign rfl) ?_
        refine WL.nil ?_
        refine Fin.then ?_
        refine Wp.ret ?_
        refine Fin.thenR ?_
        refine Fin.blockR ?_
        refine Fin.thenR ?_
        refine Fin.thenR ?_
        refine Fin.blockR ?_
        refine Fin.thenR ?_
        refine Fin.res (res1 rfl rfl) ?_
        exact ⟨by rw [hq, show min k (List.length ys) = k by omega, lcmp_at hx10 hx12, if_pos (by unfold cmpS; first | (rw [if_pos (by assumption)]; decide) | (rw [if_neg (by assumption), if_pos (by assumption)]; decide))]; unfold cmpS; first | rw [if_pos (by assumption)] | rw [if_neg (by assumption), if_pos (by assumption)], H6⟩
      · skip
        refine Wp.cond0 rfl (decide_eq_false h13) ?_
        refine Wp.skip ?_
        refine Fin.then ?_
        refine Wp.seq ?_
        have H15 := H6.drew
        refine Wp.drawn (Keep [] (fun W => ∃ L', Own w D W ([] ++ L'))) (by kernel_rfl) (.inr ⟨_, H15⟩) ?_
        revert H15
        generalize World.drew w5 = w14
        intro H15
        replace H15 : Own w D w14 [] := H15
        show GW _ _ _ _ 15 #[false, false, false, false, false, false, false, false, false, false, false, false, false, false, false] _ _ _
        refine GW.take (v := .int .i64 ((k : Nat) : Int)) (i := 0) (l' := #[true, false, false, false, false, false, false, false, false, false, false, false, false, false, false]) (rs := []) rfl (by kernel_rfl) rfl (NoP.then (NoP.block (NoP.then (NoP.then (NoP.block (NoP.then NoP.base)))))) (by kernel_rfl) (by kernel_rfl) (by kernel_rfl) (by kernel_rfl) (fun _ _ => Yl.move rfl) ?_
        refine GW.take (v := .slice B (List.length ys) e) (i := 1) (l' := #[true, true, false, false, false, false, false, false, false, false, false, false, false, false, false]) (rs := []) rfl (by kernel_rfl) rfl (NoP.then (NoP.block (NoP.then (NoP.then (NoP.block (NoP.then NoP.base)))))) (by kernel_rfl) (by kernel_rfl) (by kernel_rfl) (by kernel_rfl) (fun _ _ => Yl.move rfl) ?_
        refine GW.take (v := .int .i64 ((List.length ys : Nat) : Int)) (i := 2) (l' := #[true, true, true, false, false, false, false, false, false, false, false, false, false, false, false]) (rs := []) rfl (by kernel_rfl) rfl (NoP.then (NoP.block (NoP.then (NoP.then (NoP.block (NoP.then NoP.base)))))) (by kernel_rfl) (by kernel_rfl) (by kernel_rfl) (by kernel_rfl) (fun _ _ => Yl.kern rfl rfl (fun _ => by kernel_rfl)) ?_
        refine GW.take (v := .bool (decide (((k : Nat) : Int) < ((List.length ys : Nat) : Int)))) (i := 3) (l' := #[true, true, true, true, false, false, false, false, false, false, false, false, false, false, false]) (rs := []) rfl (by kernel_rfl) rfl (NoP.then (NoP.block (NoP.then (NoP.then (NoP.block (NoP.then NoP.base)))))) (by kernel_rfl) (by kernel_rfl) (by kernel_rfl) (by kernel_rfl) (fun _ _ => Yl.kern rfl rfl (fun _ => by kernel_rfl)) ?_
        refine GW.take (v := .bool (decide (((k : Nat) : Int) < ((List.length ys : Nat) : Int)))) (i := 4) (l' := #[true, true, true, true, true, false, false, false, false, false, false, false, false, false, false]) (rs := []) rfl (by kernel_rfl) rfl (NoP.then (NoP.block (NoP.then (NoP.then (NoP.block (NoP.then NoP.base)))))) (by kernel_rfl) (by kernel_rfl) (by kernel_rfl) (by kernel_rfl) (fun _ _ => Yl.move rfl) ?_
        refine GW.takeG (v := .slice A (List.length xs) c) (i := 5) (l' := #[true, true, true, true, true, true, false, false, false, false, false, false, false, false, false]) (rs := []) rfl rfl rfl (decide_eq_true h8) (by kernel_rfl) rfl (NoP.then (NoP.block (NoP.then (NoP.then (NoP.block (NoP.then NoP.base)))))) (by kernel_rfl) (by kernel_rfl) (by kernel_rfl) (by kernel_rfl) (fun _ _ => Yl.move rfl) ?_
        refine GW.takeG (v := .int .i64 ((k : Nat) : Int)) (i := 6) (l' := #[true, true, true, true, true, true, true, false, false, false, false, false, false, false, false]) (rs := []) rfl rfl rfl (decide_eq_true h8) (by kernel_rfl) rfl (NoP.then (NoP.block (NoP.then (NoP.then (NoP.block (NoP.then NoP.base)))))) (by kernel_rfl) (by kernel_rfl) (by kernel_rfl) (by kernel_rfl) (fun _ _ => Yl.move rfl) ?_
        refine GW.takeG (v := .pointer (some ⟨ab A, ao A + k * 1, none⟩)) (i := 7) (l' := #[true, true, true, true, true, true, true, true, false, false, false, false, false, false, false]) (rs := []) rfl rfl rfl (decide_eq_true h8) (by kernel_rfl) rfl (NoP.then (NoP.block (NoP.then (NoP.then (NoP.block (NoP.then NoP.base)))))) (by kernel_rfl) (by kernel_rfl) (by kernel_rfl) (by kernel_rfl) (fun _ ⟨_, H9⟩ => Yl.indexAddr (El22) rfl rfl ((H9.ro hx).addr (i := k) (by omega)) (by omega)) ?_
        refine GW.takeG (v := .string ⟨List.toArray x9⟩) (i := 8) (l' := #[true, true, true, true, true, true, true, true, true, false, false, false, false, false, false]) (rs := []) rfl rfl rfl (decide_eq_true h8) (by kernel_rfl) rfl (NoP.then (NoP.block (NoP.then (NoP.then (NoP.block (NoP.then NoP.base)))))) (by kernel_rfl) (by kernel_rfl) (by kernel_rfl) (by kernel_rfl) (fun _ ⟨_, H9⟩ => Yl.load rfl (Lds.one Try.isAgg9 (((H9.ro hx).elem eS_len hx10 (by decide)).at_ (k := 0) rfl))) ?_
        refine GW.takeG (v := .slice B (List.length ys) e) (i := 9) (l' := #[true, true, true, true, true, true, true, true, true, true, false, false, false, false, false]) (rs := []) rfl rfl rfl (decide_eq_true h8) (by kernel_rfl) rfl (NoP.then (NoP.block (NoP.then (NoP.then (NoP.block (NoP.then NoP.base)))))) (by kernel_rfl) (by kernel_rfl) (by kernel_rfl) (by kernel_rfl) (fun _ _ => Yl.move rfl) ?_
        refine GW.takeG (v := .int .i64 ((k : Nat) : Int)) (i := 10) (l' := #[true, true, true, true, true, true, true, true, true, true, true, false, false, false, false]) (rs := []) rfl rfl rfl (decide_eq_true h8) (by kernel_rfl) rfl (NoP.then (NoP.block (NoP.then (NoP.then (NoP.block (NoP.then NoP.base)))))) (by kernel_rfl) (by kernel_rfl) (by kernel_rfl) (by kernel_rfl) (fun _ _ => Yl.move rfl) ?_
        refine GW.takeG (v := .pointer (some ⟨ab B, ao B + k * 1, none⟩)) (i := 11) (l' := #[true, true, true, true, true, true, true, true, true, true, true, true, false, false, false]) (rs := []) rfl rfl rfl (decide_eq_true h8) (by kernel_rfl) rfl (NoP.then (NoP.block (NoP.then (NoP.then (NoP.block (NoP.then NoP.base)))))) (by kernel_rfl) (by kernel_rfl) (by kernel_rfl) (by kernel_rfl) (fun _ ⟨_, H9⟩ => Yl.indexAddr (El22) rfl rfl ((H9.ro hy).addr (i := k) (by omega)) (by omega)) ?_
        refine GW.takeG (v := .string ⟨List.toArray x11⟩) (i := 12) (l' := #[true, true, true, true, true, true, true, true, true, true, true, true, true, false, false]) (rs := []) rfl rfl rfl (decide_eq_true h8) (by kernel_rfl) rfl (NoP.then (NoP.block (NoP.then (NoP.then (NoP.block (NoP.then NoP.base)))))) (by kernel_rfl) (by kernel_rfl) (by kernel_rfl) (by kernel_rfl) (fun _ ⟨_, H9⟩ => Yl.load rfl (Lds.one Try.isAgg9 (((H9.ro hy).elem eS_len hx12 (by decide)).at_ (k := 0) rfl))) ?_
        refine GW.takeG (v := .bool (decide (x11 < x9))) (i := 13) (l' := #[true, true, true, true, true, true, true, true, true, true, true, true, true, true, false]) (rs := []) rfl rfl rfl (decide_eq_true h8) (by kernel_rfl) rfl (NoP.then (NoP.block (NoP.then (NoP.then (NoP.block (NoP.then NoP.base)))))) (by kernel_rfl) (by kernel_rfl) (by kernel_rfl) (by kernel_rfl) (fun _ _ => Yl.bool (e := !(Op.bytesLess x9 x11 || decide (x9 = x11))) (Yl.strGt rfl rfl) (bl_gt _ _)) ?_
        refine GW.take (v := .bool (decide (x11 < x9))) (i := 14) (l' := #[true, true, true, true, true, true, true, true, true, true, true, true, true, true, true]) (rs := []) rfl (by kernel_rfl) rfl (NoP.then (NoP.block (NoP.then (NoP.then (NoP.block (NoP.then NoP.base)))))) (by kernel_rfl) (by kernel_rfl) (by kernel_rfl) (by kernel_rfl) (fun _ _ => Yl.pickT rfl (decide_eq_true h8) rfl) ?_
        refine GW.done (by kernel_rfl) ?_
        refine Fin.then ?_
        by_cases h17 : x11 < x9
        · skip
          refine Wp.cond1 rfl (decide_eq_true h17) ?_
          refine Wp.seq ?_
          refine Wp.region ?_
          refine WL.val (v := .int .i64 1) rfl (Yl.assign rfl) ?_
          refine WL.nil ?_
          refine Fin.then ?_
          refine Wp.ret ?_
          refine Fin.blockR ?_
          refine Fin.thenR ?_
          refine Fin.thenR ?_
          refine Fin.blockR ?_
          refine Fin.thenR ?_
          refine Fin.res (res1 rfl rfl) ?_
          exact ⟨by rw [hq, show min k (List.length ys) = k by omega, lcmp_at hx10 hx12, if_pos (by unfold cmpS; first | (rw [if_pos (by assumption)]; decide) | (rw [if_neg (by assumption), if_pos (by assumption)]; decide))]; unfold cmpS; first | rw [if_pos (by assumption)] | rw [if_neg (by assumption), if_pos (by assumption)], H15⟩
        · skip
          refine Wp.cond0 rfl (decide_eq_false h17) ?_
          refine Wp.skip ?_
          refine Fin.blockN ?_
          refine Fin.then ?_
          refine Wp.region ?_
          refine WL.val (v := .int .i64 ((k + 1 : Nat) : Int)) rfl (Yl.int (e := IntKind.i64.wrap (((k : Nat) : Int) + 1)) (Yl.kern rfl rfl (fun _ => by kernel_rfl)) (by rw [IntWalk.i64_in _ (by omega)]; omega)) ?_
          refine WL.val (v := .int .i64 ((k + 1 : Nat) : Int)) rfl (Yl.move rfl) ?_
          refine WL.nil ?_
          exact Fin.round (k + 1) ⟨rfl, rfl, rfl, rfl, rfl, trivial⟩ ⟨H15, (show (k + 1) ≤ List.length xs ∧ lcmp xs ys = lcmp (List.drop (min (k + 1) (List.length ys)) xs) (List.drop (min (k + 1) (List.length ys)) ys) from ⟨by omega, by rw [show min (k + 1) (List.length ys) = k + 1 by omega, hq, show min k (List.length ys) = k by omega, lcmp_at hx10 hx12, if_neg (cmp_ne0 (by assumption) (by assumption))]⟩)⟩ (by show List.length xs - (k + 1) < List.length xs - k; omega)
    · skip
      refine GW.skipG (i := 5) (l' := #[true, true, true, true, true, true, false, false, false, false, false, false, false, false, false]) (rs := []) rfl rfl rfl (decide_eq_false h8) (by kernel_rfl) rfl (NoP.then (NoP.then (NoP.block (NoP.then (NoP.then (NoP.block (NoP.then NoP.base))))))) (by kernel_rfl) (by kernel_rfl) (by kernel_rfl) (by kernel_rfl) ?_
      refine GW.skipG (i := 6) (l' := #[true, true, true, true, true, true, true, false, false, false, false, false, false, false, false]) (rs := []) rfl rfl rfl (decide_eq_false h8) (by kernel_rfl) rfl (NoP.then (NoP.then (NoP.block (NoP.then (NoP.then (NoP.block (NoP.then NoP.base))))))) (by kernel_rfl) (by kernel_rfl) (by kernel_rfl) (by kernel_rfl) ?_
      refine GW.skipG (i := 7) (l' := #[true, true, true, true, true, true, true, true, false, false, false, false, false, false, false]) (rs := []) rfl rfl rfl (decide_eq_false h8) (by kernel_rfl) rfl (NoP.then (NoP.then (NoP.block (NoP.then (NoP.then (NoP.block (NoP.then NoP.base))))))) (by kernel_rfl) (by kernel_rfl) (by kernel_rfl) (by kernel_rfl) ?_
      refine GW.skipG (i := 8) (l' := #[true, true, true, true, true, true, true, true, true, false, false, false, false, false, false]) (rs := []) rfl rfl rfl (decide_eq_false h8) (by kernel_rfl) rfl (NoP.then (NoP.then (NoP.block (NoP.then (NoP.then (NoP.block (NoP.then NoP.base))))))) (by kernel_rfl) (by kernel_rfl) (by kernel_rfl) (by kernel_rfl) ?_
      refine GW.skipG (i := 9) (l' := #[true, true, true, true, true, true, true, true, true, true, false, false, false, false, false]) (rs := []) rfl rfl rfl (decide_eq_false h8) (by kernel_rfl) rfl (NoP.then (NoP.then (NoP.block (NoP.then (NoP.then (NoP.block (NoP.then NoP.base))))))) (by kernel_rfl) (by kernel_rfl) (by kernel_rfl) (by kernel_rfl) ?_
      refine GW.skipG (i := 10) (l' := #[true, true, true, true, true, true, true, true, true, true, true, false, false, false, false]) (rs := []) rfl rfl rfl (decide_eq_false h8) (by kernel_rfl) rfl (NoP.then (NoP.then (NoP.block (NoP.then (NoP.then (NoP.block (NoP.then NoP.base))))))) (by kernel_rfl) (by kernel_rfl) (by kernel_rfl) (by kernel_rfl) ?_
      refine GW.skipG (i := 11) (l' := #[true, true, true, true, true, true, true, true, true, true, true, true, false, false, false]) (rs := []) rfl rfl rfl (decide_eq_false h8) (by kernel_rfl) rfl (NoP.then (NoP.then (NoP.block (NoP.then (NoP.then (NoP.block (NoP.then NoP.base))))))) (by kernel_rfl) (by kernel_rfl) (by kernel_rfl) (by kernel_rfl) ?_
      refine GW.skipG (i := 12) (l' := #[true, true, true, true, true, true, true, true, true, true, true, true, true, false, false]) (rs := []) rfl rfl rfl (decide_eq_false h8) (by kernel_rfl) rfl (NoP.then (NoP.then (NoP.block (NoP.then (NoP.then (NoP.block (NoP.then NoP.base))))))) (by kernel_rfl) (by kernel_rfl) (by kernel_rfl) (by kernel_rfl) ?_
      refine GW.skipG (i := 13) (l' := #[true, true, true, true, true, true, true, true, true, true, true, true, true, true, false]) (rs := []) rfl rfl rfl (decide_eq_false h8) (by kernel_rfl) rfl (NoP.then (NoP.then (NoP.block (NoP.then (NoP.then (NoP.block (NoP.then NoP.base))))))) (by kernel_rfl) (by kernel_rfl) (by kernel_rfl) (by kernel_rfl) ?_
      refine GW.take (v := .bool false) (i := 14) (l' := #[true, true, true, true, true, true, true, true, true, true, true, true, true, true, true]) (rs := []) rfl (by kernel_rfl) rfl (NoP.then (NoP.then (NoP.block (NoP.then (NoP.then (NoP.block (NoP.then NoP.base))))))) (by kernel_rfl) (by kernel_rfl) (by kernel_rfl) (by kernel_rfl) (fun _ _ => Yl.pickF rfl (decide_eq_false h8) rfl) ?_
      refine GW.done (by kernel_rfl) ?_
      refine Fin.then ?_
      refine Wp.cond0 rfl rfl ?_
      refine Wp.skip ?_
      refine Fin.then ?_
      refine Wp.seq ?_
      have H19 := H6.drew
      refine Wp.drawn (Keep [] (fun W => ∃ L', Own w D W ([] ++ L'))) (by kernel_rfl) (.inr ⟨_, H19⟩) ?_
      revert H19
      generalize World.drew w5 = w18
      intro H19
      replace H19 : Own w D w18 [] := H19
      show GW _ _ _ _ 15 #[false, false, false, false, false, false, false, false, false, false, false, false, false, false, false] _ _ _
      refine GW.take (v := .int .i64 ((k : Nat) : Int)) (i := 0) (l' := #[true, false, false, false, false, false, false, false, false, false, false, false, false, false, false]) (rs := []) rfl (by kernel_rfl) rfl (NoP.then (NoP.block (NoP.then (NoP.then (NoP.block (NoP.then NoP.base)))))) (by kernel_rfl) (by kernel_rfl) (by kernel_rfl) (by kernel_rfl) (fun _ _ => Yl.move rfl) ?_
      refine GW.take (v := .slice B (List.length ys) e) (i := 1) (l' := #[true, true, false, false, false, false, false, false, false, false, false, false, false, false, false]) (rs := []) rfl (by kernel_rfl) rfl (NoP.then (NoP.block (NoP.then (NoP.then (NoP.block (NoP.then NoP.base)))))) (by kernel_rfl) (by kernel_rfl) (by kernel_rfl) (by kernel_rfl) (fun _ _ => Yl.move rfl) ?_
      refine GW.take (v := .int .i64 ((List.length ys : Nat) : Int)) (i := 2) (l' := #[true, true, true, false, false, false, false, false, false, false, false, false, false, false, false]) (rs := []) rfl (by kernel_rfl) rfl (NoP.then (NoP.block (NoP.then (NoP.then (NoP.block (NoP.then NoP.base)))))) (by kernel_rfl) (by kernel_rfl) (by kernel_rfl) (by kernel_rfl) (fun _ _ => Yl.kern rfl rfl (fun _ => by kernel_rfl)) ?_
      refine GW.take (v := .bool (decide (((k : Nat) : Int) < ((List.length ys : Nat) : Int)))) (i := 3) (l' := #[true, true, true, true, false, false, false, false, false, false, false, false, false, false, false]) (rs := []) rfl (by kernel_rfl) rfl (NoP.then (NoP.block (NoP.then (NoP.then (NoP.block (NoP.then NoP.base)))))) (by kernel_rfl) (by kernel_rfl) (by kernel_rfl) (by kernel_rfl) (fun _ _ => Yl.kern rfl rfl (fun _ => by kernel_rfl)) ?_
      refine GW.take (v := .bool (decide (((k : Nat) : Int) < ((List.length ys : Nat) : Int)))) (i := 4) (l' := #[true, true, true, true, true, false, false, false, false, false, false, false, false, false, false]) (rs := []) rfl (by kernel_rfl) rfl (NoP.then (NoP.block (NoP.then (NoP.then (NoP.block (NoP.then NoP.base)))))) (by kernel_rfl) (by kernel_rfl) (by kernel_rfl) (by kernel_rfl) (fun _ _ => Yl.move rfl) ?_
      refine GW.skipG (i := 5) (l' := #[true, true, true, true, true, true, false, false, false, false, false, false, false, false, false]) (rs := []) rfl rfl rfl (decide_eq_false h8) (by kernel_rfl) rfl (NoP.then (NoP.block (NoP.then (NoP.then (NoP.block (NoP.then NoP.base)))))) (by kernel_rfl) (by kernel_rfl) (by kernel_rfl) (by kernel_rfl) ?_
      refine GW.skipG (i := 6) (l' := #[true, true, true, true, true, true, true, false, false, false, false, false, false, false, false]) (rs := []) rfl rfl rfl (decide_eq_false h8) (by kernel_rfl) rfl (NoP.then (NoP.block (NoP.then (NoP.then (NoP.block (NoP.then NoP.base)))))) (by kernel_rfl) (by kernel_rfl) (by kernel_rfl) (by kernel_rfl) ?_
      refine GW.skipG (i := 7) (l' := #[true, true, true, true, true, true, true, true, false, false, false, false, false, false, false]) (rs := []) rfl rfl rfl (decide_eq_false h8) (by kernel_rfl) rfl (NoP.then (NoP.block (NoP.then (NoP.then (NoP.block (NoP.then NoP.base)))))) (by kernel_rfl) (by kernel_rfl) (by kernel_rfl) (by kernel_rfl) ?_
      refine GW.skipG (i := 8) (l' := #[true, true, true, true, true, true, true, true, true, false, false, false, false, false, false]) (rs := []) rfl rfl rfl (decide_eq_false h8) (by kernel_rfl) rfl (NoP.then (NoP.block (NoP.then (NoP.then (NoP.block (NoP.then NoP.base)))))) (by kernel_rfl) (by kernel_rfl) (by kernel_rfl) (by kernel_rfl) ?_
      refine GW.skipG (i := 9) (l' := #[true, true, true, true, true, true, true, true, true, true, false, false, false, false, false]) (rs := []) rfl rfl rfl (decide_eq_false h8) (by kernel_rfl) rfl (NoP.then (NoP.block (NoP.then (NoP.then (NoP.block (NoP.then NoP.base)))))) (by kernel_rfl) (by kernel_rfl) (by kernel_rfl) (by kernel_rfl) ?_
      refine GW.skipG (i := 10) (l' := #[true, true, true, true, true, true, true, true, true, true, true, false, false, false, false]) (rs := []) rfl rfl rfl (decide_eq_false h8) (by kernel_rfl) rfl (NoP.then (NoP.block (NoP.then (NoP.then (NoP.block (NoP.then NoP.base)))))) (by kernel_rfl) (by kernel_rfl) (by kernel_rfl) (by kernel_rfl) ?_
      refine GW.skipG (i := 11) (l' := #[true, true, true, true, true, true, true, true, true, true, true, true, false, false, false]) (rs := []) rfl rfl rfl (decide_eq_false h8) (by kernel_rfl) rfl (NoP.then (NoP.block (NoP.then (NoP.then (NoP.block (NoP.then NoP.base)))))) (by kernel_rfl) (by kernel_rfl) (by kernel_rfl) (by kernel_rfl) ?_
      refine GW.skipG (i := 12) (l' := #[true, true, true, true, true, true, true, true, true, true, true, true, true, false, false]) (rs := []) rfl rfl rfl (decide_eq_false h8) (by kernel_rfl) rfl (NoP.then (NoP.block (NoP.then (NoP.then (NoP.block (NoP.then NoP.base)))))) (by kernel_rfl) (by kernel_rfl) (by kernel_rfl) (by kernel_rfl) ?_
      refine GW.skipG (i := 13) (l' := #[true, true, true, true, true, true, true, true, true, true, true, true, true, true, false]) (rs := []) rfl rfl rfl (decide_eq_false h8) (by kernel_rfl) rfl (NoP.then (NoP.block (NoP.then (NoP.then (NoP.block (NoP.then NoP.base)))))) (by kernel_rfl) (by kernel_rfl) (by kernel_rfl) (by kernel_rfl) ?_
      refine GW.take (v := .bool false) (i := 14) (l' := #[true, true, true, true, true, true, true, true, true, true, true, true, true, true, true]) (rs := []) rfl (by kernel_rfl) rfl (NoP.then (NoP.block (NoP.then (NoP.then (NoP.block (NoP.then NoP.base)))))) (by kernel_rfl) (by kernel_rfl) (by kernel_rfl) (by kernel_rfl) (fun _ _ => Yl.pickF rfl (decide_eq_false h8) rfl) ?_
      refine GW.done (by kernel_rfl) ?_
      refine Fin.then ?_
      refine Wp.cond0 rfl rfl ?_
      refine Wp.skip ?_
      refine Fin.blockN ?_
      refine Fin.then ?_
      refine Wp.region ?_
      refine WL.val (v := .int .i64 ((k + 1 : Nat) : Int)) rfl (Yl.int (e := IntKind.i64.wrap (((k : Nat) : Int) + 1)) (Yl.kern rfl rfl (fun _ => by kernel_rfl)) (by rw [IntWalk.i64_in _ (by omega)]; omega)) ?_
      refine WL.val (v := .int .i64 ((k + 1 : Nat) : Int)) rfl (Yl.move rfl) ?_
      refine WL.nil ?_
      exact Fin.round (k + 1) ⟨rfl, rfl, rfl, rfl, rfl, trivial⟩ ⟨H19, (show (k + 1) ≤ List.length xs ∧ lcmp xs ys = lcmp (List.drop (min (k + 1) (List.length ys)) xs) (List.drop (min (k + 1) (List.length ys)) ys) from ⟨by omega, by rw [show min (k + 1) (List.length ys) = min k (List.length ys) by omega]; exact hq⟩)⟩ (by show List.length xs - (k + 1) < List.length xs - k; omega)
  · skip
    refine Wp.cond0 rfl (decide_eq_false h4) ?_
    refine Wp.exit ?_
    refine Fin.thenX ?_
    refine Fin.thenX ?_
    refine Fin.blockX ?_
    refine Fin.then ?_
    refine Wp.seq ?_
    refine Wp.seq ?_
    refine Wp.region ?_
    refine WL.val (v := .slice A (List.length xs) c) rfl (Yl.move rfl) ?_
    refine WL.val (v := .int .i64 ((List.length xs : Nat) : Int)) rfl (Yl.kern rfl rfl (fun _ => by kernel_rfl)) ?_
    refine WL.val (v := .slice B (List.length ys) e) rfl (Yl.move rfl) ?_
    refine WL.val (v := .int .i64 ((List.length ys : Nat) : Int)) rfl (Yl.kern rfl rfl (fun _ => by kernel_rfl)) ?_
    refine WL.val (v := .bool (decide (((List.length xs : Nat) : Int) < ((List.length ys : Nat) : Int)))) rfl (Yl.kern rfl rfl (fun _ => by kernel_rfl)) ?_
    refine WL.nil ?_
    refine Fin.then ?_
    by_cases h21 : ((List.length xs : Nat) : Int) < ((List.length ys : Nat) : Int)
    · skip
      refine Wp.cond1 rfl (decide_eq_true h21) ?_
      refine Wp.seq ?_
      refine Wp.region ?_
      refine WL.val (v := .int .i64 (-1)) rfl (Yl.assign rfl) ?_
      refine WL.nil ?_
      refine Fin.then ?_
      refine Wp.ret ?_
      refine Fin.thenR ?_
      refine Fin.res (res1 rfl rfl) ?_
      exact ⟨by rw [hq, lcmp_end (by omega)]; unfold cmpI; first | rw [if_pos (by omega)] | rw [if_neg (by omega), if_pos (by omega)] | rw [if_neg (by omega), if_neg (by omega)], H2⟩
    · skip
      refine Wp.cond0 rfl (decide_eq_false h21) ?_
      refine Wp.skip ?_
      refine Fin.then ?_
      refine Wp.seq ?_
      refine Wp.seq ?_
      refine Wp.region ?_
      refine WL.val (v := .slice A (List.length xs) c) rfl (Yl.move rfl) ?_
      refine WL.val (v := .int .i64 ((List.length xs : Nat) : Int)) rfl (Yl.kern rfl rfl (fun _ => by kernel_rfl)) ?_
      refine WL.val (v := .slice B (List.length ys) e) rfl (Yl.move rfl) ?_
      refine WL.val (v := .int .i64 ((List.length ys : Nat) : Int)) rfl (Yl.kern rfl rfl (fun _ => by kernel_rfl)) ?_
      refine WL.val (v := .bool (decide (((List.length xs : Nat) : Int) > ((List.length ys : Nat) : Int)))) rfl (Yl.kern rfl rfl (fun _ => by kernel_rfl)) ?_
      refine WL.nil ?_
      refine Fin.then ?_
      by_cases h22 : ((List.length xs : Nat) : Int) > ((List.length ys : Nat) : Int)
      · skip
        refine Wp.cond1 rfl (decide_eq_true h22) ?_
        refine Wp.seq ?_
        refine Wp.region ?_
        refine WL.val (v := .int .i64 1) rfl (Yl.assign rfl) ?_
        refine WL.nil ?_
        refine Fin.then ?_
        refine Wp.ret ?_
        refine Fin.thenR ?_
        refine Fin.res (res1 rfl rfl) ?_
        exact ⟨by rw [hq, lcmp_end (by omega)]; unfold cmpI; first | rw [if_pos (by omega)] | rw [if_neg (by omega), if_pos (by omega)] | rw [if_neg (by omega), if_neg (by omega)], H2⟩
      · skip
        refine Wp.cond0 rfl (decide_eq_false h22) ?_
        refine Wp.skip ?_
        refine Fin.then ?_
        refine Wp.seq ?_
        refine Wp.region ?_
        refine WL.val (v := .int .i64 0) rfl (Yl.assign rfl) ?_
        refine WL.nil ?_
        refine Fin.then ?_
        refine Wp.ret ?_
        refine Fin.res (res1 rfl rfl) ?_
        exact ⟨by rw [hq, lcmp_end (by omega)]; unfold cmpI; first | rw [if_pos (by omega)] | rw [if_neg (by omega), if_pos (by omega)] | rw [if_neg (by omega), if_neg (by omega)], H2⟩

theorem RJoin_two (A : Option Addr) (c n : Nat) (ls : List (List UInt8)) (w : World) (D : Nat → Prop) (H : Own w D w []) (hn : n = List.length ls) (hx : Ro w D fun w => Rds w 1 A n (List.flatMap eS ls)) (hs : ∀ p ∈ ls, List.length p ≤ 140737488351232) :
    Calls Try.prog 10 #[.slice A n c] w (Ret fun v w' => ((1 ≤ List.length ls ∧ List.length ls ≤ 4 ∧ List.length (jn ls) ≤ 12 ∧ jE ls = (jn ls, 0)) ∧ v = .tuple #[.string ⟨(jn ls).toArray⟩, .int .i64 0] ∧ Own w D w' []) ∨ (∃ e, (e ≠ 0 ∧ jE ls = ([], e)) ∧ v = .tuple #[.string ⟨List.toArray []⟩, .int .i64 e] ∧ Own w D w' [])) :=
  Ret.mono (by subst hn; exact RJoin_ok A c ls w D H hx hs) fun v w' r => by
    by_cases h : (jE ls).2 = 0
    · obtain ⟨h1, h2, h3, h4⟩ := jE_ok h
      refine .inl ⟨⟨h3, h4, h2, Prod.ext h1 h⟩, ?_, r.2⟩
      rw [r.1, h, h1]
    · refine .inr ⟨(jE ls).2, ⟨h, ?_⟩, ?_, r.2⟩
      all_goals
        have : (jE ls).1 = [] := by
          unfold jE at h ⊢
          by_cases h1 : List.length ls < 1 ∨ 4 < List.length ls
          · rw [if_pos h1]
          · rw [if_neg h1] at h ⊢
            by_cases h2 : 12 < List.length (jn ls)
            · rw [if_pos h2]
            · rw [if_neg h2] at h; exact absurd rfl h
      · exact Prod.ext this rfl
      · rw [r.1, this]

set_option maxRecDepth 100000 in
theorem RUnder_ok (A : Option Addr) (c : Nat) (ls : List (List UInt8)) (w : World) (D : Nat → Prop) (H : Own w D w []) (hx : Ro w D fun w => Rds w 1 A (List.length ls) (List.flatMap eS ls)) (hs : ∀ p ∈ ls, List.length p ≤ 140737488351232) :
    Calls Try.prog 12 #[.slice A (List.length ls) c] w (Ret fun v w' => v = .tuple #[.agg #[.string ⟨(uE ls).1.toArray⟩, .string ⟨(uE ls).2.toArray⟩], .int .i64 (jE ls).2] ∧ Own w D w' []) := by
  refine Calls.body (args := [.slice A (List.length ls) c]) Try.func12 rfl rfl rfl ?_
  show Wp _ _ _ [(0, .slice A (List.length ls) c)] _ _
  refine Wp.seq ?_
  refine Wp.region ?_
  refine WL.do rfl (Do.newP (cs := [.string ⟨List.toArray ([])⟩, .string ⟨List.toArray ([])⟩]) (t := 28) H rfl rfl (fun _ => by kernel_rfl) ?_)
  intro g1 w2 H3
  replace H3 : Own w D w2 [blk g1 [.string ⟨List.toArray ([])⟩, .string ⟨List.toArray ([])⟩] 28] := H3
  refine WL.val (v := .int .i64 0) rfl (Yl.assign rfl) ?_
  refine WL.nil ?_
  refine Fin.then ?_
  refine Wp.seq ?_
  refine Wp.region ?_
  refine WL.val (v := .slice A (List.length ls) c) rfl (Yl.move rfl) ?_
  obtain ⟨D4, HP5, ro6, bk7, rr8⟩ := Own.enter (L1 := []) (L2 := [blk g1 [.string ⟨List.toArray ([])⟩, .string ⟨List.toArray ([])⟩] 28]) H3
  refine WL.do rfl (Do.call Try.call10 rfl (RJoin_two A c (List.length ls) ls _ _ HP5 rfl (ro6 _ hx) hs) ?_)
  rintro _ w9 (⟨qj11, rfl, HQ10⟩ | ⟨e13, qj14, rfl, HQ12⟩)
  · skip
    have H15 : Own w D w9 [blk g1 [.string ⟨List.toArray ([])⟩, .string ⟨List.toArray ([])⟩] 28] := bk7 _ _ HQ10
    refine WL.val (v := .tuple #[.string ⟨List.toArray (jn ls)⟩, .int .i64 0]) rfl (Yl.move rfl) ?_
    refine WL.val (v := .string ⟨List.toArray (jn ls)⟩) rfl (Yl.kern rfl rfl (fun _ => by kernel_rfl)) ?_
    refine WL.val (v := .int .i64 0) rfl (Yl.kern rfl rfl (fun _ => by kernel_rfl)) ?_
    refine WL.val (v := .string ⟨List.toArray (jn ls)⟩) rfl (Yl.assign rfl) ?_
    refine WL.val (v := .int .i64 0) rfl (Yl.assign rfl) ?_
    refine WL.nil ?_
    refine Fin.then ?_
    refine Wp.seq ?_
    refine Wp.seq ?_
    refine Wp.region ?_
    refine WL.val (v := .int .i64 0) rfl (Yl.move rfl) ?_
    refine WL.val (v := .bool false) rfl (Yl.kern rfl rfl (fun _ => by kernel_rfl)) ?_
    refine WL.nil ?_
    refine Fin.then ?_
    refine Wp.cond0 rfl rfl ?_
    refine Wp.skip ?_
    refine Fin.then ?_
    refine Wp.seq ?_
    refine Wp.region ?_
    refine WL.val (v := .string ⟨List.toArray (jn ls)⟩) rfl (Yl.move rfl) ?_
    refine WL.val (v := .string ⟨List.toArray (jn ls)⟩) rfl (Yl.move rfl) ?_
    obtain ⟨js, hjs⟩ := jn_last (ls := ls) (by omega)
    have hjl : List.length (jn ls) = List.length js + 1 := by rw [hjs]; simp
    have hb : (jn ls)[(List.length (jn ls)) - 1]? = some (1 : UInt8) := by rw [hjl, hjs]; simp
    refine WL.val (v := .string ⟨List.toArray (jn ls)⟩) rfl (Yl.move rfl) ?_
    refine WL.val (v := .int .i64 ((List.length (jn ls) : Nat) : Int)) rfl (Yl.kern rfl rfl (fun _ => by kernel_rfl)) ?_
    refine WL.val (v := .int .i64 (((List.length (jn ls)) - 1 : Nat) : Int)) rfl (Yl.int (e := IntKind.i64.wrap (((List.length (jn ls) : Nat) : Int) - 1)) (Yl.kern rfl rfl (fun _ => by kernel_rfl)) (by rw [IntWalk.i64_in _ (by omega)]; omega)) ?_
    refine WL.val (v := .string ⟨List.toArray (List.take ((List.length (jn ls)) - 1) (jn ls))⟩) rfl (Yl.strTo Try.underlying9 rfl rfl (by first | omega | (simp only [List.length_drop, List.length_take, List.length_append, List.length_cons, List.length_nil]; omega))) ?_
    refine WL.val (v := .string ⟨List.toArray ((List.take ((List.length (jn ls)) - 1) (jn ls)) ++ ([2]))⟩) rfl (Yl.strCat rfl rfl (by first | omega | (simp only [List.length_drop, List.length_take, List.length_append, List.length_cons, List.length_nil]; omega))) ?_
    refine WL.val (v := .agg #[.string ⟨List.toArray (jn ls)⟩, .string ⟨List.toArray ((List.take ((List.length (jn ls)) - 1) (jn ls)) ++ ([2]))⟩]) rfl (Yl.kern rfl rfl (fun _ => by kernel_rfl)) ?_
    refine WL.do0 (Do.store (vs := [.string ⟨List.toArray (jn ls)⟩, .string ⟨List.toArray ((List.take ((List.length (jn ls)) - 1) (jn ls)) ++ ([2]))⟩]) (o := 0) H15 rfl rfl Try.sizeOf28 rfl rfl rfl rfl ?_)
    intro w16 H17
    replace H17 : Own w D w16 [blk g1 [.string ⟨List.toArray (jn ls)⟩, .string ⟨List.toArray ((List.take ((List.length (jn ls)) - 1) (jn ls)) ++ ([2]))⟩] 28] := H17
    refine WL.val (v := .int .i64 0) rfl (Yl.assign rfl) ?_
    refine WL.nil ?_
    refine Fin.then ?_
    refine Wp.ret ?_
    refine Fin.res (resN (vs := [.agg #[.string ⟨List.toArray (jn ls)⟩, .string ⟨List.toArray ((List.take ((List.length (jn ls)) - 1) (jn ls)) ++ ([2]))⟩], .int .i64 0]) rfl (ResV.cell rfl (Lds.agg (cs := [.string ⟨List.toArray (jn ls)⟩, .string ⟨List.toArray ((List.take ((List.length (jn ls)) - 1) (jn ls)) ++ ([2]))⟩]) Try.isAgg28 Try.sizeOf28 ((H17.cls (i := 0) rfl).lit (k := 0) (m := 2) rfl)) (ResV.tmp rfl ResV.nil)) (Nat.le_of_ble_eq_true rfl)) ?_
    have H18 : Own w D w16 [] := H17.pick [] (by decide) rfl
    exact ⟨by unfold uE; rw [qj11.2.2.2, if_pos rfl]; first | done | rfl, H18⟩
  · skip
    have H19 : Own w D w9 [blk g1 [.string ⟨List.toArray ([])⟩, .string ⟨List.toArray ([])⟩] 28] := bk7 _ _ HQ12
    refine WL.val (v := .tuple #[.string ⟨List.toArray ([])⟩, .int .i64 e13]) rfl (Yl.move rfl) ?_
    refine WL.val (v := .string ⟨List.toArray ([])⟩) rfl (Yl.kern rfl rfl (fun _ => by kernel_rfl)) ?_
    refine WL.val (v := .int .i64 e13) rfl (Yl.kern rfl rfl (fun _ => by kernel_rfl)) ?_
    refine WL.val (v := .string ⟨List.toArray ([])⟩) rfl (Yl.assign rfl) ?_
    refine WL.val (v := .int .i64 e13) rfl (Yl.assign rfl) ?_
    refine WL.nil ?_
    refine Fin.then ?_
    refine Wp.seq ?_
    refine Wp.seq ?_
    refine Wp.region ?_
    refine WL.val (v := .int .i64 e13) rfl (Yl.move rfl) ?_
    refine WL.val (v := .bool (decide (¬ (e13 = 0)))) rfl (Yl.bool (e := !(decide (e13 = 0))) (Yl.kern rfl rfl (fun _ => by kernel_rfl)) decide_not.symm) ?_
    refine WL.nil ?_
    refine Fin.then ?_
    have hb20 : (decide (¬ (e13 = 0))) = true := (decide_eq_true (by omega))
    refine Wp.cond1 rfl hb20 ?_
    refine Wp.seq ?_
    refine Wp.region ?_
    refine WL.val (v := .agg #[.string ⟨List.toArray ([])⟩, .string ⟨List.toArray ([])⟩]) rfl (Yl.kern rfl rfl (fun _ => by kernel_rfl)) ?_
    refine WL.val (v := .int .i64 e13) rfl (Yl.move rfl) ?_
    refine WL.do0 (Do.store (vs := [.string ⟨List.toArray ([])⟩, .string ⟨List.toArray ([])⟩]) (o := 0) H19 rfl rfl Try.sizeOf28 rfl rfl rfl rfl ?_)
    intro w21 H22
    replace H22 : Own w D w21 [blk g1 [.string ⟨List.toArray ([])⟩, .string ⟨List.toArray ([])⟩] 28] := H22
    refine WL.val (v := .int .i64 e13) rfl (Yl.assign rfl) ?_
    refine WL.nil ?_
    refine Fin.then ?_
    refine Wp.ret ?_
    refine Fin.thenR ?_
    refine Fin.res (resN (vs := [.agg #[.string ⟨List.toArray ([])⟩, .string ⟨List.toArray ([])⟩], .int .i64 e13]) rfl (ResV.cell rfl (Lds.agg (cs := [.string ⟨List.toArray ([])⟩, .string ⟨List.toArray ([])⟩]) Try.isAgg28 Try.sizeOf28 ((H22.cls (i := 0) rfl).lit (k := 0) (m := 2) rfl)) (ResV.tmp rfl ResV.nil)) (Nat.le_of_ble_eq_true rfl)) ?_
    have H23 : Own w D w21 [] := H22.pick [] (by decide) rfl
    exact ⟨by unfold uE; rw [qj14.2, if_neg qj14.1], H23⟩

theorem take_one {α : Type} {xs : List α} {k : Nat} {x : α} (h : xs[k]? = some x) : List.take (k + 1) xs = List.take k xs ++ [x] := by
  obtain ⟨hk, rfl⟩ := List.getElem?_eq_some_iff.1 h
  exact List.take_succ_eq_append_getElem hk

set_option maxRecDepth 100000 in
theorem same_ok (A B : Option Addr) (c e : Nat) (xs ys : List (List UInt8)) (w : World) (D : Nat → Prop) (H : Own w D w []) (hx : Ro w D fun w => Rds w 1 A (List.length xs) (List.flatMap eS xs)) (hy : Ro w D fun w => Rds w 1 B (List.length ys) (List.flatMap eS ys)) (hl : List.length xs ≤ 9223372036854775807) :
    Calls Try.prog 17 #[.slice A (List.length xs) c, .slice B (List.length ys) e] w (Ret fun v w' => v = .bool (decide (xs = ys)) ∧ Own w D w' []) := by
  refine Calls.body (args := [.slice A (List.length xs) c, .slice B (List.length ys) e]) Try.func17 rfl rfl rfl ?_
  show Wp _ _ _ [(0, .slice A (List.length xs) c), (1, .slice B (List.length ys) e)] _ _
  refine Wp.seq ?_
  refine Wp.region ?_
  refine WL.val (v := .bool false) rfl (Yl.assign rfl) ?_
  refine WL.nil ?_
  refine Fin.then ?_
  refine Wp.seq ?_
  refine Wp.seq ?_
  refine Wp.region ?_
  refine WL.val (v := .slice A (List.length xs) c) rfl (Yl.move rfl) ?_
  refine WL.val (v := .int .i64 ((List.length xs : Nat) : Int)) rfl (Yl.kern rfl rfl (fun _ => by kernel_rfl)) ?_
  refine WL.val (v := .slice B (List.length ys) e) rfl (Yl.move rfl) ?_
  refine WL.val (v := .int .i64 ((List.length ys : Nat) : Int)) rfl (Yl.kern rfl rfl (fun _ => by kernel_rfl)) ?_
  refine WL.val (v := .bool (decide (¬ (((List.length xs : Nat) : Int) = ((List.length ys : Nat) : Int))))) rfl (Yl.bool (e := !(decide (((List.length xs : Nat) : Int) = ((List.length ys : Nat) : Int)))) (Yl.kern rfl rfl (fun _ => by kernel_rfl)) decide_not.symm) ?_
  refine WL.nil ?_
  refine Fin.then ?_
  by_cases h1 : ¬ (((List.length xs : Nat) : Int) = ((List.length ys : Nat) : Int))
  · skip
    refine Wp.cond1 rfl (decide_eq_true h1) ?_
    refine Wp.seq ?_
    refine Wp.region ?_
    refine WL.val (v := .bool false) rfl (Yl.assign rfl) ?_
    refine WL.nil ?_
    refine Fin.then ?_
    refine Wp.ret ?_
    refine Fin.thenR ?_
    refine Fin.res (res1 rfl rfl) ?_
    exact ⟨congrArg Value.bool (decide_eq_false (fun e => by subst e; omega)).symm, H⟩
  · skip
    refine Wp.cond0 rfl (decide_eq_false h1) ?_
    refine Wp.skip ?_
    refine Fin.then ?_
    refine Wp.seq ?_
    refine Wp.seq ?_
    refine Wp.region ?_
    refine WL.val (v := .slice A (List.length xs) c) rfl (Yl.move rfl) ?_
    refine WL.val (v := .int .i64 ((List.length xs : Nat) : Int)) rfl (Yl.kern rfl rfl (fun _ => by kernel_rfl)) ?_
    refine WL.val (v := .int .i64 0) rfl (Yl.move rfl) ?_
    refine WL.nil ?_
    refine Fin.then ?_
    refine Wp.block ?_
    refine Wp.loop (ι := Nat) (fun i => [(13, .int .i64 ((i : Nat) : Int)), (12, .int .i64 ((List.length xs : Nat) : Int)), (11, .slice A (List.length xs) c), (10, .bool (decide (¬ (((List.length xs : Nat) : Int) = ((List.length ys : Nat) : Int))))), (9, .int .i64 ((List.length ys : Nat) : Int)), (8, .slice B (List.length ys) e), (7, .int .i64 ((List.length xs : Nat) : Int)), (6, .slice A (List.length xs) c), (0, .slice A (List.length xs) c), (1, .slice B (List.length ys) e)]) (fun (i : Nat) w' => Own w D w' [] ∧ (i ≤ List.length xs ∧ List.take i xs = List.take i ys)) (fun i => List.length xs - i) 0 ⟨rfl, rfl, rfl, rfl, rfl, rfl, rfl, rfl, rfl, rfl, trivial⟩ ⟨H, (show 0 ≤ List.length xs ∧ List.take 0 xs = List.take 0 ys from ⟨by omega, rfl⟩)⟩ ?_
    rintro k w2 ⟨H3, hf4⟩
    show Wp _ _ _ [(13, .int .i64 ((k : Nat) : Int)), (12, .int .i64 ((List.length xs : Nat) : Int)), (11, .slice A (List.length xs) c), (10, .bool (decide (¬ (((List.length xs : Nat) : Int) = ((List.length ys : Nat) : Int))))), (9, .int .i64 ((List.length ys : Nat) : Int)), (8, .slice B (List.length ys) e), (7, .int .i64 ((List.length xs : Nat) : Int)), (6, .slice A (List.length xs) c), (0, .slice A (List.length xs) c), (1, .slice B (List.length ys) e)] _ _
    replace H3 : Own w D w2 [] := H3
    replace hf4 : k ≤ List.length xs ∧ List.take k xs = List.take k ys := hf4
    obtain ⟨hk, hq⟩ := hf4
    refine Wp.seq ?_
    refine Wp.region ?_
    refine WL.val (v := .bool (decide (((k : Nat) : Int) < ((List.length xs : Nat) : Int)))) rfl (Yl.kern rfl rfl (fun _ => by kernel_rfl)) ?_
    refine WL.nil ?_
    refine Fin.then ?_
    refine Wp.seq ?_
    by_cases h5 : ((k : Nat) : Int) < ((List.length xs : Nat) : Int)
    · skip
      refine Wp.cond1 rfl (decide_eq_true h5) ?_
      refine Wp.skip ?_
      refine Fin.then ?_
      refine Wp.seq ?_
      refine Wp.block ?_
      refine Wp.seq ?_
      refine Wp.region ?_
      refine WL.val (v := .int .i64 ((k : Nat) : Int)) rfl (Yl.move rfl) ?_
      refine WL.val (v := .int .i64 ((k : Nat) : Int)) rfl (Yl.assign rfl) ?_
      refine WL.nil ?_
      refine Fin.then ?_
      refine Wp.seq ?_
      have H7 := H3.drew
      refine Wp.drawn (Keep [] (fun W => ∃ L', Own w D W ([] ++ L'))) (by kernel_rfl) (.inr ⟨_, H7⟩) ?_
      revert H7
      generalize World.drew w2 = w6
      intro H7
      replace H7 : Own w D w6 [] := H7
      show GW _ _ _ _ 9 #[false, false, false, false, false, false, false, false, false] _ _ _
      refine GW.take (v := .slice A (List.length xs) c) (i := 0) (l' := #[true, false, false, false, false, false, false, false, false]) (rs := []) rfl (by kernel_rfl) rfl (NoP.then (NoP.block (NoP.then (NoP.then (NoP.block (NoP.then NoP.base)))))) (by kernel_rfl) (by kernel_rfl) (by kernel_rfl) (by kernel_rfl) (fun _ _ => Yl.move rfl) ?_
      refine GW.take (v := .int .i64 ((k : Nat) : Int)) (i := 1) (l' := #[true, true, false, false, false, false, false, false, false]) (rs := []) rfl (by kernel_rfl) rfl (NoP.then (NoP.block (NoP.then (NoP.then (NoP.block (NoP.then NoP.base)))))) (by kernel_rfl) (by kernel_rfl) (by kernel_rfl) (by kernel_rfl) (fun _ _ => Yl.move rfl) ?_
      obtain ⟨x9, hx10⟩ := at_of (ls := xs) (i := k) (by first | omega | (simp; done) | (simp; omega))
      refine GW.take (v := .pointer (some ⟨ab A, ao A + k * 1, none⟩)) (i := 2) (l' := #[true, true, true, false, false, false, false, false, false]) (rs := []) rfl (by kernel_rfl) rfl (NoP.then (NoP.block (NoP.then (NoP.then (NoP.block (NoP.then NoP.base)))))) (by kernel_rfl) (by kernel_rfl) (by kernel_rfl) (by kernel_rfl) (fun _ ⟨_, H9⟩ => Yl.indexAddr (El22) rfl rfl ((H9.ro hx).addr (i := k) (by omega)) (by omega)) ?_
      refine GW.take (v := .string ⟨List.toArray x9⟩) (i := 3) (l' := #[true, true, true, true, false, false, false, false, false]) (rs := []) rfl (by kernel_rfl) rfl (NoP.then (NoP.block (NoP.then (NoP.then (NoP.block (NoP.then NoP.base)))))) (by kernel_rfl) (by kernel_rfl) (by kernel_rfl) (by kernel_rfl) (fun _ ⟨_, H9⟩ => Yl.load rfl (Lds.one Try.isAgg9 (((H9.ro hx).elem eS_len hx10 (by decide)).at_ (k := 0) rfl))) ?_
      refine GW.take (v := .slice B (List.length ys) e) (i := 4) (l' := #[true, true, true, true, true, false, false, false, false]) (rs := []) rfl (by kernel_rfl) rfl (NoP.then (NoP.block (NoP.then (NoP.then (NoP.block (NoP.then NoP.base)))))) (by kernel_rfl) (by kernel_rfl) (by kernel_rfl) (by kernel_rfl) (fun _ _ => Yl.move rfl) ?_
      refine GW.take (v := .int .i64 ((k : Nat) : Int)) (i := 5) (l' := #[true, true, true, true, true, true, false, false, false]) (rs := []) rfl (by kernel_rfl) rfl (NoP.then (NoP.block (NoP.then (NoP.then (NoP.block (NoP.then NoP.base)))))) (by kernel_rfl) (by kernel_rfl) (by kernel_rfl) (by kernel_rfl) (fun _ _ => Yl.move rfl) ?_
      obtain ⟨x11, hx12⟩ := at_of (ls := ys) (i := k) (by first | omega | (simp; done) | (simp; omega))
      refine GW.take (v := .pointer (some ⟨ab B, ao B + k * 1, none⟩)) (i := 6) (l' := #[true, true, true, true, true, true, true, false, false]) (rs := []) rfl (by kernel_rfl) rfl (NoP.then (NoP.block (NoP.then (NoP.then (NoP.block (NoP.then NoP.base)))))) (by kernel_rfl) (by kernel_rfl) (by kernel_rfl) (by kernel_rfl) (fun _ ⟨_, H9⟩ => Yl.indexAddr (El22) rfl rfl ((H9.ro hy).addr (i := k) (by omega)) (by omega)) ?_
      refine GW.take (v := .string ⟨List.toArray x11⟩) (i := 7) (l' := #[true, true, true, true, true, true, true, true, false]) (rs := []) rfl (by kernel_rfl) rfl (NoP.then (NoP.block (NoP.then (NoP.then (NoP.block (NoP.then NoP.base)))))) (by kernel_rfl) (by kernel_rfl) (by kernel_rfl) (by kernel_rfl) (fun _ ⟨_, H9⟩ => Yl.load rfl (Lds.one Try.isAgg9 (((H9.ro hy).elem eS_len hx12 (by decide)).at_ (k := 0) rfl))) ?_
      refine GW.take (v := .bool (decide (x9 ≠ x11))) (i := 8) (l' := #[true, true, true, true, true, true, true, true, true]) (rs := []) rfl (by kernel_rfl) rfl (NoP.then (NoP.block (NoP.then (NoP.then (NoP.block (NoP.then NoP.base)))))) (by kernel_rfl) (by kernel_rfl) (by kernel_rfl) (by kernel_rfl) (fun _ _ => Yl.strNe rfl rfl) ?_
      refine GW.done (by kernel_rfl) ?_
      refine Fin.then ?_
      by_cases h13 : x9 ≠ x11
      · skip
        refine Wp.cond1 rfl (decide_eq_true h13) ?_
        refine Wp.seq ?_
        refine Wp.region ?_
        refine WL.val (v := .bool false) rfl (Yl.assign rfl) ?_
        refine WL.nil ?_
        refine Fin.then ?_
        refine Wp.ret ?_
        refine Fin.blockR ?_
        refine Fin.thenR ?_
        refine Fin.thenR ?_
        refine Fin.blockR ?_
        refine Fin.thenR ?_
        refine Fin.res (res1 rfl rfl) ?_
        exact ⟨congrArg Value.bool (decide_eq_false (fun e => by subst e; rw [hx10] at hx12; injection hx12 with e; exact h13 e)).symm, H7⟩
      · skip
        refine Wp.cond0 rfl (decide_eq_false h13) ?_
        refine Wp.skip ?_
        refine Fin.blockN ?_
        refine Fin.then ?_
        refine Wp.region ?_
        refine WL.val (v := .int .i64 ((k + 1 : Nat) : Int)) rfl (Yl.int (e := IntKind.i64.wrap (((k : Nat) : Int) + 1)) (Yl.kern rfl rfl (fun _ => by kernel_rfl)) (by rw [IntWalk.i64_in _ (by omega)]; omega)) ?_
        refine WL.val (v := .int .i64 ((k + 1 : Nat) : Int)) rfl (Yl.move rfl) ?_
        refine WL.nil ?_
        exact Fin.round (k + 1) ⟨rfl, rfl, rfl, rfl, rfl, rfl, rfl, rfl, rfl, rfl, trivial⟩ ⟨H7, (show (k + 1) ≤ List.length xs ∧ List.take (k + 1) xs = List.take (k + 1) ys from ⟨by omega, by rw [take_one hx10, take_one hx12, hq, Classical.not_not.1 h13]⟩)⟩ (by show List.length xs - (k + 1) < List.length xs - k; omega)
    · skip
      refine Wp.cond0 rfl (decide_eq_false h5) ?_
      refine Wp.exit ?_
      refine Fin.thenX ?_
      refine Fin.thenX ?_
      refine Fin.blockX ?_
      refine Fin.then ?_
      refine Wp.seq ?_
      refine Wp.region ?_
      refine WL.val (v := .bool true) rfl (Yl.assign rfl) ?_
      refine WL.nil ?_
      refine Fin.then ?_
      refine Wp.ret ?_
      refine Fin.res (res1 rfl rfl) ?_
      exact ⟨congrArg Value.bool (decide_eq_true (by rw [all_take (ls := xs) (k := k) (by omega), all_take (ls := ys) (k := k) (by omega)] at hq; exact hq)).symm, H3⟩
end Go.Proofs.Yticaheijlapllaa
