/-
  tuple: cutPart, read, Parts.
-/
import Derived.Test.YticaheijlapllaaTb
namespace Go.Proofs.Yticaheijlapllaa
open Go.RowKit
set_option linter.unusedVariables false
set_option linter.unusedSectionVars false

def cp : List UInt8 → List UInt8 → List UInt8 × List UInt8 × Bool
  | _, [] => ([], [], false)
  | acc, b :: r => if b ≠ 0 then cp (acc ++ [b]) r else match r with
    | [] => ([], [], false)
    | c :: r' => if c = 1 then (acc, r', true) else if c = 255 then cp (acc ++ [0]) r' else ([], [], false)
def rdl : Nat → List UInt8 → List (List UInt8 × Bool)
  | 0, _ => []
  | n + 1, key => if key = [] then [] else ((cp [] key).1, (cp [] key).2.2) :: (if (cp [] key).2.2 = true then rdl n (cp [] key).2.1 else [])
theorem cp_cons (acc : List UInt8) (b : UInt8) (r : List UInt8) : cp acc (b :: r) = if b ≠ 0 then cp (acc ++ [b]) r else match r with
    | [] => ([], [], false)
    | c :: r' => if c = 1 then (acc, r', true) else if c = 255 then cp (acc ++ [0]) r' else ([], [], false) := by rw [cp.eq_def]
theorem nz {b : UInt8} {n : Nat} (h : n < 256) : ((b.toNat : Nat) : Int) = ((n : Nat) : Int) ↔ b = UInt8.ofNat n := by
  constructor
  · intro e
    refine UInt8.toNat_inj.1 ?_
    rw [UInt8.toNat_ofNat', Nat.mod_eq_of_lt h]; omega
  · rintro rfl
    rw [UInt8.toNat_ofNat', Nat.mod_eq_of_lt h]
theorem cp_end {key got : List UInt8} {i : Nat} (h : key.length ≤ i) : cp got (List.drop i key) = ([], [], false) := by rw [List.drop_of_length_le h]; rfl
theorem drop_two {key : List UInt8} {i : Nat} {b : UInt8} (h : key[i]? = some b) : List.drop i key = b :: List.drop (i + 1) key := by
  obtain ⟨hi, rfl⟩ := List.getElem?_eq_some_iff.1 h
  exact List.drop_eq_getElem_cons hi
theorem cp_ne {key got : List UInt8} {i : Nat} {b : UInt8} (h : key[i]? = some b) (hb : ¬ ((b.toNat : Nat) : Int) = 0) : cp got (List.drop i key) = cp (got ++ [b]) (List.drop (i + 1) key) := by
  rw [drop_two h, cp_cons, if_pos (fun e => hb (by rw [e]; rfl))]
theorem cp_last {key got : List UInt8} {i : Nat} {b : UInt8} (h : key[i]? = some b) (hb : ((b.toNat : Nat) : Int) = 0) (h2 : key.length ≤ i + 1) : cp got (List.drop i key) = ([], [], false) := by
  have e : b = 0 := (nz (n := 0) (by decide)).1 hb
  rw [drop_two h, cp_cons, if_neg (by simpa using e), List.drop_of_length_le h2]
theorem cp_esc {key got : List UInt8} {i : Nat} {b c : UInt8} (h : key[i]? = some b) (hb : ((b.toNat : Nat) : Int) = 0) (h2 : key[i + 1]? = some c) : cp got (List.drop i key) = if ((c.toNat : Nat) : Int) = 1 then (got, List.drop (i + 1 + 1) key, true) else if ((c.toNat : Nat) : Int) = 255 then cp (got ++ [0]) (List.drop (i + 1 + 1) key) else ([], [], false) := by
  have e : b = 0 := (nz (n := 0) (by decide)).1 hb
  rw [drop_two h, cp_cons, if_neg (by simpa using e), drop_two h2]
  have e1 : (((c.toNat : Nat) : Int) = 1) = (c = 1) := propext (nz (n := 1) (by decide))
  have e2 : (((c.toNat : Nat) : Int) = 255) = (c = 255) := propext (nz (n := 255) (by decide))
  simp only [e1, e2]

set_option maxRecDepth 100000 in
theorem cutPart_ok (key : List UInt8) (w : World) (D : Nat → Prop) (H : Own w D w []) (hl : List.length key ≤ 12) :
    Calls Try.prog 28 #[.string ⟨List.toArray key⟩] w (Ret fun v w' => v = .tuple #[.string ⟨(cp [] key).1.toArray⟩, .string ⟨(cp [] key).2.1.toArray⟩, .bool (cp [] key).2.2] ∧ Own w D w' []) := by
  refine Calls.body (args := [.string ⟨List.toArray key⟩]) Try.func28 rfl rfl rfl ?_
  show Wp _ _ _ [(0, .string ⟨List.toArray key⟩)] _ _
  refine Wp.seq ?_
  refine Wp.region ?_
  refine WL.val (v := .string ⟨List.toArray ([])⟩) rfl (Yl.assign rfl) ?_
  refine WL.val (v := .string ⟨List.toArray ([])⟩) rfl (Yl.assign rfl) ?_
  refine WL.val (v := .bool false) rfl (Yl.assign rfl) ?_
  refine WL.nil ?_
  refine Fin.then ?_
  refine Wp.seq ?_
  refine Wp.region ?_
  refine WL.val (v := .slice none 0 0) rfl (Yl.assign rfl) ?_
  refine WL.nil ?_
  refine Fin.then ?_
  refine Wp.seq ?_
  refine Wp.seq ?_
  refine Wp.region ?_
  refine WL.val (v := .int .i64 0) rfl (Yl.assign rfl) ?_
  refine WL.nil ?_
  refine Fin.then ?_
  refine Wp.block ?_
  have H1 : Own w D w [row none 0 0 (List.flatMap eB ([])) 5 1] := H.free (row_nil 5 1)
  have H2 : Own w D w [row none 0 0 (List.flatMap eB ([])) 5 1] := H1.pick [0] (by decide) rfl
  refine Wp.loop (ι := Nat × (List UInt8) × Nat × (Option Addr) × Nat) (fun i => [(6, .int .i64 ((i.1 : Nat) : Int)), (5, .slice i.2.2.2.1 i.2.2.1 i.2.2.2.2), (0, .string ⟨List.toArray key⟩)]) (fun (i : Nat × (List UInt8) × Nat × (Option Addr) × Nat) w' => Own w D w' [row i.2.2.2.1 i.2.2.1 i.2.2.2.2 (List.flatMap eB i.2.1) 5 1] ∧ (i.1 ≤ List.length key ∧ i.2.2.1 ≤ i.1 ∧ cp i.2.1 (List.drop i.1 key) = cp [] key)) (fun i => List.length key - i.1) (0, [], 0, none, 0) ⟨rfl, rfl, rfl, trivial⟩ ⟨H2, (show 0 ≤ List.length key ∧ 0 ≤ 0 ∧ cp ([]) (List.drop 0 key) = cp [] key from ⟨by omega, by omega, rfl⟩)⟩ ?_
  rintro ⟨i, got, n, A, c⟩ w3 ⟨H4, hf5⟩
  show Wp _ _ _ [(6, .int .i64 ((i : Nat) : Int)), (5, .slice A n c), (0, .string ⟨List.toArray key⟩)] _ _
  replace H4 : Own w D w3 [row A n c (List.flatMap eB got) 5 1] := H4
  replace hf5 : i ≤ List.length key ∧ n ≤ i ∧ cp got (List.drop i key) = cp [] key := hf5
  obtain ⟨hi, hn, hc⟩ := hf5
  refine Wp.seq ?_
  refine Wp.seq ?_
  refine Wp.region ?_
  refine WL.val (v := .int .i64 ((i : Nat) : Int)) rfl (Yl.move rfl) ?_
  refine WL.val (v := .string ⟨List.toArray key⟩) rfl (Yl.move rfl) ?_
  refine WL.val (v := .int .i64 ((List.length key : Nat) : Int)) rfl (Yl.kern rfl rfl (fun _ => by kernel_rfl)) ?_
  refine WL.val (v := .bool (decide (((i : Nat) : Int) < ((List.length key : Nat) : Int)))) rfl (Yl.kern rfl rfl (fun _ => by kernel_rfl)) ?_
  refine WL.nil ?_
  refine Fin.then ?_
  by_cases h6 : ((i : Nat) : Int) < ((List.length key : Nat) : Int)
  · skip
    refine Wp.cond1 rfl (decide_eq_true h6) ?_
    refine Wp.skip ?_
    refine Fin.then ?_
    refine Wp.seq ?_
    refine Wp.block ?_
    refine Wp.seq ?_
    refine Wp.seq ?_
    refine Wp.region ?_
    refine WL.val (v := .string ⟨List.toArray key⟩) rfl (Yl.move rfl) ?_
    refine WL.val (v := .int .i64 ((i : Nat) : Int)) rfl (Yl.move rfl) ?_
    obtain ⟨b7, hx8⟩ := at_of (ls := key) (i := i) (by omega)
    refine WL.val (v := .int .u8 ((b7.toNat : Nat) : Int)) rfl (Yl.strIndex Try.underlying9 rfl rfl hx8) ?_
    refine WL.val (v := .bool (decide (¬ (((b7.toNat : Nat) : Int) = 0)))) rfl (Yl.bool (e := !(decide (((b7.toNat : Nat) : Int) = 0))) (Yl.kern rfl rfl (fun _ => by kernel_rfl)) decide_not.symm) ?_
    refine WL.nil ?_
    refine Fin.then ?_
    by_cases h9 : ¬ (((b7.toNat : Nat) : Int) = 0)
    · skip
      refine Wp.cond1 rfl (decide_eq_true h9) ?_
      refine Wp.seq ?_
      refine Wp.region ?_
      refine WL.val (v := .slice A n c) rfl (Yl.move rfl) ?_
      refine WL.val (v := .string ⟨List.toArray key⟩) rfl (Yl.move rfl) ?_
      refine WL.val (v := .int .i64 ((i : Nat) : Int)) rfl (Yl.move rfl) ?_
      refine WL.val (v := .int .u8 ((b7.toNat : Nat) : Int)) rfl (Yl.strIndex Try.underlying9 rfl rfl hx8) ?_
      refine WL.do rfl (Do.newRow (cs := [.int .u8 ((b7.toNat : Nat) : Int)]) (t := 5) (sz := 1) (m := 1) H4 rfl rfl (fun _ => by kernel_rfl) rfl (by decide) ?_)
      intro A10 w11 H12
      replace H12 : Own w D w11 [row A10 1 1 (List.flatMap eB ([b7])) 5 1, row A n c (List.flatMap eB got) 5 1] := H12
      have H13 : Own w D w11 [row A n c (List.flatMap eB got) 5 1, row A10 1 1 (List.flatMap eB ([b7])) 5 1] := H12.pick [1, 0] (by decide) rfl
      refine WL.do rfl (Do.append (k := n) (m := 1) (El38) H13 rfl rfl (src_of Try.underlying38 (H13.rds (i := 1) rfl) (flat_one eB_one ([b7]))) (by unfold maxLen; omega) (by omega) (s := n + 1) (by omega) (List.flatMap_append).symm ?_)
      intro A14 c15 w16 H17
      replace H17 : Own w D w16 [row A14 (n + 1) c15 (List.flatMap eB (got ++ [b7])) 5 1, row A10 1 1 (List.flatMap eB ([b7])) 5 1] := H17
      refine WL.val (v := .slice A14 (n + 1) c15) rfl (Yl.assign rfl) ?_
      refine WL.nil ?_
      refine Fin.then ?_
      refine Wp.exit ?_
      refine Fin.thenX ?_
      refine Fin.blockX ?_
      refine Fin.then ?_
      refine Wp.region ?_
      refine WL.val (v := .int .i64 ((i : Nat) : Int)) rfl (Yl.move rfl) ?_
      refine WL.val (v := .int .i64 ((i + 1 : Nat) : Int)) rfl (Yl.int (e := IntKind.i64.wrap (((i : Nat) : Int) + 1)) (Yl.kern rfl rfl (fun _ => by kernel_rfl)) (by rw [IntWalk.i64_in _ (by omega)]; omega)) ?_
      refine WL.val (v := .int .i64 ((i + 1 : Nat) : Int)) rfl (Yl.assign rfl) ?_
      refine WL.nil ?_
      have H18 : Own w D w16 [row A14 (n + 1) c15 (List.flatMap eB (got ++ [b7])) 5 1] := H17.pick [0] (by decide) rfl
      exact Fin.round (i + 1, (got ++ [b7]), n + 1, A14, c15) ⟨rfl, rfl, rfl, trivial⟩ ⟨H18, (show (i + 1) ≤ List.length key ∧ (n + 1) ≤ (i + 1) ∧ cp (got ++ [b7]) (List.drop (i + 1) key) = cp [] key from ⟨by omega, by omega, by rw [← hc, cp_ne hx8 (by omega)]⟩)⟩ (by show List.length key - (i + 1) < List.length key - i; omega)
    · skip
      refine Wp.cond0 rfl (decide_eq_false h9) ?_
      refine Wp.skip ?_
      refine Fin.then ?_
      refine Wp.seq ?_
      refine Wp.region ?_
      refine WL.val (v := .int .i64 ((i : Nat) : Int)) rfl (Yl.move rfl) ?_
      refine WL.val (v := .int .i64 ((i + 1 : Nat) : Int)) rfl (Yl.int (e := IntKind.i64.wrap (((i : Nat) : Int) + 1)) (Yl.kern rfl rfl (fun _ => by kernel_rfl)) (by rw [IntWalk.i64_in _ (by omega)]; omega)) ?_
      refine WL.val (v := .int .i64 ((i + 1 : Nat) : Int)) rfl (Yl.assign rfl) ?_
      refine WL.nil ?_
      refine Fin.then ?_
      refine Wp.seq ?_
      refine Wp.seq ?_
      refine Wp.region ?_
      refine WL.val (v := .int .i64 ((i + 1 : Nat) : Int)) rfl (Yl.move rfl) ?_
      refine WL.val (v := .string ⟨List.toArray key⟩) rfl (Yl.move rfl) ?_
      refine WL.val (v := .int .i64 ((List.length key : Nat) : Int)) rfl (Yl.kern rfl rfl (fun _ => by kernel_rfl)) ?_
      refine WL.val (v := .bool (decide (((i + 1 : Nat) : Int) = ((List.length key : Nat) : Int)))) rfl (Yl.kern rfl rfl (fun _ => by kernel_rfl)) ?_
      refine WL.nil ?_
      refine Fin.then ?_
      by_cases h19 : ((i + 1 : Nat) : Int) = ((List.length key : Nat) : Int)
      · skip
        refine Wp.cond1 rfl (decide_eq_true h19) ?_
        refine Wp.exit ?_
        refine Fin.thenX ?_
        refine Fin.blockO rfl ?_
        refine Fin.thenX ?_
        refine Fin.thenX ?_
        refine Fin.blockX ?_
        refine Fin.then ?_
        refine Wp.seq ?_
        refine Wp.region ?_
        refine WL.val (v := .string ⟨List.toArray ([])⟩) rfl (Yl.assign rfl) ?_
        refine WL.val (v := .string ⟨List.toArray ([])⟩) rfl (Yl.assign rfl) ?_
        refine WL.val (v := .bool false) rfl (Yl.assign rfl) ?_
        refine WL.nil ?_
        refine Fin.then ?_
        refine Wp.ret ?_
        refine Fin.res (res3 rfl rfl rfl rfl) ?_
        have H20 : Own w D w3 [] := H4.pick [] (by decide) rfl
        exact ⟨by rw [← hc, cp_last hx8 (by omega) (by omega)], H20⟩
      · skip
        refine Wp.cond0 rfl (decide_eq_false h19) ?_
        refine Wp.skip ?_
        refine Fin.then ?_
        refine Wp.seq ?_
        refine Wp.region ?_
        refine WL.val (v := .string ⟨List.toArray key⟩) rfl (Yl.move rfl) ?_
        refine WL.val (v := .int .i64 ((i + 1 : Nat) : Int)) rfl (Yl.move rfl) ?_
        obtain ⟨b21, hx22⟩ := at_of (ls := key) (i := i + 1) (by omega)
        refine WL.val (v := .int .u8 ((b21.toNat : Nat) : Int)) rfl (Yl.strIndex Try.underlying9 rfl rfl hx22) ?_
        refine WL.nil ?_
        refine Fin.then ?_
        refine Wp.block ?_
        refine Wp.seq ?_
        refine Wp.region ?_
        refine WL.val (v := .bool (decide (((b21.toNat : Nat) : Int) = 1))) rfl (Yl.kern rfl rfl (fun _ => by kernel_rfl)) ?_
        refine WL.val (v := .bool (decide (((b21.toNat : Nat) : Int) = 1))) rfl (Yl.assign rfl) ?_
        refine WL.nil ?_
        refine Fin.then ?_
        by_cases h23 : ((b21.toNat : Nat) : Int) = 1
        · skip
          refine Wp.cond1 rfl (decide_eq_true h23) ?_
          refine Wp.seq ?_
          have H25 := H4.drew
          refine Wp.drawn (Keep [] (fun W => ∃ L', Own w D W ([row A n c (List.flatMap eB got) 5 1] ++ L'))) (by kernel_rfl) (.inr ⟨_, H25⟩) ?_
          revert H25
          generalize World.drew w3 = w24
          intro H25
          replace H25 : Own w D w24 [row A n c (List.flatMap eB got) 5 1] := H25
          show GW _ _ _ _ 9 #[false, false, false, false, false, false, false, false, false] _ _ _
          refine GW.take (v := .slice A n c) (i := 0) (l' := #[true, false, false, false, false, false, false, false, false]) (rs := []) rfl (by kernel_rfl) rfl (NoP.then (NoP.block (NoP.block (NoP.then (NoP.then (NoP.block (NoP.then NoP.base))))))) (by kernel_rfl) (by kernel_rfl) (by kernel_rfl) (by kernel_rfl) (fun _ _ => Yl.move rfl) ?_
          refine GW.take (v := .string ⟨List.toArray got⟩) (i := 1) (l' := #[true, true, false, false, false, false, false, false, false]) (rs := []) rfl (by kernel_rfl) rfl (NoP.then (NoP.block (NoP.block (NoP.then (NoP.then (NoP.block (NoP.then NoP.base))))))) (by kernel_rfl) (by kernel_rfl) (by kernel_rfl) (by kernel_rfl) (fun _ ⟨_, H9⟩ => Yl.toStringE (l := got) Try.underlying38 Try.underlying5 Try.underlying9 (H9.rds (i := 0) rfl) rfl) ?_
          refine GW.take (v := .string ⟨List.toArray key⟩) (i := 2) (l' := #[true, true, true, false, false, false, false, false, false]) (rs := []) rfl (by kernel_rfl) rfl (NoP.then (NoP.block (NoP.block (NoP.then (NoP.then (NoP.block (NoP.then NoP.base))))))) (by kernel_rfl) (by kernel_rfl) (by kernel_rfl) (by kernel_rfl) (fun _ _ => Yl.move rfl) ?_
          refine GW.take (v := .int .i64 ((i + 1 : Nat) : Int)) (i := 3) (l' := #[true, true, true, true, false, false, false, false, false]) (rs := []) rfl (by kernel_rfl) rfl (NoP.then (NoP.block (NoP.block (NoP.then (NoP.then (NoP.block (NoP.then NoP.base))))))) (by kernel_rfl) (by kernel_rfl) (by kernel_rfl) (by kernel_rfl) (fun _ _ => Yl.move rfl) ?_
          refine GW.take (v := .int .i64 ((i + 1 + 1 : Nat) : Int)) (i := 4) (l' := #[true, true, true, true, true, false, false, false, false]) (rs := []) rfl (by kernel_rfl) rfl (NoP.then (NoP.block (NoP.block (NoP.then (NoP.then (NoP.block (NoP.then NoP.base))))))) (by kernel_rfl) (by kernel_rfl) (by kernel_rfl) (by kernel_rfl) (fun _ _ => Yl.int (e := IntKind.i64.wrap (((i + 1 : Nat) : Int) + 1)) (Yl.kern rfl rfl (fun _ => by kernel_rfl)) (by rw [IntWalk.i64_in _ (by omega)]; omega)) ?_
          refine GW.take (v := .string ⟨List.toArray (List.drop (i + 1 + 1) key)⟩) (i := 5) (l' := #[true, true, true, true, true, true, false, false, false]) (rs := []) rfl (by kernel_rfl) rfl (NoP.then (NoP.block (NoP.block (NoP.then (NoP.then (NoP.block (NoP.then NoP.base))))))) (by kernel_rfl) (by kernel_rfl) (by kernel_rfl) (by kernel_rfl) (fun _ _ => Yl.strFrom Try.underlying9 rfl rfl (by first | omega | (simp only [List.length_drop, List.length_take, List.length_append, List.length_cons, List.length_nil]; omega))) ?_
          refine GW.take (v := .string ⟨List.toArray got⟩) (i := 6) (l' := #[true, true, true, true, true, true, true, false, false]) (rs := []) rfl (by kernel_rfl) rfl (NoP.then (NoP.block (NoP.block (NoP.then (NoP.then (NoP.block (NoP.then NoP.base))))))) (by kernel_rfl) (by kernel_rfl) (by kernel_rfl) (by kernel_rfl) (fun _ _ => Yl.assign rfl) ?_
          refine GW.take (v := .string ⟨List.toArray (List.drop (i + 1 + 1) key)⟩) (i := 7) (l' := #[true, true, true, true, true, true, true, true, false]) (rs := []) rfl (by kernel_rfl) rfl (NoP.then (NoP.block (NoP.block (NoP.then (NoP.then (NoP.block (NoP.then NoP.base))))))) (by kernel_rfl) (by kernel_rfl) (by kernel_rfl) (by kernel_rfl) (fun _ _ => Yl.assign rfl) ?_
          refine GW.take (v := .bool true) (i := 8) (l' := #[true, true, true, true, true, true, true, true, true]) (rs := []) rfl (by kernel_rfl) rfl (NoP.then (NoP.block (NoP.block (NoP.then (NoP.then (NoP.block (NoP.then NoP.base))))))) (by kernel_rfl) (by kernel_rfl) (by kernel_rfl) (by kernel_rfl) (fun _ _ => Yl.assign rfl) ?_
          refine GW.done (by kernel_rfl) ?_
          refine Fin.then ?_
          refine Wp.ret ?_
          refine Fin.blockR ?_
          refine Fin.blockR ?_
          refine Fin.thenR ?_
          refine Fin.thenR ?_
          refine Fin.blockR ?_
          refine Fin.thenR ?_
          refine Fin.res (res3 rfl rfl rfl rfl) ?_
          have H27 : Own w D w24 [] := H25.pick [] (by decide) rfl
          exact ⟨by rw [← hc, cp_esc hx8 (by omega) hx22, if_pos (by omega)], H27⟩
        · skip
          refine Wp.cond0 rfl (decide_eq_false h23) ?_
          refine Wp.seq ?_
          refine Wp.region ?_
          refine WL.val (v := .bool (decide (((b21.toNat : Nat) : Int) = 255))) rfl (Yl.kern rfl rfl (fun _ => by kernel_rfl)) ?_
          refine WL.val (v := .bool (decide (((b21.toNat : Nat) : Int) = 255))) rfl (Yl.assign rfl) ?_
          refine WL.nil ?_
          refine Fin.then ?_
          by_cases h28 : ((b21.toNat : Nat) : Int) = 255
          · skip
            refine Wp.cond1 rfl (decide_eq_true h28) ?_
            refine Wp.region ?_
            refine WL.val (v := .slice A n c) rfl (Yl.move rfl) ?_
            refine WL.do rfl (Do.newRow (cs := [.int .u8 0]) (t := 5) (sz := 1) (m := 1) H4 rfl rfl (fun _ => by kernel_rfl) rfl (by decide) ?_)
            intro A29 w30 H31
            replace H31 : Own w D w30 [row A29 1 1 (List.flatMap eB ([0])) 5 1, row A n c (List.flatMap eB got) 5 1] := H31
            have H32 : Own w D w30 [row A n c (List.flatMap eB got) 5 1, row A29 1 1 (List.flatMap eB ([0])) 5 1] := H31.pick [1, 0] (by decide) rfl
            refine WL.do rfl (Do.append (k := n) (m := 1) (El38) H32 rfl rfl (src_of Try.underlying38 (H32.rds (i := 1) rfl) (flat_one eB_one ([0]))) (by unfold maxLen; omega) (by omega) (s := n + 1) (by omega) (List.flatMap_append).symm ?_)
            intro A33 c34 w35 H36
            replace H36 : Own w D w35 [row A33 (n + 1) c34 (List.flatMap eB (got ++ [0])) 5 1, row A29 1 1 (List.flatMap eB ([0])) 5 1] := H36
            refine WL.val (v := .slice A33 (n + 1) c34) rfl (Yl.assign rfl) ?_
            refine WL.nil ?_
            refine Fin.blockN ?_
            refine Fin.blockN ?_
            refine Fin.then ?_
            refine Wp.region ?_
            refine WL.val (v := .int .i64 ((i + 1 : Nat) : Int)) rfl (Yl.move rfl) ?_
            refine WL.val (v := .int .i64 ((i + 1 + 1 : Nat) : Int)) rfl (Yl.int (e := IntKind.i64.wrap (((i + 1 : Nat) : Int) + 1)) (Yl.kern rfl rfl (fun _ => by kernel_rfl)) (by rw [IntWalk.i64_in _ (by omega)]; omega)) ?_
            refine WL.val (v := .int .i64 ((i + 1 + 1 : Nat) : Int)) rfl (Yl.assign rfl) ?_
            refine WL.nil ?_
            have H37 : Own w D w35 [row A33 (n + 1) c34 (List.flatMap eB (got ++ [0])) 5 1] := H36.pick [0] (by decide) rfl
            exact Fin.round (i + 2, (got ++ [0]), n + 1, A33, c34) ⟨rfl, rfl, rfl, trivial⟩ ⟨H37, (show (i + 2) ≤ List.length key ∧ (n + 1) ≤ (i + 2) ∧ cp (got ++ [0]) (List.drop (i + 2) key) = cp [] key from ⟨by omega, by omega, by rw [← hc, cp_esc hx8 (by omega) hx22, if_neg (by omega), if_pos (by omega)]⟩)⟩ (by show List.length key - (i + 2) < List.length key - i; omega)
          · skip
            refine Wp.cond0 rfl (decide_eq_false h28) ?_
            refine Wp.seq ?_
            refine Wp.region ?_
            refine WL.val (v := .string ⟨List.toArray ([])⟩) rfl (Yl.assign rfl) ?_
            refine WL.val (v := .string ⟨List.toArray ([])⟩) rfl (Yl.assign rfl) ?_
            refine WL.val (v := .bool false) rfl (Yl.assign rfl) ?_
            refine WL.nil ?_
            refine Fin.then ?_
            refine Wp.ret ?_
            refine Fin.blockR ?_
            refine Fin.blockR ?_
            refine Fin.thenR ?_
            refine Fin.thenR ?_
            refine Fin.blockR ?_
            refine Fin.thenR ?_
            refine Fin.res (res3 rfl rfl rfl rfl) ?_
            have H38 : Own w D w3 [] := H4.pick [] (by decide) rfl
            exact ⟨by rw [← hc, cp_esc hx8 (by omega) hx22, if_neg (by omega), if_neg (by omega)], H38⟩
  · skip
    refine Wp.cond0 rfl (decide_eq_false h6) ?_
    refine Wp.exit ?_
    refine Fin.thenX ?_
    refine Fin.thenX ?_
    refine Fin.blockX ?_
    refine Fin.then ?_
    refine Wp.seq ?_
    refine Wp.region ?_
    refine WL.val (v := .string ⟨List.toArray ([])⟩) rfl (Yl.assign rfl) ?_
    refine WL.val (v := .string ⟨List.toArray ([])⟩) rfl (Yl.assign rfl) ?_
    refine WL.val (v := .bool false) rfl (Yl.assign rfl) ?_
    refine WL.nil ?_
    refine Fin.then ?_
    refine Wp.ret ?_
    refine Fin.res (res3 rfl rfl rfl rfl) ?_
    have H39 : Own w D w3 [] := H4.pick [] (by decide) rfl
    exact ⟨by rw [← hc, cp_end (by omega)], H39⟩

set_option maxRecDepth 100000 in
theorem Check_ok (k : List UInt8) (w : World) (D : Nat → Prop) (H : Own w D w [])  :
    Calls Try.prog 21 #[.string ⟨List.toArray k⟩] w (Ret fun v w' => ((List.length k < 1 ∨ 12 < List.length k) ∧ v = .int .i64 20 ∧ Own w D w' []) ∨ ((1 ≤ List.length k ∧ List.length k ≤ 12) ∧ v = .int .i64 0 ∧ Own w D w' [])) := by
  refine Calls.body (args := [.string ⟨List.toArray k⟩]) Try.func21 rfl rfl rfl ?_
  show Wp _ _ _ [(0, .string ⟨List.toArray k⟩)] _ _
  refine Wp.seq ?_
  refine Wp.region ?_
  refine WL.val (v := .int .i64 0) rfl (Yl.assign rfl) ?_
  refine WL.nil ?_
  refine Fin.then ?_
  refine Wp.seq ?_
  refine Wp.seq ?_
  refine Wp.region ?_
  refine WL.val (v := .string ⟨List.toArray k⟩) rfl (Yl.move rfl) ?_
  refine WL.val (v := .int .i64 ((List.length k : Nat) : Int)) rfl (Yl.kern rfl rfl (fun _ => by kernel_rfl)) ?_
  refine WL.val (v := .bool (decide (((List.length k : Nat) : Int) < 1))) rfl (Yl.kern rfl rfl (fun _ => by kernel_rfl)) ?_
  refine WL.val (v := .bool (decide (((List.length k : Nat) : Int) < 1))) rfl (Yl.move rfl) ?_
  by_cases h1 : ((List.length k : Nat) : Int) < 1
  · skip
    refine WL.skipG rfl rfl (decide_eq_true h1) rfl ?_
    refine WL.skipG rfl rfl (decide_eq_true h1) rfl ?_
    refine WL.skipG rfl rfl (decide_eq_true h1) rfl ?_
    refine WL.val (v := .bool true) rfl (Yl.pickT rfl (decide_eq_true h1) rfl) ?_
    refine WL.nil ?_
    refine Fin.then ?_
    refine Wp.cond1 rfl rfl ?_
    refine Wp.seq ?_
    refine Wp.region ?_
    refine WL.val (v := .int .i64 20) rfl (Yl.assign rfl) ?_
    refine WL.nil ?_
    refine Fin.then ?_
    refine Wp.ret ?_
    refine Fin.thenR ?_
    refine Fin.res (res1 rfl rfl) ?_
    exact .inl ⟨by omega, rfl, H⟩
  · skip
    refine WL.valG (v := .string ⟨List.toArray k⟩) rfl rfl (decide_eq_false h1) rfl (Yl.move rfl) ?_
    refine WL.valG (v := .int .i64 ((List.length k : Nat) : Int)) rfl rfl (decide_eq_false h1) rfl (Yl.kern rfl rfl (fun _ => by kernel_rfl)) ?_
    refine WL.valG (v := .bool (decide (((List.length k : Nat) : Int) > 12))) rfl rfl (decide_eq_false h1) rfl (Yl.kern rfl rfl (fun _ => by kernel_rfl)) ?_
    refine WL.val (v := .bool (decide (((List.length k : Nat) : Int) > 12))) rfl (Yl.pickF rfl (decide_eq_false h1) rfl) ?_
    refine WL.nil ?_
    refine Fin.then ?_
    by_cases h2 : ((List.length k : Nat) : Int) > 12
    · skip
      refine Wp.cond1 rfl (decide_eq_true h2) ?_
      refine Wp.seq ?_
      refine Wp.region ?_
      refine WL.val (v := .int .i64 20) rfl (Yl.assign rfl) ?_
      refine WL.nil ?_
      refine Fin.then ?_
      refine Wp.ret ?_
      refine Fin.thenR ?_
      refine Fin.res (res1 rfl rfl) ?_
      exact .inl ⟨by omega, rfl, H⟩
    · skip
      refine Wp.cond0 rfl (decide_eq_false h2) ?_
      refine Wp.skip ?_
      refine Fin.then ?_
      refine Wp.seq ?_
      refine Wp.region ?_
      refine WL.val (v := .int .i64 0) rfl (Yl.assign rfl) ?_
      refine WL.nil ?_
      refine Fin.then ?_
      refine Wp.ret ?_
      refine Fin.res (res1 rfl rfl) ?_
      exact .inr ⟨by omega, rfl, H⟩

set_option maxRecDepth 100000 in
theorem RCheck_ok (k : List UInt8) (w : World) (D : Nat → Prop) (H : Own w D w [])  :
    Calls Try.prog 23 #[.string ⟨List.toArray k⟩] w (Ret fun v w' => ((List.length k < 1 ∨ 12 < List.length k) ∧ v = .int .i64 20 ∧ Own w D w' []) ∨ ((1 ≤ List.length k ∧ List.length k ≤ 12) ∧ v = .int .i64 0 ∧ Own w D w' [])) := by
  refine Calls.body (args := [.string ⟨List.toArray k⟩]) Try.func23 rfl rfl rfl ?_
  show Wp _ _ _ [(0, .string ⟨List.toArray k⟩)] _ _
  refine Wp.seq ?_
  refine Wp.region ?_
  refine WL.val (v := .int .i64 0) rfl (Yl.assign rfl) ?_
  refine WL.nil ?_
  refine Fin.then ?_
  refine Wp.seq ?_
  refine Wp.seq ?_
  refine Wp.region ?_
  refine WL.val (v := .string ⟨List.toArray k⟩) rfl (Yl.move rfl) ?_
  refine WL.val (v := .int .i64 ((List.length k : Nat) : Int)) rfl (Yl.kern rfl rfl (fun _ => by kernel_rfl)) ?_
  refine WL.val (v := .bool (decide (((List.length k : Nat) : Int) < 1))) rfl (Yl.kern rfl rfl (fun _ => by kernel_rfl)) ?_
  refine WL.val (v := .bool (decide (((List.length k : Nat) : Int) < 1))) rfl (Yl.move rfl) ?_
  by_cases h1 : ((List.length k : Nat) : Int) < 1
  · skip
    refine WL.skipG rfl rfl (decide_eq_true h1) rfl ?_
    refine WL.skipG rfl rfl (decide_eq_true h1) rfl ?_
    refine WL.skipG rfl rfl (decide_eq_true h1) rfl ?_
    refine WL.val (v := .bool true) rfl (Yl.pickT rfl (decide_eq_true h1) rfl) ?_
    refine WL.nil ?_
    refine Fin.then ?_
    refine Wp.cond1 rfl rfl ?_
    refine Wp.seq ?_
    refine Wp.region ?_
    refine WL.val (v := .int .i64 20) rfl (Yl.assign rfl) ?_
    refine WL.nil ?_
    refine Fin.then ?_
    refine Wp.ret ?_
    refine Fin.thenR ?_
    refine Fin.res (res1 rfl rfl) ?_
    exact .inl ⟨by omega, rfl, H⟩
  · skip
    refine WL.valG (v := .string ⟨List.toArray k⟩) rfl rfl (decide_eq_false h1) rfl (Yl.move rfl) ?_
    refine WL.valG (v := .int .i64 ((List.length k : Nat) : Int)) rfl rfl (decide_eq_false h1) rfl (Yl.kern rfl rfl (fun _ => by kernel_rfl)) ?_
    refine WL.valG (v := .bool (decide (((List.length k : Nat) : Int) > 12))) rfl rfl (decide_eq_false h1) rfl (Yl.kern rfl rfl (fun _ => by kernel_rfl)) ?_
    refine WL.val (v := .bool (decide (((List.length k : Nat) : Int) > 12))) rfl (Yl.pickF rfl (decide_eq_false h1) rfl) ?_
    refine WL.nil ?_
    refine Fin.then ?_
    by_cases h2 : ((List.length k : Nat) : Int) > 12
    · skip
      refine Wp.cond1 rfl (decide_eq_true h2) ?_
      refine Wp.seq ?_
      refine Wp.region ?_
      refine WL.val (v := .int .i64 20) rfl (Yl.assign rfl) ?_
      refine WL.nil ?_
      refine Fin.then ?_
      refine Wp.ret ?_
      refine Fin.thenR ?_
      refine Fin.res (res1 rfl rfl) ?_
      exact .inl ⟨by omega, rfl, H⟩
    · skip
      refine Wp.cond0 rfl (decide_eq_false h2) ?_
      refine Wp.skip ?_
      refine Fin.then ?_
      refine Wp.seq ?_
      refine Wp.region ?_
      refine WL.val (v := .int .i64 0) rfl (Yl.assign rfl) ?_
      refine WL.nil ?_
      refine Fin.then ?_
      refine Wp.ret ?_
      refine Fin.res (res1 rfl rfl) ?_
      exact .inr ⟨by omega, rfl, H⟩

theorem cp_rest : ∀ (n : Nat) (acc key : List UInt8), key.length ≤ n → (cp acc key).2.1.length ≤ key.length - 1
  | 0, acc, [], _ => by simp [cp]
  | n + 1, acc, [], _ => by simp [cp]
  | n + 1, acc, b :: r, h => by
    rw [cp_cons]
    by_cases hb : b ≠ 0
    · rw [if_pos hb]
      have := cp_rest n (acc ++ [b]) r (by simp at h; omega)
      simp only [List.length_cons]; omega
    · rw [if_neg hb]
      match r, h with
      | [], _ => simp
      | c :: r', h =>
        simp only [List.length_cons] at h ⊢
        by_cases h1 : c = 1
        · rw [if_pos h1]; simp
        · rw [if_neg h1]
          by_cases h2 : c = 255
          · rw [if_pos h2]
            have := cp_rest n (acc ++ [0]) r' (by omega)
            omega
          · rw [if_neg h2]; simp
theorem rdl_cons {n : Nat} {key : List UInt8} (h : key ≠ []) : rdl (n + 1) key = ((cp [] key).1, (cp [] key).2.2) :: (if (cp [] key).2.2 = true then rdl n (cp [] key).2.1 else []) := by rw [rdl, if_neg h]
theorem rdl_nil (n : Nat) : rdl n [] = [] := by cases n <;> rfl

set_option maxRecDepth 100000 in
theorem read_ok (key : List UInt8) (w : World) (D : Nat → Prop) (H : Own w D w [])  :
    Calls Try.prog 22 #[.string ⟨List.toArray key⟩] w (Ret fun v w' => ∃ g, v = .func (.func 27) #[] #[.pointer (some ⟨g, 0, none⟩)] ∧ Own w D w' [blk g [.string ⟨key.toArray⟩] 9]) := by
  refine Calls.body (args := [.string ⟨List.toArray key⟩]) Try.func22 rfl rfl rfl ?_
  show Wp _ _ _ [(0, .string ⟨List.toArray key⟩)] _ _
  refine Wp.seq ?_
  refine Wp.region ?_
  refine WL.do rfl (Do.newP (cs := [.string ⟨List.toArray key⟩]) (t := 9) H rfl rfl (fun _ => by kernel_rfl) ?_)
  intro g1 w2 H3
  replace H3 : Own w D w2 [blk g1 [.string ⟨List.toArray key⟩] 9] := H3
  refine WL.val (v := .nilFunc) rfl (Yl.assign rfl) ?_
  refine WL.nil ?_
  refine Fin.then ?_
  refine Wp.seq ?_
  refine Wp.region ?_
  refine WL.val (v := .func (.func 27) #[] #[.pointer (some ⟨g1, 0, none⟩)]) rfl (Yl.kern rfl rfl (fun _ => by kernel_rfl)) ?_
  refine WL.val (v := .func (.func 27) #[] #[.pointer (some ⟨g1, 0, none⟩)]) rfl (Yl.assign rfl) ?_
  refine WL.nil ?_
  refine Fin.then ?_
  refine Wp.ret ?_
  refine Fin.res (res1 rfl rfl) ?_
  exact ⟨_, rfl, H3⟩

set_option maxRecDepth 100000 in
theorem read_it (g : Nat) (key : List UInt8) (w0 : World) (D : Nat → Prop) (hl : List.length key ≤ 12) :
    Iter Try.prog w0 D 27 [.pointer (some ⟨g, 0, none⟩)] (fun x => [.string ⟨x.1.toArray⟩, .bool x.2]) (rdl (List.length key) key) [blk g [.string ⟨List.toArray key⟩] 9] := by
  intro l C J W step H
  refine Calls.bodyF (args := [.func (.yield l) #[] #[], .pointer (some ⟨g, 0, none⟩)]) Try.func27 rfl rfl rfl ?_
  show Wf _ _ _ _ _ [(0, .func (.yield l) #[] #[]), (1, .pointer (some ⟨g, 0, none⟩))] _ _
  refine Wf.block ?_
  refine Wf.loop (ι := Nat × (List (List UInt8 × Bool)) × (List UInt8)) (fun i => [(0, .func (.yield l) #[] #[]), (1, .pointer (some ⟨g, 0, none⟩))]) (fun (i : Nat × (List (List UInt8 × Bool)) × (List UInt8)) w' => Own w0 D w' [C i.2.1, blk g [.string ⟨List.toArray i.2.2⟩] 9] ∧ (List.length i.2.2 ≤ i.1 ∧ i.1 ≤ 12 ∧ i.2.1 ++ rdl i.1 i.2.2 = rdl (List.length key) key)) (fun i => i.1) (List.length key, [], key) ⟨rfl, rfl, trivial⟩ ⟨H, (show List.length key ≤ (List.length key) ∧ (List.length key) ≤ 12 ∧ ([]) ++ rdl (List.length key) key = rdl (List.length key) key from ⟨by omega, by omega, rfl⟩)⟩ ?_
  rintro ⟨m, q, rest⟩ w1 ⟨H2, hf3⟩
  show Wf _ _ _ _ _ [(0, .func (.yield l) #[] #[]), (1, .pointer (some ⟨g, 0, none⟩))] _ _
  replace H2 : Own w0 D w1 [C q, blk g [.string ⟨List.toArray rest⟩] 9] := H2
  replace hf3 : List.length rest ≤ m ∧ m ≤ 12 ∧ q ++ rdl m rest = rdl (List.length key) key := hf3
  obtain ⟨hm, hm2, hq⟩ := hf3
  refine Wf.seq ?_
  refine Wf.seq ?_
  refine Wf.region ?_
  refine Lf.val (v := .string ⟨List.toArray rest⟩) rfl rfl (Yl.load rfl (Lds.one Try.isAgg9 (Cls.of (H2.cls (i := 1) rfl) rfl))) ?_
  refine Lf.val (v := .bool (decide (rest ≠ ([])))) rfl rfl (Yl.strNe rfl rfl) ?_
  refine Lf.nil ?_
  refine Ff.then ?_
  by_cases h4 : rest ≠ ([])
  · skip
    have hne : rest ≠ [] := h4
    obtain ⟨n, hn⟩ : ∃ n, m = n + 1 := ⟨m - 1, by have : 0 < List.length rest := List.length_pos_iff.2 hne; omega⟩
    refine Wf.cond1 rfl (decide_eq_true h4) ?_
    refine Wf.skip ?_
    refine Ff.then ?_
    refine Wf.block ?_
    refine Wf.seq ?_
    refine Wf.region ?_
    refine Lf.val (v := .string ⟨List.toArray rest⟩) rfl rfl (Yl.load rfl (Lds.one Try.isAgg9 (Cls.of (H2.cls (i := 1) rfl) rfl))) ?_
    obtain ⟨D5, HP6, ro7, bk8, rr9⟩ := Own.enter (L1 := []) (L2 := [C q, blk g [.string ⟨List.toArray rest⟩] 9]) H2
    refine Lf.do rfl (Do.df rfl (Do.call Try.call28 rfl (cutPart_ok rest _ _ HP6 (by omega)) ?_))
    rintro _ w10 ⟨rfl, HQ11⟩
    have H12 : Own w0 D w10 [C q, blk g [.string ⟨List.toArray rest⟩] 9] := bk8 _ _ HQ11
    refine Lf.val (v := .tuple #[.string ⟨List.toArray ((cp [] rest).1)⟩, .string ⟨List.toArray ((cp [] rest).2.1)⟩, .bool ((cp [] rest).2.2)]) rfl rfl (Yl.move rfl) ?_
    refine Lf.val (v := .string ⟨List.toArray ((cp [] rest).1)⟩) rfl rfl (Yl.kern rfl rfl (fun _ => by kernel_rfl)) ?_
    refine Lf.val (v := .string ⟨List.toArray ((cp [] rest).2.1)⟩) rfl rfl (Yl.kern rfl rfl (fun _ => by kernel_rfl)) ?_
    refine Lf.val (v := .bool ((cp [] rest).2.2)) rfl rfl (Yl.kern rfl rfl (fun _ => by kernel_rfl)) ?_
    refine Lf.val (v := .string ⟨List.toArray ((cp [] rest).1)⟩) rfl rfl (Yl.assign rfl) ?_
    refine Lf.val (v := .string ⟨List.toArray ((cp [] rest).2.1)⟩) rfl rfl (Yl.assign rfl) ?_
    refine Lf.val (v := .bool ((cp [] rest).2.2)) rfl rfl (Yl.assign rfl) ?_
    refine Lf.nil ?_
    refine Ff.then ?_
    refine Wf.seq ?_
    refine Wf.seq ?_
    refine Wf.region ?_
    refine Lf.val (v := .func (.yield l) #[] #[]) rfl rfl (Yl.move rfl) ?_
    refine Lf.val (v := .string ⟨List.toArray ((cp [] rest).1)⟩) rfl rfl (Yl.move rfl) ?_
    refine Lf.val (v := .bool ((cp [] rest).2.2)) rfl rfl (Yl.move rfl) ?_
    have hp16 : q ++ [((cp [] rest).1, (cp [] rest).2.2)] <+: rdl (List.length key) key := ⟨_, by rw [← hq, hn, rdl_cons hne, List.append_assoc]; rfl⟩
    refine Lf.do rfl (Df.yield rfl rfl (step q ((cp [] rest).1, (cp [] rest).2.2) (blk g [.string ⟨List.toArray rest⟩] 9) w10 hp16 H12) ?_)
    rintro _ w13 (⟨rfl, H14⟩ | ⟨rfl, H15⟩)
    · skip
      replace H14 : Own w0 D w13 [C (q ++ [((cp [] rest).1, (cp [] rest).2.2)]), blk g [.string ⟨List.toArray rest⟩] 9] := H14
      refine Lf.val (v := .bool false) rfl rfl (Yl.kern rfl rfl (fun _ => by kernel_rfl)) ?_
      refine Lf.val (v := .bool false) rfl rfl (Yl.move rfl) ?_
      refine Lf.valG (v := .bool ((cp [] rest).2.2)) rfl rfl rfl rfl rfl (Yl.move rfl) ?_
      refine Lf.valG (v := .bool (!((cp [] rest).2.2))) rfl rfl rfl rfl rfl (Yl.kern rfl rfl (fun _ => by kernel_rfl)) ?_
      refine Lf.val (v := .bool (!((cp [] rest).2.2))) rfl rfl (Yl.pickF rfl rfl rfl) ?_
      refine Lf.nil ?_
      refine Ff.then ?_
      rcases Bool.eq_false_or_eq_true ((cp [] rest).2.2) with h17 | h17
      · skip
        refine Wf.cond0 rfl (congrArg not h17) ?_
        refine Wf.skip ?_
        refine Ff.then ?_
        refine Wf.region ?_
        refine Lf.val (v := .string ⟨List.toArray ((cp [] rest).2.1)⟩) rfl rfl (Yl.move rfl) ?_
        have H18 : Own w0 D w13 [blk g [.string ⟨List.toArray rest⟩] 9, C (q ++ [((cp [] rest).1, (cp [] rest).2.2)])] := H14.pick [1, 0] (by decide) rfl
        refine Lf.do0 (Do.df rfl (Do.store (vs := [.string ⟨List.toArray ((cp [] rest).2.1)⟩]) (o := 0) H18 rfl rfl Try.sizeOf9 rfl rfl rfl rfl ?_))
        intro w19 H20
        replace H20 : Own w0 D w19 [blk g [.string ⟨List.toArray ((cp [] rest).2.1)⟩] 9, C (q ++ [((cp [] rest).1, (cp [] rest).2.2)])] := H20
        refine Lf.nil ?_
        refine Ff.blockN ?_
        have H21 : Own w0 D w19 [C (q ++ [((cp [] rest).1, (cp [] rest).2.2)]), blk g [.string ⟨List.toArray ((cp [] rest).2.1)⟩] 9] := H20.pick [1, 0] (by decide) rfl
        exact Ff.round (n, (q ++ [((cp [] rest).1, (cp [] rest).2.2)]), (cp [] rest).2.1) ⟨rfl, rfl, trivial⟩ ⟨H21, (show List.length ((cp [] rest).2.1) ≤ n ∧ n ≤ 12 ∧ (q ++ [((cp [] rest).1, (cp [] rest).2.2)]) ++ rdl n ((cp [] rest).2.1) = rdl (List.length key) key from ⟨by have := cp_rest _ [] rest (Nat.le_refl _); omega, by omega, by rw [← hq, hn, rdl_cons hne, if_pos h17, List.append_assoc]; rfl⟩)⟩ (by show n < m; omega)
      · skip
        refine Wf.cond1 rfl (congrArg not h17) ?_
        refine Wf.ret ?_
        refine Ff.thenR ?_
        refine Ff.blockR ?_
        refine Ff.thenR ?_
        refine Ff.blockR ?_
        refine Ff.res ?_
        refine Lv.nil (res0 rfl) ?_
        have H22 : Own w0 D w13 [C (q ++ [((cp [] rest).1, (cp [] rest).2.2)])] := H14.pick [0] (by decide) rfl
        have e : (q ++ [((cp [] rest).1, (cp [] rest).2.2)]) = rdl (List.length key) key := by rw [← hq, hn, rdl_cons hne, if_neg (by rw [h17]; exact Bool.false_ne_true)]
        rw [← e]
        exact .inl H22
    · skip
      replace H15 : Own w0 D w13 [J (q ++ [((cp [] rest).1, (cp [] rest).2.2)]), blk g [.string ⟨List.toArray rest⟩] 9] := H15
      refine Lf.val (v := .bool true) rfl rfl (Yl.kern rfl rfl (fun _ => by kernel_rfl)) ?_
      refine Lf.val (v := .bool true) rfl rfl (Yl.move rfl) ?_
      refine Lf.skipG rfl rfl rfl rfl ?_
      refine Lf.skipG rfl rfl rfl rfl ?_
      refine Lf.val (v := .bool true) rfl rfl (Yl.pickT rfl rfl rfl) ?_
      refine Lf.nil ?_
      refine Ff.then ?_
      refine Wf.cond1 rfl rfl ?_
      refine Wf.ret ?_
      refine Ff.thenR ?_
      refine Ff.blockR ?_
      refine Ff.thenR ?_
      refine Ff.blockR ?_
      refine Ff.res ?_
      refine Lv.nil (res0 rfl) ?_
      have H23 : Own w0 D w13 [J (q ++ [((cp [] rest).1, (cp [] rest).2.2)])] := H15.pick [0] (by decide) rfl
      exact .inr ⟨_, hp16, H23⟩
  · skip
    refine Wf.cond0 rfl (decide_eq_false h4) ?_
    refine Wf.exit ?_
    refine Ff.thenX ?_
    refine Ff.thenX ?_
    refine Ff.blockX ?_
    refine Ff.res0 ?_
    refine Lv.nil (res0 rfl) ?_
    have H24 : Own w0 D w1 [C q] := H2.pick [0] (by decide) rfl
    have hne : rest = [] := Classical.not_not.1 h4
    have e : q = rdl (List.length key) key := by rw [← hq, hne, rdl_nil, List.append_nil]
    rw [← e]
    exact .inl H24

def fsts (l : List (List UInt8 × Bool)) : List (List UInt8) := l.map (·.1)
def pOk (key : List UInt8) : Prop := (∀ y ∈ rdl (List.length key) key, y.2 = true) ∧ List.length (rdl (List.length key) key) ≤ 4
def pps (key : List UInt8) : List (List UInt8) := fsts (rdl (List.length key) key)
theorem fsts_push (l : List (List UInt8 × Bool)) (x : List UInt8 × Bool) : fsts (l ++ [x]) = fsts l ++ [x.1] := by simp [fsts]
theorem fsts_len (l : List (List UInt8 × Bool)) : (fsts l).length = l.length := by simp [fsts]

def PC (g2 : Nat) (g3 : Nat) (g4 : Nat) (pre : List (List UInt8 × Bool)) : HP := exS (fun g : (Option Addr) × Nat × Nat => g.2.2 = List.length pre ∧ g.2.2 ≤ 4 ∧ ∀ y : List UInt8 × Bool, y ∈ pre → y.2 = true) (fun g => [blk g2 [.slice none 0 0] 22, blk g3 [.int .i64 0] 24, blk g4 [.slice g.1 g.2.2 g.2.1] 22, row g.1 g.2.2 g.2.1 (List.flatMap eS (fsts pre)) 9 1])

def PJ (g2 : Nat) (g3 : Nat) (pre : List (List UInt8 × Bool)) : HP := exS (fun g : Unit => (∃ y : List UInt8 × Bool, y ∈ pre ∧ y.2 = false) ∨ 4 < List.length pre) (fun g => [blk g2 [.slice none 0 0] 22, blk g3 [.int .i64 11] 24])

def PF (g2 g3 : Nat) (c : Code) (pre : List (List UInt8 × Bool)) : HP := match c with | .ret => PJ g2 g3 pre | _ => fun _ => False

set_option maxRecDepth 100000 in
theorem Parts_raw (key : List UInt8) (w : World) (D : Nat → Prop) (H : Own w D w [])  :
    Calls Try.prog 15 #[.string ⟨List.toArray key⟩] w (Ret fun v w' => ((List.length key < 1 ∨ 12 < List.length key) ∧ v = .tuple #[.slice none 0 0, .int .i64 20] ∧ Own w D w' []) ∨ ((1 ≤ List.length key ∧ List.length key ≤ 12) ∧ pOk key ∧ ∃ A c n, n = List.length (pps key) ∧ v = .tuple #[.slice A n c, .int .i64 0] ∧ Own w D w' [row A n c (List.flatMap eS (pps key)) 9 1]) ∨ ((1 ≤ List.length key ∧ List.length key ≤ 12) ∧ ¬ pOk key ∧ v = .tuple #[.slice none 0 0, .int .i64 11] ∧ Own w D w' [])) := by
  refine Calls.bodyF (args := [.string ⟨List.toArray key⟩]) Try.func15 rfl rfl rfl ?_
  show Wf _ _ _ _ _ [(0, .string ⟨List.toArray key⟩)] _ _
  refine Wf.seq ?_
  refine Wf.region ?_
  refine Lf.do rfl (Do.df rfl (Do.newP (cs := [.slice none 0 0]) (t := 22) H rfl rfl (fun _ => by kernel_rfl) ?_))
  intro g1 w2 H3
  replace H3 : Own w D w2 [blk g1 [.slice none 0 0] 22] := H3
  refine Lf.do rfl (Do.df rfl (Do.newP (cs := [.int .i64 0]) (t := 24) H3 rfl rfl (fun _ => by kernel_rfl) ?_))
  intro g4 w5 H6
  replace H6 : Own w D w5 [blk g4 [.int .i64 0] 24, blk g1 [.slice none 0 0] 22] := H6
  refine Lf.nil ?_
  refine Ff.then ?_
  refine Wf.seq ?_
  refine Wf.seq ?_
  refine Wf.region ?_
  refine Lf.val (v := .string ⟨List.toArray key⟩) rfl rfl (Yl.move rfl) ?_
  obtain ⟨D7, HP8, ro9, bk10, rr11⟩ := Own.enter (L1 := []) (L2 := [blk g4 [.int .i64 0] 24, blk g1 [.slice none 0 0] 22]) H6
  refine Lf.do rfl (Do.df rfl (Do.call Try.call21 rfl (Check_ok key _ _ HP8) ?_))
  rintro _ w12 (⟨qc14, rfl, HQ13⟩ | ⟨qc16, rfl, HQ15⟩)
  · skip
    have H17 : Own w D w12 [blk g4 [.int .i64 0] 24, blk g1 [.slice none 0 0] 22] := bk10 _ _ HQ13
    refine Lf.val (v := .int .i64 20) rfl rfl (Yl.assign rfl) ?_
    refine Lf.nil ?_
    refine Ff.then ?_
    refine Wf.seq ?_
    refine Wf.region ?_
    refine Lf.val (v := .int .i64 20) rfl rfl (Yl.move rfl) ?_
    refine Lf.val (v := .bool true) rfl rfl (Yl.kern rfl rfl (fun _ => by kernel_rfl)) ?_
    refine Lf.nil ?_
    refine Ff.then ?_
    refine Wf.cond1 rfl rfl ?_
    refine Wf.seq ?_
    refine Wf.region ?_
    refine Lf.val (v := .int .i64 20) rfl rfl (Yl.move rfl) ?_
    have H18 : Own w D w12 [blk g1 [.slice none 0 0] 22, blk g4 [.int .i64 0] 24] := H17.pick [1, 0] (by decide) rfl
    refine Lf.do0 (Do.df rfl (Do.store (vs := [.slice none 0 0]) (o := 0) H18 rfl rfl Try.sizeOf22 rfl rfl rfl rfl ?_))
    intro w19 H20
    replace H20 : Own w D w19 [blk g1 [.slice none 0 0] 22, blk g4 [.int .i64 0] 24] := H20
    have H21 : Own w D w19 [blk g4 [.int .i64 0] 24, blk g1 [.slice none 0 0] 22] := H20.pick [1, 0] (by decide) rfl
    refine Lf.do0 (Do.df rfl (Do.store (vs := [.int .i64 20]) (o := 0) H21 rfl rfl Try.sizeOf24 rfl rfl rfl rfl ?_))
    intro w22 H23
    replace H23 : Own w D w22 [blk g4 [.int .i64 20] 24, blk g1 [.slice none 0 0] 22] := H23
    refine Lf.nil ?_
    refine Ff.then ?_
    refine Wf.ret ?_
    refine Ff.thenR ?_
    refine Ff.res ?_
    refine Lv.nil (resN (vs := [.slice none 0 0, .int .i64 20]) rfl (ResV.cell rfl (Lds.one Try.isAgg22 (Cls.of (H23.cls (i := 1) rfl) rfl)) (ResV.cell rfl (Lds.one Try.isAgg24 (Cls.of (H23.cls (i := 0) rfl) rfl)) ResV.nil)) (Nat.le_of_ble_eq_true rfl)) ?_
    have H24 : Own w D w22 [] := H23.pick [] (by decide) rfl
    exact .inl ⟨qc14, rfl, H24⟩
  · skip
    have H25 : Own w D w12 [blk g4 [.int .i64 0] 24, blk g1 [.slice none 0 0] 22] := bk10 _ _ HQ15
    refine Lf.val (v := .int .i64 0) rfl rfl (Yl.assign rfl) ?_
    refine Lf.nil ?_
    refine Ff.then ?_
    refine Wf.seq ?_
    refine Wf.region ?_
    refine Lf.val (v := .int .i64 0) rfl rfl (Yl.move rfl) ?_
    refine Lf.val (v := .bool false) rfl rfl (Yl.kern rfl rfl (fun _ => by kernel_rfl)) ?_
    refine Lf.nil ?_
    refine Ff.then ?_
    refine Wf.cond0 rfl rfl ?_
    refine Wf.skip ?_
    refine Ff.then ?_
    refine Wf.seq ?_
    refine Wf.region ?_
    refine Lf.do rfl (Do.df rfl (Do.newP (cs := [.slice none 0 0]) (t := 22) H25 rfl rfl (fun _ => by kernel_rfl) ?_))
    intro g26 w27 H28
    replace H28 : Own w D w27 [blk g26 [.slice none 0 0] 22, blk g4 [.int .i64 0] 24, blk g1 [.slice none 0 0] 22] := H28
    refine Lf.nil ?_
    refine Ff.then ?_
    refine Wf.seq ?_
    refine Wf.seq ?_
    refine Wf.region ?_
    refine Lf.val (v := .string ⟨List.toArray key⟩) rfl rfl (Yl.move rfl) ?_
    obtain ⟨D29, HP30, ro31, bk32, rr33⟩ := Own.enter (L1 := []) (L2 := [blk g26 [.slice none 0 0] 22, blk g4 [.int .i64 0] 24, blk g1 [.slice none 0 0] 22]) H28
    refine Lf.do rfl (Do.df rfl (Do.call Try.call22 rfl (read_ok key _ _ HP30) ?_))
    rintro _ w34 ⟨g36, rfl, HQ35⟩
    have H37 : Own w D w34 [blk g36 [.string ⟨List.toArray key⟩] 9, blk g26 [.slice none 0 0] 22, blk g4 [.int .i64 0] 24, blk g1 [.slice none 0 0] 22] := bk32 _ _ HQ35
    refine Lf.nil ?_
    refine Ff.then ?_
    refine Wf.block ?_
    have H38 : Own w D w34 [row none 0 0 (List.flatMap eS (fsts [])) 9 1, blk g36 [.string ⟨List.toArray key⟩] 9, blk g26 [.slice none 0 0] 22, blk g4 [.int .i64 0] 24, blk g1 [.slice none 0 0] 22] := H37.free (row_nil 9 1)
    have H39 : Own w D w34 [blk g1 [.slice none 0 0] 22, blk g4 [.int .i64 0] 24, blk g26 [.slice none 0 0] 22, row none 0 0 (List.flatMap eS (fsts [])) 9 1, blk g36 [.string ⟨List.toArray key⟩] 9] := H38.pick [4, 3, 2, 0, 1] (by decide) rfl
    have H40 : Own w D w34 [PC g1 g4 g26 ([]), blk g36 [.string ⟨List.toArray key⟩] 9] := Own.exFold (none, 0, 0) (show 0 = List.length ([]) ∧ 0 ≤ 4 ∧ ∀ y : List UInt8 × Bool, y ∈ ([]) → y.2 = true from ⟨rfl, by omega, fun y hy => by cases hy⟩) (show Own w D w34 [blk g1 [.slice none 0 0] 22, blk g4 [.int .i64 0] 24, blk g26 [.slice none 0 0] 22, row none 0 0 (List.flatMap eS (fsts ([]))) 9 1, blk g36 [.string ⟨List.toArray key⟩] 9] from H39)
    have H41 : Own w D w34 [PC g1 g4 g26 ([]), blk g36 [.string ⟨List.toArray key⟩] 9] := H40.pick [0, 1] (by decide) rfl
    refine Wf.rangeFunc (α := List UInt8 × Bool) (encs := fun x => [.string ⟨List.toArray x.1⟩, .bool x.2]) (xs := (rdl (List.length key) key)) (lb := [.pointer (some ⟨g36, 0, none⟩)]) (PC g1 g4 g26) (PF g1 g4) (fun x => [(7, .bool x.2), (6, .string ⟨List.toArray x.1⟩), (16, .bool x.2), (15, .string ⟨List.toArray x.1⟩), (14, .func (.func 27) #[] #[.pointer (some ⟨g36, 0, none⟩)]), (13, .string ⟨List.toArray key⟩), (5, .pointer (some ⟨g26, 0, none⟩)), (11, .bool false), (10, .int .i64 0), (4, .int .i64 0), (9, .int .i64 0), (8, .string ⟨List.toArray key⟩), (3, .pointer (some ⟨g4, 0, none⟩)), (2, .pointer (some ⟨g1, 0, none⟩)), (0, .string ⟨List.toArray key⟩)]) rfl Try.call27 (fun _ => rfl) rfl ((read_it g36 key w D (by omega))) H41 ?_ ?_ ?_ ?_ ?_
    · intro l x W K hk
      show Wf _ _ _ _ _ [(16, .bool x.2), (15, .string ⟨List.toArray x.1⟩), (14, .func (.func 27) #[] #[.pointer (some ⟨g36, 0, none⟩)]), (13, .string ⟨List.toArray key⟩), (5, .pointer (some ⟨g26, 0, none⟩)), (11, .bool false), (10, .int .i64 0), (4, .int .i64 0), (9, .int .i64 0), (8, .string ⟨List.toArray key⟩), (3, .pointer (some ⟨g4, 0, none⟩)), (2, .pointer (some ⟨g1, 0, none⟩)), (0, .string ⟨List.toArray key⟩)] _ _
      refine Wf.seq ?_
      refine Wf.region ?_
      refine Lf.val (v := .string ⟨List.toArray x.1⟩) rfl rfl (Yl.assign rfl) ?_
      refine Lf.nil ?_
      refine Ff.then ?_
      refine Wf.region ?_
      refine Lf.val (v := .bool x.2) rfl rfl (Yl.assign rfl) ?_
      refine Lf.nil ?_
      exact hk
    · intro l pre x R W hpre HB
      show Wf _ _ _ _ _ [(7, .bool x.2), (6, .string ⟨List.toArray x.1⟩), (16, .bool x.2), (15, .string ⟨List.toArray x.1⟩), (14, .func (.func 27) #[] #[.pointer (some ⟨g36, 0, none⟩)]), (13, .string ⟨List.toArray key⟩), (5, .pointer (some ⟨g26, 0, none⟩)), (11, .bool false), (10, .int .i64 0), (4, .int .i64 0), (9, .int .i64 0), (8, .string ⟨List.toArray key⟩), (3, .pointer (some ⟨g4, 0, none⟩)), (2, .pointer (some ⟨g1, 0, none⟩)), (0, .string ⟨List.toArray key⟩)] _ _
      obtain ⟨⟨A42, c43, n44⟩, hf45, H46⟩ := Own.exOpen HB
      replace H46 : Own w D W [blk g1 [.slice none 0 0] 22, blk g4 [.int .i64 0] 24, blk g26 [.slice A42 n44 c43] 22, row A42 n44 c43 (List.flatMap eS (fsts pre)) 9 1, R] := H46
      replace hf45 : n44 = List.length pre ∧ n44 ≤ 4 ∧ ∀ y : List UInt8 × Bool, y ∈ pre → y.2 = true := hf45
      refine Wf.block ?_
      refine Wf.seq ?_
      refine Wf.seq ?_
      refine Wf.region ?_
      refine Lf.val (v := .bool x.2) rfl rfl (Yl.move rfl) ?_
      refine Lf.val (v := .bool (!x.2)) rfl rfl (Yl.kern rfl rfl (fun _ => by kernel_rfl)) ?_
      refine Lf.val (v := .bool (!x.2)) rfl rfl (Yl.move rfl) ?_
      rcases Bool.eq_false_or_eq_true (x.2) with h47 | h47
      · skip
        refine Lf.valG (v := .slice A42 n44 c43) rfl rfl (congrArg not h47) rfl rfl (Yl.load rfl (Lds.one Try.isAgg22 (Cls.of (H46.cls (i := 2) rfl) rfl))) ?_
        refine Lf.valG (v := .int .i64 ((n44 : Nat) : Int)) rfl rfl (congrArg not h47) rfl rfl (Yl.kern rfl rfl (fun _ => by kernel_rfl)) ?_
        refine Lf.valG (v := .bool (decide (((n44 : Nat) : Int) = 4))) rfl rfl (congrArg not h47) rfl rfl (Yl.kern rfl rfl (fun _ => by kernel_rfl)) ?_
        refine Lf.val (v := .bool (decide (((n44 : Nat) : Int) = 4))) rfl rfl (Yl.pickF rfl (congrArg not h47) rfl) ?_
        refine Lf.nil ?_
        refine Ff.then ?_
        by_cases h48 : ((n44 : Nat) : Int) = 4
        · skip
          refine Wf.cond1 rfl (decide_eq_true h48) ?_
          refine Wf.seq ?_
          refine Wf.region ?_
          refine Lf.do0 (Do.df rfl (Do.store (vs := [.slice none 0 0]) (o := 0) H46 rfl rfl Try.sizeOf22 rfl rfl rfl rfl ?_))
          intro w49 H50
          replace H50 : Own w D w49 [blk g1 [.slice none 0 0] 22, blk g4 [.int .i64 0] 24, blk g26 [.slice A42 n44 c43] 22, row A42 n44 c43 (List.flatMap eS (fsts pre)) 9 1, R] := H50
          have H51 : Own w D w49 [blk g4 [.int .i64 0] 24, blk g1 [.slice none 0 0] 22, blk g26 [.slice A42 n44 c43] 22, row A42 n44 c43 (List.flatMap eS (fsts pre)) 9 1, R] := H50.pick [1, 0, 2, 3, 4] (by decide) rfl
          refine Lf.do0 (Do.df rfl (Do.store (vs := [.int .i64 11]) (o := 0) H51 rfl rfl Try.sizeOf24 rfl rfl rfl rfl ?_))
          intro w52 H53
          replace H53 : Own w D w52 [blk g4 [.int .i64 11] 24, blk g1 [.slice none 0 0] 22, blk g26 [.slice A42 n44 c43] 22, row A42 n44 c43 (List.flatMap eS (fsts pre)) 9 1, R] := H53
          refine Lf.nil ?_
          refine Ff.then ?_
          refine Wf.ret ?_
          refine Ff.thenR ?_
          refine Ff.blockR ?_
          have H54 : Own w D w52 [blk g1 [.slice none 0 0] 22, blk g4 [.int .i64 11] 24, blk g26 [.slice A42 n44 c43] 22, row A42 n44 c43 (List.flatMap eS (fsts pre)) 9 1, R] := H53.pick [1, 0, 2, 3, 4] (by decide) rfl
          have H55 : Own w D w52 [PJ g1 g4 (pre ++ [x]), blk g26 [.slice A42 n44 c43] 22, row A42 n44 c43 (List.flatMap eS (fsts pre)) 9 1, R] := Own.exFold () (show (∃ y : List UInt8 × Bool, y ∈ (pre ++ [x]) ∧ y.2 = false) ∨ 4 < List.length (pre ++ [x]) from .inr (by simp; omega)) (show Own w D w52 [blk g1 [.slice none 0 0] 22, blk g4 [.int .i64 11] 24, blk g26 [.slice A42 n44 c43] 22, row A42 n44 c43 (List.flatMap eS (fsts pre)) 9 1, R] from H54)
          have H56 : Own w D w52 [PJ g1 g4 (pre ++ [x]), R] := H55.pick [0, 3] (by decide) rfl
          exact fun _ _ _ => H56
        · skip
          refine Wf.cond0 rfl (decide_eq_false h48) ?_
          refine Wf.skip ?_
          refine Ff.then ?_
          refine Wf.region ?_
          refine Lf.val (v := .slice A42 n44 c43) rfl rfl (Yl.load rfl (Lds.one Try.isAgg22 (Cls.of (H46.cls (i := 2) rfl) rfl))) ?_
          refine Lf.val (v := .string ⟨List.toArray x.1⟩) rfl rfl (Yl.move rfl) ?_
          refine Lf.do rfl (Do.df rfl (Do.newRow (cs := [.string ⟨List.toArray x.1⟩]) (t := 9) (sz := 1) (m := 1) H46 rfl rfl (fun _ => by kernel_rfl) rfl (by decide) ?_))
          intro A57 w58 H59
          replace H59 : Own w D w58 [row A57 1 1 (List.flatMap eS ([x.1])) 9 1, blk g1 [.slice none 0 0] 22, blk g4 [.int .i64 0] 24, blk g26 [.slice A42 n44 c43] 22, row A42 n44 c43 (List.flatMap eS (fsts pre)) 9 1, R] := H59
          have H60 : Own w D w58 [row A42 n44 c43 (List.flatMap eS (fsts pre)) 9 1, row A57 1 1 (List.flatMap eS ([x.1])) 9 1, blk g1 [.slice none 0 0] 22, blk g4 [.int .i64 0] 24, blk g26 [.slice A42 n44 c43] 22, R] := H59.pick [4, 0, 1, 2, 3, 5] (by decide) rfl
          refine Lf.do rfl (Do.df rfl (Do.append (k := n44) (m := 1) (El22) H60 rfl rfl (src_of Try.underlying22 (H60.rds (i := 1) rfl) (flat_one eS_one ([x.1]))) (by unfold maxLen; omega) (by omega) (s := n44 + 1) (by omega) (List.flatMap_append).symm ?_))
          intro A61 c62 w63 H64
          replace H64 : Own w D w63 [row A61 (n44 + 1) c62 (List.flatMap eS ((fsts pre) ++ [x.1])) 9 1, row A57 1 1 (List.flatMap eS ([x.1])) 9 1, blk g1 [.slice none 0 0] 22, blk g4 [.int .i64 0] 24, blk g26 [.slice A42 n44 c43] 22, R] := H64
          have H65 : Own w D w63 [blk g26 [.slice A42 n44 c43] 22, row A61 (n44 + 1) c62 (List.flatMap eS ((fsts pre) ++ [x.1])) 9 1, row A57 1 1 (List.flatMap eS ([x.1])) 9 1, blk g1 [.slice none 0 0] 22, blk g4 [.int .i64 0] 24, R] := H64.pick [4, 0, 1, 2, 3, 5] (by decide) rfl
          refine Lf.do0 (Do.df rfl (Do.store (vs := [.slice A61 (n44 + 1) c62]) (o := 0) H65 rfl rfl Try.sizeOf22 rfl rfl rfl rfl ?_))
          intro w66 H67
          replace H67 : Own w D w66 [blk g26 [.slice A61 (n44 + 1) c62] 22, row A61 (n44 + 1) c62 (List.flatMap eS ((fsts pre) ++ [x.1])) 9 1, row A57 1 1 (List.flatMap eS ([x.1])) 9 1, blk g1 [.slice none 0 0] 22, blk g4 [.int .i64 0] 24, R] := H67
          refine Lf.nil ?_
          refine Ff.blockN ?_
          have H68 : Own w D w66 [blk g26 [.slice A61 (n44 + 1) c62] 22, row A61 (n44 + 1) c62 (List.flatMap eS (fsts (pre ++ [x]))) 9 1, row A57 1 1 (List.flatMap eS ([x.1])) 9 1, blk g1 [.slice none 0 0] 22, blk g4 [.int .i64 0] 24, R] := by rw [fsts_push]; exact H67
          have H69 : Own w D w66 [blk g1 [.slice none 0 0] 22, blk g4 [.int .i64 0] 24, blk g26 [.slice A61 (n44 + 1) c62] 22, row A61 (n44 + 1) c62 (List.flatMap eS (fsts (pre ++ [x]))) 9 1, row A57 1 1 (List.flatMap eS ([x.1])) 9 1, R] := H68.pick [3, 4, 0, 1, 2, 5] (by decide) rfl
          have H70 : Own w D w66 [PC g1 g4 g26 (pre ++ [x]), row A57 1 1 (List.flatMap eS ([x.1])) 9 1, R] := Own.exFold (A61, c62, n44 + 1) (show n44 + 1 = List.length (pre ++ [x]) ∧ n44 + 1 ≤ 4 ∧ ∀ y : List UInt8 × Bool, y ∈ (pre ++ [x]) → y.2 = true from ⟨by simp; omega, by omega, fun y hy => by
              rcases List.mem_append.1 hy with hy | hy
              · exact hf45.2.2 y hy
              · rw [List.mem_singleton.1 hy]; exact h47⟩) (show Own w D w66 [blk g1 [.slice none 0 0] 22, blk g4 [.int .i64 0] 24, blk g26 [.slice A61 (n44 + 1) c62] 22, row A61 (n44 + 1) c62 (List.flatMap eS (fsts (pre ++ [x]))) 9 1, row A57 1 1 (List.flatMap eS ([x.1])) 9 1, R] from H69)
          have H71 : Own w D w66 [PC g1 g4 g26 (pre ++ [x]), R] := H70.pick [0, 2] (by decide) rfl
          exact fun _ _ _ => H71
      · skip
        refine Lf.skipG rfl rfl (congrArg not h47) rfl ?_
        refine Lf.skipG rfl rfl (congrArg not h47) rfl ?_
        refine Lf.skipG rfl rfl (congrArg not h47) rfl ?_
        refine Lf.val (v := .bool true) rfl rfl (Yl.pickT rfl (congrArg not h47) rfl) ?_
        refine Lf.nil ?_
        refine Ff.then ?_
        refine Wf.cond1 rfl rfl ?_
        refine Wf.seq ?_
        refine Wf.region ?_
        refine Lf.do0 (Do.df rfl (Do.store (vs := [.slice none 0 0]) (o := 0) H46 rfl rfl Try.sizeOf22 rfl rfl rfl rfl ?_))
        intro w72 H73
        replace H73 : Own w D w72 [blk g1 [.slice none 0 0] 22, blk g4 [.int .i64 0] 24, blk g26 [.slice A42 n44 c43] 22, row A42 n44 c43 (List.flatMap eS (fsts pre)) 9 1, R] := H73
        have H74 : Own w D w72 [blk g4 [.int .i64 0] 24, blk g1 [.slice none 0 0] 22, blk g26 [.slice A42 n44 c43] 22, row A42 n44 c43 (List.flatMap eS (fsts pre)) 9 1, R] := H73.pick [1, 0, 2, 3, 4] (by decide) rfl
        refine Lf.do0 (Do.df rfl (Do.store (vs := [.int .i64 11]) (o := 0) H74 rfl rfl Try.sizeOf24 rfl rfl rfl rfl ?_))
        intro w75 H76
        replace H76 : Own w D w75 [blk g4 [.int .i64 11] 24, blk g1 [.slice none 0 0] 22, blk g26 [.slice A42 n44 c43] 22, row A42 n44 c43 (List.flatMap eS (fsts pre)) 9 1, R] := H76
        refine Lf.nil ?_
        refine Ff.then ?_
        refine Wf.ret ?_
        refine Ff.thenR ?_
        refine Ff.blockR ?_
        have H77 : Own w D w75 [blk g1 [.slice none 0 0] 22, blk g4 [.int .i64 11] 24, blk g26 [.slice A42 n44 c43] 22, row A42 n44 c43 (List.flatMap eS (fsts pre)) 9 1, R] := H76.pick [1, 0, 2, 3, 4] (by decide) rfl
        have H78 : Own w D w75 [PJ g1 g4 (pre ++ [x]), blk g26 [.slice A42 n44 c43] 22, row A42 n44 c43 (List.flatMap eS (fsts pre)) 9 1, R] := Own.exFold () (show (∃ y : List UInt8 × Bool, y ∈ (pre ++ [x]) ∧ y.2 = false) ∨ 4 < List.length (pre ++ [x]) from .inl ⟨x, by simp, h47⟩) (show Own w D w75 [blk g1 [.slice none 0 0] 22, blk g4 [.int .i64 11] 24, blk g26 [.slice A42 n44 c43] 22, row A42 n44 c43 (List.flatMap eS (fsts pre)) 9 1, R] from H77)
        have H79 : Own w D w75 [PJ g1 g4 (pre ++ [x]), R] := H78.pick [0, 3] (by decide) rfl
        exact fun _ _ _ => H79
    · intro r80 w81 H82
      have H83 : Own w D w81 [PC g1 g4 g26 (rdl (List.length key) key), obj r80 (.deferred (some []))] := H82.pick [1, 0] (by decide) rfl
      obtain ⟨⟨A84, c85, n86⟩, hf87, H88⟩ := Own.exOpen H83
      replace H88 : Own w D w81 [blk g1 [.slice none 0 0] 22, blk g4 [.int .i64 0] 24, blk g26 [.slice A84 n86 c85] 22, row A84 n86 c85 (List.flatMap eS (fsts (rdl (List.length key) key))) 9 1, obj r80 (.deferred (some []))] := H88
      replace hf87 : n86 = List.length (rdl (List.length key) key) ∧ n86 ≤ 4 ∧ ∀ y : List UInt8 × Bool, y ∈ (rdl (List.length key) key) → y.2 = true := hf87
      refine Ff.blockN ?_
      refine Ff.then ?_
      refine Wf.seq ?_
      refine Wf.region ?_
      refine Lf.val (v := .slice A84 n86 c85) rfl rfl (Yl.load rfl (Lds.one Try.isAgg22 (Cls.of (H88.cls (i := 2) rfl) rfl))) ?_
      refine Lf.do0 (Do.df rfl (Do.store (vs := [.slice A84 n86 c85]) (o := 0) H88 rfl rfl Try.sizeOf22 rfl rfl rfl rfl ?_))
      intro w89 H90
      replace H90 : Own w D w89 [blk g1 [.slice A84 n86 c85] 22, blk g4 [.int .i64 0] 24, blk g26 [.slice A84 n86 c85] 22, row A84 n86 c85 (List.flatMap eS (fsts (rdl (List.length key) key))) 9 1, obj r80 (.deferred (some []))] := H90
      have H91 : Own w D w89 [blk g4 [.int .i64 0] 24, blk g1 [.slice A84 n86 c85] 22, blk g26 [.slice A84 n86 c85] 22, row A84 n86 c85 (List.flatMap eS (fsts (rdl (List.length key) key))) 9 1, obj r80 (.deferred (some []))] := H90.pick [1, 0, 2, 3, 4] (by decide) rfl
      refine Lf.do0 (Do.df rfl (Do.store (vs := [.int .i64 0]) (o := 0) H91 rfl rfl Try.sizeOf24 rfl rfl rfl rfl ?_))
      intro w92 H93
      replace H93 : Own w D w92 [blk g4 [.int .i64 0] 24, blk g1 [.slice A84 n86 c85] 22, blk g26 [.slice A84 n86 c85] 22, row A84 n86 c85 (List.flatMap eS (fsts (rdl (List.length key) key))) 9 1, obj r80 (.deferred (some []))] := H93
      refine Lf.nil ?_
      refine Ff.then ?_
      refine Wf.ret ?_
      refine Ff.res ?_
      have H94 : Own w D w92 [obj r80 (.deferred (some [])), blk g4 [.int .i64 0] 24, blk g1 [.slice A84 n86 c85] 22, blk g26 [.slice A84 n86 c85] 22, row A84 n86 c85 (List.flatMap eS (fsts (rdl (List.length key) key))) 9 1] := H93.pick [4, 0, 1, 2, 3] (by decide) rfl
      refine Lv.mark H94 ?_
      intro w95 H96
      replace H96 : Own w D w95 [blk g4 [.int .i64 0] 24, blk g1 [.slice A84 n86 c85] 22, blk g26 [.slice A84 n86 c85] 22, row A84 n86 c85 (List.flatMap eS (fsts (rdl (List.length key) key))) 9 1] := H96
      refine Lv.nil (resN (vs := [.slice A84 n86 c85, .int .i64 0]) rfl (ResV.cell rfl (Lds.one Try.isAgg22 (Cls.of (H96.cls (i := 1) rfl) rfl)) (ResV.cell rfl (Lds.one Try.isAgg24 (Cls.of (H96.cls (i := 0) rfl) rfl)) ResV.nil)) (Nat.le_of_ble_eq_true rfl)) ?_
      have H97 : Own w D w95 [row A84 n86 c85 (List.flatMap eS (fsts (rdl (List.length key) key))) 9 1] := H96.pick [3] (by decide) rfl
      exact .inr (.inl ⟨by omega, ⟨hf87.2.2, by omega⟩, A84, c85, n86, by rw [hf87.1]; exact (fsts_len _).symm, rfl, H97⟩)
    · intro r98 pre w99 hpre H100
      replace H100 : Own w D w99 [obj r98 (.deferred (some [])), PF g1 g4 .ret pre] := H100
      replace H100 : Own w D w99 [obj r98 (.deferred (some [])), PJ g1 g4 pre] := H100
      have H101 : Own w D w99 [PJ g1 g4 pre, obj r98 (.deferred (some []))] := H100.pick [1, 0] (by decide) rfl
      obtain ⟨_, hf102, H103⟩ := Own.exOpen H101
      replace H103 : Own w D w99 [blk g1 [.slice none 0 0] 22, blk g4 [.int .i64 11] 24, obj r98 (.deferred (some []))] := H103
      replace hf102 : (∃ y : List UInt8 × Bool, y ∈ pre ∧ y.2 = false) ∨ 4 < List.length pre := hf102
      refine Ff.blockR ?_
      refine Ff.thenR ?_
      refine Ff.res ?_
      have H104 : Own w D w99 [obj r98 (.deferred (some [])), blk g1 [.slice none 0 0] 22, blk g4 [.int .i64 11] 24] := H103.pick [2, 0, 1] (by decide) rfl
      refine Lv.mark H104 ?_
      intro w105 H106
      replace H106 : Own w D w105 [blk g1 [.slice none 0 0] 22, blk g4 [.int .i64 11] 24] := H106
      refine Lv.nil (resN (vs := [.slice none 0 0, .int .i64 11]) rfl (ResV.cell rfl (Lds.one Try.isAgg22 (Cls.of (H106.cls (i := 0) rfl) rfl)) (ResV.cell rfl (Lds.one Try.isAgg24 (Cls.of (H106.cls (i := 1) rfl) rfl)) ResV.nil)) (Nat.le_of_ble_eq_true rfl)) ?_
      have H107 : Own w D w105 [] := H106.pick [] (by decide) rfl
      exact .inr (.inr ⟨by omega, fun hk => by
          rcases hf102 with ⟨y, hy, h0⟩ | h0
          · rw [hk.1 y (hpre.subset hy)] at h0; cases h0
          · have := hpre.length_le; have := hk.2; omega, rfl, H107⟩)
    · intro r id pre W _ H
      obtain ⟨_, hF, _⟩ := H.get (i := 1) rfl
      exact hF.elim
end Go.Proofs.Yticaheijlapllaa
