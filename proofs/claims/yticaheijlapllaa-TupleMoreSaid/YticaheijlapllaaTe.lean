/-
  tuple: the reference's Parts; mathematics of keys.
-/
import Derived.Test.YticaheijlapllaaTd
namespace Go.Proofs.Yticaheijlapllaa
open Go.RowKit
set_option linter.unusedVariables false
set_option linter.unusedSectionVars false

def rp : List UInt8 → List (List UInt8) → List UInt8 → Option (List (List UInt8))
  | _, out, [] => some out
  | acc, out, b :: r => if b ≠ 0 then rp (acc ++ [b]) out r else match r with
    | [] => none
    | c :: r' => if c = 255 then rp (acc ++ [0]) out r' else if c = 1 then rp [] (out ++ [acc]) r' else none
theorem rp_cons (acc : List UInt8) (out : List (List UInt8)) (b : UInt8) (r : List UInt8) : rp acc out (b :: r) = if b ≠ 0 then rp (acc ++ [b]) out r else match r with
    | [] => none
    | c :: r' => if c = 255 then rp (acc ++ [0]) out r' else if c = 1 then rp [] (out ++ [acc]) r' else none := by rw [rp.eq_def]
theorem rp_ne {key acc : List UInt8} {out : List (List UInt8)} {i : Nat} {b : UInt8} (h : key[i]? = some b) (hb : ¬ ((b.toNat : Nat) : Int) = 0) : rp acc out (List.drop i key) = rp (acc ++ [b]) out (List.drop (i + 1) key) := by
  rw [drop_two h, rp_cons, if_pos (fun e => hb (by rw [e]; rfl))]
theorem rp_end {key acc : List UInt8} {out : List (List UInt8)} {i : Nat} (h : key.length ≤ i) : rp acc out (List.drop i key) = some out := by rw [List.drop_of_length_le h]; rfl
theorem rp_last {key acc : List UInt8} {out : List (List UInt8)} {i : Nat} {b : UInt8} (h : key[i]? = some b) (hb : ((b.toNat : Nat) : Int) = 0) (h2 : key.length ≤ i + 1) : rp acc out (List.drop i key) = none := by
  have e : b = 0 := (nz (n := 0) (by decide)).1 hb
  rw [drop_two h, rp_cons, if_neg (by simpa using e), List.drop_of_length_le h2]
theorem rp_esc {key acc : List UInt8} {out : List (List UInt8)} {i : Nat} {b c : UInt8} (h : key[i]? = some b) (hb : ((b.toNat : Nat) : Int) = 0) (h2 : key[i + 1]? = some c) : rp acc out (List.drop i key) = if ((c.toNat : Nat) : Int) = 255 then rp (acc ++ [0]) out (List.drop (i + 1 + 1) key) else if ((c.toNat : Nat) : Int) = 1 then rp [] (out ++ [acc]) (List.drop (i + 1 + 1) key) else none := by
  have e : b = 0 := (nz (n := 0) (by decide)).1 hb
  rw [drop_two h, rp_cons, if_neg (by simpa using e), drop_two h2]
  have e1 : (((c.toNat : Nat) : Int) = 1) = (c = 1) := propext (nz (n := 1) (by decide))
  have e2 : (((c.toNat : Nat) : Int) = 255) = (c = 255) := propext (nz (n := 255) (by decide))
  simp only [e1, e2]
def rOk (key : List UInt8) (out : List (List UInt8)) : Prop := rp [] [] key = some out ∧ jE out = (jn out, 0) ∧ jn out = key

set_option maxRecDepth 100000 in
theorem RParts_raw (key : List UInt8) (w : World) (D : Nat → Prop) (H : Own w D w [])  :
    Calls Try.prog 16 #[.string ⟨List.toArray key⟩] w (Ret fun v w' => ((List.length key < 1 ∨ 12 < List.length key) ∧ v = .tuple #[.slice none 0 0, .int .i64 20] ∧ Own w D w' []) ∨ ((1 ≤ List.length key ∧ List.length key ≤ 12) ∧ ∃ out, rOk key out ∧ ∃ A c n, n = List.length out ∧ v = .tuple #[.slice A n c, .int .i64 0] ∧ Own w D w' [row A n c (List.flatMap eS out) 9 1]) ∨ ((1 ≤ List.length key ∧ List.length key ≤ 12) ∧ (¬ ∃ out, rOk key out) ∧ v = .tuple #[.slice none 0 0, .int .i64 11] ∧ Own w D w' [])) := by
  refine Calls.body (args := [.string ⟨List.toArray key⟩]) Try.func16 rfl rfl rfl ?_
  show Wp _ _ _ [(0, .string ⟨List.toArray key⟩)] _ _
  refine Wp.seq ?_
  refine Wp.region ?_
  refine WL.val (v := .slice none 0 0) rfl (Yl.assign rfl) ?_
  refine WL.val (v := .int .i64 0) rfl (Yl.assign rfl) ?_
  refine WL.nil ?_
  refine Fin.then ?_
  refine Wp.seq ?_
  refine Wp.seq ?_
  refine Wp.region ?_
  refine WL.val (v := .string ⟨List.toArray key⟩) rfl (Yl.move rfl) ?_
  obtain ⟨D1, HP2, ro3, bk4, rr5⟩ := Own.enter (L1 := []) (L2 := []) H
  refine WL.do rfl (Do.call Try.call23 rfl (RCheck_ok key _ _ HP2) ?_)
  rintro _ w6 (⟨qc8, rfl, HQ7⟩ | ⟨qc10, rfl, HQ9⟩)
  · skip
    have H11 : Own w D w6 [] := bk4 _ _ HQ7
    refine WL.val (v := .int .i64 20) rfl (Yl.assign rfl) ?_
    refine WL.nil ?_
    refine Fin.then ?_
    refine Wp.seq ?_
    refine Wp.region ?_
    refine WL.val (v := .int .i64 20) rfl (Yl.move rfl) ?_
    refine WL.val (v := .bool true) rfl (Yl.kern rfl rfl (fun _ => by kernel_rfl)) ?_
    refine WL.nil ?_
    refine Fin.then ?_
    refine Wp.cond1 rfl rfl ?_
    refine Wp.seq ?_
    refine Wp.region ?_
    refine WL.val (v := .int .i64 20) rfl (Yl.move rfl) ?_
    refine WL.val (v := .slice none 0 0) rfl (Yl.assign rfl) ?_
    refine WL.val (v := .int .i64 20) rfl (Yl.assign rfl) ?_
    refine WL.nil ?_
    refine Fin.then ?_
    refine Wp.ret ?_
    refine Fin.thenR ?_
    refine Fin.res (res2 rfl rfl rfl) ?_
    have H12 : Own w D w6 [] := H11.pick [] (by decide) rfl
    exact .inl ⟨qc8, rfl, H12⟩
  · skip
    have H13 : Own w D w6 [] := bk4 _ _ HQ9
    refine WL.val (v := .int .i64 0) rfl (Yl.assign rfl) ?_
    refine WL.nil ?_
    refine Fin.then ?_
    refine Wp.seq ?_
    refine Wp.region ?_
    refine WL.val (v := .int .i64 0) rfl (Yl.move rfl) ?_
    refine WL.val (v := .bool false) rfl (Yl.kern rfl rfl (fun _ => by kernel_rfl)) ?_
    refine WL.nil ?_
    refine Fin.then ?_
    refine Wp.cond0 rfl rfl ?_
    refine Wp.skip ?_
    refine Fin.then ?_
    refine Wp.seq ?_
    refine Wp.region ?_
    refine WL.val (v := .slice none 0 0) rfl (Yl.assign rfl) ?_
    refine WL.nil ?_
    refine Fin.then ?_
    refine Wp.seq ?_
    refine Wp.region ?_
    refine WL.val (v := .slice none 0 0) rfl (Yl.assign rfl) ?_
    refine WL.nil ?_
    refine Fin.then ?_
    refine Wp.seq ?_
    refine Wp.seq ?_
    refine Wp.region ?_
    refine WL.val (v := .int .i64 0) rfl (Yl.assign rfl) ?_
    refine WL.nil ?_
    refine Fin.then ?_
    refine Wp.block ?_
    have H14 : Own w D w6 [row none 0 0 (List.flatMap eS ([])) 9 1] := H13.free (row_nil 9 1)
    have H15 : Own w D w6 [row none 0 0 (List.flatMap eB ([])) 5 1, row none 0 0 (List.flatMap eS ([])) 9 1] := H14.free (row_nil 5 1)
    have H16 : Own w D w6 [row none 0 0 (List.flatMap eB ([])) 5 1, row none 0 0 (List.flatMap eS ([])) 9 1] := H15.pick [0, 1] (by decide) rfl
    refine Wp.loop (ι := Nat × (List UInt8) × (List (List UInt8)) × Nat × (Option Addr) × Nat × Nat × (Option Addr) × Nat) (fun i => [(7, .int .i64 ((i.1 : Nat) : Int)), (6, .slice i.2.2.2.2.1 i.2.2.2.1 i.2.2.2.2.2.1), (5, .slice i.2.2.2.2.2.2.2.1 i.2.2.2.2.2.2.1 i.2.2.2.2.2.2.2.2), (13, .bool false), (12, .int .i64 0), (4, .int .i64 0), (11, .int .i64 0), (10, .string ⟨List.toArray key⟩), (0, .string ⟨List.toArray key⟩)]) (fun (i : Nat × (List UInt8) × (List (List UInt8)) × Nat × (Option Addr) × Nat × Nat × (Option Addr) × Nat) w' => Own w D w' [row i.2.2.2.2.1 i.2.2.2.1 i.2.2.2.2.2.1 (List.flatMap eB i.2.1) 5 1, row i.2.2.2.2.2.2.2.1 i.2.2.2.2.2.2.1 i.2.2.2.2.2.2.2.2 (List.flatMap eS i.2.2.1) 9 1] ∧ (i.1 ≤ List.length key ∧ i.2.2.2.1 = List.length i.2.1 ∧ i.2.2.2.2.2.2.1 = List.length i.2.2.1 ∧ i.2.2.2.1 ≤ i.1 ∧ i.2.2.2.2.2.2.1 ≤ i.1 ∧ rp i.2.1 i.2.2.1 (List.drop i.1 key) = rp [] [] key ∧ ∀ p : List UInt8, p ∈ i.2.2.1 → List.length p ≤ 140737488351232)) (fun i => List.length key - i.1) (0, [], [], 0, none, 0, 0, none, 0) ⟨rfl, rfl, rfl, rfl, rfl, rfl, rfl, rfl, rfl, trivial⟩ ⟨H16, (show 0 ≤ List.length key ∧ 0 = List.length ([]) ∧ 0 = List.length ([]) ∧ 0 ≤ 0 ∧ 0 ≤ 0 ∧ rp ([]) ([]) (List.drop 0 key) = rp [] [] key ∧ ∀ p : List UInt8, p ∈ ([]) → List.length p ≤ 140737488351232 from ⟨by omega, rfl, rfl, by omega, by omega, rfl, fun p hp => by cases hp⟩)⟩ ?_
    rintro ⟨i, acc, out, n, A, c, m, B, e⟩ w17 ⟨H18, hf19⟩
    show Wp _ _ _ [(7, .int .i64 ((i : Nat) : Int)), (6, .slice A n c), (5, .slice B m e), (13, .bool false), (12, .int .i64 0), (4, .int .i64 0), (11, .int .i64 0), (10, .string ⟨List.toArray key⟩), (0, .string ⟨List.toArray key⟩)] _ _
    replace H18 : Own w D w17 [row A n c (List.flatMap eB acc) 5 1, row B m e (List.flatMap eS out) 9 1] := H18
    replace hf19 : i ≤ List.length key ∧ n = List.length acc ∧ m = List.length out ∧ n ≤ i ∧ m ≤ i ∧ rp acc out (List.drop i key) = rp [] [] key ∧ ∀ p : List UInt8, p ∈ out → List.length p ≤ 140737488351232 := hf19
    obtain ⟨hi, hn, hm, hni, hmi, hc, hout⟩ := hf19
    refine Wp.seq ?_
    refine Wp.seq ?_
    refine Wp.region ?_
    refine WL.val (v := .int .i64 ((i : Nat) : Int)) rfl (Yl.move rfl) ?_
    refine WL.val (v := .string ⟨List.toArray key⟩) rfl (Yl.move rfl) ?_
    refine WL.val (v := .int .i64 ((List.length key : Nat) : Int)) rfl (Yl.kern rfl rfl (fun _ => by kernel_rfl)) ?_
    refine WL.val (v := .bool (decide (((i : Nat) : Int) < ((List.length key : Nat) : Int)))) rfl (Yl.kern rfl rfl (fun _ => by kernel_rfl)) ?_
    refine WL.nil ?_
    refine Fin.then ?_
    by_cases h20 : ((i : Nat) : Int) < ((List.length key : Nat) : Int)
    · skip
      refine Wp.cond1 rfl (decide_eq_true h20) ?_
      refine Wp.skip ?_
      refine Fin.then ?_
      refine Wp.seq ?_
      refine Wp.block ?_
      refine Wp.block ?_
      refine Wp.seq ?_
      refine Wp.region ?_
      refine WL.val (v := .string ⟨List.toArray key⟩) rfl (Yl.move rfl) ?_
      refine WL.val (v := .int .i64 ((i : Nat) : Int)) rfl (Yl.move rfl) ?_
      obtain ⟨b21, hx22⟩ := at_of (ls := key) (i := i) (by omega)
      refine WL.val (v := .int .u8 ((b21.toNat : Nat) : Int)) rfl (Yl.strIndex Try.underlying9 rfl rfl hx22) ?_
      refine WL.val (v := .bool (decide (¬ (((b21.toNat : Nat) : Int) = 0)))) rfl (Yl.bool (e := !(decide (((b21.toNat : Nat) : Int) = 0))) (Yl.kern rfl rfl (fun _ => by kernel_rfl)) decide_not.symm) ?_
      refine WL.val (v := .bool (decide (¬ (((b21.toNat : Nat) : Int) = 0)))) rfl (Yl.assign rfl) ?_
      refine WL.nil ?_
      refine Fin.then ?_
      by_cases h23 : ¬ (((b21.toNat : Nat) : Int) = 0)
      · skip
        refine Wp.cond1 rfl (decide_eq_true h23) ?_
        refine Wp.region ?_
        refine WL.val (v := .slice A n c) rfl (Yl.move rfl) ?_
        refine WL.val (v := .string ⟨List.toArray key⟩) rfl (Yl.move rfl) ?_
        refine WL.val (v := .int .i64 ((i : Nat) : Int)) rfl (Yl.move rfl) ?_
        refine WL.val (v := .int .u8 ((b21.toNat : Nat) : Int)) rfl (Yl.strIndex Try.underlying9 rfl rfl hx22) ?_
        refine WL.do rfl (Do.newRow (cs := [.int .u8 ((b21.toNat : Nat) : Int)]) (t := 5) (sz := 1) (m := 1) H18 rfl rfl (fun _ => by kernel_rfl) rfl (by decide) ?_)
        intro A24 w25 H26
        replace H26 : Own w D w25 [row A24 1 1 (List.flatMap eB ([b21])) 5 1, row A n c (List.flatMap eB acc) 5 1, row B m e (List.flatMap eS out) 9 1] := H26
        have H27 : Own w D w25 [row A n c (List.flatMap eB acc) 5 1, row A24 1 1 (List.flatMap eB ([b21])) 5 1, row B m e (List.flatMap eS out) 9 1] := H26.pick [1, 0, 2] (by decide) rfl
        refine WL.do rfl (Do.append (k := n) (m := 1) (El38) H27 rfl rfl (src_of Try.underlying38 (H27.rds (i := 1) rfl) (flat_one eB_one ([b21]))) (by unfold maxLen; omega) (by omega) (s := n + 1) (by omega) (List.flatMap_append).symm ?_)
        intro A28 c29 w30 H31
        replace H31 : Own w D w30 [row A28 (n + 1) c29 (List.flatMap eB (acc ++ [b21])) 5 1, row A24 1 1 (List.flatMap eB ([b21])) 5 1, row B m e (List.flatMap eS out) 9 1] := H31
        refine WL.val (v := .slice A28 (n + 1) c29) rfl (Yl.assign rfl) ?_
        refine WL.nil ?_
        refine Fin.blockN ?_
        refine Fin.blockN ?_
        refine Fin.then ?_
        refine Wp.region ?_
        refine WL.val (v := .int .i64 ((i : Nat) : Int)) rfl (Yl.move rfl) ?_
        refine WL.val (v := .int .i64 ((i + 1 : Nat) : Int)) rfl (Yl.int (e := IntKind.i64.wrap (((i : Nat) : Int) + 1)) (Yl.kern rfl rfl (fun _ => by kernel_rfl)) (by rw [IntWalk.i64_in _ (by omega)]; omega)) ?_
        refine WL.val (v := .int .i64 ((i + 1 : Nat) : Int)) rfl (Yl.assign rfl) ?_
        refine WL.nil ?_
        have H32 : Own w D w30 [row A28 (n + 1) c29 (List.flatMap eB (acc ++ [b21])) 5 1, row B m e (List.flatMap eS out) 9 1] := H31.pick [0, 2] (by decide) rfl
        exact Fin.round (i + 1, (acc ++ [b21]), out, n + 1, A28, c29, m, B, e) ⟨rfl, rfl, rfl, rfl, rfl, rfl, rfl, rfl, rfl, trivial⟩ ⟨H32, (show (i + 1) ≤ List.length key ∧ (n + 1) = List.length (acc ++ [b21]) ∧ m = List.length out ∧ (n + 1) ≤ (i + 1) ∧ m ≤ (i + 1) ∧ rp (acc ++ [b21]) out (List.drop (i + 1) key) = rp [] [] key ∧ ∀ p : List UInt8, p ∈ out → List.length p ≤ 140737488351232 from ⟨by omega, by first | omega | (simp; done) | (simp; omega), by first | omega | (simp; done) | (simp; omega), by omega, by omega, by rw [← hc, rp_ne hx22 (by omega)], hout⟩)⟩ (by show List.length key - (i + 1) < List.length key - i; omega)
      · skip
        refine Wp.cond0 rfl (decide_eq_false h23) ?_
        refine Wp.seq ?_
        refine Wp.region ?_
        refine WL.val (v := .int .i64 ((i : Nat) : Int)) rfl (Yl.move rfl) ?_
        refine WL.val (v := .int .i64 ((i + 1 : Nat) : Int)) rfl (Yl.int (e := IntKind.i64.wrap (((i : Nat) : Int) + 1)) (Yl.kern rfl rfl (fun _ => by kernel_rfl)) (by rw [IntWalk.i64_in _ (by omega)]; omega)) ?_
        refine WL.val (v := .string ⟨List.toArray key⟩) rfl (Yl.move rfl) ?_
        refine WL.val (v := .int .i64 ((List.length key : Nat) : Int)) rfl (Yl.kern rfl rfl (fun _ => by kernel_rfl)) ?_
        refine WL.val (v := .bool (decide (((i + 1 : Nat) : Int) < ((List.length key : Nat) : Int)))) rfl (Yl.kern rfl rfl (fun _ => by kernel_rfl)) ?_
        refine WL.val (v := .bool (decide (((i + 1 : Nat) : Int) < ((List.length key : Nat) : Int)))) rfl (Yl.move rfl) ?_
        by_cases h33 : ((i + 1 : Nat) : Int) < ((List.length key : Nat) : Int)
        · skip
          refine WL.valG (v := .string ⟨List.toArray key⟩) rfl rfl (decide_eq_true h33) rfl (Yl.move rfl) ?_
          refine WL.valG (v := .int .i64 ((i : Nat) : Int)) rfl rfl (decide_eq_true h33) rfl (Yl.move rfl) ?_
          refine WL.valG (v := .int .i64 ((i + 1 : Nat) : Int)) rfl rfl (decide_eq_true h33) rfl (Yl.int (e := IntKind.i64.wrap (((i : Nat) : Int) + 1)) (Yl.kern rfl rfl (fun _ => by kernel_rfl)) (by rw [IntWalk.i64_in _ (by omega)]; omega)) ?_
          obtain ⟨b34, hx35⟩ := at_of (ls := key) (i := i + 1) (by omega)
          refine WL.valG (v := .int .u8 ((b34.toNat : Nat) : Int)) rfl rfl (decide_eq_true h33) rfl (Yl.strIndex Try.underlying9 rfl rfl hx35) ?_
          refine WL.valG (v := .bool (decide (((b34.toNat : Nat) : Int) = 255))) rfl rfl (decide_eq_true h33) rfl (Yl.kern rfl rfl (fun _ => by kernel_rfl)) ?_
          refine WL.val (v := .bool (decide (((b34.toNat : Nat) : Int) = 255))) rfl (Yl.pickT rfl (decide_eq_true h33) rfl) ?_
          refine WL.val (v := .bool (decide (((b34.toNat : Nat) : Int) = 255))) rfl (Yl.assign rfl) ?_
          refine WL.nil ?_
          refine Fin.then ?_
          by_cases h36 : ((b34.toNat : Nat) : Int) = 255
          · skip
            refine Wp.cond1 rfl (decide_eq_true h36) ?_
            refine Wp.seq ?_
            refine Wp.region ?_
            refine WL.val (v := .slice A n c) rfl (Yl.move rfl) ?_
            refine WL.do rfl (Do.newRow (cs := [.int .u8 0]) (t := 5) (sz := 1) (m := 1) H18 rfl rfl (fun _ => by kernel_rfl) rfl (by decide) ?_)
            intro A37 w38 H39
            replace H39 : Own w D w38 [row A37 1 1 (List.flatMap eB ([0])) 5 1, row A n c (List.flatMap eB acc) 5 1, row B m e (List.flatMap eS out) 9 1] := H39
            have H40 : Own w D w38 [row A n c (List.flatMap eB acc) 5 1, row A37 1 1 (List.flatMap eB ([0])) 5 1, row B m e (List.flatMap eS out) 9 1] := H39.pick [1, 0, 2] (by decide) rfl
            refine WL.do rfl (Do.append (k := n) (m := 1) (El38) H40 rfl rfl (src_of Try.underlying38 (H40.rds (i := 1) rfl) (flat_one eB_one ([0]))) (by unfold maxLen; omega) (by omega) (s := n + 1) (by omega) (List.flatMap_append).symm ?_)
            intro A41 c42 w43 H44
            replace H44 : Own w D w43 [row A41 (n + 1) c42 (List.flatMap eB (acc ++ [0])) 5 1, row A37 1 1 (List.flatMap eB ([0])) 5 1, row B m e (List.flatMap eS out) 9 1] := H44
            refine WL.val (v := .slice A41 (n + 1) c42) rfl (Yl.assign rfl) ?_
            refine WL.nil ?_
            refine Fin.then ?_
            refine Wp.region ?_
            refine WL.val (v := .int .i64 ((i : Nat) : Int)) rfl (Yl.move rfl) ?_
            refine WL.val (v := .int .i64 ((i + 1 : Nat) : Int)) rfl (Yl.int (e := IntKind.i64.wrap (((i : Nat) : Int) + 1)) (Yl.kern rfl rfl (fun _ => by kernel_rfl)) (by rw [IntWalk.i64_in _ (by omega)]; omega)) ?_
            refine WL.val (v := .int .i64 ((i + 1 : Nat) : Int)) rfl (Yl.assign rfl) ?_
            refine WL.nil ?_
            refine Fin.blockN ?_
            refine Fin.blockN ?_
            refine Fin.then ?_
            refine Wp.region ?_
            refine WL.val (v := .int .i64 ((i + 1 : Nat) : Int)) rfl (Yl.move rfl) ?_
            refine WL.val (v := .int .i64 ((i + 1 + 1 : Nat) : Int)) rfl (Yl.int (e := IntKind.i64.wrap (((i + 1 : Nat) : Int) + 1)) (Yl.kern rfl rfl (fun _ => by kernel_rfl)) (by rw [IntWalk.i64_in _ (by omega)]; omega)) ?_
            refine WL.val (v := .int .i64 ((i + 1 + 1 : Nat) : Int)) rfl (Yl.assign rfl) ?_
            refine WL.nil ?_
            have H45 : Own w D w43 [row A41 (n + 1) c42 (List.flatMap eB (acc ++ [0])) 5 1, row B m e (List.flatMap eS out) 9 1] := H44.pick [0, 2] (by decide) rfl
            exact Fin.round (i + 1 + 1, (acc ++ [0]), out, n + 1, A41, c42, m, B, e) ⟨rfl, rfl, rfl, rfl, rfl, rfl, rfl, rfl, rfl, trivial⟩ ⟨H45, (show (i + 1 + 1) ≤ List.length key ∧ (n + 1) = List.length (acc ++ [0]) ∧ m = List.length out ∧ (n + 1) ≤ (i + 1 + 1) ∧ m ≤ (i + 1 + 1) ∧ rp (acc ++ [0]) out (List.drop (i + 1 + 1) key) = rp [] [] key ∧ ∀ p : List UInt8, p ∈ out → List.length p ≤ 140737488351232 from ⟨by omega, by first | omega | (simp; done) | (simp; omega), by first | omega | (simp; done) | (simp; omega), by omega, by omega, by rw [← hc, rp_esc hx22 (by omega) hx35, if_pos (by omega)], hout⟩)⟩ (by show List.length key - (i + 1 + 1) < List.length key - i; omega)
          · skip
            refine Wp.cond0 rfl (decide_eq_false h36) ?_
            refine Wp.seq ?_
            refine Wp.region ?_
            refine WL.val (v := .int .i64 ((i : Nat) : Int)) rfl (Yl.move rfl) ?_
            refine WL.val (v := .int .i64 ((i + 1 : Nat) : Int)) rfl (Yl.int (e := IntKind.i64.wrap (((i : Nat) : Int) + 1)) (Yl.kern rfl rfl (fun _ => by kernel_rfl)) (by rw [IntWalk.i64_in _ (by omega)]; omega)) ?_
            refine WL.val (v := .string ⟨List.toArray key⟩) rfl (Yl.move rfl) ?_
            refine WL.val (v := .int .i64 ((List.length key : Nat) : Int)) rfl (Yl.kern rfl rfl (fun _ => by kernel_rfl)) ?_
            refine WL.val (v := .bool (decide (((i + 1 : Nat) : Int) < ((List.length key : Nat) : Int)))) rfl (Yl.kern rfl rfl (fun _ => by kernel_rfl)) ?_
            refine WL.val (v := .bool (decide (((i + 1 : Nat) : Int) < ((List.length key : Nat) : Int)))) rfl (Yl.move rfl) ?_
            refine WL.valG (v := .string ⟨List.toArray key⟩) rfl rfl (decide_eq_true h33) rfl (Yl.move rfl) ?_
            refine WL.valG (v := .int .i64 ((i : Nat) : Int)) rfl rfl (decide_eq_true h33) rfl (Yl.move rfl) ?_
            refine WL.valG (v := .int .i64 ((i + 1 : Nat) : Int)) rfl rfl (decide_eq_true h33) rfl (Yl.int (e := IntKind.i64.wrap (((i : Nat) : Int) + 1)) (Yl.kern rfl rfl (fun _ => by kernel_rfl)) (by rw [IntWalk.i64_in _ (by omega)]; omega)) ?_
            refine WL.valG (v := .int .u8 ((b34.toNat : Nat) : Int)) rfl rfl (decide_eq_true h33) rfl (Yl.strIndex Try.underlying9 rfl rfl hx35) ?_
            refine WL.valG (v := .bool (decide (((b34.toNat : Nat) : Int) = 1))) rfl rfl (decide_eq_true h33) rfl (Yl.kern rfl rfl (fun _ => by kernel_rfl)) ?_
            refine WL.val (v := .bool (decide (((b34.toNat : Nat) : Int) = 1))) rfl (Yl.pickT rfl (decide_eq_true h33) rfl) ?_
            refine WL.val (v := .bool (decide (((b34.toNat : Nat) : Int) = 1))) rfl (Yl.assign rfl) ?_
            refine WL.nil ?_
            refine Fin.then ?_
            by_cases h46 : ((b34.toNat : Nat) : Int) = 1
            · skip
              refine Wp.cond1 rfl (decide_eq_true h46) ?_
              refine Wp.seq ?_
              refine Wp.region ?_
              refine WL.val (v := .slice B m e) rfl (Yl.move rfl) ?_
              refine WL.val (v := .slice A n c) rfl (Yl.move rfl) ?_
              refine WL.val (v := .string ⟨List.toArray acc⟩) rfl (Yl.toStringE (l := acc) Try.underlying38 Try.underlying5 Try.underlying9 (H18.rds (i := 0) rfl) rfl) ?_
              refine WL.do rfl (Do.newRow (cs := [.string ⟨List.toArray acc⟩]) (t := 9) (sz := 1) (m := 1) H18 rfl rfl (fun _ => by kernel_rfl) rfl (by decide) ?_)
              intro A47 w48 H49
              replace H49 : Own w D w48 [row A47 1 1 (List.flatMap eS ([acc])) 9 1, row A n c (List.flatMap eB acc) 5 1, row B m e (List.flatMap eS out) 9 1] := H49
              have H50 : Own w D w48 [row B m e (List.flatMap eS out) 9 1, row A47 1 1 (List.flatMap eS ([acc])) 9 1, row A n c (List.flatMap eB acc) 5 1] := H49.pick [2, 0, 1] (by decide) rfl
              refine WL.do rfl (Do.append (k := m) (m := 1) (El22) H50 rfl rfl (src_of Try.underlying22 (H50.rds (i := 1) rfl) (flat_one eS_one ([acc]))) (by unfold maxLen; omega) (by omega) (s := m + 1) (by omega) (List.flatMap_append).symm ?_)
              intro A51 c52 w53 H54
              replace H54 : Own w D w53 [row A51 (m + 1) c52 (List.flatMap eS (out ++ [acc])) 9 1, row A47 1 1 (List.flatMap eS ([acc])) 9 1, row A n c (List.flatMap eB acc) 5 1] := H54
              refine WL.val (v := .slice A51 (m + 1) c52) rfl (Yl.assign rfl) ?_
              refine WL.nil ?_
              refine Fin.then ?_
              refine Wp.seq ?_
              refine Wp.region ?_
              refine WL.val (v := .slice none 0 0) rfl (Yl.assign rfl) ?_
              refine WL.nil ?_
              refine Fin.then ?_
              refine Wp.region ?_
              refine WL.val (v := .int .i64 ((i : Nat) : Int)) rfl (Yl.move rfl) ?_
              refine WL.val (v := .int .i64 ((i + 1 : Nat) : Int)) rfl (Yl.int (e := IntKind.i64.wrap (((i : Nat) : Int) + 1)) (Yl.kern rfl rfl (fun _ => by kernel_rfl)) (by rw [IntWalk.i64_in _ (by omega)]; omega)) ?_
              refine WL.val (v := .int .i64 ((i + 1 : Nat) : Int)) rfl (Yl.assign rfl) ?_
              refine WL.nil ?_
              refine Fin.blockN ?_
              refine Fin.blockN ?_
              refine Fin.then ?_
              refine Wp.region ?_
              refine WL.val (v := .int .i64 ((i + 1 : Nat) : Int)) rfl (Yl.move rfl) ?_
              refine WL.val (v := .int .i64 ((i + 1 + 1 : Nat) : Int)) rfl (Yl.int (e := IntKind.i64.wrap (((i + 1 : Nat) : Int) + 1)) (Yl.kern rfl rfl (fun _ => by kernel_rfl)) (by rw [IntWalk.i64_in _ (by omega)]; omega)) ?_
              refine WL.val (v := .int .i64 ((i + 1 + 1 : Nat) : Int)) rfl (Yl.assign rfl) ?_
              refine WL.nil ?_
              have H55 : Own w D w53 [row none 0 0 (List.flatMap eB ([])) 5 1, row A51 (m + 1) c52 (List.flatMap eS (out ++ [acc])) 9 1, row A47 1 1 (List.flatMap eS ([acc])) 9 1, row A n c (List.flatMap eB acc) 5 1] := H54.free (row_nil 5 1)
              have H56 : Own w D w53 [row none 0 0 (List.flatMap eB ([])) 5 1, row A51 (m + 1) c52 (List.flatMap eS (out ++ [acc])) 9 1] := H55.pick [0, 1] (by decide) rfl
              exact Fin.round (i + 1 + 1, [], (out ++ [acc]), 0, none, 0, m + 1, A51, c52) ⟨rfl, rfl, rfl, rfl, rfl, rfl, rfl, rfl, rfl, trivial⟩ ⟨H56, (show (i + 1 + 1) ≤ List.length key ∧ 0 = List.length ([]) ∧ (m + 1) = List.length (out ++ [acc]) ∧ 0 ≤ (i + 1 + 1) ∧ (m + 1) ≤ (i + 1 + 1) ∧ rp ([]) (out ++ [acc]) (List.drop (i + 1 + 1) key) = rp [] [] key ∧ ∀ p : List UInt8, p ∈ (out ++ [acc]) → List.length p ≤ 140737488351232 from ⟨by omega, by first | omega | (simp; done) | (simp; omega), by first | omega | (simp; done) | (simp; omega), by omega, by omega, by rw [← hc, rp_esc hx22 (by omega) hx35, if_neg (by omega), if_pos (by omega)], fun p hp => by
                      rcases List.mem_append.1 hp with hp | hp
                      · exact hout p hp
                      · rw [List.mem_singleton.1 hp]; omega⟩)⟩ (by show List.length key - (i + 1 + 1) < List.length key - i; omega)
            · skip
              refine Wp.cond0 rfl (decide_eq_false h46) ?_
              refine Wp.seq ?_
              refine Wp.region ?_
              refine WL.val (v := .slice none 0 0) rfl (Yl.assign rfl) ?_
              refine WL.val (v := .int .i64 11) rfl (Yl.assign rfl) ?_
              refine WL.nil ?_
              refine Fin.then ?_
              refine Wp.ret ?_
              refine Fin.blockR ?_
              refine Fin.blockR ?_
              refine Fin.thenR ?_
              refine Fin.thenR ?_
              refine Fin.blockR ?_
              refine Fin.thenR ?_
              refine Fin.res (res2 rfl rfl rfl) ?_
              have H57 : Own w D w17 [] := H18.pick [] (by decide) rfl
              exact .inr (.inr ⟨by omega, (fun ⟨out, ho⟩ => by
                  have h1 := ho.1
                  rw [← hc, rp_esc hx22 (by omega) hx35, if_neg (by omega), if_neg (by omega)] at h1
                  cases h1), rfl, H57⟩)
        · skip
          refine WL.skipG rfl rfl (decide_eq_false h33) rfl ?_
          refine WL.skipG rfl rfl (decide_eq_false h33) rfl ?_
          refine WL.skipG rfl rfl (decide_eq_false h33) rfl ?_
          refine WL.skipG rfl rfl (decide_eq_false h33) rfl ?_
          refine WL.skipG rfl rfl (decide_eq_false h33) rfl ?_
          refine WL.val (v := .bool false) rfl (Yl.pickF rfl (decide_eq_false h33) rfl) ?_
          refine WL.val (v := .bool false) rfl (Yl.assign rfl) ?_
          refine WL.nil ?_
          refine Fin.then ?_
          refine Wp.cond0 rfl rfl ?_
          refine Wp.seq ?_
          refine Wp.region ?_
          refine WL.val (v := .int .i64 ((i : Nat) : Int)) rfl (Yl.move rfl) ?_
          refine WL.val (v := .int .i64 ((i + 1 : Nat) : Int)) rfl (Yl.int (e := IntKind.i64.wrap (((i : Nat) : Int) + 1)) (Yl.kern rfl rfl (fun _ => by kernel_rfl)) (by rw [IntWalk.i64_in _ (by omega)]; omega)) ?_
          refine WL.val (v := .string ⟨List.toArray key⟩) rfl (Yl.move rfl) ?_
          refine WL.val (v := .int .i64 ((List.length key : Nat) : Int)) rfl (Yl.kern rfl rfl (fun _ => by kernel_rfl)) ?_
          refine WL.val (v := .bool (decide (((i + 1 : Nat) : Int) < ((List.length key : Nat) : Int)))) rfl (Yl.kern rfl rfl (fun _ => by kernel_rfl)) ?_
          refine WL.val (v := .bool (decide (((i + 1 : Nat) : Int) < ((List.length key : Nat) : Int)))) rfl (Yl.move rfl) ?_
          refine WL.skipG rfl rfl (decide_eq_false h33) rfl ?_
          refine WL.skipG rfl rfl (decide_eq_false h33) rfl ?_
          refine WL.skipG rfl rfl (decide_eq_false h33) rfl ?_
          refine WL.skipG rfl rfl (decide_eq_false h33) rfl ?_
          refine WL.skipG rfl rfl (decide_eq_false h33) rfl ?_
          refine WL.val (v := .bool false) rfl (Yl.pickF rfl (decide_eq_false h33) rfl) ?_
          refine WL.val (v := .bool false) rfl (Yl.assign rfl) ?_
          refine WL.nil ?_
          refine Fin.then ?_
          refine Wp.cond0 rfl rfl ?_
          refine Wp.seq ?_
          refine Wp.region ?_
          refine WL.val (v := .slice none 0 0) rfl (Yl.assign rfl) ?_
          refine WL.val (v := .int .i64 11) rfl (Yl.assign rfl) ?_
          refine WL.nil ?_
          refine Fin.then ?_
          refine Wp.ret ?_
          refine Fin.blockR ?_
          refine Fin.blockR ?_
          refine Fin.thenR ?_
          refine Fin.thenR ?_
          refine Fin.blockR ?_
          refine Fin.thenR ?_
          refine Fin.res (res2 rfl rfl rfl) ?_
          have H58 : Own w D w17 [] := H18.pick [] (by decide) rfl
          exact .inr (.inr ⟨by omega, (fun ⟨out, ho⟩ => by
              have h1 := ho.1
              rw [← hc, rp_last hx22 (by omega) (by omega)] at h1
              cases h1), rfl, H58⟩)
    · skip
      refine Wp.cond0 rfl (decide_eq_false h20) ?_
      refine Wp.exit ?_
      refine Fin.thenX ?_
      refine Fin.thenX ?_
      refine Fin.blockX ?_
      refine Fin.then ?_
      refine Wp.seq ?_
      refine Wp.region ?_
      refine WL.val (v := .slice B m e) rfl (Yl.move rfl) ?_
      obtain ⟨D59, HP60, ro61, bk62, rr63⟩ := Own.enter (L1 := []) (L2 := [row A n c (List.flatMap eB acc) 5 1, row B m e (List.flatMap eS out) 9 1]) H18
      refine WL.do rfl (Do.call Try.call10 rfl (RJoin_two B e m out _ _ HP60 (rds_len eS_len (by decide) (H18.rds (i := 1) rfl)) (rr63 _ 1 _ rfl row_rds) hout) ?_)
      rintro _ w64 (⟨qj66, rfl, HQ65⟩ | ⟨e68, qj69, rfl, HQ67⟩)
      · skip
        have H70 : Own w D w64 [row A n c (List.flatMap eB acc) 5 1, row B m e (List.flatMap eS out) 9 1] := bk62 _ _ HQ65
        refine WL.val (v := .tuple #[.string ⟨List.toArray (jn out)⟩, .int .i64 0]) rfl (Yl.move rfl) ?_
        refine WL.val (v := .string ⟨List.toArray (jn out)⟩) rfl (Yl.kern rfl rfl (fun _ => by kernel_rfl)) ?_
        refine WL.val (v := .int .i64 0) rfl (Yl.kern rfl rfl (fun _ => by kernel_rfl)) ?_
        refine WL.val (v := .string ⟨List.toArray (jn out)⟩) rfl (Yl.assign rfl) ?_
        refine WL.val (v := .int .i64 0) rfl (Yl.assign rfl) ?_
        refine WL.nil ?_
        refine Fin.then ?_
        refine Wp.seq ?_
        refine Wp.seq ?_
        refine Wp.region ?_
        refine WL.val (v := .int .i64 0) rfl (Yl.move rfl) ?_
        refine WL.val (v := .bool false) rfl (Yl.kern rfl rfl (fun _ => by kernel_rfl)) ?_
        refine WL.val (v := .bool false) rfl (Yl.move rfl) ?_
        refine WL.valG (v := .string ⟨List.toArray (jn out)⟩) rfl rfl rfl rfl (Yl.move rfl) ?_
        refine WL.valG (v := .string ⟨List.toArray key⟩) rfl rfl rfl rfl (Yl.move rfl) ?_
        refine WL.valG (v := .bool (decide ((jn out) ≠ key))) rfl rfl rfl rfl (Yl.strNe rfl rfl) ?_
        refine WL.val (v := .bool (decide ((jn out) ≠ key))) rfl (Yl.pickF rfl rfl rfl) ?_
        refine WL.nil ?_
        refine Fin.then ?_
        by_cases h71 : (jn out) ≠ key
        · skip
          refine Wp.cond1 rfl (decide_eq_true h71) ?_
          refine Wp.seq ?_
          refine Wp.region ?_
          refine WL.val (v := .slice none 0 0) rfl (Yl.assign rfl) ?_
          refine WL.val (v := .int .i64 11) rfl (Yl.assign rfl) ?_
          refine WL.nil ?_
          refine Fin.then ?_
          refine Wp.ret ?_
          refine Fin.thenR ?_
          refine Fin.res (res2 rfl rfl rfl) ?_
          have H72 : Own w D w64 [] := H70.pick [] (by decide) rfl
          exact .inr (.inr ⟨by omega, (fun ⟨out2, ho⟩ => by
              have h1 := ho.1
              have h2 := ho.2.1
              rw [← hc, rp_end (by omega)] at h1
              injection h1 with h1
              subst h1
              exact h71 ho.2.2), rfl, H72⟩)
        · skip
          refine Wp.cond0 rfl (decide_eq_false h71) ?_
          refine Wp.skip ?_
          refine Fin.then ?_
          refine Wp.seq ?_
          refine Wp.region ?_
          refine WL.val (v := .slice B m e) rfl (Yl.move rfl) ?_
          refine WL.val (v := .slice B m e) rfl (Yl.assign rfl) ?_
          refine WL.val (v := .int .i64 0) rfl (Yl.assign rfl) ?_
          refine WL.nil ?_
          refine Fin.then ?_
          refine Wp.ret ?_
          refine Fin.res (res2 rfl rfl rfl) ?_
          have H73 : Own w D w64 [row B m e (List.flatMap eS out) 9 1] := H70.pick [1] (by decide) rfl
          exact .inr (.inl ⟨by omega, out, ⟨by rw [← hc, rp_end (by omega)], qj66.2.2.2, Classical.not_not.1 h71⟩, B, e, m, hm, rfl, H73⟩)
      · skip
        have H74 : Own w D w64 [row A n c (List.flatMap eB acc) 5 1, row B m e (List.flatMap eS out) 9 1] := bk62 _ _ HQ67
        refine WL.val (v := .tuple #[.string ⟨List.toArray ([])⟩, .int .i64 e68]) rfl (Yl.move rfl) ?_
        refine WL.val (v := .string ⟨List.toArray ([])⟩) rfl (Yl.kern rfl rfl (fun _ => by kernel_rfl)) ?_
        refine WL.val (v := .int .i64 e68) rfl (Yl.kern rfl rfl (fun _ => by kernel_rfl)) ?_
        refine WL.val (v := .string ⟨List.toArray ([])⟩) rfl (Yl.assign rfl) ?_
        refine WL.val (v := .int .i64 e68) rfl (Yl.assign rfl) ?_
        refine WL.nil ?_
        refine Fin.then ?_
        refine Wp.seq ?_
        refine Wp.seq ?_
        refine Wp.region ?_
        refine WL.val (v := .int .i64 e68) rfl (Yl.move rfl) ?_
        refine WL.val (v := .bool (decide (¬ (e68 = 0)))) rfl (Yl.bool (e := !(decide (e68 = 0))) (Yl.kern rfl rfl (fun _ => by kernel_rfl)) decide_not.symm) ?_
        refine WL.val (v := .bool (decide (¬ (e68 = 0)))) rfl (Yl.move rfl) ?_
        have hb75 : (decide (¬ (e68 = 0))) = true := (decide_eq_true (by omega))
        refine WL.skipG rfl rfl hb75 rfl ?_
        refine WL.skipG rfl rfl hb75 rfl ?_
        refine WL.skipG rfl rfl hb75 rfl ?_
        refine WL.val (v := .bool true) rfl (Yl.pickT rfl hb75 rfl) ?_
        refine WL.nil ?_
        refine Fin.then ?_
        refine Wp.cond1 rfl rfl ?_
        refine Wp.seq ?_
        refine Wp.region ?_
        refine WL.val (v := .slice none 0 0) rfl (Yl.assign rfl) ?_
        refine WL.val (v := .int .i64 11) rfl (Yl.assign rfl) ?_
        refine WL.nil ?_
        refine Fin.then ?_
        refine Wp.ret ?_
        refine Fin.thenR ?_
        refine Fin.res (res2 rfl rfl rfl) ?_
        have H76 : Own w D w64 [] := H74.pick [] (by decide) rfl
        exact .inr (.inr ⟨by omega, (fun ⟨out2, ho⟩ => by
            have h1 := ho.1
            have h2 := ho.2.1
            rw [← hc, rp_end (by omega)] at h1
            injection h1 with h1
            subst h1
            rw [qj69.2] at h2; exact qj69.1 (congrArg Prod.snd h2)), rfl, H76⟩)
end Go.Proofs.Yticaheijlapllaa
