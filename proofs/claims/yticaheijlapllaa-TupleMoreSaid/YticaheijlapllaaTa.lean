/-
  tuple: the iterator of a key's bytes; Join.
-/
import Derived.Test.YticaheijlapllaaKh
import Derived.Test.YticaheijlapllaaKr
namespace Go.Proofs.Yticaheijlapllaa
open Go.RowKit
set_option linter.unusedVariables false
set_option linter.unusedSectionVars false

theorem El22 : Elem Try.prog 22 9 1 16 := elem_of (z := .string ⟨List.toArray ([])⟩) Try.underlying22 (by kernel_rfl) rfl (by decide)

theorem El38 : Elem Try.prog 38 5 1 1 := elem_of (z := .int .u8 0) Try.underlying38 (by kernel_rfl) rfl (by decide)

def esc (b : UInt8) : List UInt8 := if b = 0 then [b, 255] else [b]
def esp (p : List UInt8) : List UInt8 := p.flatMap esc
def jn (ls : List (List UInt8)) : List UInt8 := ls.flatMap fun p => esp p ++ [0, 1]
theorem esp_succ {p : List UInt8} {i : Nat} {b : UInt8} (h : p[i]? = some b) : esp (List.take (i + 1) p) = esp (List.take i p) ++ esc b := by
  obtain ⟨hi, rfl⟩ := List.getElem?_eq_some_iff.1 h
  rw [List.take_succ_eq_append_getElem hi, esp, List.flatMap_append]; simp only [List.flatMap_cons, List.flatMap_nil, List.append_nil]; rfl
theorem jn_succ {ls : List (List UInt8)} {k : Nat} {p : List UInt8} (h : ls[k]? = some p) : jn (List.take (k + 1) ls) = jn (List.take k ls) ++ (esp p ++ [0, 1]) := by
  obtain ⟨hi, rfl⟩ := List.getElem?_eq_some_iff.1 h
  rw [List.take_succ_eq_append_getElem hi, jn, List.flatMap_append]; simp only [List.flatMap_cons, List.flatMap_nil, List.append_nil]; rfl
theorem jn_le {ls : List (List UInt8)} (k : Nat) : jn (List.take k ls) <+: jn ls := by
  have h := List.take_append_drop k ls
  exact ⟨jn (List.drop k ls), by rw [jn, jn, ← List.flatMap_append, h]; rfl⟩
theorem esp_le {p : List UInt8} (k : Nat) : esp (List.take k p) <+: esp p := by
  have h := List.take_append_drop k p
  exact ⟨esp (List.drop k p), by rw [esp, esp, ← List.flatMap_append, h]; rfl⟩
theorem pre_end {ls : List (List UInt8)} {k : Nat} {p s : List UInt8} (h : ls[k]? = some p) (hs : s <+: esp p ++ [0, 1]) : jn (List.take k ls) ++ s <+: jn ls := by
  obtain ⟨t, ht⟩ := hs
  refine List.IsPrefix.trans ⟨t, ?_⟩ (jn_le (k + 1))
  rw [jn_succ h, List.append_assoc, ht]
theorem pre_byte {ls : List (List UInt8)} {k i : Nat} {p q s : List UInt8} {b : UInt8} (hq : q = jn (List.take k ls) ++ esp (List.take i p)) (h : ls[k]? = some p) (hb : p[i]? = some b) (hs : s <+: esc b) : q ++ s <+: jn ls := by
  subst hq
  rw [List.append_assoc]
  refine pre_end h ?_
  obtain ⟨t, ht⟩ := hs
  have h1 : esp (List.take i p) ++ s <+: esp (List.take (i + 1) p) := ⟨t, by rw [esp_succ hb, List.append_assoc, ht]⟩
  exact (h1.trans (esp_le _)).trans ⟨_, rfl⟩
theorem esc0 {b : UInt8} (h : ((b.toNat : Nat) : Int) = 0) : esc b = [b, 255] := by
  have : b = 0 := UInt8.toNat_inj.1 (by simpa using h)
  unfold esc; rw [if_pos this]
theorem esc1 {b : UInt8} (h : ¬ ((b.toNat : Nat) : Int) = 0) : esc b = [b] := by
  unfold esc; rw [if_neg (fun e => h (by rw [e]; rfl))]
theorem all_take {α : Type} {ls : List α} {k : Nat} (h : ls.length ≤ k) : List.take k ls = ls := List.take_of_length_le h

set_option maxRecDepth 100000 in
theorem written_it (A : Option Addr) (c g : Nat) (ls : List (List UInt8)) (w0 : World) (D : Nat → Prop) (hx : Ro w0 D fun w => Rds w 1 A (List.length ls) (List.flatMap eS ls)) (hl : List.length ls ≤ 1000000) (hs : ∀ p ∈ ls, List.length p ≤ 140737488351232) :
    Iter Try.prog w0 D 24 [.pointer (some ⟨g, 0, none⟩)] (eB) (jn ls) [blk g [.slice A (List.length ls) c] 22] := by
  intro l C J W step H
  refine Calls.bodyF (args := [.func (.yield l) #[] #[], .pointer (some ⟨g, 0, none⟩)]) Try.func24 rfl rfl rfl ?_
  show Wf _ _ _ _ _ [(0, .func (.yield l) #[] #[]), (1, .pointer (some ⟨g, 0, none⟩))] _ _
  refine Wf.seq ?_
  refine Wf.region ?_
  refine Lf.val (v := .slice A (List.length ls) c) rfl rfl (Yl.load rfl (Lds.one Try.isAgg22 (Cls.of (H.cls (i := 1) rfl) rfl))) ?_
  refine Lf.val (v := .int .i64 ((List.length ls : Nat) : Int)) rfl rfl (Yl.kern rfl rfl (fun _ => by kernel_rfl)) ?_
  refine Lf.val (v := .int .i64 0) rfl rfl (Yl.move rfl) ?_
  refine Lf.nil ?_
  refine Ff.then ?_
  refine Wf.block ?_
  refine Wf.loop (ι := Nat × (List UInt8)) (fun i => [(8, .int .i64 ((i.1 : Nat) : Int)), (7, .int .i64 ((List.length ls : Nat) : Int)), (6, .slice A (List.length ls) c), (0, .func (.yield l) #[] #[]), (1, .pointer (some ⟨g, 0, none⟩))]) (fun (i : Nat × (List UInt8)) w' => Own w0 D w' [C i.2, blk g [.slice A (List.length ls) c] 22] ∧ (i.1 ≤ List.length ls ∧ i.2 = jn (List.take i.1 ls))) (fun i => List.length ls - i.1) (0, []) ⟨rfl, rfl, rfl, rfl, rfl, trivial⟩ ⟨H, (show 0 ≤ List.length ls ∧ ([]) = jn (List.take 0 ls) from ⟨by omega, rfl⟩)⟩ ?_
  rintro ⟨k, q⟩ w1 ⟨H2, hf3⟩
  show Wf _ _ _ _ _ [(8, .int .i64 ((k : Nat) : Int)), (7, .int .i64 ((List.length ls : Nat) : Int)), (6, .slice A (List.length ls) c), (0, .func (.yield l) #[] #[]), (1, .pointer (some ⟨g, 0, none⟩))] _ _
  replace H2 : Own w0 D w1 [C q, blk g [.slice A (List.length ls) c] 22] := H2
  replace hf3 : k ≤ List.length ls ∧ q = jn (List.take k ls) := hf3
  obtain ⟨hk, hq⟩ := hf3
  refine Wf.seq ?_
  refine Wf.region ?_
  refine Lf.val (v := .bool (decide (((k : Nat) : Int) < ((List.length ls : Nat) : Int)))) rfl rfl (Yl.kern rfl rfl (fun _ => by kernel_rfl)) ?_
  refine Lf.nil ?_
  refine Ff.then ?_
  refine Wf.seq ?_
  by_cases h4 : ((k : Nat) : Int) < ((List.length ls : Nat) : Int)
  · skip
    refine Wf.cond1 rfl (decide_eq_true h4) ?_
    refine Wf.skip ?_
    refine Ff.then ?_
    refine Wf.seq ?_
    refine Wf.block ?_
    refine Wf.seq ?_
    refine Wf.region ?_
    obtain ⟨x5, hx6⟩ := rds_at (ls := ls) (i := k) eS_len (by decide) (H2.ro hx) (by first | omega | (simp; done) | (simp; omega))
    have ok7 := (hs _ (List.mem_of_getElem? hx6))
    refine Lf.val (v := .pointer (some ⟨ab A, ao A + k * 1, none⟩)) rfl rfl (Yl.indexAddr (El22) rfl rfl ((H2.ro hx).addr (i := k) (by omega)) (by omega)) ?_
    refine Lf.val (v := .string ⟨List.toArray x5⟩) rfl rfl (Yl.load rfl (Lds.one Try.isAgg9 (((H2.ro hx).elem eS_len hx6 (by decide)).at_ (k := 0) rfl))) ?_
    refine Lf.val (v := .string ⟨List.toArray x5⟩) rfl rfl (Yl.assign rfl) ?_
    refine Lf.nil ?_
    refine Ff.then ?_
    refine Wf.seq ?_
    refine Wf.seq ?_
    refine Wf.region ?_
    refine Lf.val (v := .string ⟨List.toArray x5⟩) rfl rfl (Yl.move rfl) ?_
    refine Lf.val (v := .int .i64 ((List.length x5 : Nat) : Int)) rfl rfl (Yl.kern rfl rfl (fun _ => by kernel_rfl)) ?_
    refine Lf.val (v := .int .i64 0) rfl rfl (Yl.move rfl) ?_
    refine Lf.nil ?_
    refine Ff.then ?_
    refine Wf.block ?_
    refine Wf.loop (ι := Nat × (List UInt8)) (fun i => [(14, .int .i64 ((i.1 : Nat) : Int)), (13, .int .i64 ((List.length x5 : Nat) : Int)), (12, .string ⟨List.toArray x5⟩), (4, .string ⟨List.toArray x5⟩), (11, .string ⟨List.toArray x5⟩), (10, .pointer (some ⟨ab A, ao A + k * 1, none⟩)), (9, .bool (decide (((k : Nat) : Int) < ((List.length ls : Nat) : Int)))), (8, .int .i64 ((k : Nat) : Int)), (7, .int .i64 ((List.length ls : Nat) : Int)), (6, .slice A (List.length ls) c), (0, .func (.yield l) #[] #[]), (1, .pointer (some ⟨g, 0, none⟩))]) (fun (i : Nat × (List UInt8)) w' => Own w0 D w' [C i.2, blk g [.slice A (List.length ls) c] 22] ∧ (i.1 ≤ List.length x5 ∧ i.2 = jn (List.take k ls) ++ esp (List.take i.1 x5))) (fun i => List.length x5 - i.1) (0, q) ⟨rfl, rfl, rfl, rfl, rfl, rfl, rfl, rfl, rfl, rfl, rfl, rfl, trivial⟩ ⟨H2, (show 0 ≤ List.length x5 ∧ q = jn (List.take k ls) ++ esp (List.take 0 x5) from ⟨by omega, by rw [hq]; simp [esp]⟩)⟩ ?_
    rintro ⟨i, q2⟩ w8 ⟨H9, hf10⟩
    show Wf _ _ _ _ _ [(14, .int .i64 ((i : Nat) : Int)), (13, .int .i64 ((List.length x5 : Nat) : Int)), (12, .string ⟨List.toArray x5⟩), (4, .string ⟨List.toArray x5⟩), (11, .string ⟨List.toArray x5⟩), (10, .pointer (some ⟨ab A, ao A + k * 1, none⟩)), (9, .bool (decide (((k : Nat) : Int) < ((List.length ls : Nat) : Int)))), (8, .int .i64 ((k : Nat) : Int)), (7, .int .i64 ((List.length ls : Nat) : Int)), (6, .slice A (List.length ls) c), (0, .func (.yield l) #[] #[]), (1, .pointer (some ⟨g, 0, none⟩))] _ _
    replace H9 : Own w0 D w8 [C q2, blk g [.slice A (List.length ls) c] 22] := H9
    replace hf10 : i ≤ List.length x5 ∧ q2 = jn (List.take k ls) ++ esp (List.take i x5) := hf10
    obtain ⟨hi, hq2⟩ := hf10
    refine Wf.seq ?_
    refine Wf.region ?_
    refine Lf.val (v := .bool (decide (((i : Nat) : Int) < ((List.length x5 : Nat) : Int)))) rfl rfl (Yl.kern rfl rfl (fun _ => by kernel_rfl)) ?_
    refine Lf.nil ?_
    refine Ff.then ?_
    refine Wf.seq ?_
    by_cases h11 : ((i : Nat) : Int) < ((List.length x5 : Nat) : Int)
    · skip
      refine Wf.cond1 rfl (decide_eq_true h11) ?_
      refine Wf.skip ?_
      refine Ff.then ?_
      refine Wf.seq ?_
      refine Wf.block ?_
      refine Wf.seq ?_
      refine Wf.region ?_
      refine Lf.val (v := .int .i64 ((i : Nat) : Int)) rfl rfl (Yl.move rfl) ?_
      refine Lf.val (v := .int .i64 ((i : Nat) : Int)) rfl rfl (Yl.assign rfl) ?_
      refine Lf.nil ?_
      refine Ff.then ?_
      refine Wf.seq ?_
      refine Wf.region ?_
      refine Lf.val (v := .func (.yield l) #[] #[]) rfl rfl (Yl.move rfl) ?_
      refine Lf.val (v := .string ⟨List.toArray x5⟩) rfl rfl (Yl.move rfl) ?_
      refine Lf.val (v := .int .i64 ((i : Nat) : Int)) rfl rfl (Yl.move rfl) ?_
      obtain ⟨b12, hx13⟩ := at_of (ls := x5) (i := i) (by omega)
      refine Lf.val (v := .int .u8 ((b12.toNat : Nat) : Int)) rfl rfl (Yl.strIndex Try.underlying9 rfl rfl hx13) ?_
      have hp17 : q2 ++ [b12] <+: jn ls := pre_byte hq2 hx6 hx13 (by unfold esc; split <;> exact ⟨_, rfl⟩)
      refine Lf.do rfl (Df.yield rfl rfl (step q2 b12 (blk g [.slice A (List.length ls) c] 22) w8 hp17 H9) ?_)
      rintro _ w14 (⟨rfl, H15⟩ | ⟨rfl, H16⟩)
      · skip
        replace H15 : Own w0 D w14 [C (q2 ++ [b12]), blk g [.slice A (List.length ls) c] 22] := H15
        refine Lf.val (v := .bool false) rfl rfl (Yl.kern rfl rfl (fun _ => by kernel_rfl)) ?_
        refine Lf.val (v := .bool false) rfl rfl (Yl.move rfl) ?_
        refine Lf.valG (v := .string ⟨List.toArray x5⟩) rfl rfl rfl rfl rfl (Yl.move rfl) ?_
        refine Lf.valG (v := .int .i64 ((i : Nat) : Int)) rfl rfl rfl rfl rfl (Yl.move rfl) ?_
        refine Lf.valG (v := .int .u8 ((b12.toNat : Nat) : Int)) rfl rfl rfl rfl rfl (Yl.strIndex Try.underlying9 rfl rfl hx13) ?_
        refine Lf.valG (v := .bool (decide (((b12.toNat : Nat) : Int) = 0))) rfl rfl rfl rfl rfl (Yl.kern rfl rfl (fun _ => by kernel_rfl)) ?_
        refine Lf.valG (v := .bool (decide (((b12.toNat : Nat) : Int) = 0))) rfl rfl rfl rfl rfl (Yl.move rfl) ?_
        by_cases h18 : ((b12.toNat : Nat) : Int) = 0
        · skip
          refine Lf.valG (v := .func (.yield l) #[] #[]) rfl rfl (decide_eq_true h18) rfl rfl (Yl.move rfl) ?_
          have hp22 : (q2 ++ [b12]) ++ [255] <+: jn ls := by rw [List.append_assoc]; exact pre_byte hq2 hx6 hx13 (by rw [esc0 h18]; exact ⟨[], rfl⟩)
          refine Lf.doG rfl rfl (decide_eq_true h18) rfl (Df.yield rfl rfl (step (q2 ++ [b12]) 255 (blk g [.slice A (List.length ls) c] 22) w14 hp22 H15) ?_)
          rintro _ w19 (⟨rfl, H20⟩ | ⟨rfl, H21⟩)
          · skip
            replace H20 : Own w0 D w19 [C ((q2 ++ [b12]) ++ [255]), blk g [.slice A (List.length ls) c] 22] := H20
            refine Lf.valG (v := .bool false) rfl rfl (decide_eq_true h18) rfl rfl (Yl.kern rfl rfl (fun _ => by kernel_rfl)) ?_
            refine Lf.valG (v := .bool false) rfl rfl rfl rfl rfl (Yl.pickT rfl (decide_eq_true h18) rfl) ?_
            refine Lf.val (v := .bool false) rfl rfl (Yl.pickF rfl rfl rfl) ?_
            refine Lf.nil ?_
            refine Ff.then ?_
            refine Wf.cond0 rfl rfl ?_
            refine Wf.skip ?_
            refine Ff.blockN ?_
            refine Ff.then ?_
            refine Wf.region ?_
            refine Lf.val (v := .int .i64 ((i + 1 : Nat) : Int)) rfl rfl (Yl.int (e := IntKind.i64.wrap (((i : Nat) : Int) + 1)) (Yl.kern rfl rfl (fun _ => by kernel_rfl)) (by rw [IntWalk.i64_in _ (by omega)]; omega)) ?_
            refine Lf.val (v := .int .i64 ((i + 1 : Nat) : Int)) rfl rfl (Yl.move rfl) ?_
            refine Lf.nil ?_
            exact Ff.round (i + 1, ((q2 ++ [b12]) ++ [255])) ⟨rfl, rfl, rfl, rfl, rfl, rfl, rfl, rfl, rfl, rfl, rfl, rfl, trivial⟩ ⟨H20, (show (i + 1) ≤ List.length x5 ∧ ((q2 ++ [b12]) ++ [255]) = jn (List.take k ls) ++ esp (List.take (i + 1) x5) from ⟨by omega, by rw [esp_succ hx13, esc0 h18, hq2]; simp⟩)⟩ (by show List.length x5 - (i + 1) < List.length x5 - i; omega)
          · skip
            replace H21 : Own w0 D w19 [J ((q2 ++ [b12]) ++ [255]), blk g [.slice A (List.length ls) c] 22] := H21
            refine Lf.valG (v := .bool true) rfl rfl (decide_eq_true h18) rfl rfl (Yl.kern rfl rfl (fun _ => by kernel_rfl)) ?_
            refine Lf.valG (v := .bool true) rfl rfl rfl rfl rfl (Yl.pickT rfl (decide_eq_true h18) rfl) ?_
            refine Lf.val (v := .bool true) rfl rfl (Yl.pickF rfl rfl rfl) ?_
            refine Lf.nil ?_
            refine Ff.then ?_
            refine Wf.cond1 rfl rfl ?_
            refine Wf.ret ?_
            refine Ff.blockR ?_
            refine Ff.thenR ?_
            refine Ff.thenR ?_
            refine Ff.blockR ?_
            refine Ff.thenR ?_
            refine Ff.blockR ?_
            refine Ff.thenR ?_
            refine Ff.thenR ?_
            refine Ff.blockR ?_
            refine Ff.res ?_
            refine Lv.nil (res0 rfl) ?_
            have H23 : Own w0 D w19 [J ((q2 ++ [b12]) ++ [255])] := H21.pick [0] (by decide) rfl
            exact .inr ⟨_, hp22, H23⟩
        · skip
          refine Lf.skipG rfl rfl (decide_eq_false h18) rfl ?_
          refine Lf.skipG rfl rfl (decide_eq_false h18) rfl ?_
          refine Lf.skipG rfl rfl (decide_eq_false h18) rfl ?_
          refine Lf.valG (v := .bool false) rfl rfl rfl rfl rfl (Yl.pickF rfl (decide_eq_false h18) rfl) ?_
          refine Lf.val (v := .bool false) rfl rfl (Yl.pickF rfl rfl rfl) ?_
          refine Lf.nil ?_
          refine Ff.then ?_
          refine Wf.cond0 rfl rfl ?_
          refine Wf.skip ?_
          refine Ff.blockN ?_
          refine Ff.then ?_
          refine Wf.region ?_
          refine Lf.val (v := .int .i64 ((i + 1 : Nat) : Int)) rfl rfl (Yl.int (e := IntKind.i64.wrap (((i : Nat) : Int) + 1)) (Yl.kern rfl rfl (fun _ => by kernel_rfl)) (by rw [IntWalk.i64_in _ (by omega)]; omega)) ?_
          refine Lf.val (v := .int .i64 ((i + 1 : Nat) : Int)) rfl rfl (Yl.move rfl) ?_
          refine Lf.nil ?_
          exact Ff.round (i + 1, (q2 ++ [b12])) ⟨rfl, rfl, rfl, rfl, rfl, rfl, rfl, rfl, rfl, rfl, rfl, rfl, trivial⟩ ⟨H15, (show (i + 1) ≤ List.length x5 ∧ (q2 ++ [b12]) = jn (List.take k ls) ++ esp (List.take (i + 1) x5) from ⟨by omega, by rw [esp_succ hx13, esc1 h18, hq2]; simp⟩)⟩ (by show List.length x5 - (i + 1) < List.length x5 - i; omega)
      · skip
        replace H16 : Own w0 D w14 [J (q2 ++ [b12]), blk g [.slice A (List.length ls) c] 22] := H16
        refine Lf.val (v := .bool true) rfl rfl (Yl.kern rfl rfl (fun _ => by kernel_rfl)) ?_
        refine Lf.val (v := .bool true) rfl rfl (Yl.move rfl) ?_
        refine Lf.skipG rfl rfl rfl rfl ?_
        refine Lf.skipG rfl rfl rfl rfl ?_
        refine Lf.skipG rfl rfl rfl rfl ?_
        refine Lf.skipG rfl rfl rfl rfl ?_
        refine Lf.skipG rfl rfl rfl rfl ?_
        refine Lf.skipU rfl rfl rfl ?_
        refine Lf.skipU rfl rfl rfl ?_
        refine Lf.skipU rfl rfl rfl ?_
        refine Lf.skipG rfl rfl rfl rfl ?_
        refine Lf.val (v := .bool true) rfl rfl (Yl.pickT rfl rfl rfl) ?_
        refine Lf.nil ?_
        refine Ff.then ?_
        refine Wf.cond1 rfl rfl ?_
        refine Wf.ret ?_
        refine Ff.blockR ?_
        refine Ff.thenR ?_
        refine Ff.thenR ?_
        refine Ff.blockR ?_
        refine Ff.thenR ?_
        refine Ff.blockR ?_
        refine Ff.thenR ?_
        refine Ff.thenR ?_
        refine Ff.blockR ?_
        refine Ff.res ?_
        refine Lv.nil (res0 rfl) ?_
        have H24 : Own w0 D w14 [J (q2 ++ [b12])] := H16.pick [0] (by decide) rfl
        exact .inr ⟨_, hp17, H24⟩
    · skip
      refine Wf.cond0 rfl (decide_eq_false h11) ?_
      refine Wf.exit ?_
      refine Ff.thenX ?_
      refine Ff.thenX ?_
      refine Ff.blockX ?_
      refine Ff.then ?_
      refine Wf.seq ?_
      refine Wf.region ?_
      refine Lf.val (v := .func (.yield l) #[] #[]) rfl rfl (Yl.move rfl) ?_
      have hp28 : q2 ++ [0] <+: jn ls := by rw [hq2, all_take (ls := x5) (k := i) (by omega), List.append_assoc]; exact pre_end hx6 ⟨[1], by simp⟩
      refine Lf.do rfl (Df.yield rfl rfl (step q2 0 (blk g [.slice A (List.length ls) c] 22) w8 hp28 H9) ?_)
      rintro _ w25 (⟨rfl, H26⟩ | ⟨rfl, H27⟩)
      · skip
        replace H26 : Own w0 D w25 [C (q2 ++ [0]), blk g [.slice A (List.length ls) c] 22] := H26
        refine Lf.val (v := .bool false) rfl rfl (Yl.kern rfl rfl (fun _ => by kernel_rfl)) ?_
        refine Lf.val (v := .bool false) rfl rfl (Yl.move rfl) ?_
        refine Lf.valG (v := .func (.yield l) #[] #[]) rfl rfl rfl rfl rfl (Yl.move rfl) ?_
        have hp32 : (q2 ++ [0]) ++ [1] <+: jn ls := by rw [hq2, all_take (ls := x5) (k := i) (by omega), List.append_assoc, List.append_assoc]; exact pre_end hx6 ⟨[], by simp⟩
        refine Lf.doG rfl rfl rfl rfl (Df.yield rfl rfl (step (q2 ++ [0]) 1 (blk g [.slice A (List.length ls) c] 22) w25 hp32 H26) ?_)
        rintro _ w29 (⟨rfl, H30⟩ | ⟨rfl, H31⟩)
        · skip
          replace H30 : Own w0 D w29 [C ((q2 ++ [0]) ++ [1]), blk g [.slice A (List.length ls) c] 22] := H30
          refine Lf.valG (v := .bool false) rfl rfl rfl rfl rfl (Yl.kern rfl rfl (fun _ => by kernel_rfl)) ?_
          refine Lf.val (v := .bool false) rfl rfl (Yl.pickF rfl rfl rfl) ?_
          refine Lf.nil ?_
          refine Ff.then ?_
          refine Wf.cond0 rfl rfl ?_
          refine Wf.skip ?_
          refine Ff.blockN ?_
          refine Ff.then ?_
          refine Wf.region ?_
          refine Lf.val (v := .int .i64 ((k + 1 : Nat) : Int)) rfl rfl (Yl.int (e := IntKind.i64.wrap (((k : Nat) : Int) + 1)) (Yl.kern rfl rfl (fun _ => by kernel_rfl)) (by rw [IntWalk.i64_in _ (by omega)]; omega)) ?_
          refine Lf.val (v := .int .i64 ((k + 1 : Nat) : Int)) rfl rfl (Yl.move rfl) ?_
          refine Lf.nil ?_
          exact Ff.round (k + 1, ((q2 ++ [0]) ++ [1])) ⟨rfl, rfl, rfl, rfl, rfl, trivial⟩ ⟨H30, (show (k + 1) ≤ List.length ls ∧ ((q2 ++ [0]) ++ [1]) = jn (List.take (k + 1) ls) from ⟨by omega, by rw [jn_succ hx6, hq2, all_take (ls := x5) (k := i) (by omega)]; simp⟩)⟩ (by show List.length ls - (k + 1) < List.length ls - k; omega)
        · skip
          replace H31 : Own w0 D w29 [J ((q2 ++ [0]) ++ [1]), blk g [.slice A (List.length ls) c] 22] := H31
          refine Lf.valG (v := .bool true) rfl rfl rfl rfl rfl (Yl.kern rfl rfl (fun _ => by kernel_rfl)) ?_
          refine Lf.val (v := .bool true) rfl rfl (Yl.pickF rfl rfl rfl) ?_
          refine Lf.nil ?_
          refine Ff.then ?_
          refine Wf.cond1 rfl rfl ?_
          refine Wf.ret ?_
          refine Ff.blockR ?_
          refine Ff.thenR ?_
          refine Ff.thenR ?_
          refine Ff.blockR ?_
          refine Ff.res ?_
          refine Lv.nil (res0 rfl) ?_
          have H33 : Own w0 D w29 [J ((q2 ++ [0]) ++ [1])] := H31.pick [0] (by decide) rfl
          exact .inr ⟨_, hp32, H33⟩
      · skip
        replace H27 : Own w0 D w25 [J (q2 ++ [0]), blk g [.slice A (List.length ls) c] 22] := H27
        refine Lf.val (v := .bool true) rfl rfl (Yl.kern rfl rfl (fun _ => by kernel_rfl)) ?_
        refine Lf.val (v := .bool true) rfl rfl (Yl.move rfl) ?_
        refine Lf.skipG rfl rfl rfl rfl ?_
        refine Lf.skipG rfl rfl rfl rfl ?_
        refine Lf.skipG rfl rfl rfl rfl ?_
        refine Lf.val (v := .bool true) rfl rfl (Yl.pickT rfl rfl rfl) ?_
        refine Lf.nil ?_
        refine Ff.then ?_
        refine Wf.cond1 rfl rfl ?_
        refine Wf.ret ?_
        refine Ff.blockR ?_
        refine Ff.thenR ?_
        refine Ff.thenR ?_
        refine Ff.blockR ?_
        refine Ff.res ?_
        refine Lv.nil (res0 rfl) ?_
        have H34 : Own w0 D w25 [J (q2 ++ [0])] := H27.pick [0] (by decide) rfl
        exact .inr ⟨_, hp28, H34⟩
  · skip
    refine Wf.cond0 rfl (decide_eq_false h4) ?_
    refine Wf.exit ?_
    refine Ff.thenX ?_
    refine Ff.thenX ?_
    refine Ff.blockX ?_
    refine Ff.res0 ?_
    refine Lv.nil (res0 rfl) ?_
    have H35 : Own w0 D w1 [C q] := H2.pick [0] (by decide) rfl
    have e : q = jn ls := by rw [hq, all_take (ls := ls) (k := k) (by omega)]
    rw [← e]
    exact .inl H35

set_option maxRecDepth 100000 in
theorem written_ok (A : Option Addr) (c : Nat) (ls : List (List UInt8)) (w : World) (D : Nat → Prop) (H : Own w D w [])  :
    Calls Try.prog 18 #[.slice A (List.length ls) c] w (Ret fun v w' => ∃ g, v = .func (.func 24) #[] #[.pointer (some ⟨g, 0, none⟩)] ∧ Own w D w' [blk g [.slice A (List.length ls) c] 22]) := by
  refine Calls.body (args := [.slice A (List.length ls) c]) Try.func18 rfl rfl rfl ?_
  show Wp _ _ _ [(0, .slice A (List.length ls) c)] _ _
  refine Wp.seq ?_
  refine Wp.region ?_
  refine WL.do rfl (Do.newP (cs := [.slice A (List.length ls) c]) (t := 22) H rfl rfl (fun _ => by kernel_rfl) ?_)
  intro g1 w2 H3
  replace H3 : Own w D w2 [blk g1 [.slice A (List.length ls) c] 22] := H3
  refine WL.val (v := .nilFunc) rfl (Yl.assign rfl) ?_
  refine WL.nil ?_
  refine Fin.then ?_
  refine Wp.seq ?_
  refine Wp.region ?_
  refine WL.val (v := .func (.func 24) #[] #[.pointer (some ⟨g1, 0, none⟩)]) rfl (Yl.kern rfl rfl (fun _ => by kernel_rfl)) ?_
  refine WL.val (v := .func (.func 24) #[] #[.pointer (some ⟨g1, 0, none⟩)]) rfl (Yl.assign rfl) ?_
  refine WL.nil ?_
  refine Fin.then ?_
  refine Wp.ret ?_
  refine Fin.res (res1 rfl rfl) ?_
  exact ⟨_, rfl, H3⟩

def JC (g2 : Nat) (g3 : Nat) (g4 : Nat) (pre : List UInt8) : HP := exS (fun g : (Option Addr) × Nat × Nat => g.2.2 = List.length pre ∧ g.2.2 ≤ 12) (fun g => [blk g2 [.string ⟨List.toArray ([])⟩] 9, blk g3 [.int .i64 0] 24, blk g4 [.slice g.1 g.2.2 g.2.1] 38, row g.1 g.2.2 g.2.1 (List.flatMap eB pre) 5 1])

def JJ (g2 : Nat) (g3 : Nat) (pre : List UInt8) : HP := exS (fun g : Unit => 12 < List.length pre) (fun g => [blk g2 [.string ⟨List.toArray ([])⟩] 9, blk g3 [.int .i64 2] 24])

def jE (ls : List (List UInt8)) : List UInt8 × Int := if List.length ls < 1 ∨ 4 < List.length ls then ([], 3) else if 12 < List.length (jn ls) then ([], 2) else (jn ls, 0)
def JF (g2 g3 : Nat) (c : Code) (pre : List UInt8) : HP := match c with | .ret => JJ g2 g3 pre | _ => fun _ => False

set_option maxRecDepth 100000 in
theorem Join_ok (A : Option Addr) (c : Nat) (ls : List (List UInt8)) (w : World) (D : Nat → Prop) (H : Own w D w []) (hx : Ro w D fun w => Rds w 1 A (List.length ls) (List.flatMap eS ls)) (hs : ∀ p ∈ ls, List.length p ≤ 140737488351232) :
    Calls Try.prog 9 #[.slice A (List.length ls) c] w (Ret fun v w' => v = .tuple #[.string ⟨(jE ls).1.toArray⟩, .int .i64 (jE ls).2] ∧ Own w D w' []) := by
  refine Calls.bodyF (args := [.slice A (List.length ls) c]) Try.func9 rfl rfl rfl ?_
  show Wf _ _ _ _ _ [(0, .slice A (List.length ls) c)] _ _
  refine Wf.seq ?_
  refine Wf.region ?_
  refine Lf.do rfl (Do.df rfl (Do.newP (cs := [.string ⟨List.toArray ([])⟩]) (t := 9) H rfl rfl (fun _ => by kernel_rfl) ?_))
  intro g1 w2 H3
  replace H3 : Own w D w2 [blk g1 [.string ⟨List.toArray ([])⟩] 9] := H3
  refine Lf.do rfl (Do.df rfl (Do.newP (cs := [.int .i64 0]) (t := 24) H3 rfl rfl (fun _ => by kernel_rfl) ?_))
  intro g4 w5 H6
  replace H6 : Own w D w5 [blk g4 [.int .i64 0] 24, blk g1 [.string ⟨List.toArray ([])⟩] 9] := H6
  refine Lf.nil ?_
  refine Ff.then ?_
  refine Wf.seq ?_
  refine Wf.seq ?_
  refine Wf.region ?_
  refine Lf.val (v := .slice A (List.length ls) c) rfl rfl (Yl.move rfl) ?_
  refine Lf.val (v := .int .i64 ((List.length ls : Nat) : Int)) rfl rfl (Yl.kern rfl rfl (fun _ => by kernel_rfl)) ?_
  refine Lf.val (v := .bool (decide (((List.length ls : Nat) : Int) < 1))) rfl rfl (Yl.kern rfl rfl (fun _ => by kernel_rfl)) ?_
  refine Lf.val (v := .bool (decide (((List.length ls : Nat) : Int) < 1))) rfl rfl (Yl.move rfl) ?_
  by_cases h7 : ((List.length ls : Nat) : Int) < 1
  · skip
    refine Lf.skipG rfl rfl (decide_eq_true h7) rfl ?_
    refine Lf.skipG rfl rfl (decide_eq_true h7) rfl ?_
    refine Lf.skipG rfl rfl (decide_eq_true h7) rfl ?_
    refine Lf.val (v := .bool true) rfl rfl (Yl.pickT rfl (decide_eq_true h7) rfl) ?_
    refine Lf.nil ?_
    refine Ff.then ?_
    refine Wf.cond1 rfl rfl ?_
    refine Wf.seq ?_
    refine Wf.region ?_
    have H8 : Own w D w5 [blk g1 [.string ⟨List.toArray ([])⟩] 9, blk g4 [.int .i64 0] 24] := H6.pick [1, 0] (by decide) rfl
    refine Lf.do0 (Do.df rfl (Do.store (vs := [.string ⟨List.toArray ([])⟩]) (o := 0) H8 rfl rfl Try.sizeOf9 rfl rfl rfl rfl ?_))
    intro w9 H10
    replace H10 : Own w D w9 [blk g1 [.string ⟨List.toArray ([])⟩] 9, blk g4 [.int .i64 0] 24] := H10
    have H11 : Own w D w9 [blk g4 [.int .i64 0] 24, blk g1 [.string ⟨List.toArray ([])⟩] 9] := H10.pick [1, 0] (by decide) rfl
    refine Lf.do0 (Do.df rfl (Do.store (vs := [.int .i64 3]) (o := 0) H11 rfl rfl Try.sizeOf24 rfl rfl rfl rfl ?_))
    intro w12 H13
    replace H13 : Own w D w12 [blk g4 [.int .i64 3] 24, blk g1 [.string ⟨List.toArray ([])⟩] 9] := H13
    refine Lf.nil ?_
    refine Ff.then ?_
    refine Wf.ret ?_
    refine Ff.thenR ?_
    refine Ff.res ?_
    refine Lv.nil (resN (vs := [.string ⟨List.toArray ([])⟩, .int .i64 3]) rfl (ResV.cell rfl (Lds.one Try.isAgg9 (Cls.of (H13.cls (i := 1) rfl) rfl)) (ResV.cell rfl (Lds.one Try.isAgg24 (Cls.of (H13.cls (i := 0) rfl) rfl)) ResV.nil)) (Nat.le_of_ble_eq_true rfl)) ?_
    have H14 : Own w D w12 [] := H13.pick [] (by decide) rfl
    exact ⟨by unfold jE; rw [if_pos (by omega)], H14⟩
  · skip
    refine Lf.valG (v := .slice A (List.length ls) c) rfl rfl (decide_eq_false h7) rfl rfl (Yl.move rfl) ?_
    refine Lf.valG (v := .int .i64 ((List.length ls : Nat) : Int)) rfl rfl (decide_eq_false h7) rfl rfl (Yl.kern rfl rfl (fun _ => by kernel_rfl)) ?_
    refine Lf.valG (v := .bool (decide (((List.length ls : Nat) : Int) > 4))) rfl rfl (decide_eq_false h7) rfl rfl (Yl.kern rfl rfl (fun _ => by kernel_rfl)) ?_
    refine Lf.val (v := .bool (decide (((List.length ls : Nat) : Int) > 4))) rfl rfl (Yl.pickF rfl (decide_eq_false h7) rfl) ?_
    refine Lf.nil ?_
    refine Ff.then ?_
    by_cases h15 : ((List.length ls : Nat) : Int) > 4
    · skip
      refine Wf.cond1 rfl (decide_eq_true h15) ?_
      refine Wf.seq ?_
      refine Wf.region ?_
      have H16 : Own w D w5 [blk g1 [.string ⟨List.toArray ([])⟩] 9, blk g4 [.int .i64 0] 24] := H6.pick [1, 0] (by decide) rfl
      refine Lf.do0 (Do.df rfl (Do.store (vs := [.string ⟨List.toArray ([])⟩]) (o := 0) H16 rfl rfl Try.sizeOf9 rfl rfl rfl rfl ?_))
      intro w17 H18
      replace H18 : Own w D w17 [blk g1 [.string ⟨List.toArray ([])⟩] 9, blk g4 [.int .i64 0] 24] := H18
      have H19 : Own w D w17 [blk g4 [.int .i64 0] 24, blk g1 [.string ⟨List.toArray ([])⟩] 9] := H18.pick [1, 0] (by decide) rfl
      refine Lf.do0 (Do.df rfl (Do.store (vs := [.int .i64 3]) (o := 0) H19 rfl rfl Try.sizeOf24 rfl rfl rfl rfl ?_))
      intro w20 H21
      replace H21 : Own w D w20 [blk g4 [.int .i64 3] 24, blk g1 [.string ⟨List.toArray ([])⟩] 9] := H21
      refine Lf.nil ?_
      refine Ff.then ?_
      refine Wf.ret ?_
      refine Ff.thenR ?_
      refine Ff.res ?_
      refine Lv.nil (resN (vs := [.string ⟨List.toArray ([])⟩, .int .i64 3]) rfl (ResV.cell rfl (Lds.one Try.isAgg9 (Cls.of (H21.cls (i := 1) rfl) rfl)) (ResV.cell rfl (Lds.one Try.isAgg24 (Cls.of (H21.cls (i := 0) rfl) rfl)) ResV.nil)) (Nat.le_of_ble_eq_true rfl)) ?_
      have H22 : Own w D w20 [] := H21.pick [] (by decide) rfl
      exact ⟨by unfold jE; rw [if_pos (by omega)], H22⟩
    · skip
      refine Wf.cond0 rfl (decide_eq_false h15) ?_
      refine Wf.skip ?_
      refine Ff.then ?_
      refine Wf.seq ?_
      refine Wf.region ?_
      refine Lf.do rfl (Do.df rfl (Do.newP (cs := [.slice none 0 0]) (t := 38) H6 rfl rfl (fun _ => by kernel_rfl) ?_))
      intro g23 w24 H25
      replace H25 : Own w D w24 [blk g23 [.slice none 0 0] 38, blk g4 [.int .i64 0] 24, blk g1 [.string ⟨List.toArray ([])⟩] 9] := H25
      refine Lf.nil ?_
      refine Ff.then ?_
      refine Wf.seq ?_
      refine Wf.seq ?_
      refine Wf.region ?_
      refine Lf.val (v := .slice A (List.length ls) c) rfl rfl (Yl.move rfl) ?_
      obtain ⟨D26, HP27, ro28, bk29, rr30⟩ := Own.enter (L1 := []) (L2 := [blk g23 [.slice none 0 0] 38, blk g4 [.int .i64 0] 24, blk g1 [.string ⟨List.toArray ([])⟩] 9]) H25
      refine Lf.do rfl (Do.df rfl (Do.call Try.call18 rfl (written_ok A c ls _ _ HP27) ?_))
      rintro _ w31 ⟨g33, rfl, HQ32⟩
      have H34 : Own w D w31 [blk g33 [.slice A (List.length ls) c] 22, blk g23 [.slice none 0 0] 38, blk g4 [.int .i64 0] 24, blk g1 [.string ⟨List.toArray ([])⟩] 9] := bk29 _ _ HQ32
      refine Lf.nil ?_
      refine Ff.then ?_
      refine Wf.block ?_
      have H35 : Own w D w31 [row none 0 0 (List.flatMap eB ([])) 5 1, blk g33 [.slice A (List.length ls) c] 22, blk g23 [.slice none 0 0] 38, blk g4 [.int .i64 0] 24, blk g1 [.string ⟨List.toArray ([])⟩] 9] := H34.free (row_nil 5 1)
      have H36 : Own w D w31 [blk g1 [.string ⟨List.toArray ([])⟩] 9, blk g4 [.int .i64 0] 24, blk g23 [.slice none 0 0] 38, row none 0 0 (List.flatMap eB ([])) 5 1, blk g33 [.slice A (List.length ls) c] 22] := H35.pick [4, 3, 2, 0, 1] (by decide) rfl
      have H37 : Own w D w31 [JC g1 g4 g23 ([]), blk g33 [.slice A (List.length ls) c] 22] := Own.exFold (none, 0, 0) (show 0 = List.length ([]) ∧ 0 ≤ 12 from ⟨rfl, by omega⟩) (show Own w D w31 [blk g1 [.string ⟨List.toArray ([])⟩] 9, blk g4 [.int .i64 0] 24, blk g23 [.slice none 0 0] 38, row none 0 0 (List.flatMap eB ([])) 5 1, blk g33 [.slice A (List.length ls) c] 22] from H36)
      have H38 : Own w D w31 [JC g1 g4 g23 ([]), blk g33 [.slice A (List.length ls) c] 22] := H37.pick [0, 1] (by decide) rfl
      refine Wf.rangeFunc (α := UInt8) (encs := fun x => [.int .u8 ((x.toNat : Nat) : Int)]) (xs := (jn ls)) (lb := [.pointer (some ⟨g33, 0, none⟩)]) (JC g1 g4 g23) (JF g1 g4) (fun x => [(5, .int .u8 ((x.toNat : Nat) : Int)), (16, .int .u8 ((x.toNat : Nat) : Int)), (15, .func (.func 24) #[] #[.pointer (some ⟨g33, 0, none⟩)]), (14, .slice A (List.length ls) c), (4, .pointer (some ⟨g23, 0, none⟩)), (13, .bool (decide (((List.length ls : Nat) : Int) > 4))), (12, .bool (decide (((List.length ls : Nat) : Int) > 4))), (11, .int .i64 ((List.length ls : Nat) : Int)), (10, .slice A (List.length ls) c), (9, .bool (decide (((List.length ls : Nat) : Int) < 1))), (8, .bool (decide (((List.length ls : Nat) : Int) < 1))), (7, .int .i64 ((List.length ls : Nat) : Int)), (6, .slice A (List.length ls) c), (3, .pointer (some ⟨g4, 0, none⟩)), (2, .pointer (some ⟨g1, 0, none⟩)), (0, .slice A (List.length ls) c)]) rfl Try.call24 (fun _ => rfl) rfl ((written_it A c g33 ls w D hx (by omega) hs)) H38 ?_ ?_ ?_ ?_ ?_
      · intro l x W K hk
        show Wf _ _ _ _ _ [(16, .int .u8 ((x.toNat : Nat) : Int)), (15, .func (.func 24) #[] #[.pointer (some ⟨g33, 0, none⟩)]), (14, .slice A (List.length ls) c), (4, .pointer (some ⟨g23, 0, none⟩)), (13, .bool (decide (((List.length ls : Nat) : Int) > 4))), (12, .bool (decide (((List.length ls : Nat) : Int) > 4))), (11, .int .i64 ((List.length ls : Nat) : Int)), (10, .slice A (List.length ls) c), (9, .bool (decide (((List.length ls : Nat) : Int) < 1))), (8, .bool (decide (((List.length ls : Nat) : Int) < 1))), (7, .int .i64 ((List.length ls : Nat) : Int)), (6, .slice A (List.length ls) c), (3, .pointer (some ⟨g4, 0, none⟩)), (2, .pointer (some ⟨g1, 0, none⟩)), (0, .slice A (List.length ls) c)] _ _
        refine Wf.region ?_
        refine Lf.val (v := .int .u8 ((x.toNat : Nat) : Int)) rfl rfl (Yl.assign rfl) ?_
        refine Lf.nil ?_
        exact hk
      · intro l pre x R W hpre HB
        show Wf _ _ _ _ _ [(5, .int .u8 ((x.toNat : Nat) : Int)), (16, .int .u8 ((x.toNat : Nat) : Int)), (15, .func (.func 24) #[] #[.pointer (some ⟨g33, 0, none⟩)]), (14, .slice A (List.length ls) c), (4, .pointer (some ⟨g23, 0, none⟩)), (13, .bool (decide (((List.length ls : Nat) : Int) > 4))), (12, .bool (decide (((List.length ls : Nat) : Int) > 4))), (11, .int .i64 ((List.length ls : Nat) : Int)), (10, .slice A (List.length ls) c), (9, .bool (decide (((List.length ls : Nat) : Int) < 1))), (8, .bool (decide (((List.length ls : Nat) : Int) < 1))), (7, .int .i64 ((List.length ls : Nat) : Int)), (6, .slice A (List.length ls) c), (3, .pointer (some ⟨g4, 0, none⟩)), (2, .pointer (some ⟨g1, 0, none⟩)), (0, .slice A (List.length ls) c)] _ _
        obtain ⟨⟨A39, c40, n41⟩, hf42, H43⟩ := Own.exOpen HB
        replace H43 : Own w D W [blk g1 [.string ⟨List.toArray ([])⟩] 9, blk g4 [.int .i64 0] 24, blk g23 [.slice A39 n41 c40] 38, row A39 n41 c40 (List.flatMap eB pre) 5 1, R] := H43
        replace hf42 : n41 = List.length pre ∧ n41 ≤ 12 := hf42
        refine Wf.block ?_
        refine Wf.seq ?_
        refine Wf.seq ?_
        refine Wf.region ?_
        refine Lf.val (v := .slice A39 n41 c40) rfl rfl (Yl.load rfl (Lds.one Try.isAgg38 (Cls.of (H43.cls (i := 2) rfl) rfl))) ?_
        refine Lf.val (v := .int .i64 ((n41 : Nat) : Int)) rfl rfl (Yl.kern rfl rfl (fun _ => by kernel_rfl)) ?_
        refine Lf.val (v := .bool (decide (((n41 : Nat) : Int) = 12))) rfl rfl (Yl.kern rfl rfl (fun _ => by kernel_rfl)) ?_
        refine Lf.nil ?_
        refine Ff.then ?_
        by_cases h44 : ((n41 : Nat) : Int) = 12
        · skip
          refine Wf.cond1 rfl (decide_eq_true h44) ?_
          refine Wf.seq ?_
          refine Wf.region ?_
          refine Lf.do0 (Do.df rfl (Do.store (vs := [.string ⟨List.toArray ([])⟩]) (o := 0) H43 rfl rfl Try.sizeOf9 rfl rfl rfl rfl ?_))
          intro w45 H46
          replace H46 : Own w D w45 [blk g1 [.string ⟨List.toArray ([])⟩] 9, blk g4 [.int .i64 0] 24, blk g23 [.slice A39 n41 c40] 38, row A39 n41 c40 (List.flatMap eB pre) 5 1, R] := H46
          have H47 : Own w D w45 [blk g4 [.int .i64 0] 24, blk g1 [.string ⟨List.toArray ([])⟩] 9, blk g23 [.slice A39 n41 c40] 38, row A39 n41 c40 (List.flatMap eB pre) 5 1, R] := H46.pick [1, 0, 2, 3, 4] (by decide) rfl
          refine Lf.do0 (Do.df rfl (Do.store (vs := [.int .i64 2]) (o := 0) H47 rfl rfl Try.sizeOf24 rfl rfl rfl rfl ?_))
          intro w48 H49
          replace H49 : Own w D w48 [blk g4 [.int .i64 2] 24, blk g1 [.string ⟨List.toArray ([])⟩] 9, blk g23 [.slice A39 n41 c40] 38, row A39 n41 c40 (List.flatMap eB pre) 5 1, R] := H49
          refine Lf.nil ?_
          refine Ff.then ?_
          refine Wf.ret ?_
          refine Ff.thenR ?_
          refine Ff.blockR ?_
          have H50 : Own w D w48 [blk g1 [.string ⟨List.toArray ([])⟩] 9, blk g4 [.int .i64 2] 24, blk g23 [.slice A39 n41 c40] 38, row A39 n41 c40 (List.flatMap eB pre) 5 1, R] := H49.pick [1, 0, 2, 3, 4] (by decide) rfl
          have H51 : Own w D w48 [JJ g1 g4 (pre ++ [x]), blk g23 [.slice A39 n41 c40] 38, row A39 n41 c40 (List.flatMap eB pre) 5 1, R] := Own.exFold () (show 12 < List.length (pre ++ [x]) from by simp; omega) (show Own w D w48 [blk g1 [.string ⟨List.toArray ([])⟩] 9, blk g4 [.int .i64 2] 24, blk g23 [.slice A39 n41 c40] 38, row A39 n41 c40 (List.flatMap eB pre) 5 1, R] from H50)
          have H52 : Own w D w48 [JJ g1 g4 (pre ++ [x]), R] := H51.pick [0, 3] (by decide) rfl
          exact fun _ _ _ => H52
        · skip
          refine Wf.cond0 rfl (decide_eq_false h44) ?_
          refine Wf.skip ?_
          refine Ff.then ?_
          refine Wf.region ?_
          refine Lf.val (v := .slice A39 n41 c40) rfl rfl (Yl.load rfl (Lds.one Try.isAgg38 (Cls.of (H43.cls (i := 2) rfl) rfl))) ?_
          refine Lf.val (v := .int .u8 ((x.toNat : Nat) : Int)) rfl rfl (Yl.move rfl) ?_
          refine Lf.do rfl (Do.df rfl (Do.newRow (cs := [.int .u8 ((x.toNat : Nat) : Int)]) (t := 5) (sz := 1) (m := 1) H43 rfl rfl (fun _ => by kernel_rfl) rfl (by decide) ?_))
          intro A53 w54 H55
          replace H55 : Own w D w54 [row A53 1 1 (List.flatMap eB ([x])) 5 1, blk g1 [.string ⟨List.toArray ([])⟩] 9, blk g4 [.int .i64 0] 24, blk g23 [.slice A39 n41 c40] 38, row A39 n41 c40 (List.flatMap eB pre) 5 1, R] := H55
          have H56 : Own w D w54 [row A39 n41 c40 (List.flatMap eB pre) 5 1, row A53 1 1 (List.flatMap eB ([x])) 5 1, blk g1 [.string ⟨List.toArray ([])⟩] 9, blk g4 [.int .i64 0] 24, blk g23 [.slice A39 n41 c40] 38, R] := H55.pick [4, 0, 1, 2, 3, 5] (by decide) rfl
          refine Lf.do rfl (Do.df rfl (Do.append (k := n41) (m := 1) (El38) H56 rfl rfl (src_of Try.underlying38 (H56.rds (i := 1) rfl) (flat_one eB_one ([x]))) (by unfold maxLen; omega) (by omega) (s := n41 + 1) (by omega) (List.flatMap_append).symm ?_))
          intro A57 c58 w59 H60
          replace H60 : Own w D w59 [row A57 (n41 + 1) c58 (List.flatMap eB (pre ++ [x])) 5 1, row A53 1 1 (List.flatMap eB ([x])) 5 1, blk g1 [.string ⟨List.toArray ([])⟩] 9, blk g4 [.int .i64 0] 24, blk g23 [.slice A39 n41 c40] 38, R] := H60
          have H61 : Own w D w59 [blk g23 [.slice A39 n41 c40] 38, row A57 (n41 + 1) c58 (List.flatMap eB (pre ++ [x])) 5 1, row A53 1 1 (List.flatMap eB ([x])) 5 1, blk g1 [.string ⟨List.toArray ([])⟩] 9, blk g4 [.int .i64 0] 24, R] := H60.pick [4, 0, 1, 2, 3, 5] (by decide) rfl
          refine Lf.do0 (Do.df rfl (Do.store (vs := [.slice A57 (n41 + 1) c58]) (o := 0) H61 rfl rfl Try.sizeOf38 rfl rfl rfl rfl ?_))
          intro w62 H63
          replace H63 : Own w D w62 [blk g23 [.slice A57 (n41 + 1) c58] 38, row A57 (n41 + 1) c58 (List.flatMap eB (pre ++ [x])) 5 1, row A53 1 1 (List.flatMap eB ([x])) 5 1, blk g1 [.string ⟨List.toArray ([])⟩] 9, blk g4 [.int .i64 0] 24, R] := H63
          refine Lf.nil ?_
          refine Ff.blockN ?_
          have H64 : Own w D w62 [blk g1 [.string ⟨List.toArray ([])⟩] 9, blk g4 [.int .i64 0] 24, blk g23 [.slice A57 (n41 + 1) c58] 38, row A57 (n41 + 1) c58 (List.flatMap eB (pre ++ [x])) 5 1, row A53 1 1 (List.flatMap eB ([x])) 5 1, R] := H63.pick [3, 4, 0, 1, 2, 5] (by decide) rfl
          have H65 : Own w D w62 [JC g1 g4 g23 (pre ++ [x]), row A53 1 1 (List.flatMap eB ([x])) 5 1, R] := Own.exFold (A57, c58, n41 + 1) (show n41 + 1 = List.length (pre ++ [x]) ∧ n41 + 1 ≤ 12 from ⟨by simp; omega, by omega⟩) (show Own w D w62 [blk g1 [.string ⟨List.toArray ([])⟩] 9, blk g4 [.int .i64 0] 24, blk g23 [.slice A57 (n41 + 1) c58] 38, row A57 (n41 + 1) c58 (List.flatMap eB (pre ++ [x])) 5 1, row A53 1 1 (List.flatMap eB ([x])) 5 1, R] from H64)
          have H66 : Own w D w62 [JC g1 g4 g23 (pre ++ [x]), R] := H65.pick [0, 2] (by decide) rfl
          exact fun _ _ _ => H66
      · intro r67 w68 H69
        have H70 : Own w D w68 [JC g1 g4 g23 (jn ls), obj r67 (.deferred (some []))] := H69.pick [1, 0] (by decide) rfl
        obtain ⟨⟨A71, c72, n73⟩, hf74, H75⟩ := Own.exOpen H70
        replace H75 : Own w D w68 [blk g1 [.string ⟨List.toArray ([])⟩] 9, blk g4 [.int .i64 0] 24, blk g23 [.slice A71 n73 c72] 38, row A71 n73 c72 (List.flatMap eB (jn ls)) 5 1, obj r67 (.deferred (some []))] := H75
        replace hf74 : n73 = List.length (jn ls) ∧ n73 ≤ 12 := hf74
        refine Ff.blockN ?_
        refine Ff.then ?_
        refine Wf.seq ?_
        refine Wf.region ?_
        refine Lf.val (v := .slice A71 n73 c72) rfl rfl (Yl.load rfl (Lds.one Try.isAgg38 (Cls.of (H75.cls (i := 2) rfl) rfl))) ?_
        refine Lf.val (v := .string ⟨List.toArray (jn ls)⟩) rfl rfl (Yl.toStringE (l := (jn ls)) Try.underlying38 Try.underlying5 Try.underlying9 (H75.rds (i := 3) rfl) rfl) ?_
        refine Lf.do0 (Do.df rfl (Do.store (vs := [.string ⟨List.toArray (jn ls)⟩]) (o := 0) H75 rfl rfl Try.sizeOf9 rfl rfl rfl rfl ?_))
        intro w76 H77
        replace H77 : Own w D w76 [blk g1 [.string ⟨List.toArray (jn ls)⟩] 9, blk g4 [.int .i64 0] 24, blk g23 [.slice A71 n73 c72] 38, row A71 n73 c72 (List.flatMap eB (jn ls)) 5 1, obj r67 (.deferred (some []))] := H77
        have H78 : Own w D w76 [blk g4 [.int .i64 0] 24, blk g1 [.string ⟨List.toArray (jn ls)⟩] 9, blk g23 [.slice A71 n73 c72] 38, row A71 n73 c72 (List.flatMap eB (jn ls)) 5 1, obj r67 (.deferred (some []))] := H77.pick [1, 0, 2, 3, 4] (by decide) rfl
        refine Lf.do0 (Do.df rfl (Do.store (vs := [.int .i64 0]) (o := 0) H78 rfl rfl Try.sizeOf24 rfl rfl rfl rfl ?_))
        intro w79 H80
        replace H80 : Own w D w79 [blk g4 [.int .i64 0] 24, blk g1 [.string ⟨List.toArray (jn ls)⟩] 9, blk g23 [.slice A71 n73 c72] 38, row A71 n73 c72 (List.flatMap eB (jn ls)) 5 1, obj r67 (.deferred (some []))] := H80
        refine Lf.nil ?_
        refine Ff.then ?_
        refine Wf.ret ?_
        refine Ff.res ?_
        have H81 : Own w D w79 [obj r67 (.deferred (some [])), blk g4 [.int .i64 0] 24, blk g1 [.string ⟨List.toArray (jn ls)⟩] 9, blk g23 [.slice A71 n73 c72] 38, row A71 n73 c72 (List.flatMap eB (jn ls)) 5 1] := H80.pick [4, 0, 1, 2, 3] (by decide) rfl
        refine Lv.mark H81 ?_
        intro w82 H83
        replace H83 : Own w D w82 [blk g4 [.int .i64 0] 24, blk g1 [.string ⟨List.toArray (jn ls)⟩] 9, blk g23 [.slice A71 n73 c72] 38, row A71 n73 c72 (List.flatMap eB (jn ls)) 5 1] := H83
        refine Lv.nil (resN (vs := [.string ⟨List.toArray (jn ls)⟩, .int .i64 0]) rfl (ResV.cell rfl (Lds.one Try.isAgg9 (Cls.of (H83.cls (i := 1) rfl) rfl)) (ResV.cell rfl (Lds.one Try.isAgg24 (Cls.of (H83.cls (i := 0) rfl) rfl)) ResV.nil)) (Nat.le_of_ble_eq_true rfl)) ?_
        have H84 : Own w D w82 [] := H83.pick [] (by decide) rfl
        exact ⟨by unfold jE; rw [if_neg (by omega), if_neg (by omega)], H84⟩
      · intro r85 pre w86 hpre H87
        replace H87 : Own w D w86 [obj r85 (.deferred (some [])), JF g1 g4 .ret pre] := H87
        replace H87 : Own w D w86 [obj r85 (.deferred (some [])), JJ g1 g4 pre] := H87
        have H88 : Own w D w86 [JJ g1 g4 pre, obj r85 (.deferred (some []))] := H87.pick [1, 0] (by decide) rfl
        obtain ⟨_, hf89, H90⟩ := Own.exOpen H88
        replace H90 : Own w D w86 [blk g1 [.string ⟨List.toArray ([])⟩] 9, blk g4 [.int .i64 2] 24, obj r85 (.deferred (some []))] := H90
        replace hf89 : 12 < List.length pre := hf89
        have hpl := hpre.length_le
        refine Ff.blockR ?_
        refine Ff.thenR ?_
        refine Ff.res ?_
        have H91 : Own w D w86 [obj r85 (.deferred (some [])), blk g1 [.string ⟨List.toArray ([])⟩] 9, blk g4 [.int .i64 2] 24] := H90.pick [2, 0, 1] (by decide) rfl
        refine Lv.mark H91 ?_
        intro w92 H93
        replace H93 : Own w D w92 [blk g1 [.string ⟨List.toArray ([])⟩] 9, blk g4 [.int .i64 2] 24] := H93
        refine Lv.nil (resN (vs := [.string ⟨List.toArray ([])⟩, .int .i64 2]) rfl (ResV.cell rfl (Lds.one Try.isAgg9 (Cls.of (H93.cls (i := 0) rfl) rfl)) (ResV.cell rfl (Lds.one Try.isAgg24 (Cls.of (H93.cls (i := 1) rfl) rfl)) ResV.nil)) (Nat.le_of_ble_eq_true rfl)) ?_
        have H94 : Own w D w92 [] := H93.pick [] (by decide) rfl
        exact ⟨by unfold jE; rw [if_neg (by omega), if_pos (by omega)], H94⟩
      · intro r id pre W _ H
        obtain ⟨_, hF, _⟩ := H.get (i := 1) rfl
        exact hF.elim
end Go.Proofs.Yticaheijlapllaa
