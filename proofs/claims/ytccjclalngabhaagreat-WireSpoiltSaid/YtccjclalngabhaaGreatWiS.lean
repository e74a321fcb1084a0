/-
  The sum's contracts in the words of walks; rows of pointers; an array that is read as a slice.
  Conditions: none beyond each law's own.
-/
import Derived.Test.YtccjclalngabhaaGreatOctF
import Derived.Test.YtccjclalngabhaaGreatOctM
import Derived.Lib.SlBytesConst
import Derived.Deep.QuietTactic
import Derived.BigQuiet
import Derived.Test.YtccjclalngabhaaGreatKx
namespace Go.Proofs.YtccjclalngabhaaGreat
set_option linter.unusedVariables false
set_option linter.unusedSimpArgs false
open Go.RowKit
theorem flat_bv : ∀ l : List UInt8, List.flatMap eB l = l.map Z.bv
  | [] => rfl
  | x :: r => by rw [List.flatMap_cons, flat_bv r]; rfl
theorem cell_lt {w : World} {b o : Nat} {u : Value} (h : w.cell? ⟨b, o, none⟩ = some u) : b < w.heap.size := by
  rcases Nat.lt_or_ge b w.heap.size with h1 | h1
  · exact h1
  · exfalso
    unfold World.cell? at h
    simp only [Array.getElem?_eq_none h1] at h
    cases h
theorem byt_of {w : World} {A : Option Addr} {n : Nat} {l : List UInt8} (h : Rds w 1 A n (List.flatMap eB l)) : Z.Byt w w.heap.size A n l := by
  rw [flat_bv] at h
  refine ⟨h.1, fun hn => ?_⟩
  obtain ⟨e, hc⟩ := h.2 hn
  have h1 := h.1
  refine ⟨ab A, ao A, e, ?_, fun j hj => hc j _ (List.getElem?_eq_getElem hj)⟩
  exact cell_lt (hc 0 _ (List.getElem?_eq_getElem (by omega)))
theorem Own.grown {w0 w w' : World} {D : Nat → Prop} (H : Own w0 D w []) (hb : Below w.heap.size w w') : Own w0 D w' [] :=
  ⟨hb.os.trans H.os, hb.tape.trans H.tape, hb.output.trans H.output, Nat.le_trans H.size hb.size, fun k hk hd => (hb.block k (Nat.lt_of_lt_of_le hk H.size)).trans (H.keep k hk hd),
    fun _ => none, fun _ _ h => (by cases h), fun _ _ => none, fun i R h => (by simp at h), fun _ _ _ h => (by cases h), fun _ _ _ _ => .inl rfl⟩
section
variable {P : Program} {n : Nat} {F : List (Nat × Value)} {w : World} {ty T e sz bytes m c : Nat} {A : Option Addr} {x : Operand}
theorem run_cutM (el : Elem P T e sz bytes) {i j q : Nat} {k k' k2 : IntKind} (h0 : i ≤ j) (h1 : j ≤ q) (h2 : q ≤ c) : (Instr.slice T (.slice A m c) (some (.int k (i : Int))) (some (.int k' (j : Int))) (some (.int k2 (q : Int)))).run P w = .ok (.slice (cutA A i sz q) (j - i) (q - i)) w := by
  obtain ⟨i', _, ht, hi, _, rfl, _⟩ := el
  have ht' : P.underlying T = some (.slice (P.elem T)) := by rw [elem_eq ht]; exact ht
  rw [run_slice_any w T A m c ht']
  simp [Instr.sliceBounds, Instr.sliceBound, asIntOf, h0, h1, h2, Result.andThen, sizeOf, typeInfo, elem_eq ht, hi, sliced, cutA]
theorem Yl.cutM {lx hx' mx : Operand} {i j q : Nat} {k k' k2 : IntKind} (el : Elem P T e sz bytes) (hx : ev F x = some (.slice A m c)) (hl : ev F lx = some (.int k (i : Int))) (hh : ev F hx' = some (.int k' (j : Int))) (hm : ev F mx = some (.int k2 (q : Int))) (h0 : i ≤ j) (h1 : j ≤ q) (h2 : q ≤ c) :
    Yl P n F w (.slice T x (some lx) (some hx') (some mx)) ty (.slice (cutA A i sz q) (j - i) (q - i)) :=
  Yl.sl (lo := some lx) (hi := some hx') (mx := some mx) (lo' := some (.int k (i : Int))) (hi' := some (.int k' (j : Int))) (mx' := some (.int k2 (q : Int))) el hx (by simp [hl]) (by simp [hh]) (by simp [hm]) (run_cutM el h0 h1 h2)
end
def octet_Sum (l : List UInt8) : Nat := Z.sum32 l
def eV (v : Value) : List Value := [v]
theorem eV_len : ∀ v, (eV v).length = 1 := fun _ => rfl
theorem arr_rds {w : World} {g n : Nat} {cs xs : List Value} {sz : Nat} (h : Cls w g 0 cs) (e : cs = xs) (hn : xs.length = n * sz) : Rds w sz (some ⟨g, 0, none⟩) n xs := by
  subst e
  exact ⟨hn, fun _ => ⟨rfl, h⟩⟩
end Go.Proofs.YtccjclalngabhaaGreat
