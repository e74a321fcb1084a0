/-
  The library's pdqsort of numbers of 64 bits, called. Conditions: none beyond each law's own.
-/
import Derived.Test.YtggnajpokhaaiaaTbO
namespace Go.Proofs.Ytggnajpokhaaiaa
set_option linter.unusedVariables false
open Go.Sort
theorem pdqT_n (n : Nat) : ∀ (w : World) (D : Nat → Prop) (A0 : Option Addr) (n0 c0 : Nat) (l0 : List Nat) (p1 : Int) (p2 : Int) (p3 : Int) (r0 : List Nat) (H : Own w D w [row A0 n0 c0 (List.flatMap (eN .u64) l0) 30 1]) (hn0 : n0 = l0.length) (hl0 : l0.length * 8 ≤ 211106232532992) (hh0 : 0 ≤ p1 ∧ p1 ≤ p2 ∧ p2 ≤ ((l0.length : Nat) : Int)) (hh1 : 0 ≤ p3 ∧ p3 ≤ 63) (hh_ : Int.toNat (p2 - p1) < n) (hr : pdqT l0 p1 p2 p3 = r0),
    Calls Try.prog 65 #[.slice A0 n0 c0, .int .i64 p1, .int .i64 p2, .int .i64 p3] w (Ret fun v w' => v = .tuple #[] ∧ Own w D w' [row A0 n0 c0 (List.flatMap (eN .u64) r0) 30 1] ∧ (r0.length = l0.length)) := by
  induction n with
  | zero => intro w D A0 n0 c0 l0 p1 p2 p3 r0 H hn0 hl0 hh0 hh1 hh_; omega
  | succ n ih =>
    intro w D A0 n0 c0 l0 p1 p2 p3 r0 H hn0 hl0 hh0 hh1 hh_ hr
    exact slices_pdqsortOrdered_uint64_ok w D A0 n0 c0 l0 p1 p2 p3 r0 H hn0 hl0 hh0 hh1 ((pdq_body l0 p1 p2 p3 hh0.1 hh0.2.1 (by omega) hh1.1).trans hr) _ rfl
      (fun w D A0 n0 c0 l0 p1 p2 p3 r0 H hn0 hl0 hh0 hh1 hs hr => ih w D A0 n0 c0 l0 p1 p2 p3 r0 H hn0 hl0 hh0 hh1 (by omega) hr)
theorem pdqT_ok (w : World) (D : Nat → Prop) (A0 : Option Addr) (n0 c0 : Nat) (l0 : List Nat) (p1 : Int) (p2 : Int) (p3 : Int) (r0 : List Nat) (H : Own w D w [row A0 n0 c0 (List.flatMap (eN .u64) l0) 30 1]) (hn0 : n0 = l0.length) (hl0 : l0.length * 8 ≤ 211106232532992) (hh0 : 0 ≤ p1 ∧ p1 ≤ p2 ∧ p2 ≤ ((l0.length : Nat) : Int)) (hh1 : 0 ≤ p3 ∧ p3 ≤ 63) (hr : pdqT l0 p1 p2 p3 = r0) :
    Calls Try.prog 65 #[.slice A0 n0 c0, .int .i64 p1, .int .i64 p2, .int .i64 p3] w (Ret fun v w' => v = .tuple #[] ∧ Own w D w' [row A0 n0 c0 (List.flatMap (eN .u64) r0) 30 1] ∧ (r0.length = l0.length)) :=
  pdqT_n _ w D A0 n0 c0 l0 p1 p2 p3 r0 H hn0 hl0 hh0 hh1 (Nat.lt_succ_self _) hr
def srt (l : List Nat) : List Nat := l.mergeSort (fun x y => decide (x ≤ y))
theorem srt_perm (l : List Nat) : (srt l).Perm l := List.mergeSort_perm _ _
theorem srt_sorted (l : List Nat) : (srt l).Pairwise (· ≤ ·) := by
  have := List.pairwise_mergeSort (le := fun x y : Nat => decide (x ≤ y)) (fun a b c h1 h2 => by simp only [decide_eq_true_eq] at *; omega) (fun a b => by simp only [Bool.or_eq_true, decide_eq_true_eq]; omega) l
  exact this.imp fun h => of_decide_eq_true h
end Go.Proofs.Ytggnajpokhaaiaa
