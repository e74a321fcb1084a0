/-
  A list of the law's calls, opened.
-/
import Derived.Test.YtnifihdnpmacjaaAlF
import Derived.Deep.Slices
import Derived.ChangeArms
import Derived.ChangeSame
import Derived.WideShapes
namespace Go.Proofs.Ytnifihdnpmacjaa
open Go.RowKit Go.ChangeShapes Go.WideShapes Go.Deep

theorem list_of {α : Type} {Q : Nat → α → Prop} : ∀ n, (∀ i, i < n → ∃ o, Q i o) → ∃ os : List α, os.length = n ∧ ∀ i o, os[i]? = some o → Q i o
  | 0, _ => ⟨[], rfl, fun i o h => by simp at h⟩
  | n + 1, h => by
    obtain ⟨os, hl, hq⟩ := list_of n fun i hi => h i (by omega)
    obtain ⟨o, ho⟩ := h n (by omega)
    refine ⟨os ++ [o], by simp [hl], fun i p hp => ?_⟩
    by_cases e : i < n
    · rw [List.getElem?_append_left (by omega)] at hp
      exact hq i p hp
    · rw [List.getElem?_append_right (by omega)] at hp
      obtain ⟨hk, rfl⟩ := List.getElem?_eq_some_iff.1 hp
      simp at hk
      have : i = n := by omega
      subst this
      simpa using ho

section
variable {H : Type} {enc : TypeId × Value → H} {w : World} {held : Bool}

theorem open_ops {fuel : Nat} {cs : List Value} {x : DataW H × List MemPlace} (h : DataW.trod enc Try.prog w 0 (fun _ => true) held fuel 23 cs = some x) :
    ∃ (A : Option Addr) (len cap : Nat) (os : List (Int × Int × Bool)), cs = [.slice A len cap] ∧ len ≤ cap ∧ cap ≤ maxLen ∧ Ops w w.heap.size A len os := by
  have hC : Try.prog.cellsOf 35 = 3 := by kernel_rfl
  have hI : Try.prog.cellsOf 3 = 1 := by kernel_rfl
  have hL : Try.prog.cellsOf 4 = 1 := by kernel_rfl
  rcases open_slice Try.underlying23 h with ⟨rfl, _⟩ | ⟨a, len, cap, m, n, D, Pl, rfl, _, hl, hm, hmm, _, hi⟩
  · exact ⟨none, 0, 0, [], rfl, Nat.le_refl _, by unfold maxLen; omega, rfl, fun i o ho => by simp at ho⟩
  · have hle : len ≤ m := by rw [hmm]; simp; omega
    have each : ∀ i, i < len → ∃ o : Int × Int × Bool, w.cell? (a.add (i * 3)) = some (.int .i64 o.1) ∧ w.cell? (a.add (i * 3 + 1)) = some (.int .i64 o.2.1) ∧ w.cell? (a.add (i * 3 + 2)) = some (.bool o.2.2) ∧
        -9223372036854775808 ≤ o.2.1 ∧ o.2.1 ≤ 9223372036854775807 := by
      intro i hil
      obtain ⟨cs', hc, ht⟩ := hi i (by omega)
      rw [hC] at hc
      obtain ⟨ys, n', _, _, hcl, hyl, hf⟩ := DataW.trod_struct Try.underlying35 ht
      obtain ⟨_, hlen, hat⟩ := World.cells?_some hc
      match cs', hlen with
      | [c0, c1, c2], _ =>
        have f0 : DataW.trod enc Try.prog w 0 (fun _ => true) held n' 3 (([c0, c1, c2].drop 0).take (Try.prog.cellsOf 3)) = ys[0]? := hf 0 _ rfl
        have f1 : DataW.trod enc Try.prog w 0 (fun _ => true) held n' 3 (([c0, c1, c2].drop 1).take (Try.prog.cellsOf 3)) = ys[1]? := hf 1 _ rfl
        have f2 : DataW.trod enc Try.prog w 0 (fun _ => true) held n' 4 (([c0, c1, c2].drop 2).take (Try.prog.cellsOf 4)) = ys[2]? := hf 2 _ rfl
        rw [hI] at f0 f1
        rw [hL] at f2
        have g0 := hat 0 (by omega)
        have g1 := hat 1 (by omega)
        have g2 := hat 2 (by omega)
        rw [Go.Deep.add_add] at g0 g1 g2
        have hy : ∀ j, j < 3 → ∃ y, ys[j]? = some y := fun j hj => ⟨_, List.getElem?_eq_getElem (by rw [hyl]; exact hj)⟩
        obtain ⟨y0, e0⟩ := hy 0 (by omega)
        obtain ⟨y1, e1⟩ := hy 1 (by omega)
        obtain ⟨y2, e2⟩ := hy 2 (by omega)
        rw [e0] at f0
        rw [e1] at f1
        rw [e2] at f2
        have f0 : DataW.trod enc Try.prog w 0 (fun _ => true) held n' 3 [c0] = some y0 := f0
        have f1 : DataW.trod enc Try.prog w 0 (fun _ => true) held n' 3 [c1] = some y1 := f1
        have f2 : DataW.trod enc Try.prog w 0 (fun _ => true) held n' 4 [c2] = some y2 := f2
        obtain ⟨n0, h0, _, _⟩ := DataW.trod_int Try.underlying3 f0
        obtain ⟨n1, h1, _, w1⟩ := DataW.trod_int Try.underlying3 f1
        obtain ⟨b2, h2, _⟩ := DataW.trod_bool Try.underlying4 f2
        simp only [List.cons.injEq, and_true] at h0 h1 h2
        subst h0 h1 h2
        obtain ⟨l1, u1⟩ := wf_i64 w1
        exact ⟨(n0, n1, b2), g0, g1, g2, l1, u1⟩
    obtain ⟨b, off, spot⟩ := a
    obtain ⟨os, hol, hos⟩ := list_of len each
    refine ⟨some ⟨b, off, spot⟩, len, cap, os, rfl, hl, hm, hol, fun i o ho => ?_⟩
    have hil : i < len := by
      have := (List.getElem?_eq_some_iff.1 ho).1
      omega
    obtain ⟨o0, k0, _⟩ := each 0 (by omega)
    have k1 : w.cell? ⟨b, off, spot⟩ = some (.int .i64 o0.1) := by simpa [Addr.add] using k0
    have hs : spot = none := World.cell?_spot k1
    subst hs
    have hh := hos i o ho
    simp only [add_none] at hh
    exact ⟨b, off, rfl, World.block_lt_of_cell? w _ k1, by simpa [Nat.add_assoc] using hh⟩
end
end Go.Proofs.Ytnifihdnpmacjaa
