/-
  What a stable sort is: sorted, and of each kind of elements the same ones in the same order; there is one only.
  Swapped ranges, a range turned round. Conditions: none beyond each law's own.
-/
import Derived.Test.YtcjjblkgbfaapaaKz
namespace Go.Proofs.Ytcjjblkgbfaapaa
set_option linter.unusedVariables false
set_option linter.unusedSimpArgs false
section
variable {α : Type} (lt : α → α → Bool)
structure Ord : Prop where
  irr : ∀ x, lt x x = false
  tr : ∀ x y z, lt x y = true → lt y z = true → lt x z = true
  nt : ∀ x y z, lt x y = false → lt y z = false → lt x z = false
def alike (x y : α) : Bool := !lt x y && !lt y x
def Fil (l m : List α) : Prop := ∀ x, l.filter (alike lt x) = m.filter (alike lt x)
def Srt (l : List α) : Prop := l.Pairwise (fun x y => lt y x = false)
variable {lt}
theorem alike_t {x y : α} : alike lt x y = true ↔ lt x y = false ∧ lt y x = false := by
  unfold alike
  cases lt x y <;> cases lt y x <;> simp
theorem Ord.self (h : Ord lt) (x : α) : alike lt x x = true := alike_t.2 ⟨h.irr x, h.irr x⟩
theorem Ord.to (h : Ord lt) {x y z : α} (h1 : alike lt x y = true) (h2 : alike lt x z = true) : alike lt y z = true := by
  obtain ⟨a1, a2⟩ := alike_t.1 h1
  obtain ⟨b1, b2⟩ := alike_t.1 h2
  exact alike_t.2 ⟨h.nt y x z a2 b1, h.nt z x y b2 a1⟩
theorem Ord.as (h : Ord lt) {x y : α} (h1 : lt x y = true) : lt y x = false := by
  cases h2 : lt y x with
  | false => rfl
  | true => have := h.tr x y x h1 h2; rw [h.irr x] at this; cases this
theorem Fil.refl (l : List α) : Fil lt l l := fun _ => rfl
theorem Fil.symm {l m : List α} (h : Fil lt l m) : Fil lt m l := fun x => (h x).symm
theorem Fil.trans {l m n : List α} (h : Fil lt l m) (h2 : Fil lt m n) : Fil lt l n := fun x => (h x).trans (h2 x)
theorem Fil.app {l m l2 m2 : List α} (h : Fil lt l m) (h2 : Fil lt l2 m2) : Fil lt (l ++ l2) (m ++ m2) := fun x => by
  rw [List.filter_append, List.filter_append, h x, h2 x]
theorem Fil.mem (ho : Ord lt) {l m : List α} (h : Fil lt l m) {x : α} (hx : x ∈ m) : x ∈ l := by
  have : x ∈ m.filter (alike lt x) := List.mem_filter.2 ⟨hx, ho.self x⟩
  rw [← h x] at this
  exact (List.mem_filter.1 this).1
theorem Fil.swap (ho : Ord lt) {b c : List α} (h : ∀ x ∈ b, ∀ y ∈ c, lt y x = true) : Fil lt (b ++ c) (c ++ b) := fun z => by
  rw [List.filter_append, List.filter_append]
  by_cases hb : b.filter (alike lt z) = []
  · rw [hb, List.nil_append, List.append_nil]
  · have hc : c.filter (alike lt z) = [] := by
      apply Classical.byContradiction
      intro hc
      obtain ⟨x, hx⟩ := List.exists_mem_of_ne_nil _ hb
      obtain ⟨y, hy⟩ := List.exists_mem_of_ne_nil _ hc
      obtain ⟨x1, x2⟩ := List.mem_filter.1 hx
      obtain ⟨y1, y2⟩ := List.mem_filter.1 hy
      have := (alike_t.1 (ho.to x2 y2)).2
      rw [h x x1 y y1] at this; cases this
    rw [hc, List.nil_append, List.append_nil]
theorem srtS_app {l m : List α} : Srt lt (l ++ m) ↔ Srt lt l ∧ Srt lt m ∧ ∀ x ∈ l, ∀ y ∈ m, lt y x = false := List.pairwise_append
end
end Go.Proofs.Ytcjjblkgbfaapaa
