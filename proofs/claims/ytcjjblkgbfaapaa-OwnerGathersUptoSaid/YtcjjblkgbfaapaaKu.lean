/-
  What the bulk of an argument says of its parts.
  Conditions: none beyond each law's own.
-/
import Derived.Test.YtcjjblkgbfaapaaKh
namespace Go.Proofs.Ytcjjblkgbfaapaa
set_option linter.unusedVariables false
set_option linter.unusedSimpArgs false
theorem sum_mem {β : Type} (f : β → Nat) : ∀ {l : List β} {x : β}, x ∈ l → f x ≤ (l.map f).sum
  | [], x, h => by cases h
  | y :: r, x, h => by
    simp only [List.map_cons, List.sum_cons]
    rcases List.mem_cons.1 h with rfl | h
    · omega
    · have := sum_mem f h
      omega
theorem sum_len {β : Type} (f : β → Nat) (h1 : ∀ y, 1 ≤ f y) : ∀ l : List β, List.length l ≤ (l.map f).sum
  | [] => by simp
  | y :: r => by
    have := sum_len f h1 r
    have := h1 y
    simp only [List.map_cons, List.sum_cons, List.length_cons]
    omega
section
variable {β : Type} [Bk β] {s : Sv β} {x : β}
theorem Sv.bk_eq : bk s = (s.ls.map bk).sum + (s.c - s.ls.length) + 1 := rfl
theorem Sv.bk_mem (h : x ∈ s.ls) : bk x ≤ bk s := by
  have := sum_mem bk h
  rw [Sv.bk_eq]
  omega
theorem Sv.bk_len (h1 : ∀ y : β, 1 ≤ bk y) : List.length s.ls ≤ bk s := by
  have := sum_len bk h1 s.ls
  rw [Sv.bk_eq]
  omega
theorem Sv.bk_pos : 1 ≤ bk s := by rw [Sv.bk_eq]; omega
end
theorem bk_str (s : List UInt8) : bk s = List.length s + 1 := rfl
theorem bk_pos_str (s : List UInt8) : 1 ≤ bk s := Nat.le_add_left _ _
end Go.Proofs.Ytcjjblkgbfaapaa
