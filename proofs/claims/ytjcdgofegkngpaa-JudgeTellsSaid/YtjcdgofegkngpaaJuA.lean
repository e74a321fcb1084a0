/-
  PROVED HERE: an operation does nothing to keys that it does not touch, and tells nothing of them; two that touch nothing in common may be turned.
  Conditions: none beyond the statements' own.
-/
import Derived.Test.YtjcdgofegkngpaaOpQ
namespace Go.Proofs.Ytjcdgofegkngpaa
set_option linter.unusedVariables false
set_option linter.unusedSimpArgs false
open Go.ChangeShapes
def tch (o : OpD) (k : Key) : Prop := if o.xKind ≤ 3 then k = o.xKey else inR o.xLo o.xHi k = true
theorem C3.mem {m a e d : List PairD} {k : Key} (h : C3 m k a e d) (p : PairD) : p ∈ m ↔ (p ∈ a ∨ p ∈ e ∨ p ∈ d) := by rw [h.app]; simp
theorem C3.key {m a e d : List PairD} {k : Key} (h : C3 m k a e d) {p : PairD} (hk : p.xKey = k) : p ∈ m ↔ p ∈ e := by
  rw [h.mem]
  constructor
  · rintro (hp | hp | hp)
    · exact absurd (by have := h.lo p hp; rwa [hk] at this) (k_irr k)
    · exact hp
    · exact absurd (by have := h.hi p hp; rwa [hk] at this) (k_irr k)
  · exact fun hp => .inr (.inl hp)
theorem C3.off {m a e d : List PairD} {k : Key} (h : C3 m k a e d) {p : PairD} (hk : p.xKey ≠ k) : p ∈ m ↔ (p ∈ a ∨ p ∈ d) := by
  rw [h.mem]
  constructor
  · rintro (hp | hp | hp)
    · exact .inl hp
    · rcases h.mid with rfl | ⟨v, rfl⟩
      · cases hp
      · rw [List.mem_singleton.1 hp] at hk; exact absurd rfl hk
    · exact .inr hp
  · rintro (hp | hp)
    · exact .inl hp
    · exact .inr (.inr hp)
end Go.Proofs.Ytjcdgofegkngpaa
