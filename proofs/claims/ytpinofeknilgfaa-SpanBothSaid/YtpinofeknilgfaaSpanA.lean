/-
  Contracts of span.CheckKey, Check, below, lesserHi, Has.
-/
import Derived.Test.YtpinofeknilgfaaBase
import Derived.Deep.RegionWith
namespace Go.Proofs.Ytpinofeknilgfaa
open Go.RowKit

def em (s : ByteArray) : Bool := s.toList.isEmpty
def lt (a b : ByteArray) : Bool := Op.bytesLess a.toList b.toList
def eqS (a b : ByteArray) : Bool := a.toList == b.toList
def okK (k : ByteArray) : Bool := decide (1 ≤ k.size) && decide (k.size ≤ 12)
def okR (lo hi : ByteArray) : Bool := (em lo || okK lo) && (em hi || (okK hi && !(lt hi lo || eqS hi lo)))

theorem below_alloc (w : World) (o : Obj) : Below w.heap.size w (w.alloc o) := (Below.refl _ _).alloc (Nat.le_refl _) o
theorem hid' {p : Prop} (h : p) : Hid p := h

theorem CheckKey_yes (k : ByteArray) (h : okK k = true) (w : World) : Calls Try.prog 12 #[.string k] w fun e w' => e = .returned (.int .i64 0) ∧ w = w' := by
  have h1 : 1 ≤ k.size ∧ k.size ≤ 12 := by simpa [okK] using h
  obtain ⟨h1, h2⟩ := h1
  clear h
  go_enter Try.func12, Try.ntmps12
  go_wp2
  go_ret
  exact ⟨rfl, rfl⟩

theorem CheckKey_no (k : ByteArray) (h : okK k = false) (w : World) : Calls Try.prog 12 #[.string k] w fun e w' => e = .returned (.int .i64 20) ∧ w = w' := by
  by_cases h1 : k.size < 1
  · clear h
    go_enter Try.func12, Try.ntmps12
    go_wp2
    go_ret
    exact ⟨rfl, rfl⟩
  · have h2 : 12 < k.size := by
      simp [okK] at h; omega
    clear h
    go_enter Try.func12, Try.ntmps12
    go_wp2
    go_ret
    exact ⟨rfl, rfl⟩

theorem CheckKey_any (k : ByteArray) (w : World) : Calls Try.prog 12 #[.string k] w fun e w' => e = .returned (.int .i64 (if okK k = true then 0 else 20)) ∧ w = w' := by
  cases h : okK k
  · simpa using CheckKey_no k h w
  · simpa using CheckKey_yes k h w

theorem CheckKey_b (k : ByteArray) {b : Bool} (h : okK k = b) (w : World) : Calls Try.prog 12 #[.string k] w fun e w' => e = .returned (.int .i64 (cond b 0 20)) ∧ w = w' := by
  cases b
  · exact CheckKey_no k h w
  · exact CheckKey_yes k h w

set_option maxHeartbeats 1000000 in
theorem Check_any (lo hi : ByteArray) (w : World) : Calls Try.prog 14 #[.agg #[.string lo, .string hi]] w fun e w' => e = .returned (.int .i64 (if okR lo hi = true then 0 else 21)) ∧ Below w.heap.size w w' := by
  have hcl : (em lo = false ∧ okK lo = false) ∨ (em lo = true ∨ (em lo = false ∧ okK lo = true)) := by cases em lo <;> cases okK lo <;> simp
  have hch : (em hi = true) ∨ (em hi = false ∧ okK hi = false) ∨ (em hi = false ∧ okK hi = true ∧ (lt hi lo || eqS hi lo) = true) ∨ (em hi = false ∧ okK hi = true ∧ (lt hi lo || eqS hi lo) = false) := by
    cases em hi <;> cases okK hi <;> cases (lt hi lo || eqS hi lo) <;> simp
  rcases hcl with ⟨hl, hk⟩ | hcl
  · have e : okR lo hi = false := by simp [okR, hl, hk]
    rw [e]
    have hl' : lo.toList.isEmpty = false := hl
    clear hl e
    go_enter Try.func14, Try.ntmps14
    go_wp2_with (go_at_call 12; refine (CheckKey_no _ hk _).mono ?_; rintro e w' ⟨rfl, rfl⟩)
    go_ret
    exact ⟨rfl, below_alloc _ _⟩
  · rcases hch with hh | ⟨hh, hkh⟩ | ⟨hh, hkh, hc⟩ | ⟨hh, hkh, hc⟩
    all_goals
      rcases hcl with hl | ⟨hl, hk⟩
    all_goals
      have e := show okR lo hi = _ from by simp only [okR, *]; rfl
      rw [e]
      have hl' : lo.toList.isEmpty = _ := hl
      have hh' : hi.toList.isEmpty = _ := hh
      try (have hc' : (Op.bytesLess hi.toList lo.toList || hi.toList == lo.toList) = _ := hc)
      clear hl hh e
      try clear hc
      go_enter Try.func14, Try.ntmps14
      go_wp2_with (first | (go_at_call_of 12 lo; refine (CheckKey_b lo hk _).mono ?_; rintro e w' ⟨rfl, rfl⟩; dsimp only [cond]) | (go_at_call_of 12 hi; refine (CheckKey_b hi hkh _).mono ?_; rintro e w' ⟨rfl, rfl⟩; dsimp only [cond]))
      go_ret
      exact ⟨rfl, below_alloc _ _⟩
end Go.Proofs.Ytpinofeknilgfaa
