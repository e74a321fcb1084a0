/-
  Contracts of the reference's TakeRun, Used, Bits.
-/
import Derived.Test.YtnifihdnpmacjaaAlM
import Derived.Test.YtnifihdnpmacjaaAlF
import Derived.Test.YtnifihdnpmacjaaAlH
import Derived.Deep.LoopGhost
namespace Go.Proofs.Ytnifihdnpmacjaa
open Go.RowKit

def rTakeP (h t P : Nat) (n : Int) (f : Nat → Bool) (w : World) (e : Ending) (w' : World) : Prop :=
  (∃ er : Int, e = .returned (.tuple #[.int .i64 0, .int .i64 er]) ∧ ((n < 1 ∧ er = 1) ∨ (1 ≤ n ∧ er = 62 ∧ ∀ m' : Nat, (m' : Int) + n ≤ (P : Int) → ¬ Fr f m' n.toNat)) ∧ w = w') ∨
  (∃ m k : Nat, n = (k : Int) ∧ 1 ≤ k ∧ e = .returned (.tuple #[.int .i64 (m : Int), .int .i64 0]) ∧ m + k ≤ P ∧ Fr f m k ∧ (∀ m', m' < m → ¬ Fr f m' k) ∧ Hid (RA w' h t P (fill f m k)) ∧ Hid (Upd t w w'))

theorem fill_step (f : Nat → Bool) (m n : Nat) : fill f m (n + 1) (m + n) = true ∧ ∀ j, j ≠ m + n → fill f m (n + 1) j = fill f m n j := by
  refine ⟨?_, fun j hj => ?_⟩
  · unfold fill
    have z1 : decide (m ≤ m + n) = true := by simp
    have z2 : decide (m + n < m + (n + 1)) = true := by simp
    rw [z1, z2]; simp
  · unfold fill
    congr 2
    have : decide (j < m + (n + 1)) = decide (j < m + n) := by simp; omega
    exact this

set_option maxHeartbeats 1000000 in
set_option maxRecDepth 100000 in
theorem rTake_any (h t P : Nat) (n : Int) (f : Nat → Bool) (w : World) (r : RA w h t P f) (hP : P ≤ 1024) (hn1 : -9223372036854775808 ≤ n) (hn2 : n ≤ 9223372036854775807) :
    Calls Try.prog 13 #[.pointer (some ⟨h, 0, none⟩), .int .i64 n] w (rTakeP h t P n f w) := by
  by_cases hn : n < 1
  · have HP := Lib.hid (show rTakeP h t P n f w (.returned (.tuple #[.int .i64 0, .int .i64 1])) w from .inl ⟨_, rfl, .inl ⟨hn, rfl⟩, rfl⟩)
    clear r
    go_enter Try.func13, Try.ntmps13
    go_wp2
    go_ret2
    exact HP.out
  · obtain ⟨k, rfl⟩ := Int.eq_ofNat_of_zero_le (show 0 ≤ n by omega)
    have hrow := r.row
    have R := Lib.hid r
    clear r
    go_enter Try.func13, Try.ntmps13
    go_wp2
    go_loopg [6] 3000 (fun q i wr => wr = w ∧ ∃ m : Nat, q + m = 3000 ∧ m ≤ P ∧ i = .int .i64 (m : Int) ∧ Hid (∀ m', m' < m → ¬ Fr f m' k))
    case atStart => exact ⟨rfl, 0, by omega, by omega, rfl, fun m' hm => absurd hm (Nat.not_lt_zero _)⟩
    case round =>
      obtain ⟨rfl, m, hq, hm, rfl, hno⟩ := hrel
      obtain ⟨g1, hg1⟩ : ∃ x, x = gk := ⟨_, rfl⟩
      subst hg1
      obtain ⟨w0, hw0⟩ : ∃ x, x = wr := ⟨_, rfl⟩
      subst hw0
      by_cases h1 : m + k ≤ P
      · have t1 : (k : Int) ≤ (P : Int) - (m : Int) := by omega
        go_wp2
        go_loopg [7, 8] (4000 - m) (fun q fr i wr => wr = w0 ∧ ∃ (b : Bool) (d : Nat), q + d = 4000 ∧ m ≤ d ∧ d ≤ m + k ∧ i = .int .i64 (d : Int) ∧ fr = .bool b ∧ Hid (FrB f m d b))
        case atStart => exact ⟨rfl, true, m, by omega, by omega, by omega, rfl, rfl, FrB.zero f m⟩
        case round =>
          obtain ⟨hwr, b, d, hq2, hd1, hd2, rfl, rfl, hfr⟩ := hrel
          replace hwr := hwr.symm
          subst hwr
          have hst := hfr.out.step hd1
          by_cases h2 : d < m + k
          · cases b
            · replace hst := Lib.hid (show FrB f m (d + 1) false from hst)
              go_wp2
              go_roundg (gk - 1)
              case measure => omega
              case rel => exact ⟨rfl, false, d + 1, by omega, by omega, by omega, by go_num, rfl, hst.out⟩
            · have hbit := (R.out.bit (show d < P by omega)).1
              cases hf : f d
              · rw [hf] at hst hbit
                replace hst := Lib.hid (show FrB f m (d + 1) true from hst)
                go_wp2
                go_roundg (gk - 1)
                case measure => omega
                case rel => exact ⟨rfl, true, d + 1, by omega, by omega, by omega, by go_num, rfl, hst.out⟩
              · rw [hf] at hst hbit
                replace hst := Lib.hid (show FrB f m (d + 1) false from hst)
                go_wp2
                go_roundg (gk - 1)
                case measure => omega
                case rel => exact ⟨rfl, false, d + 1, by omega, by omega, by omega, by go_num, rfl, hst.out⟩
          · obtain rfl : d = m + k := by omega
            cases b
            · have hno2 : Hid (∀ m', m' < m + 1 → ¬ Fr f m' k) := fun m' hm' hh => by
                by_cases e : m' = m
                · subst e
                  have := hfr.out.2 hh
                  cases this
                · exact hno.out m' (by omega) hh
              clear hst hfr hno
              go_wp2
              go_roundg (g1 - 1)
              case measure => omega
              case rel => exact ⟨rfl, m + 1, by omega, by omega, by go_num, hno2.out⟩
            · have hfree := Lib.hid (hfr.out.1 rfl)
              clear hst hfr
              go_wp2_with fail
              go_loopg [9] (4000 - m) (fun q i wr => ∃ d : Nat, q + m + d = 4000 ∧ d ≤ k ∧ i = .int .i64 ((m : Int) + (d : Int)) ∧ Hid (RA wr h t P (fill f m d)) ∧ Hid (Upd t w0 wr))
              case atStart => exact ⟨0, by omega, by omega, by go_num, by rw [fill_zero]; exact R.out, Upd.refl _ _⟩
              case round =>
                obtain ⟨d, hq3, hd, rfl, hR, hU⟩ := hrel
                have hrow2 := hR.out.row
                by_cases h3 : d < k
                · obtain ⟨hb, hfr⟩ := hR.out.bit (show m + d < P by omega)
                  obtain ⟨s1, s2⟩ := fill_step f m d
                  have hR2 := hR.out.put (i := m + d) s1 s2
                  have hU2 := hU.out.trans (Upd.set t (m + d) wr (.bool true))
                  obtain ⟨z, hz⟩ : ∃ z, m + d = z := ⟨_, rfl⟩
                  rw [hz] at hb hfr hR2 hU2
                  have hz2 : (m : Int) + (d : Int) = (z : Int) := by omega
                  have hzP : z < P := by omega
                  replace hR2 := Lib.hid hR2
                  replace hU2 := Lib.hid hU2
                  have hzz := Lib.hid hz
                  clear hR hU s1 s2 hz hrow
                  rw [hz2]
                  have t3 : (z : Int) < (m : Int) + (k : Int) := by omega
                  clear hz2
                  go_wp2
                  go_roundg (gk - 1)
                  case measure => omega
                  case rel => exact ⟨d + 1, by omega, by omega, by have := hzz.out; go_num, hR2.out, hU2.out⟩
                · obtain rfl : d = k := by omega
                  have HP : rTakeP h t P (d : Int) f w0 (.returned (.tuple #[.int .i64 (m : Int), .int .i64 0])) wr :=
                    .inr ⟨m, d, rfl, by omega, rfl, by omega, hfree.out, hno.out, hR.out, hU.out⟩
                  replace HP := Lib.hid HP
                  clear hR hU hfree hno
                  go_wp2
                  go_ret2
                  exact HP.out
      · have t1 : ¬ (k : Int) ≤ (P : Int) - (m : Int) := by omega
        have HP := Lib.hid (show rTakeP h t P (k : Int) f w0 (.returned (.tuple #[.int .i64 0, .int .i64 62])) w0 from .inl ⟨_, rfl, .inr ⟨by omega, rfl, fun m' hm' => by rw [Int.toNat_natCast]; exact hno.out m' (by omega)⟩, rfl⟩)
        clear hno
        go_wp2
        go_ret2
        exact HP.out
end Go.Proofs.Ytnifihdnpmacjaa
