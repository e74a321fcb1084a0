/-
  The reference's allocator in memory; contracts of its New, Has, Mark, Give, TakeRun.
-/
import Derived.Test.YtnifihdnpmacjaaAlK
namespace Go.Proofs.Ytnifihdnpmacjaa
open Go.RowKit

/-- The reference's allocator: block h says where its row is, block t is the row. -/
def RA (w : World) (h t P : Nat) (f : Nat → Bool) : Prop := h ≠ t ∧ w.heap[h]? = some (.cells #[.slice (some ⟨t, 0, none⟩) P P] 55 (0, 0)) ∧
  ∃ cur : Array Value, w.heap[t]? = some (.cells cur 4 (0, 0)) ∧ cur.size = P ∧ ∀ i, i < P → cur[i]? = some (.bool (f i))

theorem RA.lt {w : World} {h t P : Nat} {f : Nat → Bool} (r : RA w h t P f) : h < w.heap.size ∧ t < w.heap.size := by
  obtain ⟨_, h1, cur, h2, _⟩ := r
  exact ⟨(Array.getElem?_eq_some_iff.1 h1).1, (Array.getElem?_eq_some_iff.1 h2).1⟩
theorem RA.keep {w w' : World} {h t P : Nat} {f : Nat → Bool} (r : RA w h t P f) (e1 : w'.heap[h]? = w.heap[h]?) (e2 : w'.heap[t]? = w.heap[t]?) : RA w' h t P f := by
  obtain ⟨hne, h1, cur, h2, h3⟩ := r
  exact ⟨hne, e1.trans h1, cur, e2.trans h2, h3⟩
theorem RA.below {w w' : World} {h t P : Nat} {f : Nat → Bool} (r : RA w h t P f) (hb : Below w.heap.size w w') : RA w' h t P f := r.keep (hb.block h r.lt.1) (hb.block t r.lt.2)
theorem RA.upd {w w' : World} {h t g P : Nat} {f : Nat → Bool} (r : RA w h t P f) (hu : Upd g w w') (h1 : h ≠ g) (h2 : t ≠ g) : RA w' h t P f := r.keep (hu.2.2.2.2 h r.lt.1 h1) (hu.2.2.2.2 t r.lt.2 h2)
theorem RA.row {w : World} {h t P : Nat} {f : Nat → Bool} (r : RA w h t P f) : w.cell? ⟨h, 0, none⟩ = some (.slice (some ⟨t, 0, none⟩) P P) := by
  obtain ⟨_, h1, _⟩ := r
  rw [blk_cell h1]; rfl
theorem RA.bit {w : World} {h t P i : Nat} {f : Nat → Bool} (r : RA w h t P f) (hi : i < P) : w.cell? ⟨t, i, none⟩ = some (.bool (f i)) ∧ w.frozen? ⟨t, i, none⟩ = false := by
  obtain ⟨_, _, cur, h2, _, h3⟩ := r
  exact ⟨by rw [blk_cell h2]; exact h3 i hi, blk_frozen h2 i⟩
theorem RA.put {w : World} {h t P i : Nat} {f f' : Nat → Bool} {b : Bool} (r : RA w h t P f) (h1 : f' i = b) (h2 : ∀ j, j ≠ i → f' j = f j) : RA (w.setCell ⟨t, i, none⟩ (.bool b)) h t P f' := by
  obtain ⟨hne, q1, cur, q2, q3, q4⟩ := r
  refine ⟨hne, blk_far q1 hne _, _, blk_set q2 i _, by simpa using q3, fun j hj => ?_⟩
  by_cases e : j = i
  · subst e
    rw [Array.getElem?_setIfInBounds_self_of_lt (by omega), h1]
  · rw [Array.getElem?_setIfInBounds_ne (by omega), h2 j e]; exact q4 j hj

def rNewP (p : Int) (w : World) (e : Ending) (w' : World) : Prop :=
  (e = .returned (.tuple #[.pointer none, .int .i64 1]) ∧ (p < 1 ∨ 1024 < p) ∧ w = w') ∨
  ∃ P : Nat, p = (P : Int) ∧ 1 ≤ P ∧ P ≤ 1024 ∧ e = .returned (.tuple #[.pointer (some ⟨w.heap.size + 1, 0, none⟩), .int .i64 0]) ∧ Hid (RA w' (w.heap.size + 1) w.heap.size P (fun _ => false)) ∧ Below w.heap.size w w'

set_option maxHeartbeats 1000000 in
set_option maxRecDepth 100000 in
theorem rNew_any (p : Int) (w : World) : Calls Try.prog 9 #[.int .i64 p] w (rNewP p w) := by
  by_cases h0 : p < 1
  · have HP := Lib.hid (show rNewP p w (.returned (.tuple #[.pointer none, .int .i64 1])) w from .inl ⟨rfl, .inl h0, rfl⟩)
    go_enter Try.func9, Try.ntmps9
    go_wp2
    go_ret2
    exact HP.out
  · by_cases h1 : 1024 < p
    · have HP := Lib.hid (show rNewP p w (.returned (.tuple #[.pointer none, .int .i64 1])) w from .inl ⟨rfl, .inr h1, rfl⟩)
      go_enter Try.func9, Try.ntmps9
      go_wp2
      go_ret2
      exact HP.out
    · obtain ⟨P, rfl⟩ := Int.eq_ofNat_of_zero_le (show 0 ≤ p by omega)
      have hmk := fun W => run_make_row' (P := Try.prog) 53 4 (.bool false) 1 Try.underlying53 (by kernel_rfl) rfl .i64 .i64 P (by omega) (by omega) W
      have HP := Lib.hid (show rNewP (P : Int) w (.returned (.tuple #[.pointer (some ⟨w.heap.size + 1, 0, none⟩), .int .i64 0])) ((w.alloc (.cells (madeCells #[.bool false] P) 4)).alloc (.cells #[.slice (some ⟨w.heap.size, 0, none⟩) P P] 55)) from by
        refine .inr ⟨P, rfl, by omega, by omega, rfl, ⟨by omega, al2_1 w _ _, _, al2_0 w _ _, size_madeCells _ _, fun i hi => ?_⟩, al2_below w _ _⟩
        rw [← Array.getElem?_toList, toList_madeCells_one, List.getElem?_replicate, if_pos hi])
      go_enter Try.func9, Try.ntmps9
      go_wp2
      go_ret2
      exact HP.out

set_option maxHeartbeats 1000000 in
set_option maxRecDepth 100000 in
theorem rHas_any (h t P : Nat) (i : Int) (f : Nat → Bool) (w : World) (r : RA w h t P f) (hP : P ≤ 1024) :
    Calls Try.prog 29 #[.pointer (some ⟨h, 0, none⟩), .int .i64 i] w fun e w' => e = .returned (.bool (hasB P f i)) ∧ w = w' := by
  have hrow := r.row
  by_cases h0 : 0 ≤ i
  · obtain ⟨n, rfl⟩ := Int.eq_ofNat_of_zero_le h0
    by_cases h1 : n < P
    · have e : hasB P f (n : Int) = f n := by unfold hasB; have : decide (0 ≤ (n : Int) ∧ (n : Int) < (P : Int)) = true := by simp; omega
                                              rw [this, Bool.true_and, Int.toNat_natCast]
      have hb := (r.bit h1).1
      rw [e]
      clear e r
      go_enter Try.func29, Try.ntmps29
      go_wp2
      go_ret
      exact ⟨by simp, rfl⟩
    · have e : hasB P f (n : Int) = false := by unfold hasB; have : decide (0 ≤ (n : Int) ∧ (n : Int) < (P : Int)) = false := by simp; omega
                                                rw [this, Bool.false_and]
      rw [e]
      clear e r
      go_enter Try.func29, Try.ntmps29
      go_wp2
      go_ret
      exact ⟨by simp, rfl⟩
  · have e : hasB P f i = false := by unfold hasB; have : decide (0 ≤ i ∧ i < (P : Int)) = false := by simp; omega
                                      rw [this, Bool.false_and]
    rw [e]
    clear e r
    go_enter Try.func29, Try.ntmps29
    go_wp2
    go_ret
    exact ⟨by simp, rfl⟩

/-- What Mark tells, and makes. -/
def mrkE (P : Nat) (f : Nat → Bool) (i : Int) : Int := if 0 ≤ i ∧ i < (P : Int) then (if f i.toNat = true then 6 else 0) else 5
def mrkF (P : Nat) (f : Nat → Bool) (i : Int) : Nat → Bool := if (0 ≤ i ∧ i < (P : Int)) ∧ f i.toNat = false then flip1 f i.toNat else f
def givE (P : Nat) (f : Nat → Bool) (i : Int) : Int := if hasB P f i = true then 0 else 5
def givF (P : Nat) (f : Nat → Bool) (i : Int) : Nat → Bool := if hasB P f i = true then flip1 f i.toNat else f

set_option maxHeartbeats 1000000 in
set_option maxRecDepth 100000 in
theorem rMark_any (h t P : Nat) (i : Int) (f : Nat → Bool) (w : World) (r : RA w h t P f) (hP : P ≤ 1024) :
    Calls Try.prog 18 #[.pointer (some ⟨h, 0, none⟩), .int .i64 i] w fun e w' => e = .returned (.int .i64 (mrkE P f i)) ∧ Hid (RA w' h t P (mrkF P f i)) ∧ Hid (Upd t w w') := by
  have hrow := r.row
  by_cases h0 : 0 ≤ i ∧ i < (P : Int)
  · obtain ⟨n, rfl⟩ := Int.eq_ofNat_of_zero_le h0.1
    have h1 : n < P := by omega
    obtain ⟨hb, hfr⟩ := r.bit h1
    cases hf : f n
    · have e1 : mrkE P f (n : Int) = 0 := by unfold mrkE; rw [if_pos h0, Int.toNat_natCast, hf]; rfl
      have e2 : mrkF P f (n : Int) = flip1 f n := by unfold mrkF; rw [if_pos ⟨h0, by rw [Int.toNat_natCast]; exact hf⟩, Int.toNat_natCast]
      have HR := Lib.hid (r.put (i := n) (f' := flip1 f n) (b := true) (by unfold flip1; rw [if_pos rfl, hf]; rfl) (fun j hj => by unfold flip1; rw [if_neg hj]))
      rw [e1, e2]
      rw [hf] at hb
      clear e1 e2 r h0 hf
      go_enter Try.func18, Try.ntmps18
      go_wp2
      go_ret
      exact ⟨rfl, HR.out, Upd.set t n w _⟩
    · have e1 : mrkE P f (n : Int) = 6 := by unfold mrkE; rw [if_pos h0, Int.toNat_natCast, hf]; rfl
      have e2 : mrkF P f (n : Int) = f := by unfold mrkF; rw [if_neg (fun h => by rw [Int.toNat_natCast, hf] at h; cases h.2)]
      have HR := Lib.hid r
      rw [e1, e2]
      rw [hf] at hb
      clear e1 e2 r h0 hf
      go_enter Try.func18, Try.ntmps18
      go_wp2
      go_ret
      exact ⟨rfl, HR.out, Upd.refl _ _⟩
  · have e1 : mrkE P f i = 5 := by unfold mrkE; rw [if_neg h0]
    have e2 : mrkF P f i = f := by unfold mrkF; rw [if_neg (fun h => h0 h.1)]
    have HR := Lib.hid r
    rw [e1, e2]
    clear e1 e2 r
    by_cases h2 : i < 0
    · clear h0
      go_enter Try.func18, Try.ntmps18
      go_wp2
      go_ret
      exact ⟨rfl, HR.out, Upd.refl _ _⟩
    · have h3 : (P : Int) ≤ i := by omega
      clear h0
      go_enter Try.func18, Try.ntmps18
      go_wp2
      go_ret
      exact ⟨rfl, HR.out, Upd.refl _ _⟩

set_option maxHeartbeats 1000000 in
set_option maxRecDepth 100000 in
theorem rGive_any (h t P : Nat) (i : Int) (f : Nat → Bool) (w : World) (r : RA w h t P f) (hP : P ≤ 1024) :
    Calls Try.prog 16 #[.pointer (some ⟨h, 0, none⟩), .int .i64 i] w fun e w' => e = .returned (.int .i64 (givE P f i)) ∧ Hid (RA w' h t P (givF P f i)) ∧ Hid (Upd t w w') := by
  have hrow := r.row
  have K := rHas_any h t P i f w r hP
  unfold givE givF
  cases hh : hasB P f i
  · rw [hh] at K
    replace K := Lib.hid K
    have HR := Lib.hid r
    rw [if_neg (by simp), if_neg (by simp)]
    clear hh r
    go_enter Try.func16, Try.ntmps16
    go_wp2_with fail
    refine K.out.mono ?_
    rintro e w1 ⟨rfl, rfl⟩
    go_wp2
    go_ret
    exact ⟨rfl, HR.out, Upd.refl _ _⟩
  · rw [hh] at K
    replace K := Lib.hid K
    have h1 := hh
    unfold hasB at h1
    simp only [Bool.and_eq_true, decide_eq_true_eq] at h1
    obtain ⟨⟨h2, h3⟩, h4⟩ := h1
    obtain ⟨n, rfl⟩ := Int.eq_ofNat_of_zero_le h2
    rw [Int.toNat_natCast] at h4
    have hn : n < P := by omega
    obtain ⟨hb, hfr⟩ := r.bit hn
    have HR := Lib.hid (r.put (i := n) (f' := flip1 f n) (b := false) (by unfold flip1; rw [if_pos rfl, h4]; rfl) (fun j hj => by unfold flip1; rw [if_neg hj]))
    rw [if_pos rfl, if_pos rfl, Int.toNat_natCast]
    rw [h4] at hb
    clear hh r h2 h3 h4
    go_enter Try.func16, Try.ntmps16
    go_wp2_with fail
    refine K.out.mono ?_
    rintro e w1 ⟨rfl, rfl⟩
    go_wp2
    go_ret
    exact ⟨rfl, HR.out, Upd.set t n w _⟩
end Go.Proofs.Ytnifihdnpmacjaa
