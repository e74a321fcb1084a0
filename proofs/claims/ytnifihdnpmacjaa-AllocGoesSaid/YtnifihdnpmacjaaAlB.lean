/-
  Contracts of alloc's turn, isPlace, Has, Left, New.
-/
import Derived.Test.YtnifihdnpmacjaaAlA
namespace Go.Proofs.Ytnifihdnpmacjaa
open Go.RowKit

set_option maxHeartbeats 1000000 in
set_option maxRecDepth 100000 in
theorem turn_any (g P i : Nat) (T : Int) (f : Nat → Bool) (w : World) (h : Alc0 w g P T f) (hi : i < 1024) :
    Calls Try.prog 28 #[.pointer (some ⟨g, 0, none⟩), .int .i64 (i : Int)] w fun e w' => e = .returned (.tuple #[]) ∧ Hid (Alc0 w' g P T (flip1 f i)) ∧ Hid (Upd g w w') := by
  obtain ⟨k, hk⟩ : ∃ k, i / 8 = k := ⟨_, rfl⟩
  obtain ⟨r, hr⟩ : ∃ r, i % 8 = r := ⟨_, rfl⟩
  have hk128 : k < 128 := by omega
  have hr8 : r < 8 := by omega
  obtain ⟨x, hc, hb⟩ := h.cB hk128
  have hf := h.fr (2 + k)
  have hp2 : 2 ^ r < 256 := by have := Nat.pow_lt_pow_right (a := 2) (by decide) hr8; simpa using this
  have hlt : x.toNat ^^^ 2 ^ r < 256 := Nat.xor_lt_two_pow (n := 8) x.toNat_lt hp2
  obtain ⟨y, hye⟩ : ∃ y : UInt8, y.toNat = x.toNat ^^^ 2 ^ r := ⟨UInt8.ofNat _, ofNat_toNat hlt⟩
  have hxor := u8_xor_nat x.toNat (2 ^ r) x.toNat_lt hp2
  rw [← hye] at hxor
  have hxor' : bits BinOp.xor IntKind.u8 (x.toNat : Int) (2 ^ r) = (y.toNat : Int) := by simpa using hxor
  have hs1 : IntKind.u8.wrap (2 ^ r) = 2 ^ r := by
    rw [IntKind.wrap_u8']
    have : ((2 ^ r : Nat) : Int) < 256 := by exact_mod_cast hp2
    have h0 : (0 : Int) ≤ ((2 ^ r : Nat) : Int) := Int.natCast_nonneg _
    push_cast at this h0
    omega
  have hA := Lib.hid (h.setB (f' := flip1 f i) hk128 y (fun r' hr' => by
    rw [hye, Nat.testBit_xor, Nat.testBit_two_pow, hb r' hr']
    unfold flip1
    by_cases e : r = r'
    · subst e
      rw [if_pos (by omega)]
      simp
    · rw [if_neg (by omega)]
      simp [e]) (fun j hj => by unfold flip1; rw [if_neg (by omega)]))
  have e1 : (i : Int) / 8 = (k : Int) := by omega
  have e2 : (i : Int).tdiv 8 = (k : Int) := by rw [Int.tdiv_eq_ediv_of_nonneg (by omega)]; exact e1
  have e3 : (i : Int) % 8 = (r : Int) := by omega
  have e4 : (i : Int).tmod 8 = (r : Int) := by rw [Int.tmod_eq_emod_of_nonneg (by omega)]; exact e3
  have e6 : IntKind.i64.wrap (k : Int) = (k : Int) := by rw [IntKind.wrap_i64]; omega
  have e7 : IntKind.i64.wrap (r : Int) = (r : Int) := by rw [IntKind.wrap_i64]; omega
  have e8 : IntKind.u64.wrap (r : Int) = (r : Int) := by simp [IntKind.wrap, IntKind.bits, IntKind.signed]; omega
  have k0 : (0 : Int) ≤ (k : Int) := by omega
  have k1 : (k : Int) < 128 := by omega
  clear hk hr hye hp2 hlt hxor hb h
  go_enter Try.func28, Try.ntmps28
  go_wp2_with fail
  go_region_with (fail)
  clear hc hf hxor' hs1 e1 e2 e3 e4 e6 e7 e8
  go_wp2
  exact bodyPost_end (v := .tuple #[]) (by simp [results, Try.results28, go_sem]) rfl ⟨rfl, hA.out.drew, (Upd.set g (2 + k) w _).drew⟩

set_option maxHeartbeats 1000000 in
set_option maxRecDepth 100000 in
theorem isPlace_any (g P : Nat) (i : Int) (T : Int) (f : Nat → Bool) (w : World) (h : Alc0 w g P T f) :
    Calls Try.prog 30 #[.pointer (some ⟨g, 0, none⟩), .int .i64 i] w fun e w' => e = .returned (.bool (decide (0 ≤ i ∧ i < (P : Int)))) ∧ w = w' := by
  have hc := h.cP
  clear h
  by_cases h0 : 0 ≤ i
  · by_cases h1 : i < (P : Int)
    · have e : decide (0 ≤ i ∧ i < (P : Int)) = true := by simp [h0, h1]
      rw [e]
      clear e
      go_enter Try.func30, Try.ntmps30
      go_wp2
      go_ret
      exact ⟨rfl, rfl⟩
    · have e : decide (0 ≤ i ∧ i < (P : Int)) = false := by simp [h1]
      rw [e]
      clear e
      go_enter Try.func30, Try.ntmps30
      go_wp2
      go_ret
      exact ⟨rfl, rfl⟩
  · have e : decide (0 ≤ i ∧ i < (P : Int)) = false := by simp [h0]
    rw [e]
    clear e
    go_enter Try.func30, Try.ntmps30
    go_wp2
    go_ret
    exact ⟨rfl, rfl⟩

/-- Whether a place is taken. -/
def hasB (P : Nat) (f : Nat → Bool) (i : Int) : Bool := decide (0 ≤ i ∧ i < (P : Int)) && f i.toNat

set_option maxHeartbeats 1000000 in
set_option maxRecDepth 100000 in
theorem Has_any (g P : Nat) (i : Int) (T : Int) (f : Nat → Bool) (w : World) (h : Alc0 w g P T f) (hP : P ≤ 1024) :
    Calls Try.prog 21 #[.pointer (some ⟨g, 0, none⟩), .int .i64 i] w fun e w' => e = .returned (.bool (hasB P f i)) ∧ w = w' := by
  have K := Lib.hid (isPlace_any g P i T f w h)
  by_cases h0 : 0 ≤ i ∧ i < (P : Int)
  · obtain ⟨n, rfl⟩ := Int.eq_ofNat_of_zero_le h0.1
    have e : hasB P f (n : Int) = f n := by unfold hasB; simp [h0]
    have e2 : decide (0 ≤ (n : Int) ∧ (n : Int) < (P : Int)) = true := by simp [h0]
    rw [e2] at K
    rw [e]
    have K2 := Lib.hid (set_any g P n T f w h (by omega))
    clear e e2 h h0
    go_enter Try.func21, Try.ntmps21
    go_wp2_with fail
    refine K.out.mono ?_
    rintro e w1 ⟨rfl, rfl⟩
    go_wp2_with fail
    refine K2.out.mono ?_
    rintro e w1 ⟨rfl, rfl⟩
    go_wp2
    go_ret
    exact ⟨rfl, rfl⟩
  · have e : hasB P f i = false := by unfold hasB; simp [h0]
    have e2 : decide (0 ≤ i ∧ i < (P : Int)) = false := by simp only [h0, decide_false]
    rw [e2] at K
    rw [e]
    clear e e2 h h0
    go_enter Try.func21, Try.ntmps21
    go_wp2_with fail
    refine K.out.mono ?_
    rintro e w1 ⟨rfl, rfl⟩
    go_wp2
    go_ret
    exact ⟨rfl, rfl⟩

set_option maxHeartbeats 1000000 in
theorem Left_any (g P : Nat) (T : Int) (f : Nat → Bool) (w : World) (h : Alc0 w g P T f) (hP : P ≤ 1024) (hT : 0 ≤ T) (hT2 : T ≤ 1024) :
    Calls Try.prog 22 #[.pointer (some ⟨g, 0, none⟩)] w fun e w' => e = .returned (.int .i64 ((P : Int) - T)) ∧ Below w.heap.size w w' := by
  have h0 := h.cP
  have h1 := h.cT
  clear h
  have e : IntKind.i64.wrap ((P : Int) - T) = (P : Int) - T := by rw [IntKind.wrap_i64]; omega
  go_enter Try.func22, Try.ntmps22
  go_wp2_with fail
  go_quiet (fail)
  go_wp2
  go_ret
  exact ⟨rfl, ⟨rfl, rfl, rfl, Nat.le_refl _, fun _ _ => rfl⟩⟩

/-- What New answers. -/
def NewP (p : Int) (w : World) (e : Ending) (w' : World) : Prop :=
  (e = .returned (.tuple #[.pointer none, .int .i64 1]) ∧ (p < 1 ∨ 1024 < p) ∧ w = w') ∨
  ∃ P : Nat, p = (P : Int) ∧ 1 ≤ P ∧ P ≤ 1024 ∧ e = .returned (.tuple #[.pointer (some ⟨w.heap.size, 0, none⟩), .int .i64 0]) ∧ Hid (Alc0 w' w.heap.size P 0 (fun _ => false)) ∧ Below w.heap.size w w'

set_option maxHeartbeats 1000000 in
set_option maxRecDepth 100000 in
theorem New_any (p : Int) (w : World) : Calls Try.prog 8 #[.int .i64 p] w (NewP p w) := by
  by_cases h0 : p < 1
  · have HP := Lib.hid (show NewP p w (.returned (.tuple #[.pointer none, .int .i64 1])) w from .inl ⟨rfl, .inl h0, rfl⟩)
    go_enter Try.func8, Try.ntmps8
    go_wp2
    go_ret2
    exact HP.out
  · by_cases h1 : 1024 < p
    · have HP := Lib.hid (show NewP p w (.returned (.tuple #[.pointer none, .int .i64 1])) w from .inl ⟨rfl, .inr h1, rfl⟩)
      go_enter Try.func8, Try.ntmps8
      go_wp2
      go_ret2
      exact HP.out
    · have hz : ∀ W : World, (zeroValue 52).run Try.prog W = .ok (.agg (#[.int .i64 0, .int .i64 0] ++ Array.replicate 128 (.int .u8 0))) W := fun _ => by kernel_rfl
      obtain ⟨z, hzz⟩ : ∃ z : Array Value, #[.int .i64 0, .int .i64 0] ++ Array.replicate 128 (.int .u8 0) = z := ⟨_, rfl⟩
      rw [hzz] at hz
      have hsz : z.size = 130 := by rw [← hzz]; simp
      have hne : ¬ z = #[] := fun h => by rw [h] at hsz; simp at hsz
      obtain ⟨P, rfl⟩ := Int.eq_ofNat_of_zero_le (show 0 ≤ p by omega)
      have HP := Lib.hid (show NewP (P : Int) w (.returned (.tuple #[.pointer (some ⟨w.heap.size, 0, none⟩), .int .i64 0])) (w.alloc (.cells (z.setIfInBounds 0 (.int .i64 (P : Int))) 52)) from by
        refine .inr ⟨P, rfl, by omega, by omega, rfl, ?_, (Below.refl _ _).alloc (Nat.le_refl _) _⟩
        refine ⟨_, heap_alloc_new w _, by simpa using hsz, by rw [Array.getElem?_setIfInBounds_self_of_lt (by omega)], ?_, fun k hk => ⟨0, ?_, fun r hr => ?_⟩⟩
        · rw [Array.getElem?_setIfInBounds_ne (by omega), ← hzz]; rfl
        · rw [Array.getElem?_setIfInBounds_ne (by omega), ← hzz, Array.getElem?_append_right (by simp)]
          simp [Array.getElem?_replicate]
          exact ⟨by omega, rfl⟩
        · simp)
      have hsz := Lib.hid hsz
      clear hzz
      go_enter Try.func8, Try.ntmps8
      go_wp2
      go_ret2
      exact HP.out
end Go.Proofs.Ytnifihdnpmacjaa
