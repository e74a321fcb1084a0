/-
  Contracts of alloc's Mark, Give, findRun, TakeRun, Take.
-/
import Derived.Test.YtnifihdnpmacjaaAlB
namespace Go.Proofs.Ytnifihdnpmacjaa
open Go.RowKit

/-- How many places are taken. -/
def cnt (f : Nat → Bool) : Nat → Nat
  | 0 => 0
  | n + 1 => cnt f n + if f n = true then 1 else 0

theorem cnt_le (f : Nat → Bool) : ∀ n, cnt f n ≤ n
  | 0 => Nat.le_refl _
  | n + 1 => by have := cnt_le f n; unfold cnt; split <;> omega
theorem cnt_congr {f f' : Nat → Bool} : ∀ {n : Nat}, (∀ i, i < n → f i = f' i) → cnt f n = cnt f' n
  | 0, _ => rfl
  | n + 1, h => by unfold cnt; rw [cnt_congr fun i hi => h i (by omega), h n (by omega)]
theorem cnt_flip (f : Nat → Bool) (i : Nat) : ∀ n, i < n → cnt (flip1 f i) n + (if f i = true then 1 else 0) = cnt f n + (if f i = true then 0 else 1)
  | 0, h => by omega
  | n + 1, h => by
    unfold cnt
    by_cases e : i = n
    · subst e
      rw [cnt_congr (f := flip1 f i) (f' := f) fun j hj => by unfold flip1; rw [if_neg (by omega)]]
      unfold flip1
      rw [if_pos rfl]
      cases f i <;> simp
    · have := cnt_flip f i n (by omega)
      have e2 : flip1 f i n = f n := by unfold flip1; rw [if_neg (by omega)]
      rw [e2]; omega
theorem cnt_zero : ∀ n, cnt (fun _ => false) n = 0
  | 0 => rfl
  | n + 1 => by unfold cnt; rw [cnt_zero n]; rfl

/-- An allocator whose count is right. -/
def Alc (w : World) (g P : Nat) (f : Nat → Bool) : Prop := Alc0 w g P ((cnt f P : Nat) : Int) f

def MarkP (g P : Nat) (w : World) (e : Ending) (w' : World) : Prop := ∃ (er : Int) (f' : Nat → Bool), e = .returned (.int .i64 er) ∧ Hid (Alc w' g P f') ∧ Hid (Upd g w w')

set_option maxHeartbeats 1000000 in
set_option maxRecDepth 100000 in
theorem Mark_any (g P : Nat) (i : Int) (f : Nat → Bool) (w : World) (h : Alc w g P f) (hP : P ≤ 1024) :
    Calls Try.prog 17 #[.pointer (some ⟨g, 0, none⟩), .int .i64 i] w (MarkP g P w) := by
  have K := Lib.hid (isPlace_any g P i _ f w h)
  by_cases h0 : 0 ≤ i ∧ i < (P : Int)
  · obtain ⟨n, rfl⟩ := Int.eq_ofNat_of_zero_le h0.1
    have e2 : decide (0 ≤ (n : Int) ∧ (n : Int) < (P : Int)) = true := by simp [h0]
    rw [e2] at K
    have hn : n < P := by omega
    have K2 := Lib.hid (set_any g P n _ f w h (by omega))
    cases hf : f n
    · rw [hf] at K2
      have K3 := Lib.hid (turn_any g P n _ f w h (by omega))
      have hc := cnt_flip f n P hn
      rw [hf] at hc
      have hcl := cnt_le f P
      have hc := Lib.hid hc
      clear e2 h h0 hf
      go_enter Try.func17, Try.ntmps17
      go_wp2_with fail
      refine K.out.mono ?_
      rintro e w1 ⟨rfl, rfl⟩
      go_wp2_with fail
      refine K2.out.mono ?_
      rintro e w1 ⟨rfl, rfl⟩
      go_wp2_with fail
      refine K3.out.mono ?_
      rintro e w1 ⟨rfl, ha, hu⟩
      have hT := ha.out.cT
      have hfr := ha.out.fr 1
      have hT2 := ha.out.setT ((cnt f P : Int) + 1)
      have HP : MarkP g P w (.returned (.int .i64 0)) (w1.setCell ⟨g, 1, none⟩ (.int .i64 ((cnt f P : Int) + 1))) := by
        refine ⟨_, flip1 f n, rfl, ?_, hu.out.trans (Upd.set g 1 w1 _)⟩
        show Alc0 _ _ _ _ _
        rw [show ((cnt (flip1 f n) P : Nat) : Int) = (cnt f P : Int) + 1 by have := hc.out; simp at this; omega]
        exact hT2
      have HP := Lib.hid HP
      clear K K2 K3 ha hu hT2 hc
      go_wp2
      go_ret
      exact HP.out
    · rw [hf] at K2
      have HP := Lib.hid (show MarkP g P w (.returned (.int .i64 6)) w from ⟨_, f, rfl, h, Upd.refl _ _⟩)
      clear e2 h h0 hf
      go_enter Try.func17, Try.ntmps17
      go_wp2_with fail
      refine K.out.mono ?_
      rintro e w1 ⟨rfl, rfl⟩
      go_wp2_with fail
      refine K2.out.mono ?_
      rintro e w1 ⟨rfl, rfl⟩
      go_wp2
      go_ret
      exact HP.out
  · have e2 : decide (0 ≤ i ∧ i < (P : Int)) = false := by simp only [h0, decide_false]
    rw [e2] at K
    have HP := Lib.hid (show MarkP g P w (.returned (.int .i64 5)) w from ⟨_, f, rfl, h, Upd.refl _ _⟩)
    clear e2 h h0
    go_enter Try.func17, Try.ntmps17
    go_wp2_with fail
    refine K.out.mono ?_
    rintro e w1 ⟨rfl, rfl⟩
    go_wp2
    go_ret
    exact HP.out

def GiveP (g P : Nat) (i : Int) (f : Nat → Bool) (w : World) (e : Ending) (w' : World) : Prop := ∃ (er : Int) (f' : Nat → Bool), e = .returned (.int .i64 er) ∧ Hid (er = if hasB P f i = true then 0 else 5) ∧ Hid (f' = if hasB P f i = true then flip1 f i.toNat else f) ∧ Hid (Alc w' g P f') ∧ Hid (Upd g w w')

set_option maxHeartbeats 1000000 in
set_option maxRecDepth 100000 in
theorem Give_any (g P : Nat) (i : Int) (f : Nat → Bool) (w : World) (h : Alc w g P f) (hP : P ≤ 1024) :
    Calls Try.prog 15 #[.pointer (some ⟨g, 0, none⟩), .int .i64 i] w (GiveP g P i f w) := by
  have K := Has_any g P i _ f w h hP
  cases hh : hasB P f i
  · rw [hh] at K
    have K := Lib.hid K
    have HP := Lib.hid (show GiveP g P i f w (.returned (.int .i64 5)) w from ⟨_, f, rfl, by rw [hh]; rfl, by rw [hh]; rfl, h, Upd.refl _ _⟩)
    clear hh h
    go_enter Try.func15, Try.ntmps15
    go_wp2_with fail
    refine K.out.mono ?_
    rintro e w1 ⟨rfl, rfl⟩
    go_wp2
    go_ret
    exact HP.out
  · rw [hh] at K
    have K := Lib.hid K
    have h1 := hh
    unfold hasB at h1
    simp only [Bool.and_eq_true, decide_eq_true_eq] at h1
    obtain ⟨⟨h2, h3⟩, h4⟩ := h1
    obtain ⟨n, rfl⟩ := Int.eq_ofNat_of_zero_le h2
    rw [Int.toNat_natCast] at h4
    have hn : n < P := by omega
    have hc := cnt_flip f n P hn
    rw [h4] at hc
    have hcl := cnt_le f P
    have K3 := Lib.hid (turn_any g P n _ f w h (by omega))
    have hc1 : 1 ≤ cnt f P := by simp at hc; omega
    have hc := Lib.hid hc
    have hh := Lib.hid hh
    clear h h2 h3 h4
    go_enter Try.func15, Try.ntmps15
    go_wp2_with fail
    refine K.out.mono ?_
    rintro e w1 ⟨rfl, rfl⟩
    go_wp2_with fail
    refine K3.out.mono ?_
    rintro e w1 ⟨rfl, ha, hu⟩
    have hT := ha.out.cT
    have hfr := ha.out.fr 1
    have hT2 := ha.out.setT ((cnt f P : Int) - 1)
    have HP : GiveP g P (n : Int) f w (.returned (.int .i64 0)) (w1.setCell ⟨g, 1, none⟩ (.int .i64 ((cnt f P : Int) - 1))) := by
      refine ⟨_, flip1 f n, rfl, by rw [hh.out]; rfl, by rw [hh.out]; rfl, ?_, hu.out.trans (Upd.set g 1 w1 _)⟩
      show Alc0 _ _ _ _ _
      rw [show ((cnt (flip1 f n) P : Nat) : Int) = (cnt f P : Int) - 1 by have := hc.out; simp at this; omega]
      exact hT2
    have HP := Lib.hid HP
    clear K K3 ha hu hT2 hc hh
    go_wp2
    go_ret
    exact HP.out
end Go.Proofs.Ytnifihdnpmacjaa
