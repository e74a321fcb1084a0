/-
  Contracts of alloc's findRun, TakeRun, Take.
-/
import Derived.Test.YtnifihdnpmacjaaAlC
import Derived.Deep.LoopGhost
import Derived.WalkMore
namespace Go.Proofs.Ytnifihdnpmacjaa
open Go.RowKit

/-- Side by side from m on so many are free. -/
def Fr (f : Nat → Bool) (m n : Nat) : Prop := ∀ k, m ≤ k → k < m + n → f k = false

def FindP (P : Nat) (n : Int) (f : Nat → Bool) (w : World) (e : Ending) (w' : World) : Prop :=
  (∃ m : Nat, e = .returned (.tuple #[.int .i64 (m : Int), .bool true]) ∧ (m : Int) + n ≤ (P : Int) ∧ Fr f m n.toNat ∧ (∀ m', m' < m → ¬ Fr f m' n.toNat) ∧ w = w') ∨
  (e = .returned (.tuple #[.int .i64 0, .bool false]) ∧ (∀ m' : Nat, (m' : Int) + n ≤ (P : Int) → ¬ Fr f m' n.toNat) ∧ w = w')

set_option maxHeartbeats 1000000 in
set_option maxRecDepth 100000 in
theorem findRun_any (g P : Nat) (n : Int) (T : Int) (f : Nat → Bool) (w : World) (h : Alc0 w g P T f) (hP : P ≤ 1024) (hn : 1 ≤ n) (hn2 : n ≤ 9223372036854775807) :
    Calls Try.prog 27 #[.pointer (some ⟨g, 0, none⟩), .int .i64 n] w (FindP P n f w) := by
  have hc := h.cP
  have K := Lib.hid (fun i (hi : i < 1024) => set_any g P i T f w h hi)
  clear h
  go_enter Try.func27, Try.ntmps27
  go_wp2
  go_step3
  go_wp2
  go_step3
  go_wp2
  go_loopg [6, 7, 8] 2000 (fun k r o i wr => wr = w ∧ ∃ m : Nat, k + m = 2000 ∧ m ≤ P + 1 ∧ r = .int .i64 0 ∧ o = .bool false ∧ i = .int .i64 (m : Int) ∧ Hid (∀ m', m' < m → ¬ Fr f m' n.toNat))
  case atStart => exact ⟨rfl, 0, by omega, by omega, rfl, rfl, rfl, fun m' hm => absurd hm (Nat.not_lt_zero _)⟩
  case round =>
    obtain ⟨rfl, m, hk, hm, rfl, rfl, rfl, hno⟩ := hrel
    obtain ⟨g1, hg1⟩ : ∃ x, x = gk := ⟨_, rfl⟩
    subst hg1
    by_cases h1 : (m : Int) ≤ (P : Int) - n
    · obtain ⟨N, rfl⟩ := Int.eq_ofNat_of_zero_le (show 0 ≤ n by omega)
      rw [Int.toNat_natCast] at hno
      obtain ⟨w0, hw0⟩ : ∃ x, x = wr := ⟨_, rfl⟩
      subst hw0
      go_wp2
      go_loopg [8, 9] (4000 - m) (fun k fr i wr => wr = w0 ∧ fr = .int .i64 (m : Int) ∧ ∃ j : Nat, k + j = 4000 ∧ m ≤ j ∧ j ≤ m + N ∧ i = .int .i64 (j : Int) ∧ Hid (∀ k, m ≤ k → k < j → f k = false))
      case atStart => exact ⟨rfl, rfl, m, by omega, Nat.le_refl _, by omega, rfl, fun k h1 h2 => absurd h1 (by omega)⟩
      case round =>
        obtain ⟨rfl, rfl, j, hk2, hj1, hj2, rfl, hfr⟩ := hrel
        by_cases h2 : j < m + N
        · go_wp2_with fail
          refine (K.out j (by omega)).mono ?_
          rintro e w1 ⟨rfl, rfl⟩
          cases hf : f j
          · go_wp2
            go_roundg (gk - 1)
            case measure => omega
            case rel => exact ⟨rfl, rfl, j + 1, by omega, by omega, by omega, by go_num, fun k h1 h2 => by
              by_cases e : k = j
              · rw [e]; exact hf
              · exact hfr.out k h1 (by omega)⟩
          · go_wp2
            go_roundg (2000 - (j + 1))
            case measure => omega
            case rel => exact ⟨rfl, j + 1, by omega, by omega, rfl, rfl, by go_num, fun m' h1 h2 => by
              rw [Int.toNat_natCast] at h2
              by_cases e : m' < m
              · exact hno.out m' e h2
              · have := h2 j (by omega) (by omega)
                rw [hf] at this; cases this⟩
        · have hj : j = m + N := by omega
          subst hj
          go_wp2
          rw [Exit.noGoto_ret]
          go_ret2
          exact .inl ⟨m, rfl, by omega, fun k h1 h2 => hfr.out k h1 (by rw [Int.toNat_natCast] at h2; exact h2), fun m' h1 => by rw [Int.toNat_natCast]; exact hno.out m' h1, rfl⟩
    · go_wp2
      go_ret2
      exact .inr ⟨rfl, fun m' h2 => hno.out m' (by omega), rfl⟩

/-- So many places from m on are taken, too. -/
def fill (f : Nat → Bool) (m n : Nat) : Nat → Bool := fun j => f j || (decide (m ≤ j) && decide (j < m + n))

theorem fill_zero (f : Nat → Bool) (m : Nat) : fill f m 0 = f := by
  funext j; unfold fill
  have h : (decide (m ≤ j) && decide (j < m + 0)) = false := by
    by_cases h : m ≤ j
    · have : decide (j < m + 0) = false := by simp; omega
      rw [this, Bool.and_false]
    · simp [h]
  rw [h, Bool.or_false]
theorem fill_succ {f : Nat → Bool} {m n : Nat} (h : f (m + n) = false) : flip1 (fill f m n) (m + n) = fill f m (n + 1) := by
  funext j; unfold flip1 fill
  by_cases e : j = m + n
  · subst e
    simp [h]
  · rw [if_neg e]
    congr 2
    have : decide (j < m + n) = decide (j < m + (n + 1)) := by simp; omega
    exact this
theorem fill_at {f : Nat → Bool} {m n : Nat} (h : f (m + n) = false) : fill f m n (m + n) = false := by
  unfold fill; simp [h]
theorem cnt_fill {f : Nat → Bool} {m : Nat} {P : Nat} : ∀ {n : Nat}, Fr f m n → m + n ≤ P → cnt (fill f m n) P = cnt f P + n
  | 0, _, _ => by rw [fill_zero]; rfl
  | n + 1, h, hP => by
    have h0 : f (m + n) = false := h (m + n) (by omega) (by omega)
    have ih := cnt_fill (f := f) (m := m) (P := P) (n := n) (fun k h1 h2 => h k h1 (by omega)) (by omega)
    have := cnt_flip (fill f m n) (m + n) P (by omega)
    rw [fill_at h0, fill_succ h0] at this
    simp at this
    omega

def TakeP (g P : Nat) (n : Int) (f : Nat → Bool) (w : World) (e : Ending) (w' : World) : Prop :=
  (∃ er : Int, e = .returned (.tuple #[.int .i64 0, .int .i64 er]) ∧ ((n < 1 ∧ er = 1) ∨ (1 ≤ n ∧ er = 62 ∧ ∀ m' : Nat, (m' : Int) + n ≤ (P : Int) → ¬ Fr f m' n.toNat)) ∧ w = w') ∨
  (∃ m k : Nat, n = (k : Int) ∧ 1 ≤ k ∧ e = .returned (.tuple #[.int .i64 (m : Int), .int .i64 0]) ∧ m + k ≤ P ∧ Fr f m k ∧ (∀ m', m' < m → ¬ Fr f m' k) ∧ Hid (Alc w' g P (fill f m k)) ∧ Hid (Upd g w w'))

set_option maxHeartbeats 1000000 in
set_option maxRecDepth 100000 in
theorem TakeRun_any (g P : Nat) (n : Int) (f : Nat → Bool) (w : World) (h : Alc w g P f) (hP : P ≤ 1024) (hn2 : n ≤ 9223372036854775807) :
    Calls Try.prog 14 #[.pointer (some ⟨g, 0, none⟩), .int .i64 n] w (TakeP g P n f w) := by
  by_cases hn : n < 1
  · have HP := Lib.hid (show TakeP g P n f w (.returned (.tuple #[.int .i64 0, .int .i64 1])) w from .inl ⟨_, rfl, .inl ⟨hn, rfl⟩, rfl⟩)
    clear h
    go_enter Try.func14, Try.ntmps14
    go_wp2
    go_ret2
    exact HP.out
  · have K := Lib.hid (findRun_any g P n _ f w h hP (by omega) hn2)
    have hcl := cnt_le f P
    have H := Lib.hid h
    clear h
    go_enter Try.func14, Try.ntmps14
    go_wp2_with fail
    refine K.out.mono ?_
    rintro e w1 (⟨m, rfl, hm, hfr, hno, rfl⟩ | ⟨rfl, hno, rfl⟩)
    · obtain ⟨k, rfl⟩ := Int.eq_ofNat_of_zero_le (show 0 ≤ n by omega)
      rw [Int.toNat_natCast] at hfr hno
      replace hfr := Lib.hid hfr
      replace hno := Lib.hid hno
      obtain ⟨T, hT⟩ : ∃ T : Int, ((cnt f P : Nat) : Int) = T := ⟨_, rfl⟩
      have H0 := Lib.hid (show Alc0 w g P T f by rw [← hT]; exact H.out)
      have hT3 : 0 ≤ T := by omega
      have hT4 : T ≤ 1024 := by omega
      have HT := Lib.hid hT
      clear K H hT
      go_wp2_with fail
      go_loopw [20] (fun i wr => ∃ j : Nat, j ≤ k ∧ i = .int .i64 (j : Int) ∧ Hid (Alc0 wr g P T (fill f m j)) ∧ Hid (Upd g w wr)) (fun i _ => k - (intOf i).toNat)
      case atStart => exact ⟨0, by omega, rfl, by rw [fill_zero]; exact H0.out, Upd.refl _ _⟩
      case round =>
        obtain ⟨j, hj, rfl, ha, hu⟩ := hrel
        by_cases h2 : j < k
        · have h0 : f (m + j) = false := hfr.out (m + j) (by omega) (by omega)
          have K3 := turn_any g P (m + j) T _ wr ha.out (by omega)
          rw [fill_succ h0, show ((m + j : Nat) : Int) = (m : Int) + (j : Int) from by omega] at K3
          have K3 := Lib.hid K3
          clear h0 ha H0
          go_wp2_with fail
          refine K3.out.mono ?_
          rintro e w2 ⟨rfl, ha2, hu2⟩
          have hu3 := Lib.hid (hu.out.trans hu2.out)
          clear hu hu2 K3
          go_wp2
          go_roundw
          case rel => exact ⟨j + 1, by omega, by go_num, ha2.out, hu3.out⟩
          case measure => simp [intOf]; omega
        · have hjk : j = k := by omega
          subst hjk
          have hc1 := ha.out.cT
          have hf1 := ha.out.fr 1
          have ha3 := ha.out.setT (T + (j : Int))
          have hcf := cnt_fill (P := P) hfr.out (by omega)
          have HP : TakeP g P (j : Int) f w (.returned (.tuple #[.int .i64 (m : Int), .int .i64 0])) (wr.setCell ⟨g, 1, none⟩ (.int .i64 (T + (j : Int)))) := by
            refine .inr ⟨m, j, rfl, by omega, rfl, by omega, hfr.out, hno.out, ?_, hu.out.trans (Upd.set g 1 wr _)⟩
            show Alc0 _ _ _ _ _
            rw [hcf, show ((cnt f P + j : Nat) : Int) = T + (j : Int) by have := HT.out; omega]
            exact ha3
          have HP := Lib.hid HP
          clear ha ha3 hcf hu H0 hfr hno HT
          go_wp2
          go_ret2
          exact HP.out
    · have HP := Lib.hid (show TakeP g P n f w (.returned (.tuple #[.int .i64 0, .int .i64 62])) w from .inl ⟨_, rfl, .inr ⟨by omega, rfl, hno⟩, rfl⟩)
      clear K hno H
      go_wp2
      go_ret2
      exact HP.out

set_option maxHeartbeats 1000000 in
theorem Take_any (g P : Nat) (f : Nat → Bool) (w : World) (h : Alc w g P f) (hP : P ≤ 1024) :
    Calls Try.prog 12 #[.pointer (some ⟨g, 0, none⟩)] w (TakeP g P 1 f w) := by
  have K := Lib.hid (TakeRun_any g P 1 f w h hP (by omega))
  clear h
  go_enter Try.func12, Try.ntmps12
  go_wp2_with fail
  refine K.out.mono ?_
  rintro e w1 hp
  have HP := Lib.hid hp
  rcases hp with ⟨er, rfl, _⟩ | ⟨m, k, _, _, rfl, _⟩
  all_goals
    clear K
    go_wp2
    go_ret2
    exact HP.out
end Go.Proofs.Ytnifihdnpmacjaa
