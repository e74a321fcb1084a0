/-
  Contracts of octet.Num.
-/
import Derived.Test.YtpjcebiifmmhnaaOctA
namespace Go.Proofs.Ytpjcebiifmmhnaa
open Go.RowKit

/-- A number's bytes. -/
def num (n : Nat) : List UInt8 := if n < 128 then [UInt8.ofNat n] else UInt8.ofNat (n % 128 + 128) :: num (n / 128)
  termination_by n
  decreasing_by omega

theorem num_lt {n : Nat} (h : n < 128) : num n = [UInt8.ofNat n] := by rw [num, if_pos h]
theorem num_ge {n : Nat} (h : ¬ n < 128) : num n = UInt8.ofNat (n % 128 + 128) :: num (n / 128) := by rw [num, if_neg h]

theorem or128 (x : Nat) (h : x < 256) : x ||| 128 = x % 128 + 128 := by
  revert x; decide +kernel

theorem bits_or128 (m : Nat) : bits .or .u8 ((m : Int) % 256) 128 = ((m % 128 + 128 : Nat) : Int) := by
  have e : ((m : Int) % 256) = ((m % 256 : Nat) : Int) := by omega
  have h : m % 256 < 256 := Nat.mod_lt _ (by decide)
  rw [e]
  have e2 : m % 128 = (m % 256) % 128 := by omega
  rw [e2]
  generalize m % 256 = x at h ⊢
  revert x; decide +kernel

theorem ofNat_toNat {x : Nat} (h : x < 256) : (UInt8.ofNat x).toNat = x := by simp; omega

set_option maxHeartbeats 400000 in
set_option maxRecDepth 100000 in
theorem Num_any (n : Nat) (hn : Hid (n < 18446744073709551616)) (w : World) :
    Calls Try.prog 15 #[.int .u64 (n : Int)] w fun e w' => ∃ v, e = .returned v ∧ w'.ownsRow w.heap.size 5 1 v (num n).length ((num n).map bv) ∧ Below w.heap.size w w' := by
  have hmk : ∀ w, (Instr.makeSlice 23 (.int .i64 0) (.int .i64 10)).run Try.prog w = .ok (.slice (some ⟨w.heap.size, 0, none⟩) 0 10) (w.alloc (.cells #[.int .u8 0, .int .u8 0, .int .u8 0, .int .u8 0, .int .u8 0, .int .u8 0, .int .u8 0, .int .u8 0, .int .u8 0, .int .u8 0] 5)) := fun _ => by kernel_rfl
  go_enter Try.func15, Try.ntmps15
  go_wp2
  go_loopw [3, 0] (fun v i wr => ∃ (m k : Nat) (pre : List UInt8), i = .int .u64 m ∧ Hid (pre.length = k) ∧ k ≤ 9 ∧ Hid (m * 128 ^ k ≤ n) ∧ wr.ownsRow w.heap.size 5 1 v k (pre.map bv) ∧ Hid (pre ++ num m = num n) ∧ Below w.heap.size w wr) (fun _ i _ => (intOf i).toNat)
  case atStart =>
    refine ⟨n, 0, [], rfl, rfl, by omega, by show _ ≤ _; simp, ?_, by show [] ++ _ = _; simp, (Below.refl _ _).alloc (Nat.le_refl _) _⟩
    exact World.ownsRow_made w _ 10 (Nat.le_refl _) (by decide) rfl
  case round =>
    obtain ⟨m, k, pre, rfl, hk, hk9, hm, hown, hpre, hbel⟩ := hrel
    have hsz := hbel.size
    clear hmk
    by_cases hlt : m < 128
    · go_wp2_with (at_builtin; refine wp_app1 rfl _ _ _ rfl elB rfl hown rfl rfl ?c1 ?c2 ?c3 ?_)
      case c1 => unfold maxLen; omega
      case c2 => omega
      case c3 => exact hsz
      intro v' w' hown' hbel'
      go_wp2
      go_ret
      refine ⟨_, rfl, ?_, hbel.trans hbel'⟩
      have e1 := hpre.out
      rw [num_lt hlt] at e1
      rw [← e1]
      have e2 := hk.out
      simp only [List.length_append, List.map_append, List.length_cons, List.length_nil, e2]
      have e3 : bv (UInt8.ofNat m) = .int .u8 (m : Int) := by unfold bv; rw [ofNat_toNat (by omega)]
      simpa [e3] using hown'
    · have hb128 := bits_or128 m
      go_wp2_with (at_builtin; refine wp_app1 rfl _ _ _ rfl elB rfl hown rfl rfl ?c1 ?c2 ?c3 ?_)
      case c1 => unfold maxLen; omega
      case c2 => omega
      case c3 => exact hsz
      intro v' w' hown' hbel'
      go_wp2
      go_roundw
      case rel =>
        have h9 : k ≤ 8 := by
          rcases Nat.lt_or_ge k 9 with h | h
          · omega
          · have e9 : k = 9 := by omega
            subst e9
            have h1 := hm.out
            have h2 := hn.out
            omega
        refine ⟨m / 128, k + 1, pre ++ [UInt8.ofNat (m % 128 + 128)], by go_num, ?_, by omega, ?_, ?_, ?_, hbel.trans hbel'⟩
        · have := hk.out
          show (pre ++ [_]).length = k + 1
          simp [this]
        · show m / 128 * 128 ^ (k + 1) ≤ n
          have h1 := hm.out
          have h2 : m / 128 * 128 ≤ m := Nat.div_mul_le_self _ _
          calc m / 128 * 128 ^ (k + 1) = (m / 128 * 128) * 128 ^ k := by rw [Nat.pow_succ, Nat.mul_assoc, Nat.mul_comm (128 ^ k) 128]
            _ ≤ m * 128 ^ k := Nat.mul_le_mul_right _ h2
            _ ≤ n := h1
        · have e3 : bv (UInt8.ofNat (m % 128 + 128)) = .int .u8 ((m % 128 + 128 : Nat) : Int) := by unfold bv; rw [ofNat_toNat (by omega)]
          rw [List.map_append, List.map_cons, List.map_nil, e3]
          simpa [hb128] using hown'
        · show _ ++ num (m / 128) = num n
          have h1 := hpre.out
          rw [num_ge hlt] at h1
          rw [← h1]; simp
      case measure => simp [intOf]; omega
end Go.Proofs.Ytpjcebiifmmhnaa
