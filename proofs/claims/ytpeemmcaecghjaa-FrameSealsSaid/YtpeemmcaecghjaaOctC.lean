/-
  Contracts of octet.ReadNum.
-/
import Derived.Test.YtpeemmcaecghjaaOctB
namespace Go.Proofs.Ytpeemmcaecghjaa
open Go.RowKit

/-- The number that bytes of which each has seven bits say. -/
def unum : List UInt8 → Nat
  | [] => 0
  | x :: xs => x.toNat % 128 + 128 * unum xs

def lastOf (xs : List UInt8) : Nat := (xs[nlen xs - 1]?.getD 0).toNat

theorem pow7 (j : Nat) : 2 ^ (7 * j) = 128 ^ j := by rw [Nat.pow_mul]
theorem or_step (U x j : Nat) (hU : U < 128 ^ j) (hx : x < 256) (hj : j ≤ 9) (h9 : j < 9 ∨ x ≤ 1) :
    bits .or .u64 (U : Int) (IntKind.u64.wrap (IntKind.u64.wrap (bits .and .u8 (x : Int) 127) * 2 ^ (7 * j))) = ((U + x % 128 * 128 ^ j : Nat) : Int) := by
  have e1 : bits .and .u8 (x : Int) 127 = ((x % 128 : Nat) : Int) := by
    have := u8_and_nat x 127 hx (by decide)
    rw [nat_mask7] at this
    exact this
  have hp : 128 ^ j ≤ 128 ^ 9 := Nat.pow_le_pow_right (by decide) hj
  have hm : x % 128 * 128 ^ j < 18446744073709551616 := by
    rcases h9 with h | h
    · have h1 : 128 ^ j ≤ 128 ^ 8 := Nat.pow_le_pow_right (by decide) (by omega)
      have h2 : x % 128 * 128 ^ j ≤ 127 * 128 ^ 8 := Nat.mul_le_mul (by omega) h1
      exact Nat.lt_of_le_of_lt h2 (by decide)
    · have h2 : x % 128 * 128 ^ j ≤ 1 * 128 ^ 9 := Nat.mul_le_mul (by omega) hp
      exact Nat.lt_of_le_of_lt h2 (by decide)
  have hU' : U < 18446744073709551616 := Nat.lt_of_lt_of_le hU (Nat.le_trans hp (by decide))
  have e2 : IntKind.u64.wrap (((x % 128 : Nat) : Int)) = ((x % 128 : Nat) : Int) := by rw [IntKind.wrap_u64]; omega
  have e3 : ((x % 128 : Nat) : Int) * 2 ^ (7 * j) = ((x % 128 * 128 ^ j : Nat) : Int) := by
    rw [← pow7]; push_cast; rfl
  have e4 : IntKind.u64.wrap (((x % 128 * 128 ^ j : Nat) : Int)) = ((x % 128 * 128 ^ j : Nat) : Int) := by
    rw [IntKind.wrap_u64]
    generalize x % 128 * 128 ^ j = z at hm
    omega
  rw [e1, e2, e3, e4, u64_or_nat _ _ hU' hm, Nat.or_comm, nat_join (7 * j) (x % 128 * 128 ^ j) U (by rw [pow7]; exact Nat.mul_mod_left _ _) (by rw [pow7]; exact hU), Nat.add_comm]

theorem unum_lt (xs : List UInt8) : unum xs < 128 ^ xs.length := by
  induction xs with
  | nil => simp [unum]
  | cons x xs ih =>
    rw [unum, List.length_cons, Nat.pow_succ]
    have := Nat.mod_lt x.toNat (show 0 < 128 by decide)
    omega

theorem unum_snoc (xs : List UInt8) (x : UInt8) : unum (xs ++ [x]) = unum xs + x.toNat % 128 * 128 ^ xs.length := by
  induction xs with
  | nil => simp [unum]
  | cons y ys ih =>
    rw [List.cons_append, unum, ih, unum, List.length_cons, Nat.pow_succ, Nat.mul_add, Nat.add_assoc]
    congr 2
    rw [Nat.mul_comm (128 ^ ys.length) 128, Nat.mul_left_comm]

theorem unum_take {xs : List UInt8} {j : Nat} {x : UInt8} (h : xs[j]? = some x) : unum (xs.take (j + 1)) = unum (xs.take j) + x.toNat % 128 * 128 ^ j := by
  obtain ⟨hj, rfl⟩ := List.getElem?_eq_some_iff.1 h
  rw [List.take_succ_eq_append_getElem hj, unum_snoc, List.length_take, Nat.min_eq_left (by omega)]

/-- What ReadNum answers. -/
def rdNum (xs : List UInt8) : Nat × Nat × Nat :=
  if nlen xs = 0 then (0, 0, if 10 ≤ xs.length then 11 else 10)
  else if (1 < nlen xs ∧ lastOf xs = 0) ∨ (nlen xs = 10 ∧ 1 < lastOf xs) then (0, 0, 11)
  else (unum (xs.take (nlen xs)), nlen xs, 0)

theorem nlen_le (xs : List UInt8) : nlen xs ≤ xs.length ∧ nlen xs ≤ 10 := by
  rcases nlen_cases xs with ⟨i, h, h10, _, _, e⟩ | ⟨e, _⟩ <;> omega

def tup3 (r : Nat × Nat × Nat) : Value := .tuple #[.int .u64 (r.1 : Int), .int .i64 (r.2.1 : Int), .int .i64 (r.2.2 : Int)]

set_option maxHeartbeats 400000 in
set_option maxRecDepth 100000 in
theorem ReadNum_none (B cap n : Nat) (A : Option Addr) (xs : List UInt8) (w : World) (hl : n ≤ maxLen) (hx : Byt w B A n xs) (h0 : nlen xs = 0) :
    Calls Try.prog 19 #[.slice A n cap] w fun e w' => e = .returned (tup3 (rdNum xs)) ∧ w = w' := by
  have hn := hx.len
  have e : rdNum xs = (0, 0, if 10 ≤ n then 11 else 10) := by unfold rdNum; rw [if_pos h0, hn]
  have K := Lib.hid (numLen_any B cap n A xs w hl hx)
  rw [h0] at K
  rw [e]
  clear e h0 hn hx
  unfold maxLen at hl
  by_cases h10 : 10 ≤ n
  · have h10' : (10 : Int) ≤ (n : Int) := by omega
    rw [if_pos h10]
    go_enter Try.func19, Try.ntmps19
    go_wp2_with (go_at_call 24; refine K.out.mono ?_; rintro e w' ⟨rfl, rfl⟩)
    go_ret3
    exact ⟨rfl, rfl⟩
  · have h10' : ¬ (10 : Int) ≤ (n : Int) := by omega
    rw [if_neg h10]
    go_enter Try.func19, Try.ntmps19
    go_wp2_with (go_at_call 24; refine K.out.mono ?_; rintro e w' ⟨rfl, rfl⟩)
    go_ret3
    exact ⟨rfl, rfl⟩

set_option maxHeartbeats 400000 in
set_option maxRecDepth 100000 in
theorem ReadNum_some (cap n k b off : Nat) (xs : List UInt8) (y : UInt8) (w : World) (hl : n ≤ maxLen) (hcap : n ≤ cap) (hx : Byt w (b + 1) (some ⟨b, off, none⟩) n xs) (h0 : Hid (nlen xs = k + 1)) (hk : k < n) (hk10 : k < 10)
    (hy : w.cell? ⟨b, off + k, none⟩ = some (.int .u8 (y.toNat : Int))) (hxy : Hid (xs[k]? = some y)) :
    Calls Try.prog 19 #[.slice (some ⟨b, off, none⟩) n cap] w fun e w' => e = .returned (tup3 (rdNum xs)) ∧ w = w' := by
  have hn := hx.len
  have K := Lib.hid (numLen_any (b + 1) cap n _ xs w hl hx)
  rw [h0.out] at K
  have HX := Lib.hid hx; clear hx hn
  unfold maxLen at hl
  have hlast : Hid (lastOf xs = y.toNat) := by show lastOf xs = _; unfold lastOf; rw [h0.out, Nat.add_sub_cancel, hxy.out]; rfl
  by_cases hb : (0 < k ∧ y.toNat = 0) ∨ (k = 9 ∧ 1 < y.toNat)
  · have e : rdNum xs = (0, 0, 11) := by
      have h1 := hlast.out
      have h2 := h0.out
      unfold rdNum; rw [if_neg (by omega), if_pos (by omega)]
    rw [e]; clear e
    rcases hb with ⟨hk0, hy0⟩ | ⟨hk9, hy1⟩
    · have hy0' : (y.toNat : Int) = 0 := by omega
      have t1 : ((y.toNat : Int) == 0) = true := by rw [hy0']; rfl
      clear hy0 hy0'
      go_enter Try.func19, Try.ntmps19
      go_wp2_with (go_at_call 24; refine K.out.mono ?_; rintro e w' ⟨rfl, rfl⟩)
      go_ret3
      exact ⟨rfl, rfl⟩
    · have t1 : ((y.toNat : Int) == 0) = false := by simp; omega
      have t2 : ((k : Int) + 1 == 10) = true := by simp; omega
      have hk9' : 8 < k := by omega
      clear hk9
      go_enter Try.func19, Try.ntmps19
      go_wp2_with (go_at_call 24; refine K.out.mono ?_; rintro e w' ⟨rfl, rfl⟩)
      go_ret3
      exact ⟨rfl, rfl⟩
  · have e : rdNum xs = (unum (xs.take (k + 1)), k + 1, 0) := by
      have h1 := hlast.out
      have h2 := h0.out
      unfold rdNum; rw [if_neg (by omega), if_neg (by omega), h2]
    rw [e]; clear e
    have cases : (k ≤ 0 ∧ ((k : Int) + 1 == 10) = false ∧ Hid (k = 0)) ∨ (0 < k ∧ ((y.toNat : Int) == 0) = false ∧ ((k : Int) + 1 == 10) = false ∧ Hid (k < 9)) ∨ (0 < k ∧ ((y.toNat : Int) == 0) = false ∧ ((k : Int) + 1 == 10) = true ∧ y.toNat ≤ 1) := by
      rcases Nat.eq_zero_or_pos k with h | h
      · left; exact ⟨by omega, by simp; omega, h⟩
      · right
        by_cases h9 : k < 9
        · left; exact ⟨h, by simp; omega, by simp; omega, h9⟩
        · right; exact ⟨h, by simp; omega, by simp; omega, by omega⟩
    have HB : Hid (k < 9 ∨ y.toNat ≤ 1) := by show _ ∨ _; omega
    clear hb
    rcases cases with ⟨h1, h2, _⟩ | ⟨h1, h2, h3, _⟩ | ⟨h1, h2, h3, h4⟩
    all_goals
      go_enter Try.func19, Try.ntmps19
      go_wp2_with (go_at_call 24; refine K.out.mono ?_; rintro e w' ⟨rfl, rfl⟩)
      go_loop [7, 40] (fun v i => ∃ j : Nat, j ≤ k + 1 ∧ i = .int .i64 j ∧ v = .int .u64 (unum (xs.take j) : Nat)) (fun _ i => k + 1 - (intOf i).toNat)
      case atStart => exact ⟨0, by omega, rfl, rfl⟩
      case round =>
        obtain ⟨j, hj, rfl, rfl⟩ := hrel
        by_cases hlt : j < k + 1
        · obtain ⟨b', off', x, hbo, _, hxj, hc⟩ := HX.out.at_ (show j < n by omega)
          obtain ⟨rfl, rfl⟩ : b' = b ∧ off' = off := by simpa [eq_comm] using hbo
          have HJ := Lib.hid hxj
          clear hbo hxj
          have hst : bits .or .u64 ((unum (xs.take j) : Nat) : Int) (IntKind.u64.wrap (IntKind.u64.wrap (bits .and .u8 (x.toNat : Int) 127) * 2 ^ (7 * j))) = ((unum (xs.take (j + 1)) : Nat) : Int) := by
            rw [unum_take HJ.out]
            refine or_step _ _ _ ?_ x.toNat_lt (by omega) ?_
            · have h1 := unum_lt (xs.take j)
              have h2 : 128 ^ (xs.take j).length ≤ 128 ^ j := Nat.pow_le_pow_right (by decide) (List.length_take_le _ _)
              omega
            · rcases HB.out with h | h
              · left; omega
              · by_cases e : j < 9
                · exact .inl e
                · right
                  obtain rfl : j = k := by omega
                  have := hxy.out
                  rw [HJ.out] at this
                  obtain rfl : x = y := by simpa using this
                  exact h
          have HS := Lib.hid hst; clear hst
          go_wp2
          go_round
          case rel => exact ⟨j + 1, by omega, by go_num, by rw [HS.out]⟩
          case measure => simp [intOf]; omega
        · go_wp2
          go_ret3
          have : j = k + 1 := by omega
          subst this
          exact ⟨rfl, rfl⟩

set_option maxHeartbeats 400000 in
theorem ReadNum_any (B cap n : Nat) (A : Option Addr) (xs : List UInt8) (w : World) (hl : n ≤ maxLen) (hcap : n ≤ cap) (hx : Byt w B A n xs) :
    Calls Try.prog 19 #[.slice A n cap] w fun e w' => e = .returned (tup3 (rdNum xs)) ∧ w = w' := by
  rcases nlen_cases xs with ⟨i, h, h10, hlt, _, e⟩ | ⟨e, _⟩
  · have hn := hx.len
    obtain ⟨b, off, x, rfl, hb, hxi, hc⟩ := hx.at_ (show i < n by omega)
    have hx' : Byt w (b + 1) (some ⟨b, off, none⟩) n xs := by
      refine ⟨hx.1, fun hn => ?_⟩
      obtain ⟨b', off', he, _, hcc⟩ := hx.2 hn
      obtain ⟨rfl, rfl⟩ : b = b' ∧ off = off' := by simpa using he
      exact ⟨b, off, rfl, Nat.lt_succ_self _, hcc⟩
    exact ReadNum_some cap n i b off xs x w hl hcap hx' e (by omega) h10 hc hxi
  · exact ReadNum_none B cap n A xs w hl hx e
end Go.Proofs.Ytpeemmcaecghjaa
