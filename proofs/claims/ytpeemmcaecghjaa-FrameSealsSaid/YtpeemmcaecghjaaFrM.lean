/-
  The mathematics of frames: what Seal lays and what Open answers, there and back; a sum behind its bytes.
  Conditions: none.
-/
import Derived.Test.YtpeemmcaecghjaaNumMath
import Derived.Test.YtpeemmcaecghjaaRdF
namespace Go.Proofs.Ytpeemmcaecghjaa

def w4 (x0 x1 x2 x3 : UInt8) : Nat := x0.toNat + 256 * x1.toNat + 65536 * x2.toNat + 16777216 * x3.toNat

theorem w4_lt (x0 x1 x2 x3 : UInt8) : w4 x0 x1 x2 x3 < 4294967296 := by
  have h0 := x0.toNat_lt; have h1 := x1.toNat_lt; have h2 := x2.toNat_lt; have h3 := x3.toNat_lt
  unfold w4; omega

theorem rdF_w4 (x0 x1 x2 x3 : UInt8) : rdF x0 x1 x2 x3 = ((w4 x0 x1 x2 x3 : Nat) : Int) := by
  have h0 := x0.toNat_lt; have h1 := x1.toNat_lt; have h2 := x2.toNat_lt; have h3 := x3.toNat_lt
  have e1 : ((x1.toNat : Int) % 4294967296 * 256 % 4294967296) = ((2 ^ 8 * x1.toNat : Nat) : Int) := by omega
  have e2 : ((x2.toNat : Int) % 4294967296 * 65536 % 4294967296) = ((2 ^ 16 * x2.toNat : Nat) : Int) := by omega
  have e3 : ((x3.toNat : Int) % 4294967296 * 16777216 % 4294967296) = ((2 ^ 24 * x3.toNat : Nat) : Int) := by omega
  have e0 : ((x0.toNat : Int) % 4294967296) = ((x0.toNat : Nat) : Int) := by omega
  have a1 : x0.toNat ||| 2 ^ 8 * x1.toNat = 2 ^ 8 * x1.toNat + x0.toNat := by rw [Nat.or_comm, ← Nat.two_pow_add_eq_or_of_lt (by omega)]
  have a2 : (2 ^ 8 * x1.toNat + x0.toNat) ||| 2 ^ 16 * x2.toNat = 2 ^ 16 * x2.toNat + (2 ^ 8 * x1.toNat + x0.toNat) := by rw [Nat.or_comm, ← Nat.two_pow_add_eq_or_of_lt (by omega)]
  have a3 : (2 ^ 16 * x2.toNat + (2 ^ 8 * x1.toNat + x0.toNat)) ||| 2 ^ 24 * x3.toNat = 2 ^ 24 * x3.toNat + (2 ^ 16 * x2.toNat + (2 ^ 8 * x1.toNat + x0.toNat)) := by rw [Nat.or_comm, ← Nat.two_pow_add_eq_or_of_lt (by omega)]
  unfold rdF w4
  rw [e0, e1, e2, e3, u32_or_nat _ _ (by omega) (by omega), a1, u32_or_nat _ _ (by omega) (by omega), a2, u32_or_nat _ _ (by omega) (by omega), a3]
  congr 1
  omega

/-- Four bytes of a number. -/
def fix4 (s : Nat) : List UInt8 := [UInt8.ofNat (s % 256), UInt8.ofNat (s / 256 % 256), UInt8.ofNat (s / 65536 % 256), UInt8.ofNat (s / 16777216 % 256)]

theorem byte_to (n : Nat) : (UInt8.ofNat (n % 256)).toNat = n % 256 := by simp

theorem w4_fix {s : Nat} (h : s < 4294967296) : w4 (UInt8.ofNat (s % 256)) (UInt8.ofNat (s / 256 % 256)) (UInt8.ofNat (s / 65536 % 256)) (UInt8.ofNat (s / 16777216 % 256)) = s := by
  unfold w4
  simp only [byte_to]
  omega

theorem byte_back {x : UInt8} {n : Nat} (h : n = x.toNat) : UInt8.ofNat n = x := by subst h; simp

theorem fix_w4 (x0 x1 x2 x3 : UInt8) : fix4 (w4 x0 x1 x2 x3) = [x0, x1, x2, x3] := by
  have h0 := x0.toNat_lt; have h1 := x1.toNat_lt; have h2 := x2.toNat_lt; have h3 := x3.toNat_lt
  unfold fix4 w4
  rw [byte_back (x := x0) (by omega), byte_back (x := x1) (by omega), byte_back (x := x2) (by omega), byte_back (x := x3) (by omega)]

theorem xor_add (x : UInt8) (y : Nat) : x.toNat ^^^ (256 * y) = 256 * y + x.toNat := by
  have h := x.toNat_lt
  have e1 : (x.toNat ^^^ (2 ^ 8 * y)) % 2 ^ 8 = x.toNat := by
    rw [Nat.xor_mod_two_pow, Nat.mul_mod_right, Nat.xor_zero, Nat.mod_eq_of_lt (by omega)]
  have e2 : (x.toNat ^^^ (2 ^ 8 * y)) / 2 ^ 8 = y := by
    rw [Nat.xor_div_two_pow, Nat.mul_div_cancel_left _ (by decide), Nat.div_eq_of_lt (by omega), Nat.zero_xor]
  have e3 : x.toNat ^^^ (256 * y) = x.toNat ^^^ (2 ^ 8 * y) := rfl
  omega

theorem word4 (x0 x1 x2 x3 : UInt8) : word [x0, x1, x2, x3] = w4 x0 x1 x2 x3 := by
  simp only [word, xor_add, w4]; omega

theorem crc_app (xs ys : List UInt8) (r : Nat) : crc r (xs ++ ys) = crc (crc r xs) ys := by unfold crc; rw [List.foldl_append]

/-- What the sum of bytes with their own sum behind them is. -/
def res : Nat := sts 32 4294967295 ^^^ 4294967295

theorem sum_res (xs : List UInt8) (x0 x1 x2 x3 : UInt8) : w4 x0 x1 x2 x3 = sum32 xs ↔ sum32 (xs ++ [x0, x1, x2, x3]) = res := by
  have hl : crc 4294967295 xs < 2 ^ 32 := crc_lt xs (by decide)
  have hw := w4_lt x0 x1 x2 x3
  have e : sum32 (xs ++ [x0, x1, x2, x3]) = sts 32 (crc 4294967295 xs ^^^ w4 x0 x1 x2 x3) ^^^ 4294967295 := by
    unfold sum32
    rw [crc_app, crc_word [x0, x1, x2, x3], word4]
    rfl
  rw [e]
  unfold sum32 res
  constructor
  · intro h
    rw [h, ← Nat.xor_assoc, Nat.xor_self, Nat.zero_xor]
  · intro h
    have h1 := x_cancel h
    have h2 : sts 32 ((crc 4294967295 xs ^^^ w4 x0 x1 x2 x3) ^^^ 4294967295) = 0 := by rw [sts_xor, h1, Nat.xor_self]
    have h3 := sts_zero 32 (Nat.xor_lt_two_pow (n := 32) (Nat.xor_lt_two_pow (n := 32) hl hw) (by decide)) h2
    have h4 := x_eq.1 h3
    generalize crc 4294967295 xs = c at h4 ⊢
    rw [← h4, ← Nat.xor_assoc, Nat.xor_self, Nat.zero_xor]

/-- The bytes of a datagram ahead of its sum; all of them. -/
def headL (xs : List UInt8) : List UInt8 := 83 :: (num xs.length ++ xs)
def sealL (xs : List UInt8) : List UInt8 := headL xs ++ fix4 (sum32 (headL xs))

/-- What Seal answers. -/
def sB (xs : List UInt8) : List UInt8 := if 4096 < xs.length then [] else sealL xs
def sE (xs : List UInt8) : Nat := if 4096 < xs.length then 2 else 0

/-- What Open answers. -/
def opE (xs : List UInt8) : Nat :=
  if 4103 < xs.length then 2
  else if xs.length < 6 then 10
  else if ¬ sum32 xs = res then 50
  else if ¬ xs[0]? = some 83 then 11
  else if ¬ (rdNum ((xs.take (xs.length - 4)).drop 1)).2.2 = 0 then 11
  else if ¬ (rdNum ((xs.take (xs.length - 4)).drop 1)).1 = xs.length - 4 - (1 + (rdNum ((xs.take (xs.length - 4)).drop 1)).2.1) ∨ 4096 < (rdNum ((xs.take (xs.length - 4)).drop 1)).1 then 11
  else 0
def opB (xs : List UInt8) : List UInt8 := if opE xs = 0 then (xs.take (xs.length - 4)).drop (1 + (rdNum ((xs.take (xs.length - 4)).drop 1)).2.1) else []

theorem num_len2 {n : Nat} (h : n ≤ 4096) : (num n).length ≤ 2 := by
  by_cases h1 : n < 128
  · rw [num_lt h1]; simp
  · rw [num_ge h1, num_lt (by omega)]; simp

theorem fix4_len (s : Nat) : (fix4 s).length = 4 := rfl
theorem headL_len (xs : List UInt8) : (headL xs).length = 1 + (num xs.length).length + xs.length := by unfold headL; simp; omega
theorem sealL_len (xs : List UInt8) : (sealL xs).length = 1 + (num xs.length).length + xs.length + 4 := by unfold sealL; rw [List.length_append, headL_len, fix4_len]

theorem res_seal (xs : List UInt8) : sum32 (sealL xs) = res := by
  unfold sealL fix4
  exact (sum_res ..).1 (w4_fix (sum_lt _))

theorem take_seal (xs : List UInt8) : (sealL xs).take ((sealL xs).length - 4) = headL xs := by
  have e : (sealL xs).length - 4 = (headL xs).length := by rw [sealL_len, headL_len]; omega
  rw [e]; unfold sealL; exact List.take_left ..

theorem rd_head {xs : List UInt8} (h : xs.length ≤ 4096) : rdNum ((headL xs).drop 1) = (xs.length, (num xs.length).length, 0) := by
  unfold headL
  exact rdNum_num xs.length (by omega) xs

theorem op_seal {xs : List UInt8} (h : xs.length ≤ 4096) : opE (sealL xs) = 0 ∧ opB (sealL xs) = xs := by
  have hl := sealL_len xs
  have h2 := num_len2 h
  have hp := num_pos xs.length
  have e0 : opE (sealL xs) = 0 := by
    unfold opE
    rw [if_neg (by omega), if_neg (by omega), if_neg (by simp [res_seal]), if_neg (by simp [sealL, headL]), take_seal, rd_head h, if_neg (by simp), if_neg]
    simp only
    omega
  refine ⟨e0, ?_⟩
  unfold opB
  rw [if_pos e0, take_seal, rd_head h]
  simp only
  unfold headL
  rw [show 1 + (num xs.length).length = (num xs.length).length + 1 from Nat.add_comm .., List.drop_succ_cons, List.drop_left]

theorem last4 {xs : List UInt8} (h : 4 ≤ xs.length) : ∃ x0 x1 x2 x3, xs.drop (xs.length - 4) = [x0, x1, x2, x3] := by
  have hl : (xs.drop (xs.length - 4)).length = 4 := by rw [List.length_drop]; omega
  match hd : xs.drop (xs.length - 4), hl with
  | [x0, x1, x2, x3], _ => exact ⟨x0, x1, x2, x3, rfl⟩

theorem op_ok {xs : List UInt8} (h : opE xs = 0) : 6 ≤ xs.length ∧ xs.length ≤ 4103 ∧ (opB xs).length ≤ 4096 ∧ sealL (opB xs) = xs := by
  have hB : opB xs = (xs.take (xs.length - 4)).drop (1 + (rdNum ((xs.take (xs.length - 4)).drop 1)).2.1) := by unfold opB; rw [if_pos h]
  unfold opE at h
  by_cases c1 : 4103 < xs.length
  · rw [if_pos c1] at h; cases h
  rw [if_neg c1] at h
  by_cases c2 : xs.length < 6
  · rw [if_pos c2] at h; cases h
  rw [if_neg c2] at h
  by_cases c3 : sum32 xs = res
  · rw [if_neg (fun h' => h' c3)] at h
    by_cases c4 : xs[0]? = some 83
    · rw [if_neg (fun h' => h' c4)] at h
      by_cases c5 : (rdNum ((xs.take (xs.length - 4)).drop 1)).2.2 = 0
      · rw [if_neg (fun h' => h' c5)] at h
        by_cases c6 : ¬ (rdNum ((xs.take (xs.length - 4)).drop 1)).1 = xs.length - 4 - (1 + (rdNum ((xs.take (xs.length - 4)).drop 1)).2.1) ∨ 4096 < (rdNum ((xs.take (xs.length - 4)).drop 1)).1
        · rw [if_pos c6] at h; cases h
        · have c7 : (rdNum ((xs.take (xs.length - 4)).drop 1)).1 = xs.length - 4 - (1 + (rdNum ((xs.take (xs.length - 4)).drop 1)).2.1) := Classical.byContradiction fun h' => c6 (.inl h')
          have c8 : (rdNum ((xs.take (xs.length - 4)).drop 1)).1 ≤ 4096 := Nat.le_of_not_lt fun h' => c6 (.inr h')
          have hk := rdNum_k ((xs.take (xs.length - 4)).drop 1)
          obtain ⟨hnum, _⟩ := num_rdNum c5
          have hlen : ((xs.take (xs.length - 4)).drop 1).length = xs.length - 5 := by simp; omega
          rw [hlen] at hk
          obtain ⟨x0, x1, x2, x3, h4⟩ := last4 (xs := xs) (by omega)
          have hsplit : xs = xs.take (xs.length - 4) ++ [x0, x1, x2, x3] := by rw [← h4, List.take_append_drop]
          have hsum := (sum_res (xs.take (xs.length - 4)) x0 x1 x2 x3).2 (by rw [← hsplit]; exact c3)
          have hhead : xs.take (xs.length - 4) = 83 :: (xs.take (xs.length - 4)).drop 1 := by
            match xs, c4, c2 with
            | x :: r, c4, c2 =>
              simp at c4
              subst c4
              have : (83 :: r).length - 4 = (r.length - 4) + 1 := by simp at c2 ⊢; omega
              rw [this]; rfl
          have hBl : (opB xs).length = (rdNum ((xs.take (xs.length - 4)).drop 1)).1 := by
            rw [hB, List.length_drop, List.length_take, c7]; omega
          have hhB : headL (opB xs) = xs.take (xs.length - 4) := by
            unfold headL
            rw [hBl, hnum, hB, ← List.drop_drop, List.take_append_drop, ← hhead]
          refine ⟨by omega, by omega, by omega, ?_⟩
          unfold sealL
          rw [hhB, ← hsum, fix_w4, ← hsplit]
      · rw [if_pos c5] at h; cases h
    · rw [if_pos c4] at h; cases h
  · rw [if_pos c3] at h; cases h

/-- Of two datagrams neither goes on behind the other one. -/
theorem seal_more {xs ys zs : List UInt8} (hx : xs.length ≤ 4096) (hy : ys.length ≤ 4096) (h : sealL xs ++ zs = sealL ys) : zs = [] := by
  have h1 : num xs.length ++ (xs ++ (fix4 (sum32 (headL xs)) ++ zs)) = num ys.length ++ (ys ++ fix4 (sum32 (headL ys))) := by
    have := h
    unfold sealL headL at this
    simp only [List.cons_append, List.append_assoc, List.cons.injEq, true_and] at this
    exact this
  have a := rdNum_num xs.length (by omega) (xs ++ (fix4 (sum32 (headL xs)) ++ zs))
  rw [h1, rdNum_num ys.length (by omega)] at a
  simp only [Prod.mk.injEq] at a
  have hl := congrArg List.length h
  rw [List.length_append, sealL_len, sealL_len, a.1] at hl
  exact List.eq_nil_of_length_eq_zero (by omega)

/-- What was cut is refused. -/
theorem op_cut {xs : List UInt8} (h : xs.length ≤ 4096) {k : Nat} (hk : k < (sealL xs).length) : opE ((sealL xs).take k) ≠ 0 := by
  intro h0
  obtain ⟨_, _, h3, h4⟩ := op_ok h0
  have := seal_more (zs := (sealL xs).drop k) h3 h (by rw [h4, List.take_append_drop])
  have hl := congrArg List.length this
  rw [List.length_drop, List.length_nil] at hl
  omega
/-- What goes on is refused. -/
theorem op_more {xs zs : List UInt8} (h : xs.length ≤ 4096) : opE (sealL xs ++ zs) = 0 ↔ zs = [] := by
  constructor
  · intro h0
    obtain ⟨_, _, h3, h4⟩ := op_ok h0
    exact seal_more h h3 h4.symm
  · intro h0
    subst h0
    rw [List.append_nil]
    exact (op_seal h).1

theorem opB_no {xs : List UInt8} (h : opE xs ≠ 0) : opB xs = [] := by unfold opB; rw [if_neg h]

theorem word_inj : ∀ (xs ys : List UInt8), xs.length = ys.length → word xs = word ys → xs = ys
  | [], [], _, _ => rfl
  | x :: xs, y :: ys, hl, h => by
    simp only [word, xor_add] at h
    have h1 := x.toNat_lt; have h2 := y.toNat_lt
    have e1 : x.toNat = y.toNat := by omega
    have e2 : word xs = word ys := by omega
    rw [UInt8.toNat_inj.1 e1, word_inj xs ys (by simpa using hl) e2]
end Go.Proofs.Ytpeemmcaecghjaa
