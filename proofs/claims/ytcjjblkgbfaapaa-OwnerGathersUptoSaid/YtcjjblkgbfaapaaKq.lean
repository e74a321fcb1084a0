/-
  Bits; a slice that is made with room; a string's bytes behind a row.
  Conditions: none beyond each law's own.
-/
import Derived.Test.YtcjjblkgbfaapaaKp
namespace Go.Proofs.Ytcjjblkgbfaapaa
set_option linter.unusedVariables false
set_option linter.unusedSimpArgs false
open Go.RowKit
section
variable {P : Program} {n : Nat} {F : List (Nat × Value)} {w0 w : World} {D : Nat → Prop} {L : List HP} {op : Op} {ty : TypeId} {v : Value} {K : Value → World → Prop} {x y : Operand} {T t : TypeId} {xs vs ys news : List Value}
/-! ### bits of numbers without a sign, as numbers -/
def bOr64 (a b : Nat) : Nat := Int.toNat (IntKind.u64.wrap (((BitVec.ofInt 64 (a : Int) ||| BitVec.ofInt 64 (b : Int)).toNat : Nat) : Int))
def bAnd64 (a b : Nat) : Nat := Int.toNat (IntKind.u64.wrap (((BitVec.ofInt 64 (a : Int) &&& BitVec.ofInt 64 (b : Int)).toNat : Nat) : Int))
def bXor64 (a b : Nat) : Nat := Int.toNat (IntKind.u64.wrap (((BitVec.ofInt 64 (a : Int) ^^^ BitVec.ofInt 64 (b : Int)).toNat : Nat) : Int))
def bOr32 (a b : Nat) : Nat := Int.toNat (IntKind.u32.wrap (((BitVec.ofInt 32 (a : Int) ||| BitVec.ofInt 32 (b : Int)).toNat : Nat) : Int))
def bAnd32 (a b : Nat) : Nat := Int.toNat (IntKind.u32.wrap (((BitVec.ofInt 32 (a : Int) &&& BitVec.ofInt 32 (b : Int)).toNat : Nat) : Int))
def bXor32 (a b : Nat) : Nat := Int.toNat (IntKind.u32.wrap (((BitVec.ofInt 32 (a : Int) ^^^ BitVec.ofInt 32 (b : Int)).toNat : Nat) : Int))
def bShl64 (a b : Nat) : Nat := Int.toNat (IntKind.u64.wrap ((a : Int) * 2 ^ (min b 64)))
def bShl32 (a b : Nat) : Nat := Int.toNat (IntKind.u32.wrap ((a : Int) * 2 ^ (min b 32)))
theorem bOr64_le (a b : Nat) : bOr64 a b ≤ 18446744073709551615 := by unfold bOr64; simp only [IntKind.wrap, IntKind.signed, IntKind.bits]; simp; omega
theorem bOr32_le (a b : Nat) : bOr32 a b ≤ 4294967295 := by unfold bOr32; simp only [IntKind.wrap, IntKind.signed, IntKind.bits]; simp; omega
theorem bAnd64_le (a b : Nat) : bAnd64 a b ≤ 18446744073709551615 := by unfold bAnd64; simp only [IntKind.wrap, IntKind.signed, IntKind.bits]; simp; omega
theorem bAnd32_le (a b : Nat) : bAnd32 a b ≤ 4294967295 := by unfold bAnd32; simp only [IntKind.wrap, IntKind.signed, IntKind.bits]; simp; omega
theorem bXor64_le (a b : Nat) : bXor64 a b ≤ 18446744073709551615 := by unfold bXor64; simp only [IntKind.wrap, IntKind.signed, IntKind.bits]; simp; omega
theorem bXor32_le (a b : Nat) : bXor32 a b ≤ 4294967295 := by unfold bXor32; simp only [IntKind.wrap, IntKind.signed, IntKind.bits]; simp; omega
theorem bShl64_le (a b : Nat) : bShl64 a b ≤ 18446744073709551615 := by unfold bShl64; simp only [IntKind.wrap, IntKind.signed, IntKind.bits]; simp; omega
theorem bShl32_le (a b : Nat) : bShl32 a b ≤ 4294967295 := by unfold bShl32; simp only [IntKind.wrap, IntKind.signed, IntKind.bits]; simp; omega
theorem wrapN_u64 (x : Int) : Int.toNat (IntKind.u64.wrap x) ≤ 18446744073709551615 := by simp only [IntKind.wrap, IntKind.signed, IntKind.bits]; simp; omega
theorem wrapN_u32 (x : Int) : Int.toNat (IntKind.u32.wrap x) ≤ 4294967295 := by simp only [IntKind.wrap, IntKind.signed, IntKind.bits]; simp; omega
theorem wrap_nat_u32 (x : Int) : IntKind.u32.wrap x = ((Int.toNat (IntKind.u32.wrap x) : Nat) : Int) := by
  simp only [IntKind.wrap, IntKind.signed, IntKind.bits]; simp; omega
theorem u8_wrap (x : Nat) : IntKind.u8.wrap ((x : Nat) : Int) = ((UInt8.ofNat x).toNat : Int) := by
  simp [IntKind.wrap, IntKind.signed, IntKind.bits]
theorem u8_or (a b : UInt8) : IntKind.u8.wrap (((BitVec.ofInt 8 ((a.toNat : Nat) : Int) ||| BitVec.ofInt 8 ((b.toNat : Nat) : Int)).toNat : Nat) : Int) = ((a ||| b).toNat : Int) := by
  rw [u8_wrap]
  have e : (BitVec.ofInt 8 ((a.toNat : Nat) : Int) ||| BitVec.ofInt 8 ((b.toNat : Nat) : Int)).toNat = (a ||| b).toNat := by
    rw [BitVec.ofInt_natCast, BitVec.ofInt_natCast, UInt8.toNat_or, BitVec.toNat_or, BitVec.toNat_ofNat, BitVec.toNat_ofNat, Nat.mod_eq_of_lt a.toNat_lt, Nat.mod_eq_of_lt b.toNat_lt]
  rw [e]; simp
theorem u8_and (a b : UInt8) : IntKind.u8.wrap (((BitVec.ofInt 8 ((a.toNat : Nat) : Int) &&& BitVec.ofInt 8 ((b.toNat : Nat) : Int)).toNat : Nat) : Int) = ((a &&& b).toNat : Int) := by
  rw [u8_wrap]
  have e : (BitVec.ofInt 8 ((a.toNat : Nat) : Int) &&& BitVec.ofInt 8 ((b.toNat : Nat) : Int)).toNat = (a &&& b).toNat := by
    rw [BitVec.ofInt_natCast, BitVec.ofInt_natCast, UInt8.toNat_and, BitVec.toNat_and, BitVec.toNat_ofNat, BitVec.toNat_ofNat, Nat.mod_eq_of_lt a.toNat_lt, Nat.mod_eq_of_lt b.toNat_lt]
  rw [e]; simp
theorem u8_xor (a b : UInt8) : IntKind.u8.wrap (((BitVec.ofInt 8 ((a.toNat : Nat) : Int) ^^^ BitVec.ofInt 8 ((b.toNat : Nat) : Int)).toNat : Nat) : Int) = ((a ^^^ b).toNat : Int) := by
  rw [u8_wrap]
  have e : (BitVec.ofInt 8 ((a.toNat : Nat) : Int) ^^^ BitVec.ofInt 8 ((b.toNat : Nat) : Int)).toNat = (a ^^^ b).toNat := by
    rw [BitVec.ofInt_natCast, BitVec.ofInt_natCast, UInt8.toNat_xor, BitVec.toNat_xor, BitVec.toNat_ofNat, BitVec.toNat_ofNat, Nat.mod_eq_of_lt a.toNat_lt, Nat.mod_eq_of_lt b.toNat_lt]
  rw [e]; simp
def u8I (x : Int) : UInt8 := UInt8.ofNat (Int.toNat (IntKind.u8.wrap x))
theorem u8I_wrap (x : Int) : IntKind.u8.wrap x = ((u8I x).toNat : Int) := by
  unfold u8I
  simp only [IntKind.wrap, IntKind.signed, IntKind.bits]; simp; omega
/-- A shift to the left by a number that is no less than 0. -/
theorem Yl.shl {k k' : IntKind} {a : Int} {m : Nat} {xo yo : Operand} {t' : TypeId} (hx : ev F xo = some (.int k a)) (hy : ev F yo = some (.int k' ((m : Nat) : Int))) : Yl P n F w (.binOp .shl t xo yo t') ty (.int k (k.wrap (a * 2 ^ (min m k.bits)))) := fun ac hag o h1 _ => by
  unfold execOp
  rw [h1]
  have hg : (eqGuard .shl t xo yo (.int k a) (.int k' ((m : Nat) : Int))).run P w = .ok () w := rfl
  simp only [hag.eval hx, hag.eval hy, Sem.run_bind, hg, Result.andThen_ok]
  have hs : (Op.shift .shl k a k' ((m : Nat) : Int)).run P w = .ok (.int k (k.wrap (a * 2 ^ (min m k.bits)))) w := by
    unfold Op.shift
    rw [if_neg (by omega)]; rfl
  simp [binOp, hs]
theorem Yl.shr {k k' : IntKind} {a : Int} {m : Nat} {xo yo : Operand} {t' : TypeId} (hx : ev F xo = some (.int k a)) (hy : ev F yo = some (.int k' ((m : Nat) : Int))) : Yl P n F w (.binOp .shr t xo yo t') ty (.int k (a.fdiv (2 ^ (min m k.bits)))) := fun ac hag o h1 _ => by
  unfold execOp
  rw [h1]
  have hg : (eqGuard .shr t xo yo (.int k a) (.int k' ((m : Nat) : Int))).run P w = .ok () w := rfl
  simp only [hag.eval hx, hag.eval hy, Sem.run_bind, hg, Result.andThen_ok]
  have hs : (Op.shift .shr k a k' ((m : Nat) : Int)).run P w = .ok (.int k (a.fdiv (2 ^ (min m k.bits)))) w := by
    unfold Op.shift
    rw [if_neg (by omega)]; rfl
  simp [binOp, hs]
/-! ### how many bytes a number has -/
def NumInv (l n : Nat) : Prop := n * 128 ^ l ≤ 18446744073709551615
theorem NumInv.zero {n : Nat} (h : n ≤ 18446744073709551615) : NumInv 0 n := by unfold NumInv; omega
theorem NumInv.step {l l' n : Nat} (h : NumInv l n) (hl : l' = l + 1) : NumInv l' (n / 128) := by
  subst hl
  unfold NumInv at *
  rw [Nat.pow_succ, Nat.mul_comm (128 ^ l) 128, ← Nat.mul_assoc]
  exact Nat.le_trans (Nat.mul_le_mul_right _ (Nat.div_mul_le_self n 128)) h
theorem NumInv.le {l n : Nat} (h : NumInv l n) (hn : 128 ≤ n) : l ≤ 8 := by
  unfold NumInv at h
  rcases Nat.lt_or_ge 8 l with h8 | h8
  · have h1 : 128 ^ 9 ≤ 128 ^ l := Nat.pow_le_pow_right (by decide) h8
    have h2 : 128 * 128 ^ 9 ≤ n * 128 ^ l := Nat.mul_le_mul hn h1
    have h3 : 128 * 128 ^ 9 = 1180591620717411303424 := by decide
    omega
  · exact h8
def RecN (n l : Nat) : Prop := 1 ≤ l ∧ ∀ k, n < 128 ^ k * 128 → l ≤ k + 1
theorem RecN.one {n l : Nat} (h : l = 1) : RecN n l := ⟨by omega, fun k _ => by omega⟩
theorem RecN.step {n l l' : Nat} (hn : ¬ n < 128) (h : RecN (n / 128) l) (hl : l' = l + 1) : RecN n l' :=
  ⟨by omega, fun k hk => by
    cases k with
    | zero => omega
    | succ k =>
      have h1 : n / 128 < 128 ^ k * 128 := Nat.div_lt_of_lt_mul (by rw [Nat.pow_succ] at hk; omega)
      have := h.2 k h1
      omega⟩
theorem RecN.ten {n l : Nat} (h : RecN n l) (hn : n ≤ 18446744073709551615) : 1 ≤ l ∧ l ≤ 10 :=
  ⟨h.1, h.2 9 (Nat.lt_of_le_of_lt hn (by decide))⟩
/-! ### make, with room -/
theorem Do.makeC {m e size bytes : Nat} {lx cx : Operand} {kl kc : IntKind} {z : Value} (ht : P.underlying t = some (.slice e)) (hi : (P.info? e).map (fun i => (i.zero, i.size, i.bytes)) = some (some z, size, bytes)) (H : Own w0 D w L) (hl : ev F lx = some (.int kl 0)) (hc : ev F cx = some (.int kc (m : Int)))
    (hb : bytes * m ≤ 281474976710656) (hm : m ≤ maxLen) (h : ∀ A w', Own w0 D w' (row A 0 m [] e size :: L) → K (.slice A 0 m) w') : Do P n F w (.makeSlice t lx cx) ty K := fun a ha o h1 h2 next Q hn => by
  obtain ⟨i, hi0, hz, rfl, rfl⟩ := info_parts hi
  have hm' : (m : Int) ≤ 9223372036854775807 := by unfold maxLen at hm; omega
  have hb' : (i.bytes : Int) * (m : Int) ≤ 281474976710656 := by
    have h : ((i.bytes * m : Nat) : Int) ≤ 281474976710656 := by omega
    rwa [Int.natCast_mul] at h
  have hr := run_make (P := P) w t e i z ht hi0 hz kl kc 0 m (Int.le_refl _) (by omega) hb' hm'
  simp only [Int.toNat_natCast, Int.toNat_zero] at hr
  unfold execOp
  rw [h1]
  simp only [ha.eval hl, ha.eval hc, Sem.run_bind, Sem.run_pure, Result.andThen_ok, hr]
  refine hn _ _ (h _ _ (H.alloc _ ⟨by simp, .inr ⟨w.heap.size, _, (0, 0), rfl, by simp; rfl, Nat.zero_le _, hm, size_madeCells _ _, by simp, Okf.zero _⟩⟩))
/-! ### a string's bytes behind a row -/
theorem src_str {l : List UInt8} {m : Nat} {tx : TypeId} (hk : P.underlying tx = some .string) (hm : m = List.length l) : Src P 1 tx (.string ⟨l.toArray⟩) m (List.flatMap eB l) w := by
  subst hm
  have h := Src.ofString (P := P) (w := w) hk ⟨l.toArray⟩
  have e : byteCells (⟨l.toArray⟩ : ByteArray) = List.flatMap eB l := by rw [eB_map]; simp [byteCells]
  rw [e] at h
  have e2 : (⟨l.toArray⟩ : ByteArray).size = l.length := by simp [ByteArray.size]
  rw [e2] at h
  exact h
end
end Go.Proofs.Ytcjjblkgbfaapaa
