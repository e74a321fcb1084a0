/-
  Numbers and texts as bytes: what ReadText answers.
-/
import Derived.Test.YtpeemmcaecghjaaOctC
namespace Go.Proofs.Ytpeemmcaecghjaa
open Go.RowKit

/-- A text's bytes. -/
def txt (s : ByteArray) : List UInt8 := num s.size ++ s.data.toList

theorem num_len {n : Nat} (h : n < 18446744073709551616) : (num n).length ≤ 10 := by
  have aux : ∀ (k n : Nat), n < 128 ^ (k + 1) → (num n).length ≤ k + 1 := by
    intro k
    induction k with
    | zero => intro n hn; rw [num_lt (by omega)]; simp
    | succ k ih =>
      intro n hn
      by_cases hlt : n < 128
      · rw [num_lt hlt]; simp
      · rw [num_ge hlt, List.length_cons]
        have := ih (n / 128) (by rw [Nat.pow_succ] at hn; exact Nat.div_lt_of_lt_mul (by omega))
        omega
  exact aux 9 n (Nat.lt_of_lt_of_le h (by decide))

theorem byteCells_bv (s : ByteArray) : byteCells s = s.data.toList.map bv := rfl

/-- What ReadText answers. -/
def rdText (xs : List UInt8) (most : Int) : List UInt8 × Nat × Nat :=
  if (rdNum xs).2.2 ≠ 0 then ([], 0, (rdNum xs).2.2)
  else if most < 0 ∨ most < ((rdNum xs).1 : Int) then ([], 0, 2)
  else if xs.length - (rdNum xs).2.1 < (rdNum xs).1 then ([], 0, 10)
  else ((xs.drop (rdNum xs).2.1).take (rdNum xs).1, (rdNum xs).2.1 + (rdNum xs).1, 0)

def tupT (r : List UInt8 × Nat × Nat) : Value := .tuple #[.string ⟨r.1.toArray⟩, .int .i64 (r.2.1 : Int), .int .i64 (r.2.2 : Int)]

theorem rdNum_k (xs : List UInt8) : (rdNum xs).2.1 ≤ xs.length := by
  have := nlen_le xs
  unfold rdNum
  split
  · simp
  · split
    · simp
    · simp; omega

theorem rdNum_e (xs : List UInt8) : (rdNum xs).2.2 = 0 ∨ (rdNum xs).2.2 = 10 ∨ (rdNum xs).2.2 = 11 := by
  unfold rdNum
  split
  · simp only; split <;> simp
  · split <;> simp

end Go.Proofs.Ytpeemmcaecghjaa
