/-
  Bytes as texts; octet.Num over any world; octet.ReadFixed of too few.
-/
import Derived.Test.YtpeemmcaecghjaaOctF
import Derived.Test.YtpeemmcaecghjaaNumMath
import Derived.Lib.SlBytesConst
namespace Go.Proofs.Ytpeemmcaecghjaa
open Go.RowKit

theorem hid' {p : Prop} (h : p) : Hid p := h

set_option maxHeartbeats 400000 in
theorem ReadFixed_short (cap n : Nat) (A : Option Addr) (w : World) (hl : n < 4) :
    Calls Try.prog 18 #[.slice A n cap] w fun e w' => e = .returned (.tuple #[.int .u32 0, .int .i64 10]) ∧ w = w' := by
  have h4 : (n : Int) < 4 := by omega
  go_enter Try.func18, Try.ntmps18
  go_wp2
  go_ret2
  exact ⟨rfl, rfl⟩

/-- A list of bytes just laid by buildSlice. -/
theorem lit_byt (w : World) (t : TypeId) (xs : List UInt8) (fr : Nat × Nat := (0, 0)) : Byt (w.alloc (.cells (xs.map bv).toArray t fr)) (w.heap.size + 1) (some ⟨w.heap.size, 0, none⟩) xs.length xs := by
  refine ⟨by simp, fun _ => ⟨_, _, rfl, Nat.lt_succ_self _, fun j hj => ?_⟩⟩
  rw [Nat.zero_add, cell_of_row _ _ _ _ _ _ (heap_alloc_new w _)]
  simp only [List.getElem?_toArray]
  exact List.getElem?_eq_getElem hj

theorem below_alloc (w : World) (o : Obj) : Below w.heap.size w (w.alloc o) := (Below.refl _ _).alloc (Nat.le_refl _) o

theorem own_str {w : World} {B n c : Nat} {A : Option Addr} {xs : List UInt8} (h : Byt w B A n xs) : (convert 22 9 (.slice A n c)).run Try.prog w = .ok (.string ⟨xs.toArray⟩) w :=
  conv_bytes (P := Try.prog) Try.underlying22 Try.underlying5 Try.underlying9 h c

/-- The bytes of a list, as a text. -/
def str (xs : List UInt8) : ByteArray := ⟨xs.toArray⟩
theorem str_list (xs : List UInt8) : (str xs).toList = xs := by rw [ByteArray.toList_eq]; rfl
theorem str_eq {xs ys : List UInt8} : ((str xs).toList == (str ys).toList) = decide (xs = ys) := by
  rw [str_list, str_list]
  by_cases h : xs = ys
  · subst h; simp
  · simp [h]

theorem own_str' {w : World} {B n c : Nat} {A : Option Addr} {xs : List UInt8} (h : Byt w B A n xs) : (convert 22 9 (.slice A n c)).run Try.prog w = .ok (.string (str xs)) w := own_str h

theorem Num_w (n : Nat) (hn : Hid (n < 18446744073709551616)) (w : World) :
    Calls Try.prog 12 #[.int .u64 (n : Int)] w fun e w' => ∃ (A : Option Addr) (m c : Nat), e = .returned (.slice A m c) ∧ m ≤ c ∧ 1 ≤ m ∧ m ≤ 10 ∧ Hid ((num n).length = m) ∧ Hid (w'.ownsRow w.heap.size 5 1 (.slice A m c) m ((num n).map bv)) ∧ Below w.heap.size w w' := by
  refine (Num_any n hn w).mono ?_
  rintro e w' ⟨v, rfl, ho, hb⟩
  obtain ⟨A, c, rfl, hc, _⟩ := own_form ho
  exact ⟨A, _, c, rfl, hc, num_pos n, num_len hn.out, rfl, ho, hb⟩

end Go.Proofs.Ytpeemmcaecghjaa
