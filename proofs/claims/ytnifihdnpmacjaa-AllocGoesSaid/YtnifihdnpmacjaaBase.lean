/-
  Slices of bytes that read as a list, in this seat's program.
  Conditions: none.
-/
import Derived.Test.YtnifihdnpmacjaaMem
namespace Go.Proofs.Ytnifihdnpmacjaa
open Go.RowKit

/-- The value of one byte. -/
def bv (x : UInt8) : Value := .int .u8 (x.toNat : Int)

theorem bv_one {xs : List UInt8} : ∀ u ∈ xs.map bv, u.oneCell' = true := fun u hu => by
  obtain ⟨x, _, rfl⟩ := List.mem_map.1 hu
  rfl

/-- The slice value '.slice A n c' reads as the bytes xs, and lies below block B. -/
def Byt (w : World) (B : Nat) (A : Option Addr) (n : Nat) (xs : List UInt8) : Prop := Rd w B 1 A n (xs.map bv)

section
variable {w w' : World} {B B' n : Nat} {A : Option Addr} {xs : List UInt8}
theorem Byt.len (h : Byt w B A n xs) : xs.length = n := by simpa using h.1
theorem Byt.below (h : Byt w B A n xs) (hb : Below B w w') : Byt w' B A n xs := Rd.below h hb
theorem Byt.more (h : Byt w B A n xs) (hB : B ≤ B') : Byt w B' A n xs := Rd.more h hB
theorem Byt.alloc (h : Byt w B A n xs) (hB : B ≤ w.heap.size) (o : Obj) : Byt (w.alloc o) B A n xs := Rd.alloc h hB o
theorem Byt.at_ (h : Byt w B A n xs) {k : Nat} (hk : k < n) : ∃ (b off : Nat) (x : UInt8), A = some ⟨b, off, none⟩ ∧ b < B ∧ xs[k]? = some x ∧ w.cell? ⟨b, off + k, none⟩ = some (.int .u8 (x.toNat : Int)) := by
  obtain ⟨b, off, e, hb, hc⟩ := h.2 (by omega)
  have hl := h.len
  have := hc k (by simp; omega)
  exact ⟨b, off, xs[k]'(by omega), e, hb, List.getElem?_eq_getElem (by omega), by simpa [bv] using this⟩
theorem Byt.of_own {base c : Nat} {e : TypeId} (h : w.ownsRow base e 1 (.slice A n c) n (xs.map bv)) : Byt w w.heap.size A n xs := Rd.of_own h
end

/-! ### arguments as the form opens them -/

theorem wf_u64 {a : Int} (h : (Lit.int .u64 a).wf = true) : ∃ n : Nat, a = (n : Int) ∧ Hid (n < 18446744073709551616) := by
  have hx : 0 ≤ a ∧ a ≤ 18446744073709551615 := by simpa [Lit.wf, IntKind.min, IntKind.max, IntKind.signed, IntKind.bits] using h
  exact ⟨a.toNat, by omega, by show _ < _; omega⟩
theorem wf_u32 {a : Int} (h : (Lit.int .u32 a).wf = true) : ∃ n : Nat, a = (n : Int) ∧ n < 4294967296 := by
  have hx : 0 ≤ a ∧ a ≤ 4294967295 := by simpa [Lit.wf, IntKind.min, IntKind.max, IntKind.signed, IntKind.bits] using h
  exact ⟨a.toNat, by omega, by omega⟩
theorem wf_u8 {a : Int} (h : (Lit.int .u8 a).wf = true) : ∃ n : Nat, a = (n : Int) ∧ n < 256 := by
  have hx : 0 ≤ a ∧ a ≤ 255 := by simpa [Lit.wf, IntKind.min, IntKind.max, IntKind.signed, IntKind.bits] using h
  exact ⟨a.toNat, by omega, by omega⟩
theorem wf_i64 {a : Int} (h : (Lit.int .i64 a).wf = true) : -9223372036854775808 ≤ a ∧ a ≤ 9223372036854775807 := by
  simpa [Lit.wf, IntKind.min, IntKind.max, IntKind.signed, IntKind.bits] using h

theorem Byt.nil_ (w : World) (B : Nat) (A : Option Addr) : Byt w B A 0 [] := Rd.nil w B 1 A

theorem Byt.of_open {w : World} {x : Addr} {len cap : Nat} {zs : List Int} (hl : len ≤ cap) (hz : zs.length = cap) (hcell : ∀ i, i < zs.length → w.cell? (x.add i) = some (.int .u8 (zs.getD i 0))) (hwz : ∀ n ∈ zs, (Lit.int .u8 n).wf = true) :
    Byt w w.heap.size (some x) len ((zs.take len).map fun z => UInt8.ofNat z.toNat) := by
  refine ⟨by simp; omega, fun hpos => ?_⟩
  have h0 := hcell 0 (by omega)
  obtain ⟨b, off, spot⟩ := x
  have h0' : w.cell? ⟨b, off, spot⟩ = some (.int .u8 (zs.getD 0 0)) := by simpa [Addr.add] using h0
  have hs : spot = none := World.cell?_spot h0'
  subst hs
  refine ⟨b, off, rfl, World.block_lt_of_cell? w _ h0', fun j hj => ?_⟩
  have hj' : j < len := by simp at hj; omega
  have hc := hcell j (by omega)
  rw [add_none] at hc
  rw [hc]
  have hm : zs[j]'(by omega) ∈ zs := List.getElem_mem _
  obtain ⟨n, hn, h256⟩ := wf_u8 (hwz _ hm)
  have e1 : zs.getD j 0 = (n : Int) := by unfold List.getD; rw [List.getElem?_eq_getElem (by omega)]; exact hn
  have e2 : zs[j]'(by omega) = (n : Int) := hn
  rw [e1]
  simp [bv, e2]
  omega

theorem Byt.take {w : World} {B n : Nat} {A : Option Addr} {xs : List UInt8} (h : Byt w B A n xs) {m : Nat} (hm : m ≤ n) : Byt w B A m (xs.take m) := by
  have := Rd.take h hm
  rw [Nat.mul_one, ← List.map_take] at this
  exact this

theorem elB : Elem Try.prog 22 5 1 1 := elem_of (z := .int .u8 0) Try.underlying22 (by kernel_rfl) rfl (by decide)

theorem ret_i {k : IntKind} {a b : Int} (h : a = b) : Ending.returned (.int k a) = .returned (.int k b) := by rw [h]
theorem ret_b {a b : Bool} (h : a = b) : Ending.returned (.bool a) = .returned (.bool b) := by rw [h]

end Go.Proofs.Ytnifihdnpmacjaa
