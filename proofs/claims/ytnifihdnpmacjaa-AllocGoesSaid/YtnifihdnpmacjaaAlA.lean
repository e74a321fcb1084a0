/-
  An allocator in memory; contracts of alloc's set, turn, isPlace, Has, size, New.
-/
import Derived.Test.YtnifihdnpmacjaaBk
import Derived.Deep.RegionWith
import Derived.Deep.QuietTactic
import Derived.BigQuiet
import Derived.BigRegion
namespace Go.Proofs.Ytnifihdnpmacjaa
open Go.RowKit

/-- An allocator of P places lies in block g: T is its count, f its bits. -/
def Alc0 (w : World) (g P : Nat) (T : Int) (f : Nat → Bool) : Prop := ∃ cur : Array Value, w.heap[g]? = some (.cells cur 52 (0, 0)) ∧ cur.size = 130 ∧ cur[0]? = some (.int .i64 (P : Int)) ∧ cur[1]? = some (.int .i64 T) ∧
  ∀ k, k < 128 → ∃ x : UInt8, cur[2 + k]? = some (bv x) ∧ ∀ r, r < 8 → x.toNat.testBit r = f (8 * k + r)

/-- All that stood is as it was, but block g. -/
def Upd (g : Nat) (w w' : World) : Prop := w'.os = w.os ∧ w'.tape = w.tape ∧ w'.output = w.output ∧ w.heap.size ≤ w'.heap.size ∧ ∀ k, k < w.heap.size → k ≠ g → w'.heap[k]? = w.heap[k]?

theorem Upd.refl (g : Nat) (w : World) : Upd g w w := ⟨rfl, rfl, rfl, Nat.le_refl _, fun _ _ _ => rfl⟩
theorem Upd.trans {g : Nat} {a b c : World} (h1 : Upd g a b) (h2 : Upd g b c) : Upd g a c :=
  ⟨h2.1.trans h1.1, h2.2.1.trans h1.2.1, h2.2.2.1.trans h1.2.2.1, Nat.le_trans h1.2.2.2.1 h2.2.2.2.1, fun k hk hg => (h2.2.2.2.2 k (Nat.lt_of_lt_of_le hk h1.2.2.2.1) hg).trans (h1.2.2.2.2 k hk hg)⟩
theorem Upd.of_below {g : Nat} {w w' : World} (h : Below w.heap.size w w') : Upd g w w' := ⟨h.os, h.tape, h.output, h.size, fun k hk _ => h.block k hk⟩
theorem Upd.below {g : Nat} {w0 w w' : World} (hb : Below w0.heap.size w0 w) (h : Upd g w w') (hg : w0.heap.size ≤ g) : Below w0.heap.size w0 w' :=
  ⟨h.1.trans hb.os, h.2.1.trans hb.tape, h.2.2.1.trans hb.output, Nat.le_trans hb.size h.2.2.2.1, fun k hk => (h.2.2.2.2 k (Nat.lt_of_lt_of_le hk hb.size) (by omega)).trans (hb.block k hk)⟩
theorem Upd.set (g i : Nat) (w : World) (u : Value) : Upd g w (w.setCell ⟨g, i, none⟩ u) := ⟨rfl, rfl, rfl, by simp, fun k _ hk => Below.heap_setCell w ⟨g, i, none⟩ u k hk⟩
theorem Upd.drew {g : Nat} {w w' : World} (h : Upd g w w') : Upd g w w'.drew := h

theorem Alc0.lt {w : World} {g P : Nat} {T : Int} {f : Nat → Bool} (h : Alc0 w g P T f) : g < w.heap.size := by
  obtain ⟨cur, hg, _⟩ := h
  exact (Array.getElem?_eq_some_iff.1 hg).1
theorem Alc0.keep {w w' : World} {g P : Nat} {T : Int} {f : Nat → Bool} (h : Alc0 w g P T f) (he : w'.heap[g]? = w.heap[g]?) : Alc0 w' g P T f := by
  obtain ⟨cur, hg, r⟩ := h
  exact ⟨cur, he.trans hg, r⟩
theorem Alc0.below {w w' : World} {g P : Nat} {T : Int} {f : Nat → Bool} (h : Alc0 w g P T f) (hb : Below w.heap.size w w') : Alc0 w' g P T f := h.keep (hb.block g h.lt)
theorem Alc0.drew {w : World} {g P : Nat} {T : Int} {f : Nat → Bool} (h : Alc0 w g P T f) : Alc0 w.drew g P T f := h
theorem Alc0.cP {w : World} {g P : Nat} {T : Int} {f : Nat → Bool} (h : Alc0 w g P T f) : w.cell? ⟨g, 0, none⟩ = some (.int .i64 (P : Int)) := by
  obtain ⟨cur, hg, _, h0, _⟩ := h
  rw [blk_cell hg]; exact h0
theorem Alc0.cT {w : World} {g P : Nat} {T : Int} {f : Nat → Bool} (h : Alc0 w g P T f) : w.cell? ⟨g, 1, none⟩ = some (.int .i64 T) := by
  obtain ⟨cur, hg, _, _, h1, _⟩ := h
  rw [blk_cell hg]; exact h1
theorem Alc0.fr {w : World} {g P : Nat} {T : Int} {f : Nat → Bool} (h : Alc0 w g P T f) (i : Nat) : w.frozen? ⟨g, i, none⟩ = false := by
  obtain ⟨cur, hg, _⟩ := h
  exact blk_frozen hg i
theorem Alc0.cB {w : World} {g P : Nat} {T : Int} {f : Nat → Bool} (h : Alc0 w g P T f) {k : Nat} (hk : k < 128) : ∃ x : UInt8, w.cell? ⟨g, 2 + k, none⟩ = some (.int .u8 (x.toNat : Int)) ∧ ∀ r, r < 8 → x.toNat.testBit r = f (8 * k + r) := by
  obtain ⟨cur, hg, _, _, _, hb⟩ := h
  obtain ⟨x, hx, hr⟩ := hb k hk
  exact ⟨x, by rw [blk_cell hg]; exact hx, hr⟩
theorem Alc0.setT {w : World} {g P : Nat} {T : Int} {f : Nat → Bool} (h : Alc0 w g P T f) (T' : Int) : Alc0 (w.setCell ⟨g, 1, none⟩ (.int .i64 T')) g P T' f := by
  obtain ⟨cur, hg, hs, h0, h1, hb⟩ := h
  refine ⟨_, blk_set hg 1 _, by simpa using hs, ?_, ?_, fun k hk => ?_⟩
  · rw [Array.getElem?_setIfInBounds_ne (by omega)]; exact h0
  · rw [Array.getElem?_setIfInBounds_self_of_lt (by omega)]
  · obtain ⟨x, hx, hr⟩ := hb k hk
    exact ⟨x, by rw [Array.getElem?_setIfInBounds_ne (by omega)]; exact hx, hr⟩
theorem Alc0.setB {w : World} {g P : Nat} {T : Int} {f f' : Nat → Bool} (h : Alc0 w g P T f) {k : Nat} (hk : k < 128) (y : UInt8) (hy : ∀ r, r < 8 → y.toNat.testBit r = f' (8 * k + r)) (ho : ∀ i, i / 8 ≠ k → f' i = f i) : Alc0 (w.setCell ⟨g, 2 + k, none⟩ (.int .u8 (y.toNat : Int))) g P T f' := by
  obtain ⟨cur, hg, hs, h0, h1, hb⟩ := h
  refine ⟨_, blk_set hg (2 + k) _, by simpa using hs, ?_, ?_, fun k' hk' => ?_⟩
  · rw [Array.getElem?_setIfInBounds_ne (by omega)]; exact h0
  · rw [Array.getElem?_setIfInBounds_ne (by omega)]; exact h1
  · by_cases e : k' = k
    · subst e
      exact ⟨y, by rw [Array.getElem?_setIfInBounds_self_of_lt (by omega)]; rfl, hy⟩
    · obtain ⟨x, hx, hr⟩ := hb k' hk'
      refine ⟨x, by rw [Array.getElem?_setIfInBounds_ne (by omega)]; exact hx, fun r hr8 => ?_⟩
      rw [ho _ (by omega)]; exact hr r hr8

/-- One bit turned. -/
def flip1 (f : Nat → Bool) (i : Nat) : Nat → Bool := fun j => if j = i then !f j else f j

theorem and8 (r : Nat) (h : r < 256) : bits .and .u8 (r : Int) 1 = ((r % 2 : Nat) : Int) := by
  have := u8_and_nat r 1 h (by decide)
  rw [nat_mask1] at this
  exact this

set_option maxHeartbeats 1000000 in
set_option maxRecDepth 100000 in
theorem set_any (g P i : Nat) (T : Int) (f : Nat → Bool) (w : World) (h : Alc0 w g P T f) (hi : i < 1024) :
    Calls Try.prog 26 #[.pointer (some ⟨g, 0, none⟩), .int .i64 (i : Int)] w fun e w' => e = .returned (.bool (f i)) ∧ w = w' := by
  obtain ⟨k, hk⟩ : ∃ k, i / 8 = k := ⟨_, rfl⟩
  obtain ⟨r, hr⟩ : ∃ r, i % 8 = r := ⟨_, rfl⟩
  have hk128 : k < 128 := by omega
  have hr8 : r < 8 := by omega
  obtain ⟨x, hc, hb⟩ := h.cB hk128
  have hb := hb r hr8
  rw [show 8 * k + r = i by omega] at hb
  have hx8 : x.toNat / 2 ^ r < 256 := Nat.lt_of_le_of_lt (Nat.div_le_self _ _) x.toNat_lt
  have h1 := and8 (x.toNat / 2 ^ r) hx8
  have hdv : ((x.toNat : Int) / 2 ^ r) = ((x.toNat / 2 ^ r : Nat) : Int) := by simp
  rw [← hdv] at h1
  rw [Nat.testBit_eq_decide_div_mod_eq] at hb
  have e1 : (i : Int) / 8 = (k : Int) := by omega
  have e2 : (i : Int).tdiv 8 = (k : Int) := by rw [Int.tdiv_eq_ediv_of_nonneg (by omega)]; exact e1
  have e3 : (i : Int) % 8 = (r : Int) := by omega
  have e4 : (i : Int).tmod 8 = (r : Int) := by rw [Int.tmod_eq_emod_of_nonneg (by omega)]; exact e3
  clear hdv hx8 hk hr h
  cases hf : f i
  · rw [hf] at hb
    have h2 : x.toNat / 2 ^ r % 2 = 0 := by have := of_decide_eq_false hb; omega
    rw [h2] at h1
    clear hb h2 hf
    go_enter Try.func26, Try.ntmps26
    go_wp2
    go_ret
    exact ⟨rfl, rfl⟩
  · rw [hf] at hb
    have h2 : x.toNat / 2 ^ r % 2 = 1 := of_decide_eq_true hb
    rw [h2] at h1
    clear hb h2 hf
    go_enter Try.func26, Try.ntmps26
    go_wp2
    go_ret
    exact ⟨rfl, rfl⟩
end Go.Proofs.Ytnifihdnpmacjaa
