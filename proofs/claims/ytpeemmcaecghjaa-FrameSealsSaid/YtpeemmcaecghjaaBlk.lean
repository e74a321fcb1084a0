/-
  A block of bytes: what is read of it, what is put into it; an index taken round.
-/
import Derived.Test.YtpeemmcaecghjaaStr
namespace Go.Proofs.Ytpeemmcaecghjaa
open Go.RowKit

theorem idx_lt (a : Int) (n : Nat) (h0 : 0 < n) (h1 : n ≤ 100000000) : ∃ i : Nat, i < n ∧ (wrap64 (a.tmod (n : Int) + (n : Int))).tmod (n : Int) = (i : Int) := by
  have h2 : a.tmod (n : Int) < n := Int.tmod_lt_of_pos a (by omega)
  have h3 : -(n : Int) < a.tmod n := by
    rcases Int.le_total 0 a with ha | ha
    · have := Int.tmod_nonneg (b := (n : Int)) ha; omega
    · have h4 : (-a).tmod (n : Int) < n := Int.tmod_lt_of_pos (-a) (by omega)
      rw [Int.neg_tmod] at h4; omega
  have e : wrap64 (a.tmod (n : Int) + (n : Int)) = a.tmod (n : Int) + (n : Int) := by
    unfold wrap64; omega
  rw [e]
  have h5 : 0 ≤ (a.tmod (n : Int) + (n : Int)).tmod n := Int.tmod_nonneg _ (by omega)
  have h6 : (a.tmod (n : Int) + (n : Int)).tmod n < n := Int.tmod_lt_of_pos _ (by omega)
  exact ⟨((a.tmod (n : Int) + (n : Int)).tmod n).toNat, by omega, by omega⟩

/-- An owned row of bytes with an element at least: its block. -/
theorem own_pos {w : World} {base n : Nat} {e : TypeId} {v : Value} {xs : List UInt8} (h : w.ownsRow base e 1 v n (xs.map bv)) (hn : 0 < n) :
    ∃ g cap cur, v = .slice (some ⟨g, 0, none⟩) n cap ∧ base ≤ g ∧ n ≤ cap ∧ cap ≤ maxLen ∧ w.heap[g]? = some (.cells cur e (0, 0)) ∧ cur.toList.take n = xs.map bv ∧ g < w.heap.size := by
  rcases h.2 with ⟨_, h0⟩ | ⟨g, cap, cur, rfl, hg1, hg, hcap, hcm, hcs, htake⟩
  · omega
  · exact ⟨g, cap, cur, rfl, hg1, hcap, hcm, hg, by simpa using htake, (Array.getElem?_eq_some_iff.1 hg).1⟩

theorem blk_get {w : World} {g t n : Nat} {cur : Array Value} {xs : List UInt8} (hg : w.heap[g]? = some (.cells cur t (0, 0))) (ht : cur.toList.take n = xs.map bv) {i : Nat} {x : UInt8} (hi : xs[i]? = some x) (hin : i < n) : w.cell? ⟨g, i, none⟩ = some (.int .u8 (x.toNat : Int)) := by
  rw [blk_cell hg, ← Array.getElem?_toList]
  have h1 : (cur.toList.take n)[i]? = some (bv x) := by rw [ht, List.getElem?_map, hi]; rfl
  rw [List.getElem?_take, if_pos hin] at h1
  exact h1

theorem sum_turned {xs : List UInt8} {i : Nat} {x y : UInt8} (hi : xs[i]? = some x) (hne : x.toNat ≠ y.toNat) : sum32 xs ≠ sum32 (xs.set i y) := by
  obtain ⟨h, rfl⟩ := List.getElem?_eq_some_iff.1 hi
  have hw := word_set xs i h y
  have hd : xs[i].toNat ^^^ y.toNat < 2 ^ 32 := Nat.lt_of_lt_of_le (Nat.xor_lt_two_pow (n := 8) xs[i].toNat_lt y.toNat_lt) (by decide)
  have := sum_differs (xs := xs) (ys := xs.set i y) (by simp) hw hd (by omega)
  intro e
  exact hne (x_eq.1 (this.1 e))

theorem blk_put {w : World} {g t n : Nat} {cur : Array Value} {xs : List UInt8} (hg : w.heap[g]? = some (.cells cur t (0, 0))) (ht : cur.toList.take n = xs.map bv) (i : Nat) (y : UInt8) :
    (w.setCell ⟨g, i, none⟩ (bv y)).heap[g]? = some (.cells (cur.setIfInBounds i (bv y)) t (0, 0)) ∧ (cur.setIfInBounds i (bv y)).toList.take n = (xs.set i y).map bv := by
  refine ⟨blk_set hg i _, ?_⟩
  rw [Array.toList_setIfInBounds, List.take_set, ht, List.map_set]

theorem blk_byt {w : World} {g t n : Nat} {cur : Array Value} {xs : List UInt8} (hg : w.heap[g]? = some (.cells cur t (0, 0))) (ht : cur.toList.take n = xs.map bv) (hl : xs.length = n) : Byt w w.heap.size (some ⟨g, 0, none⟩) n xs := by
  refine ⟨by simpa using hl, fun _ => ⟨g, 0, rfl, (Array.getElem?_eq_some_iff.1 hg).1, fun j hj => ?_⟩⟩
  have hj' : j < xs.length := by simpa using hj
  rw [Nat.zero_add, blk_get hg ht (List.getElem?_eq_getElem hj') (by omega)]
  simp [bv]

end Go.Proofs.Ytpeemmcaecghjaa
