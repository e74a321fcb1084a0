/-
  Contracts of octet.sumSteps, octet.Sum.
-/
import Derived.Test.YtccjclalngabhaaGreatOctM
import Derived.Test.YtccjclalngabhaaGreatCrc
namespace Go.Proofs.YtccjclalngabhaaGreat.Z
open Go.RowKit
def tabA (k : Nat) : Array Value := (Array.range 16).map fun i => .int .u32 (if i < k then (sts 4 i : Nat) else 0 : Int)
theorem tabA_size (k : Nat) : (tabA k).size = 16 := by simp [tabA]
theorem tabA_get (k j : Nat) (h : j < 16) : (tabA k)[j]? = some (.int .u32 (if j < k then (sts 4 j : Nat) else 0 : Int)) := by
  rw [Array.getElem?_eq_getElem (by rw [tabA_size]; exact h)]
  simp [tabA]
theorem tabA_set (k : Nat) (h : k < 16) : (tabA k).setIfInBounds k (.int .u32 ((sts 4 k : Nat) : Int)) = tabA (k + 1) := by
  apply Array.ext_getElem?
  intro j
  rw [Array.getElem?_setIfInBounds, tabA_size]
  by_cases hj : j < 16
  · rw [tabA_get (k + 1) j hj]
    by_cases e : k = j
    · subst e; simp [h]
    · rw [if_neg e, tabA_get k j hj]
      by_cases hlt : j < k
      · rw [if_pos hlt, if_pos (by omega)]
      · rw [if_neg hlt, if_neg (by omega)]
  · have h1 : (tabA k)[j]? = none := Array.getElem?_eq_none (by rw [tabA_size]; omega)
    have h2 : (tabA (k + 1))[j]? = none := Array.getElem?_eq_none (by rw [tabA_size]; omega)
    rw [h1, h2]
    split
    · omega
    · rfl
theorem tabA_one (k : Nat) : (tabA k).all (·.oneCell') = true := by
  rw [Array.all_eq_true_iff_forall_mem]
  intro x hx
  simp only [tabA, Array.mem_map] at hx
  obtain ⟨i, _, rfl⟩ := hx
  rfl
theorem below_setRow {B g : Nat} {a w : World} (h : Below B a w) (hg : B ≤ g) (cs : Array Value) : Below B a (w.setRow g cs) :=
  h.trans ⟨rfl, rfl, rfl, by simp, fun k hk => setRow_other w g k _ (by omega)⟩
theorem blk_cell {w : World} {g t : Nat} {cs : Array Value} (h : w.heap[g]? = some (.cells cs t (0, 0))) (i : Nat) : w.cell? ⟨g, i, none⟩ = cs[i]? := cell_of_row w g i cs t (0, 0) h
theorem blk_frozen {w : World} {g t : Nat} {cs : Array Value} (h : w.heap[g]? = some (.cells cs t (0, 0))) (i : Nat) : w.frozen? ⟨g, i, none⟩ = false := by simp [World.frozen?, h]
theorem blk_set {w : World} {g t : Nat} {cs : Array Value} (h : w.heap[g]? = some (.cells cs t (0, 0))) (i : Nat) (u : Value) : (w.setCell ⟨g, i, none⟩ u).heap[g]? = some (.cells (cs.setIfInBounds i u) t (0, 0)) := by
  simp [World.setCell, Array.getElem?_modify, h]
theorem blk_far {w : World} {g t : Nat} {cs : Array Value} (h : w.heap[g]? = some (.cells cs t (0, 0))) {p : Addr} (hp : g ≠ p.block) (u : Value) : (w.setCell p u).heap[g]? = some (.cells cs t (0, 0)) := (Below.heap_setCell w p u g hp).trans h
theorem blk_alloc {w : World} {g t : Nat} {cs : Array Value} (h : w.heap[g]? = some (.cells cs t (0, 0))) (o : Obj) : (w.alloc o).heap[g]? = some (.cells cs t (0, 0)) :=
  (Below.heap_alloc w o g (Array.getElem?_eq_some_iff.1 h).1).trans h
theorem and1 (r : Nat) (h : r < 2 ^ 32) : bits .and .u32 (r : Int) 1 = ((r % 2 : Nat) : Int) := by
  have := u32_and_nat r 1 h (by decide)
  rw [nat_mask1] at this
  exact this
theorem xorP (r : Nat) (h : r < 2 ^ 32) : bits .xor .u32 ((r : Int) / 2) 3988292384 = (((r / 2) ^^^ 3988292384 : Nat) : Int) := by
  have := u32_xor_nat (r / 2) 3988292384 (by omega) (by decide)
  simpa using this
theorem sts_succ (m k : Nat) : sts (m + 1) k = st (sts m k) := by rw [sts_add]; rfl
set_option maxHeartbeats 1000000 in
set_option maxRecDepth 100000 in
theorem sumSteps_any (w : World) :
    Calls Tryz.prog 98 #[] w fun e w' => e = .returned (.agg (tabA 16)) ∧ Below w.heap.size w w' := by
  have hz : ∀ x : Int, x = 0 → (#[Value.int IntKind.u32 x, Value.int IntKind.u32 x, Value.int IntKind.u32 x, Value.int IntKind.u32 x,
          Value.int IntKind.u32 x, Value.int IntKind.u32 x, Value.int IntKind.u32 x, Value.int IntKind.u32 x,
          Value.int IntKind.u32 x, Value.int IntKind.u32 x, Value.int IntKind.u32 x, Value.int IntKind.u32 x,
          Value.int IntKind.u32 x, Value.int IntKind.u32 x, Value.int IntKind.u32 x, Value.int IntKind.u32 x] : Array Value) = tabA 0 := by rintro x rfl; kernel_rfl
  have HZ := Lib.hid (hz 0 rfl); clear hz
  go_enter Tryz.func98, Tryz.ntmps98
  go_wp2
  go_loopw [5] (fun i wr => ∃ k : Nat, k ≤ 16 ∧ i = .int .i64 k ∧ Hid (wr.heap[w.heap.size + 1]? = some (.cells (tabA k) 139 (0, 0))) ∧ Hid (wr.heap[w.heap.size]? = some (.cells (tabA 0) 139 (0, 0))) ∧ Below w.heap.size w wr) (fun i _ => 16 - (intOf i).toNat)
  case atStart =>
    rw [HZ.out]
    refine ⟨0, by omega, rfl, ?_, ?_, ((Below.refl _ _).alloc (Nat.le_refl _) _).alloc (by simp) _⟩
    · show _ = _
      have := heap_alloc_new (w.alloc (.cells (tabA 0) 139)) (.cells (tabA 0) 139)
      simpa using this
    · show _ = _
      exact blk_alloc (heap_alloc_new w (.cells (tabA 0) 139)) _
  case round =>
    obtain ⟨k, hk, rfl, hb1, hb0, hbel⟩ := hrel
    by_cases hlt : k < 16
    · go_wp2
      go_loop [3, 10] (fun r j => ∃ n m : Nat, m ≤ 4 ∧ j = .int .i64 m ∧ r = .int .u32 n ∧ Hid (n = sts m k)) (fun _ j => 4 - (intOf j).toNat)
      case atStart =>
        exact ⟨k, 0, by omega, rfl, rfl, rfl⟩
      case round =>
        obtain ⟨n, m, hm, rfl, rfl, hn⟩ := hrel
        have hn32 : n < 2 ^ 32 := by rw [hn.out]; exact sts_lt m (by omega)
        by_cases hlm : m < 4
        · have h1 := and1 n hn32
          have h2 := xorP n hn32
          rcases Nat.mod_two_eq_zero_or_one n with hp | hp
          · rw [hp] at h1
            have HP := Lib.hid hp; clear hp hn32
            go_wp2
            go_round
            case rel => exact ⟨n / 2, m + 1, by omega, by go_num, by go_num, by show _ = _; rw [sts_succ, ← hn.out]; unfold st; rw [if_neg (by have := HP.out; omega)]⟩
            case measure => simp [intOf]; omega
          · rw [hp] at h1
            have HP := Lib.hid hp; clear hp hn32
            go_wp2
            go_round
            case rel => exact ⟨n / 2 ^^^ 3988292384, m + 1, by omega, by go_num, rfl, by show _ = _; rw [sts_succ, ← hn.out]; unfold st; rw [if_pos HP.out]⟩
            case measure => simp [intOf]; omega
        · clear hn32
          have hc : wr.cell? ⟨w.heap.size + 1, k, none⟩ = some (.int .u32 0) := by rw [blk_cell hb1.out, tabA_get k k hlt, if_neg (by omega)]
          have hf : wr.frozen? ⟨w.heap.size + 1, k, none⟩ = false := blk_frozen hb1.out k
          go_wp2
          go_roundw
          case rel =>
            have h4 : m = 4 := by omega
            have e : n = sts 4 k := by rw [hn.out, h4]
            subst e
            refine ⟨k + 1, by omega, by go_num, ?_, ?_, hbel.setCell (by show w.heap.size ≤ w.heap.size + 1; omega) _⟩
            · show _ = _
              rw [← tabA_set k hlt]
              exact blk_set hb1.out k _
            · exact blk_far hb0.out (by show w.heap.size ≠ w.heap.size + 1; omega) _
          case measure => simp [intOf]; omega
    · have hk16 : k = 16 := by omega
      subst hk16
      go_wp2_with (first | (refine wpList_load_row rfl _ _ rfl _ rfl _ _ _ _ hb1.out Tryz.underlying139 rfl (by kernel_rfl) ?_) | (refine wpList_store_row rfl _ _ _ rfl _ _ rfl rfl _ _ hb0.out (by kernel_rfl) (by kernel_rfl) (tabA_one 16) ?_))
      refine bodyPost_ret (v := .agg (tabA 16)) ?_ rfl ⟨rfl, below_setRow hbel (Nat.le_refl _) _⟩
      exact results_cell_row rfl _ _ _ _ _ _ _ rfl (setRow_heap _ _ _ _ _ _ hb0.out) Tryz.underlying139 rfl (by kernel_rfl)
end Go.Proofs.YtccjclalngabhaaGreat.Z
