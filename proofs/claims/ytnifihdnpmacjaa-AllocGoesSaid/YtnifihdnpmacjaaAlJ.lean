/-
  Contracts of alloc's Clone, Load.
-/
import Derived.Test.YtnifihdnpmacjaaAlG
import Derived.Deep.MidRow
import Derived.Laws.CopyRow
namespace Go.Proofs.Ytnifihdnpmacjaa
open Go.RowKit

theorem alc_one {cur : Array Value} {P : Nat} {T : Int} {f : Nat → Bool} (hs : cur.size = 130) (h0 : cur[0]? = some (.int .i64 (P : Int))) (h1 : cur[1]? = some (.int .i64 T))
    (hb : ∀ k, k < 128 → ∃ x : UInt8, cur[2 + k]? = some (bv x) ∧ ∀ r, r < 8 → x.toNat.testBit r = f (8 * k + r)) : cur.all (·.oneCell') = true := by
  rw [Array.all_eq_true]
  intro i hi
  have h : ∃ v, cur[i]? = some v ∧ v.oneCell' = true := by
    match i with
    | 0 => exact ⟨_, h0, rfl⟩
    | 1 => exact ⟨_, h1, rfl⟩
    | k + 2 =>
      obtain ⟨x, hx, _⟩ := hb k (by omega)
      exact ⟨_, by rw [Nat.add_comm k 2]; exact hx, rfl⟩
  obtain ⟨v, hv, ho⟩ := h
  obtain ⟨_, rfl⟩ := Array.getElem?_eq_some_iff.1 hv
  exact ho

set_option maxHeartbeats 1000000 in
set_option maxRecDepth 100000 in
theorem Clone_any (g P : Nat) (T : Int) (f : Nat → Bool) (w : World) (h : Alc0 w g P T f) :
    Calls Try.prog 20 #[.pointer (some ⟨g, 0, none⟩)] w fun e w' => e = .returned (.pointer (some ⟨w.heap.size, 0, none⟩)) ∧ Hid (Alc0 w' w.heap.size P T f) ∧ Below w.heap.size w w' := by
  obtain ⟨cur, hg, hs, r0, r1, r2⟩ := h
  have hz : ∀ W : World, (zeroValue 52).run Try.prog W = .ok (.agg (#[.int .i64 0, .int .i64 0] ++ Array.replicate 128 (.int .u8 0))) W := fun _ => by kernel_rfl
  obtain ⟨z, hzz⟩ : ∃ z : Array Value, #[.int .i64 0, .int .i64 0] ++ Array.replicate 128 (.int .u8 0) = z := ⟨_, rfl⟩
  have hzs : z.size = 130 := by rw [← hzz]; simp
  rw [hzz] at hz
  have hrange : w.rangeAt g 0 cur.toList := fun j v hj => by
    rw [blk_cell hg, Nat.zero_add, ← Array.getElem?_toList]; exact hj
  have hinf : (Try.prog.info? 52).map (·.size) = some 130 := by kernel_rfl
  have hst : (storeCells ⟨w.heap.size, 0, none⟩ cur.toList).run Try.prog (w.alloc (.cells z 52)) = .ok () ((w.alloc (.cells z 52)).setRow w.heap.size cur) := by
    have h1 := run_storeCells_at Try.prog w.heap.size 0 52 cur.toList 0 z (w.alloc (.cells z 52)) (heap_alloc_new w _) (by simp; omega) (fun v hv => by
      obtain ⟨i, hi, rfl⟩ := List.mem_iff_getElem.1 hv
      have := Array.all_eq_true.1 (alc_one hs r0 r1 r2) i (by simpa using hi)
      simpa using this)
    have e : (z.toList.take 0 ++ cur.toList ++ z.toList.drop (0 + cur.toList.length)).toArray = cur := by
      rw [List.take_zero, List.nil_append, List.drop_of_length_le (by simp; omega), List.append_nil, Array.toArray_toList]
    simp only [Nat.add_zero] at h1
    rw [e] at h1
    exact h1
  have HR := Lib.hid hrange
  have HL := Lib.hid (show cur.toList.length = 130 by rw [Array.length_toList]; exact hs)
  have HO := Lib.hid (alc_one hs r0 r1 r2)
  have HI := Lib.hid hinf
  have HS := Lib.hid hs
  have HZ := Lib.hid hzs
  have H := Lib.hid (show ∀ w' : World, w'.heap[w.heap.size]? = some (.cells cur 52 (0, 0)) → Alc0 w' w.heap.size P T f from fun w' h => ⟨cur, h, hs, r0, r1, r2⟩)
  clear hg hs r0 r1 r2 hzz hzs hrange hinf
  go_enter Try.func20, Try.ntmps20
  go_wp2_with (with_reducible refine wpList_load_mid rfl 52 _ rfl g 0 rfl cur.toList _ HR.out Try.underlying52 rfl (by rw [HL.out]; exact HI.out) ?_)
  go_wp2
  go_ret
  refine ⟨rfl, H.out _ (setRow_heap _ _ z cur 52 (0, 0) (heap_alloc_new w _)), ((Below.refl _ _).alloc (Nat.le_refl _) _).trans ⟨rfl, rfl, rfl, by simp, fun k hk => setRow_other _ _ k _ (by omega)⟩⟩
end Go.Proofs.Ytnifihdnpmacjaa
