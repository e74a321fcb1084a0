/-
  Contract of span.Point.
-/
import Derived.Test.YtpinofeknilgfaaSpanC
import Derived.BigRegion
import Derived.Deep.RegionHeld3
namespace Go.Proofs.Ytpinofeknilgfaa
open Go.RowKit

set_option maxHeartbeats 1000000 in
theorem Point_bad (k : ByteArray) (h : okK k = false) (w : World) : Calls Try.prog 22 #[.string k] w fun e w' =>
    e = .returned (.tuple #[emp, .int .i64 20]) ∧ Below w.heap.size w w' := by
  unfold emp
  go_enter Try.func22, Try.ntmps22
  go_wp2_with (go_at_call 12; refine (CheckKey_b _ h _).mono ?_; rintro e w' ⟨rfl, rfl⟩; dsimp only [cond])
  refine bodyPost_ret (v := _) (by simp [results, Try.results22, go_sem, *]) rfl ⟨rfl, ?_⟩
  exact (al_below _ _)

set_option maxHeartbeats 1000000 in
theorem Point_short (k : ByteArray) (h : okK k = true) (hs : k.size < 12) (w : World) : Calls Try.prog 22 #[.string k] w fun e w' =>
    e = .returned (.tuple #[.agg #[.string k, .string (k ++ ⟨#[0]⟩)], .int .i64 0]) ∧ Below w.heap.size w w' := by
  go_enter Try.func22, Try.ntmps22
  go_wp2_with (go_at_call 12; refine (CheckKey_b _ h _).mono ?_; rintro e w' ⟨rfl, rfl⟩; dsimp only [cond])
  refine bodyPost_ret (v := _) (by simp [results, Try.results22, go_sem, *]) rfl ⟨rfl, ?_⟩
  exact (al_below _ _)

/-- The end of the range of a key of twelve bytes. -/
def bump : List UInt8 → List UInt8
  | [] => []
  | x :: r => if x.toNat = 255 then bump r else (x + 1) :: r
def hi12 (k : ByteArray) : ByteArray := ⟨(bump k.toList.reverse).reverse.toArray⟩

theorem take_rev {l : List UInt8} {m : Nat} {x : UInt8} (h : l[m]? = some x) : (l.take (m + 1)).reverse = x :: (l.take m).reverse := by
  obtain ⟨hm, rfl⟩ := List.getElem?_eq_some_iff.1 h
  rw [List.take_succ_eq_append_getElem hm, List.reverse_append]
  rfl

theorem key_len {k : ByteArray} : k.toList.length = k.size := by rw [ByteArray.toList_eq, Array.length_toList]; rfl
theorem key_at {k : ByteArray} {m : Nat} (h : m < k.size) : k.toList[m]? = some k[m] := by
  rw [ByteArray.toList_eq, Array.getElem?_toList]
  exact Array.getElem?_eq_getElem h

set_option maxHeartbeats 1000000 in
theorem Point_long (k : ByteArray) (h : okK k = true) (hs : 12 ≤ k.size) (w : World) : Calls Try.prog 22 #[.string k] w fun e w' =>
    e = .returned (.tuple #[.agg #[.string k, .string (hi12 k)], .int .i64 0]) ∧ Below w.heap.size w w' := by
  have hz : k.size = 12 := by
    have : 1 ≤ k.size ∧ k.size ≤ 12 := by simpa [okK] using h
    omega
  clear hs
  go_enter Try.func22, Try.ntmps22
  go_wp2_with (go_at_call 12; refine (CheckKey_b _ h _).mono ?_; rintro e w' ⟨rfl, rfl⟩; dsimp only [cond])
  go_loop [5] (fun v => ∃ m : Nat, m ≤ 12 ∧ v = .int .i64 ((m : Int) - 1) ∧ Hid (bump k.toList.reverse = bump (k.toList.take m).reverse)) (fun v => (intOf v + 1).toNat)
  case atStart =>
    refine ⟨12, by omega, by rfl, ?_⟩
    show _ = _
    rw [List.take_of_length_le (by rw [key_len]; omega)]
  case round =>
    obtain ⟨m, hm, rfl, hrel⟩ := hrel
    rcases m with _ | m
    · go_wp2
      have e : hi12 k = ⟨#[]⟩ := by unfold hi12; rw [hrel.out]; rfl
      rw [e]
      refine bodyPost_ret (v := _) (by simp [results, Try.results22, go_sem, *]) rfl ⟨rfl, ?_⟩
      exact (al_below _ _)
    · have e : (((m + 1 : Nat) : Int) - 1) = (m : Int) := by omega
      rw [e]
      obtain ⟨x, hxe⟩ : ∃ x, k[m]'(by omega) = x := ⟨_, rfl⟩
      have hxi : Hid (k.toList[m]? = some x) := by show _ = _; rw [key_at (by omega), hxe]
      by_cases hx : x.toNat = 255
      · have t1 : ((x.toNat : Int) == 255) = true := by rw [hx]; rfl
        have HX := hid' hx
        clear hx e
        go_wp2
        go_round
        case rel =>
          refine ⟨m, by omega, rfl, ?_⟩
          show _ = _
          rw [hrel.out, take_rev hxi.out, bump, if_pos HX.out]
        case measure => simp [intOf] <;> omega
      · have t1 : ((x.toNat : Int) == 255) = false := by simp; omega
        have HX := hid' hx
        clear hx e
        go_wp2
        have hx255 : x.toNat < 255 := by have := x.toNat_lt; have := HX.out; omega
        have e1 : (x + 1).toNat = x.toNat + 1 := by rw [UInt8.toNat_add]; show (x.toNat + 1) % 256 = _; omega
        have hcv : (convert 41 9 (.slice (some ⟨w.heap.size + 1, 0, none⟩) 1 1)).run Try.prog (((w.alloc (.cells #[.string ⟨#[]⟩, .string ⟨#[]⟩] 23)).alloc (.cells #[.int .u8 (IntKind.u8.wrap ((x.toNat : Int) + 1))] 5)).drew) = .ok (.string ⟨#[x + 1]⟩) (((w.alloc (.cells #[.string ⟨#[]⟩, .string ⟨#[]⟩] 23)).alloc (.cells #[.int .u8 (IntKind.u8.wrap ((x.toNat : Int) + 1))] 5)).drew) := by
          refine conv_bytes (P := Try.prog) (e := 5) (B := w.heap.size + 2) (xs := [x + 1]) Try.underlying41 Try.underlying5 Try.underlying9 ⟨rfl, fun _ => ⟨_, _, rfl, Nat.lt_succ_self _, fun j hj => ?_⟩⟩ 1
          have : j = 0 := by simpa using hj
          subst this
          refine (cell_of_row (w := World.alloc _ _) (w.heap.size + 1) 0 _ _ _ (al2_1 w _ _)).trans ?_
          have e2 : IntKind.u8.wrap ((x.toNat : Int) + 1) = ((x + 1).toNat : Int) := by rw [IntKind.wrap_u8', e1]; omega
          rw [e2]; rfl
        have hsl : ∀ W : World, (Instr.slice 9 (.string k) none (some (.int .i64 (m : Int))) none).run Try.prog W = .ok (.string (k.extract 0 m)) W := by
          intro W
          rw [run_slice_string_to_if W 9 k .i64 m Try.underlying9, if_pos (by omega)]
          simp
        clear hx255 e1
        go_region_with (fail)
        all_goals (try go_wp2)
        have e : hi12 k = k.extract 0 m ++ ⟨#[x + 1]⟩ := by
          unfold hi12
          rw [hrel.out, take_rev hxi.out, bump, if_neg HX.out, List.reverse_cons, List.reverse_reverse]
          apply ByteArray.ext
          rw [ByteArray.data_append, ByteArray.data_extract]
          apply Array.ext'
          rw [ByteArray.toList_eq]
          simp
        rw [e]
        refine bodyPost_ret (v := _) (by simp [results, Try.results22, go_sem, *]) rfl ⟨rfl, ?_⟩
        exact Below.drew (al2_below w _ _)

/-- The range of a key: whether, and its end. -/
def pHi (k : ByteArray) : ByteArray := if k.size < 12 then k ++ ⟨#[0]⟩ else hi12 k
def pV (k : ByteArray) : Value := if okK k = true then .agg #[.string k, .string (pHi k)] else emp
def pE (k : ByteArray) : Int := if okK k = true then 0 else 20

theorem Point_any (k : ByteArray) (w : World) : Calls Try.prog 22 #[.string k] w fun e w' =>
    e = .returned (.tuple #[pV k, .int .i64 (pE k)]) ∧ Below w.heap.size w w' := by
  unfold pV pE pHi
  cases h : okK k
  · exact Point_bad k h w
  · by_cases hs : k.size < 12
    · rw [if_pos hs]; exact Point_short k h hs w
    · rw [if_neg hs]; exact Point_long k h (by omega) w
end Go.Proofs.Ytpinofeknilgfaa
