/-
  Contracts of octet.ReadFixed; of the law's live.
-/
import Derived.Test.YtpjcebiifmmhnaaStr
import Derived.Test.YtpjcebiifmmhnaaOctD
import Derived.Deep.QuietTactic
import Derived.BigQuiet
import Derived.Lib.SlBytesConst
namespace Go.Proofs.Ytpjcebiifmmhnaa
open Go.RowKit

/-- octet.ReadNum of bytes written out. -/
theorem rn_lit (xs : List UInt8) (n : Nat) (cs : Array Value) (a b c : Int) (hn : xs.length = n) (hm : n ≤ 100) (hcs : cs = (xs.map bv).toArray) (hr : rdNum xs = (a.toNat, b.toNat, c.toNat)) (ha : 0 ≤ a) (hb : 0 ≤ b) (hc : 0 ≤ c) (W : World) :
    Calls Try.prog 13 #[.slice (some ⟨W.heap.size, 0, none⟩) n n] (W.alloc (.cells cs 5)) fun e w' => e = .returned (.tuple #[.int .u64 a, .int .i64 b, .int .i64 c]) ∧ W.alloc (.cells cs 5) = w' := by
  subst hn hcs
  have h := ReadNum_any (W.heap.size + 1) xs.length xs.length _ xs _ (by unfold maxLen; omega) (Nat.le_refl _) (lit_byt W 5 xs)
  rw [hr] at h
  unfold tup3 at h
  simp only [Int.toNat_of_nonneg ha, Int.toNat_of_nonneg hb, Int.toNat_of_nonneg hc] at h
  exact h

def Live1 : Prop := ∀ W : World, Calls Try.prog 13 #[.slice (some ⟨W.heap.size, 0, none⟩) 3 3] (W.alloc (.cells #[.int .u8 172, .int .u8 2, .int .u8 7] 5)) fun e w' => e = .returned (.tuple #[.int .u64 300, .int .i64 2, .int .i64 0]) ∧ Below W.heap.size W w'
theorem live1 : Live1 := fun W => (rn_lit [172, 2, 7] 3 _ 300 2 0 rfl (by decide) (by rfl) (by decide +kernel) (by decide) (by decide) (by decide) W).mono fun _ _ ⟨he, hw⟩ => ⟨he, hw ▸ below_alloc _ _⟩
def Live2 : Prop := ∀ W : World, Calls Try.prog 13 #[.slice (some ⟨W.heap.size, 0, none⟩) 1 1] (W.alloc (.cells #[.int .u8 128] 5)) fun e w' => e = .returned (.tuple #[.int .u64 0, .int .i64 0, .int .i64 10]) ∧ Below W.heap.size W w'
theorem live2 : Live2 := fun W => (rn_lit [128] 1 _ 0 0 10 rfl (by decide) (by rfl) (by decide +kernel) (by decide) (by decide) (by decide) W).mono fun _ _ ⟨he, hw⟩ => ⟨he, hw ▸ below_alloc _ _⟩
def Live3 : Prop := ∀ W : World, Calls Try.prog 13 #[.slice (some ⟨W.heap.size, 0, none⟩) 2 2] (W.alloc (.cells #[.int .u8 128, .int .u8 0] 5)) fun e w' => e = .returned (.tuple #[.int .u64 0, .int .i64 0, .int .i64 11]) ∧ Below W.heap.size W w'
theorem live3 : Live3 := fun W => (rn_lit [128, 0] 2 _ 0 0 11 rfl (by decide) (by rfl) (by decide +kernel) (by decide) (by decide) (by decide) W).mono fun _ _ ⟨he, hw⟩ => ⟨he, hw ▸ below_alloc _ _⟩
def Live4 : Prop := ∀ W : World, Calls Try.prog 17 #[.slice (some ⟨W.heap.size, 0, none⟩) 4 4, .int .i64 5] (W.alloc (.cells #[.int .u8 2, .int .u8 97, .int .u8 98, .int .u8 9] 5)) fun e w' => e = .returned (.tuple #[.string ⟨#[97, 98]⟩, .int .i64 3, .int .i64 0]) ∧ Below W.heap.size W w'
theorem live4 : Live4 := by
  intro W
  have h := ReadText_any (W.heap.size + 1) 4 4 _ [2, 97, 98, 9] 5 _ (by unfold maxLen; decide) (Nat.le_refl _) (lit_byt W 5 [2, 97, 98, 9]) (by decide) (by decide)
  have e : rdText [2, 97, 98, 9] 5 = ([97, 98], 3, 0) := by decide +kernel
  rw [e] at h
  exact h.mono fun _ _ ⟨he, hw⟩ => ⟨he, hw ▸ below_alloc _ _⟩
def Live5 : Prop := ∀ W : World, Calls Try.prog 15 #[.int .u64 300] W fun e w' => ∃ A c, e = .returned (.slice A 2 c) ∧ Hid (Byt w' w'.heap.size A 2 [172, 2]) ∧ Below W.heap.size W w'
theorem live5 : Live5 := by
  intro W
  refine (Num_any 300 (by show _ < _; decide) W).mono ?_
  rintro e w' ⟨v, rfl, ho, hb⟩
  have e1 : num 300 = [172, 2] := by decide +kernel
  rw [e1] at ho
  obtain ⟨A, c, rfl, _⟩ := own_form ho
  exact ⟨A, c, rfl, Byt.of_own ho, hb⟩
def Live6 : Prop := ∀ W : World, Calls Try.prog 25 #[.slice (some ⟨W.heap.size, 0, none⟩) 9 9] (W.alloc (.cells #[.int .u8 49, .int .u8 50, .int .u8 51, .int .u8 52, .int .u8 53, .int .u8 54, .int .u8 55, .int .u8 56, .int .u8 57] 5 (9, 10))) fun e w' => e = .returned (.int .u32 3421780262) ∧ Below W.heap.size W w'
theorem live6 : Live6 := by
  intro W
  have h := Sum_any 9 9 _ [49, 50, 51, 52, 53, 54, 55, 56, 57] (W.alloc (.cells ([49, 50, 51, 52, 53, 54, 55, 56, 57].map bv).toArray 5 (9, 10))) (by unfold maxLen; decide) ((lit_byt W 5 [49, 50, 51, 52, 53, 54, 55, 56, 57] (9, 10)).more (by simp))
  have e : sum32 [49, 50, 51, 52, 53, 54, 55, 56, 57] = 3421780262 := by decide +kernel
  rw [e] at h
  exact h.mono fun e w' ⟨he, hb⟩ => ⟨he, (below_alloc _ _).trans (hb.mono (by simp))⟩

set_option maxHeartbeats 1000000 in
set_option maxRecDepth 100000 in
theorem live_any (w : World) : Calls Try.prog 12 #[] w fun e w' => e = .returned (.bool true) ∧ Below w.heap.size w w' := by
  go_enter Try.func12, Try.ntmps12
  go_wp2_with fail
  refine (live1 _).mono ?_
  rintro e w1 ⟨rfl, hb1⟩
  go_wp2_with fail
  refine (live2 _).mono ?_
  rintro e w2 ⟨rfl, hb2⟩
  go_wp2_with fail
  refine (live3 _).mono ?_
  rintro e w3 ⟨rfl, hb3⟩
  go_wp2_with fail
  refine (live4 _).mono ?_
  rintro e w4 ⟨rfl, hb4⟩
  go_wp2_with fail
  refine (live5 _).mono ?_
  rintro e w5 ⟨A, c, rfl, hbyt, hb5⟩
  have hcv := own_str (c := c) hbyt.out
  have kc := fun (w : World) (C : Array Value) (n c : Nat) => Lib.run_convert_bytes_const (P := Try.prog) w 23 5 C n c Try.underlying23 Try.underlying5
  go_wp2_with fail
  refine (live6 _).mono ?_
  rintro e w6 ⟨rfl, hb6⟩
  go_wp2
  go_ret
  refine ⟨rfl, hb1.trans ((hb2.trans ((hb3.trans ((hb4.trans ((hb5.trans (hb6.mono hb5.size)).mono hb4.size)).mono hb3.size)).mono hb2.size)).mono hb1.size)⟩
end Go.Proofs.Ytpjcebiifmmhnaa
