/-
  Contracts of span.below, lesserHi, Has, Meet, Covers, Cut.
-/
import Derived.Test.YtpinofeknilgfaaSpanA
import Derived.Lib.MinMaxS
import Derived.Deep.RegionHeld3
namespace Go.Proofs.Ytpinofeknilgfaa
open Go.RowKit

def belowB (k hi : ByteArray) : Bool := em hi || lt k hi

theorem below_any (k hi : ByteArray) (w : World) : Calls Try.prog 26 #[.string k, .string hi] w fun e w' => e = .returned (.bool (belowB k hi)) ∧ w = w' := by
  cases h : em hi
  · have h' : hi.toList.isEmpty = false := h
    go_enter Try.func26, Try.ntmps26
    go_wp2
    go_ret
    exact ⟨ret_b (by simp [belowB, h, lt]), rfl⟩
  · have h' : hi.toList.isEmpty = true := h
    go_enter Try.func26, Try.ntmps26
    go_wp2
    go_ret
    exact ⟨ret_b (by simp [belowB, h]), rfl⟩

theorem below_b (k hi : ByteArray) {b : Bool} (h : belowB k hi = b) (w : World) : Calls Try.prog 26 #[.string k, .string hi] w fun e w' => e = .returned (.bool b) ∧ w = w' := by
  subst h; exact below_any k hi w

def lesserB (a b : ByteArray) : ByteArray := if em a = true then b else if em b = true then a else if lt b a = true then b else a

theorem lesser_any (a b : ByteArray) (w : World) : Calls Try.prog 27 #[.string a, .string b] w fun e w' => e = .returned (.string (lesserB a b)) ∧ w = w' := by
  cases ha : em a
  · cases hb : em b
    · cases hl : lt b a
      · have ha' : a.toList.isEmpty = _ := ha
        have hb' : b.toList.isEmpty = _ := hb
        have hl' : Op.bytesLess b.toList a.toList = _ := hl
        have e : lesserB a b = a := by unfold lesserB; rw [ha, hb, hl]; rfl
        rw [e]
        clear e ha hb hl
        go_enter Try.func27, Try.ntmps27
        go_wp2
        go_ret
        exact ⟨rfl, rfl⟩
      · have ha' : a.toList.isEmpty = _ := ha
        have hb' : b.toList.isEmpty = _ := hb
        have hl' : Op.bytesLess b.toList a.toList = _ := hl
        have e : lesserB a b = b := by unfold lesserB; rw [ha, hb, hl]; rfl
        rw [e]
        clear e ha hb hl
        go_enter Try.func27, Try.ntmps27
        go_wp2
        go_ret
        exact ⟨rfl, rfl⟩
    · have ha' : a.toList.isEmpty = _ := ha
      have hb' : b.toList.isEmpty = _ := hb
      have e : lesserB a b = a := by unfold lesserB; rw [ha, hb]; rfl
      rw [e]
      clear e ha hb
      go_enter Try.func27, Try.ntmps27
      go_wp2
      go_ret
      exact ⟨rfl, rfl⟩
  · have ha' : a.toList.isEmpty = _ := ha
    have e : lesserB a b = b := by unfold lesserB; rw [ha]; rfl
    rw [e]
    clear e ha
    go_enter Try.func27, Try.ntmps27
    go_wp2
    go_ret
    exact ⟨rfl, rfl⟩

theorem lesser_b (a b : ByteArray) {c : ByteArray} (h : lesserB a b = c) (w : World) : Calls Try.prog 27 #[.string a, .string b] w fun e w' => e = .returned (.string c) ∧ w = w' := by
  subst h; exact lesser_any a b w

theorem Check_b (lo hi : ByteArray) {b : Bool} (h : okR lo hi = b) (w : World) : Calls Try.prog 14 #[.agg #[.string lo, .string hi]] w fun e w' => e = .returned (.int .i64 (cond b 0 21)) ∧ Below w.heap.size w w' := by
  refine (Check_any lo hi w).mono ?_
  rintro e w' ⟨rfl, hb⟩
  subst h
  exact ⟨by cases okR lo hi <;> rfl, hb⟩

theorem box2 {w w1 : World} {a b : Value} {t : Nat} (h : Below (w.alloc (.cells #[a, b] t)).heap.size (w.alloc (.cells #[a, b] t)) w1) : w1.cell? ⟨w.heap.size, 0, none⟩ = some a ∧ w1.cell? ⟨w.heap.size, 1, none⟩ = some b := by
  have hs : w.heap.size < (w.alloc (.cells #[a, b] t)).heap.size := by simp
  have h0 := h.cell (p := ⟨w.heap.size, 0, none⟩) hs
  have h1 := h.cell (p := ⟨w.heap.size, 1, none⟩) hs
  rw [h0, h1]
  exact ⟨cell_of_row _ _ 0 _ _ _ (heap_alloc_new w _), cell_of_row _ _ 1 _ _ _ (heap_alloc_new w _)⟩

def hasB (lo hi k : ByteArray) : Bool := okR lo hi && okK k && (lt lo k || eqS lo k) && belowB k hi

set_option maxHeartbeats 1000000 in
theorem Has_any (lo hi k : ByteArray) (w : World) : Calls Try.prog 16 #[.agg #[.string lo, .string hi], .string k] w fun e w' => e = .returned (.bool (hasB lo hi k)) ∧ Below w.heap.size w w' := by
  cases hr : okR lo hi
  · have e : hasB lo hi k = false := by simp [hasB, hr]
    rw [e]; clear e
    go_enter Try.func16, Try.ntmps16
    go_wp2_with fail
    refine (Check_b lo hi hr _).mono ?_
    rintro e w1 ⟨rfl, hb1⟩
    dsimp only [cond]
    go_wp2
    go_ret
    exact ⟨rfl, (below_alloc w _).trans (hb1.mono (by simp))⟩
  · cases hk : okK k
    · have e : hasB lo hi k = false := by simp [hasB, hr, hk]
      rw [e]; clear e
      go_enter Try.func16, Try.ntmps16
      go_wp2_with fail
      refine (Check_b lo hi hr _).mono ?_
      rintro e w1 ⟨rfl, hb1⟩
      dsimp only [cond]
      go_wp2_with (go_at_call_of 12 k; refine (CheckKey_b k hk _).mono ?_; rintro e w' ⟨rfl, rfl⟩; dsimp only [cond])
      go_ret
      exact ⟨rfl, (below_alloc w _).trans (hb1.mono (by simp))⟩
    · cases hq : (lt lo k || eqS lo k)
      · have e : hasB lo hi k = false := by simp only [hasB, hr, hk, hq]; rfl
        rw [e]; clear e
        have hq' : (Op.bytesLess lo.toList k.toList || lo.toList == k.toList) = false := hq
        clear hq
        go_enter Try.func16, Try.ntmps16
        go_wp2_with fail
        refine (Check_b lo hi hr _).mono ?_
        rintro e w1 ⟨rfl, hb1⟩
        dsimp only [cond]
        obtain ⟨hc0, hc1⟩ := box2 hb1
        go_wp2_with (go_at_call_of 12 k; refine (CheckKey_b k hk _).mono ?_; rintro e w' ⟨rfl, rfl⟩; dsimp only [cond])
        go_ret
        exact ⟨rfl, (below_alloc w _).trans (hb1.mono (by simp))⟩
      · have e : hasB lo hi k = belowB k hi := by simp only [hasB, hr, hk, hq, Bool.true_and]
        rw [e]; clear e
        have hq' : (Op.bytesLess lo.toList k.toList || lo.toList == k.toList) = true := hq
        clear hq
        go_enter Try.func16, Try.ntmps16
        go_wp2_with fail
        refine (Check_b lo hi hr _).mono ?_
        rintro e w1 ⟨rfl, hb1⟩
        dsimp only [cond]
        obtain ⟨hc0, hc1⟩ := box2 hb1
        generalize hbb : belowB k hi = bb
        have HBB := hid' hbb; clear hbb
        go_wp2_with (first | (go_at_call_of 12 k; refine (CheckKey_b k hk _).mono ?_; rintro e w' ⟨rfl, rfl⟩; dsimp only [cond]) | (go_at_call 26; refine (below_b k hi HBB.out _).mono ?_; rintro e w' ⟨rfl, rfl⟩))
        go_ret
        exact ⟨by rw [HBB.out]; rfl, (below_alloc w _).trans (hb1.mono (by simp))⟩

theorem Has_b (lo hi k : ByteArray) {b : Bool} (h : hasB lo hi k = b) (w : World) : Calls Try.prog 16 #[.agg #[.string lo, .string hi], .string k] w fun e w' => e = .returned (.bool b) ∧ Below w.heap.size w w' := by
  subst h; exact Has_any lo hi k w

/-- What two ranges have in common: whether, and the ends. -/
def mxS (a b : ByteArray) : ByteArray := Go.Lib.maxS a b
def meetB (lo1 hi1 lo2 hi2 : ByteArray) : Bool := okR lo1 hi1 && okR lo2 hi2 && belowB (mxS lo1 lo2) (lesserB hi1 hi2)

set_option maxHeartbeats 1000000 in
theorem Meet_no (lo1 hi1 lo2 hi2 : ByteArray) (h : (okR lo1 hi1 && okR lo2 hi2) = false) (w : World) : Calls Try.prog 18 #[.agg #[.string lo1, .string hi1], .agg #[.string lo2, .string hi2]] w fun e w' =>
    e = .returned (.tuple #[.agg #[.string ⟨#[]⟩, .string ⟨#[]⟩], .bool false]) ∧ Below w.heap.size w w' := by
  cases h1 : okR lo1 hi1
  · go_enter Try.func18, Try.ntmps18
    go_wp2_with fail
    refine (Check_b lo1 hi1 h1 _).mono ?_
    rintro e w1 ⟨rfl, hb1⟩
    dsimp only [cond]
    obtain ⟨c0, c1, f0, f1⟩ := cells2 (blk_carry (al3_2 w _ _ _) hb1 (by simp))
    have hbb := (al3_below w _ _ _).trans (hb1.mono (by simp <;> omega))
    have hbb := hid' hbb
    clear hb1
    go_wp2
    refine bodyPost_ret (v := .tuple #[.agg #[.string ⟨#[]⟩, .string ⟨#[]⟩], .bool false]) ?_ rfl ⟨rfl, ?_⟩
    · simp [results, Try.results18, go_sem, *]
    · exact (hbb.out.setCell (by show _ ≤ w.heap.size + 1 + 1; omega) _).setCell (by show _ ≤ w.heap.size + 1 + 1; omega) _
  · have h2 : okR lo2 hi2 = false := by simpa [h1] using h
    go_enter Try.func18, Try.ntmps18
    go_wp2_with fail
    refine (Check_b lo1 hi1 h1 _).mono ?_
    rintro e w1 ⟨rfl, hb1⟩
    dsimp only [cond]
    have hB1 := hid' (blk_carry (al3_1 w _ _ _) hb1 (by simp <;> omega))
    obtain ⟨b0, b1, _, _⟩ := cells2 hB1.out
    have hB2 := hid' (blk_carry (al3_2 w _ _ _) hb1 (by simp))
    have hbb := (al3_below w _ _ _).trans (hb1.mono (by simp <;> omega))
    have hss := hb1.size
    simp only [World.size_alloc] at hss
    clear hb1
    go_wp2_with fail
    refine (Check_b lo2 hi2 h2 _).mono ?_
    rintro e w2 ⟨rfl, hb2⟩
    dsimp only [cond]
    obtain ⟨c0, c1, f0, f1⟩ := cells2 (blk_carry hB2.out hb2 (by omega))
    have hbb := hid' (hbb.trans (hb2.mono hbb.size))
    clear hb2
    go_wp2
    refine bodyPost_ret (v := .tuple #[.agg #[.string ⟨#[]⟩, .string ⟨#[]⟩], .bool false]) ?_ rfl ⟨rfl, ?_⟩
    · simp [results, Try.results18, go_sem, *]
    · exact (hbb.out.setCell (by show _ ≤ w.heap.size + 1 + 1; omega) _).setCell (by show _ ≤ w.heap.size + 1 + 1; omega) _

set_option maxHeartbeats 2000000 in
theorem Meet_yes (lo1 hi1 lo2 hi2 : ByteArray) (h1 : okR lo1 hi1 = true) (h2 : okR lo2 hi2 = true) (w : World) : Calls Try.prog 18 #[.agg #[.string lo1, .string hi1], .agg #[.string lo2, .string hi2]] w fun e w' =>
    e = .returned (cond (belowB (mxS lo1 lo2) (lesserB hi1 hi2)) (.tuple #[.agg #[.string (mxS lo1 lo2), .string (lesserB hi1 hi2)], .bool true]) (.tuple #[.agg #[.string ⟨#[]⟩, .string ⟨#[]⟩], .bool false])) ∧ Below w.heap.size w w' := by
  obtain ⟨m, hm⟩ : ∃ m, mxS lo1 lo2 = m := ⟨_, rfl⟩
  obtain ⟨l, hl⟩ : ∃ l, lesserB hi1 hi2 = l := ⟨_, rfl⟩
  rw [hm, hl]
  have hmx : ∀ (W : World) (ts : Array TypeId) (t : TypeId), (Builtin.max_ ts t #[.string lo1, .string lo2]).run Try.prog W = .ok (.string m) W := fun W ts t => by rw [← hm]; exact Go.Lib.run_max_strs (P := Try.prog) W ts t lo1 lo2
  have HL := hid' hl
  clear hm hl
  go_enter Try.func18, Try.ntmps18
  go_wp2_with fail
  refine (Check_b lo1 hi1 h1 _).mono ?_
  rintro e w1 ⟨rfl, hb1⟩
  dsimp only [cond]
  have hB0 := hid' (blk_carry (al3_0 w _ _ _) hb1 (by simp <;> omega))
  have hB1 := hid' (blk_carry (al3_1 w _ _ _) hb1 (by simp <;> omega))
  have hB2 := hid' (blk_carry (al3_2 w _ _ _) hb1 (by simp))
  obtain ⟨b0, b1, _, _⟩ := cells2 hB1.out
  have hbb := (al3_below w _ _ _).trans (hb1.mono (by simp <;> omega))
  have hss := hb1.size
  simp only [World.size_alloc] at hss
  clear hb1
  go_wp2_with fail
  refine (Check_b lo2 hi2 h2 _).mono ?_
  rintro e w2 ⟨rfl, hb2⟩
  dsimp only [cond]
  clear b0 b1
  obtain ⟨c0, c1, f0, f1⟩ := cells2 (blk_carry hB2.out hb2 (by omega))
  obtain ⟨a0, a1, _, _⟩ := cells2 (blk_carry hB0.out hb2 (by omega))
  obtain ⟨b0, b1, _, _⟩ := cells2 (blk_carry hB1.out hb2 (by omega))
  have hbb := hid' (hbb.trans (hb2.mono hbb.size))
  have hsz := hb2.size
  clear hb2 hB0 hB1 hB2
  go_wp2_with fail
  have q0 : w.heap.size < w2.heap.size := by omega
  have q1 : w.heap.size + 1 < w2.heap.size := by omega
  have q2 : w.heap.size + 1 + 1 < w2.heap.size := by omega
  clear hss hsz
  go_region_held3 (fun w' => w'.cell? ⟨w.heap.size, 0, none⟩ = some (.string lo1) ∧ w'.cell? ⟨w.heap.size, 1, none⟩ = some (.string hi1) ∧ w'.cell? ⟨w.heap.size + 1, 0, none⟩ = some (.string lo2) ∧ w'.cell? ⟨w.heap.size + 1, 1, none⟩ = some (.string hi2)) (go_keep)
    (first | (go_at_call 27; refine (lesser_b _ _ HL.out _).mono ?_; rintro e w' ⟨rfl, rfl⟩))
  all_goals
    cases hbl : belowB m l
  all_goals
    go_wp2_with (go_at_call 26; refine (below_b _ _ hbl _).mono ?_; rintro e w' ⟨rfl, rfl⟩)
    refine bodyPost_ret (v := _) (by simp [results, Try.results18, go_sem, *]) rfl ⟨rfl, ?_⟩
    refine Below.drew (Below.alloc (below_set (below_set hbb.out ?_ _) ?_ _) ?_ _) <;> (try simp) <;> omega
end Go.Proofs.Ytpinofeknilgfaa
