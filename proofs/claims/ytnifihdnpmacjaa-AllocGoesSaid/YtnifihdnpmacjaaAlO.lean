/-
  Contracts of the reference's Used, Bits.
-/
import Derived.Test.YtnifihdnpmacjaaAlN
namespace Go.Proofs.Ytnifihdnpmacjaa
open Go.RowKit

set_option maxHeartbeats 1000000 in
set_option maxRecDepth 100000 in
theorem rUsed_any (h t P : Nat) (f : Nat → Bool) (w : World) (r : RA w h t P f) (hP : P ≤ 1024) :
    Calls Try.prog 31 #[.pointer (some ⟨h, 0, none⟩)] w (UsedP P f w) := by
  have hrow := r.row
  have R := Lib.hid r
  clear r
  go_enter Try.func31, Try.ntmps31
  go_wp2
  go_loopw [3, 11] (fun v i wr => ∃ k : Nat, k ≤ P ∧ i = .int .i64 (k : Int) ∧ wr.ownsRow w.heap.size 3 1 v (usedL f k).length ((usedL f k).map iv) ∧ Hid (Below w.heap.size w wr)) (fun _ i _ => P - (intOf i).toNat)
  case atStart => exact ⟨0, by omega, rfl, World.ownsRow_nil w _ _ _, Below.refl _ _⟩
  case round =>
    obtain ⟨k, hk, rfl, hown, hb⟩ := hrel
    have hR := R.out.below hb.out
    have hwz := hb.out.size
    have hul := Lib.hid (usedL_len f k)
    have hcl2 := cnt_le f k
    clear hrow
    by_cases hlt : k < P
    · have hbit := (hR.bit hlt).1
      cases hf : f k
      · rw [hf] at hbit
        have hown2 : wr.ownsRow w.heap.size 3 1 u3 (usedL f (k + 1)).length ((usedL f (k + 1)).map iv) := by
          unfold usedL; rw [hf]; simpa using hown
        have hH := Lib.hid hown2
        clear hown hown2 hR hul
        go_wp2
        go_roundw
        case rel => exact ⟨k + 1, by omega, by go_num, hH.out, hb.out⟩
        case measure => simp [intOf]; omega
      · rw [hf] at hbit
        clear hR
        go_wp2_with (at_builtin; refine wp_app1 rfl _ _ _ rfl elI rfl hown rfl rfl ?c1 ?c2 ?c3 ?_)
        case c1 => have := hul.out; unfold maxLen; omega
        case c2 => have := hul.out; omega
        case c3 => exact hwz
        intro v' w3 hown3 hb3
        have hown4 : w3.ownsRow w.heap.size 3 1 v' (usedL f (k + 1)).length ((usedL f (k + 1)).map iv) := by
          have e1 : usedL f (k + 1) = usedL f k ++ [k] := by rw [usedL, hf]; rfl
          rw [e1, List.length_append, List.map_append]
          exact hown3
        have hH := Lib.hid hown4
        have hb4 := Lib.hid (hb.out.trans hb3)
        clear hown hown3 hown4 hb3 hul hbit
        go_wp2
        go_roundw
        case rel => exact ⟨k + 1, by omega, by go_num, hH.out, hb4.out⟩
        case measure => simp [intOf]; omega
    · have hkP : k = P := by omega
      subst hkP
      obtain ⟨A1, c1, rfl, hc1, _⟩ := own_form hown
      have HP : UsedP k f w (.returned (.slice A1 (usedL f k).length c1)) wr := by
        refine ⟨A1, c1, by rw [hul.out], by have := hul.out; omega, ?_, hb.out⟩
        have := Rd.of_own hown
        rw [hul.out] at this
        exact this
      replace HP := Lib.hid HP
      clear hown hR hul
      go_wp2
      go_ret
      exact HP.out

theorem add_bit {x r : Nat} (hx : x < 2 ^ r) (r' : Nat) : (x + 2 ^ r).testBit r' = (x.testBit r' || decide (r = r')) := by
  have e : x + 2 ^ r = 2 ^ r * 1 ||| x := by rw [← Nat.two_pow_add_eq_or_of_lt hx]; omega
  rw [e, Nat.testBit_or, Nat.mul_one, Nat.testBit_two_pow, Bool.or_comm]

set_option maxHeartbeats 1000000 in
set_option maxRecDepth 100000 in
theorem rBits_any (h t P : Nat) (f : Nat → Bool) (w : World) (r : RA w h t P f) (hP : P ≤ 1024) (hlow : Low f P) :
    Calls Try.prog 32 #[.pointer (some ⟨h, 0, none⟩)] w (BitsP P f w) := by
  unfold BitsP
  have hrow := r.row
  obtain ⟨n, hn⟩ : ∃ n, (P + 7) / 8 = n := ⟨_, rfl⟩
  have hn128 : n ≤ 128 := by omega
  have h8n : P ≤ 8 * n := by omega
  have hmk := fun W => run_make_row' (P := Try.prog) 22 5 (.int .u8 0) 1 Try.underlying22 (by kernel_rfl) rfl .i64 .i64 n (by omega) (by omega) W
  have e1 : ((P : Int) + 7) / 8 = (n : Int) := by omega
  have e2 : ((P : Int) + 7).tdiv 8 = (n : Int) := by rw [Int.tdiv_eq_ediv_of_nonneg (by omega)]; exact e1
  have hb0 := (Below.refl w.heap.size w).alloc (Nat.le_refl _) (.cells (madeCells #[.int .u8 0] n) 5)
  have hrow2 := (r.below hb0).row
  have hm0 : madeCells #[.int .u8 0] n = ((List.replicate n (0 : UInt8)).map bv).toArray := by
    apply Array.ext'
    rw [toList_madeCells_one, List.map_replicate]
    rfl
  have HM := Lib.hid hm0
  have R := Lib.hid r
  have HLow := Lib.hid hlow
  rw [hn]
  have hg0 := heap_alloc_new w (.cells (madeCells #[.int .u8 0] n) 5)
  have HG0 := Lib.hid hg0
  have HB0 := Lib.hid hb0
  clear hn hm0 r hlow hg0 hb0
  go_enter Try.func32, Try.ntmps32
  go_wp2
  obtain ⟨bt, hbt⟩ : ∃ bt, w.heap.size = bt := ⟨_, rfl⟩
  have HBT := Lib.hid hbt
  rw [hbt]
  clear hbt
  go_loopw [19] (fun i wr => ∃ (k : Nat) (xs : List UInt8), k ≤ P ∧ i = .int .i64 (k : Int) ∧ xs.length = n ∧ Hid (AsBytes (fun j => f j && decide (j < k)) xs) ∧ Hid (wr.heap[bt]? = some (.cells (xs.map bv).toArray 5 (0, 0))) ∧ Hid (Below bt w wr)) (fun i _ => P - (intOf i).toNat)
  case atStart =>
    obtain rfl := HBT.out
    refine ⟨0, List.replicate n 0, by omega, rfl, by simp, fun k x hx r' hr' => ?_, ?_, HB0.out⟩
    · have : x = 0 := by
        have := List.mem_of_getElem? hx
        exact (List.mem_replicate.1 this).2
      subst this
      simp
    · show _ = _
      rw [← HM.out]; exact HG0.out
  case round =>
    obtain ⟨k, xs, hk, rfl, hxl, hA, hG, hb⟩ := hrel
    have hR := R.out.below (by rw [HBT.out]; exact hb.out)
    have hbz : bt ≤ w.heap.size := Nat.le_of_eq HBT.out.symm
    clear hmk e1 e2 hrow hrow2
    by_cases hlt : k < P
    · have hbit := (hR.bit hlt).1
      cases hf : f k
      · rw [hf] at hbit
        have hA2 : Hid (AsBytes (fun j => f j && decide (j < k + 1)) xs) := fun q x hx r' hr' => by
          rw [hA.out q x hx r' hr']
          by_cases e : 8 * q + r' = k
          · dsimp only; rw [e, hf]; simp
          · have : decide (8 * q + r' < k) = decide (8 * q + r' < k + 1) := by simp; omega
            simp only [this]
        clear hA hR
        go_wp2
        go_roundw
        case rel => exact ⟨k + 1, xs, by omega, by go_num, hxl, hA2.out, hG.out, hb.out⟩
        case measure => simp [intOf]; omega
      · rw [hf] at hbit
        obtain ⟨q, hq⟩ : ∃ q, k / 8 = q := ⟨_, rfl⟩
        obtain ⟨r, hr⟩ : ∃ r, k % 8 = r := ⟨_, rfl⟩
        have hqn : q < n := by omega
        have hr8 : r < 8 := by omega
        obtain ⟨x, hx⟩ : ∃ x, xs[q]? = some x := ⟨_, List.getElem?_eq_getElem (by omega)⟩
        have hxlt : x.toNat < 2 ^ r := by
          apply Nat.lt_pow_two_of_testBit
          intro i hi
          by_cases hi8 : i < 8
          · rw [hA.out q x hx i hi8]
            have : decide (8 * q + i < k) = false := by simp; omega
            simp only [this, Bool.and_false]
          · exact Nat.testBit_lt_two_pow (Nat.lt_of_lt_of_le x.toNat_lt (Nat.pow_le_pow_right (n := 2) (by decide) (show 8 ≤ i by omega)))
        have hp2 : 2 ^ r * 2 ≤ 256 := by have := Nat.pow_le_pow_right (n := 2) (by decide) (show r + 1 ≤ 8 by omega); rw [Nat.pow_succ] at this; simpa using this
        obtain ⟨y, hye⟩ : ∃ y : UInt8, y.toNat = x.toNat + 2 ^ r := ⟨UInt8.ofNat _, ofNat_toNat (by omega)⟩
        have hadd : IntKind.u8.wrap ((x.toNat : Int) + 2 ^ r) = (y.toNat : Int) := by
          rw [IntKind.wrap_u8']
          have : ((y.toNat : Nat) : Int) = ((x.toNat : Nat) : Int) + ((2 ^ r : Nat) : Int) := by omega
          have h256 := y.toNat_lt
          push_cast at this
          omega
        have hs1 : IntKind.u8.wrap (2 ^ r) = 2 ^ r := by
          rw [IntKind.wrap_u8']
          have : ((2 ^ r : Nat) : Int) < 256 := by omega
          have h0 : (0 : Int) ≤ ((2 ^ r : Nat) : Int) := Int.natCast_nonneg _
          push_cast at this h0
          omega
        have hc : wr.cell? ⟨bt, q, none⟩ = some (.int .u8 (x.toNat : Int)) := by
          rw [blk_cell hG.out, List.getElem?_toArray, List.getElem?_map, hx]; rfl
        have hfr := blk_frozen hG.out q
        have hG2 : Hid ((wr.setCell ⟨bt, q, none⟩ (.int .u8 (y.toNat : Int))).heap[bt]? = some (.cells ((xs.set q y).map bv).toArray 5 (0, 0))) := by
          show _ = _
          rw [blk_set hG.out q _]
          congr 2
          apply Array.ext'
          rw [Array.toList_setIfInBounds, List.toList_toArray, List.toList_toArray, List.map_set]
          rfl
        have hA2 : Hid (AsBytes (fun j => f j && decide (j < k + 1)) (xs.set q y)) := fun q' x' hx' r' hr' => by
          by_cases e : q' = q
          · subst e
            rw [List.getElem?_set_self (by omega)] at hx'
            cases hx'
            rw [hye, add_bit hxlt, hA.out q' x hx r' hr']
            by_cases e2 : r = r'
            · subst e2
              have : 8 * q' + r = k := by omega
              dsimp only; rw [this, hf]; simp
            · have : decide (8 * q' + r' < k) = decide (8 * q' + r' < k + 1) := by simp; omega
              simp only [this, decide_eq_false e2, Bool.or_false]
          · rw [List.getElem?_set_ne (Ne.symm e)] at hx'
            rw [hA.out q' x' hx' r' hr']
            have : decide (8 * q' + r' < k) = decide (8 * q' + r' < k + 1) := by simp; omega
            simp only [this]
        have hb2 := Lib.hid (hb.out.setCell (p := ⟨bt, q, none⟩) (by simp only; omega) (.int .u8 (y.toNat : Int)))
        have hxl2 : (xs.set q y).length = n := by rw [List.length_set]; exact hxl
        have d1 : (k : Int) / 8 = (q : Int) := by omega
        have d2 : (k : Int).tdiv 8 = (q : Int) := by rw [Int.tdiv_eq_ediv_of_nonneg (by omega)]; exact d1
        have d3 : (k : Int) % 8 = (r : Int) := by omega
        have d4 : (k : Int).tmod 8 = (r : Int) := by rw [Int.tmod_eq_emod_of_nonneg (by omega)]; exact d3
        have d6 : IntKind.i64.wrap (q : Int) = (q : Int) := by rw [IntKind.wrap_i64]; omega
        have d7 : IntKind.i64.wrap (r : Int) = (r : Int) := by rw [IntKind.wrap_i64]; omega
        have q0 : (0 : Int) ≤ (q : Int) := by omega
        have q1 : (q : Int) < (n : Int) := by omega
        have Hxl2 := Lib.hid hxl2
        clear hA hG hb hR hxl hq hr hxlt hp2 hye hx hf hxl2
        go_wp2_with fail
        go_region_with (fail)
        clear hadd hs1 hc hfr d1 d2 d3 d4 d6 d7
        go_wp2
        go_roundw
        case rel => exact ⟨k + 1, xs.set q y, by omega, by go_num, Hxl2.out, hA2.out, hG2.out, hb2.out.drew⟩
        case measure => simp [intOf]; omega
    · have hkP : k = P := by omega
      subst hkP
      have hA2 : AsBytes f xs := fun q x hx r' hr' => by
        rw [hA.out q x hx r' hr']
        by_cases e : 8 * q + r' < k
        · have : decide (8 * q + r' < k) = true := by simp [e]
          simp only [this, Bool.and_true]
        · dsimp only; rw [HLow.out _ (by omega)]; rfl
      have hBy : Byt wr wr.heap.size (some ⟨bt, 0, none⟩) n xs := ⟨by rw [List.length_map, hxl, Nat.mul_one], fun _ => ⟨bt, 0, rfl, (Array.getElem?_eq_some_iff.1 hG.out).1, fun j hj => by
        rw [blk_cell hG.out, Nat.zero_add, List.getElem?_toArray, List.getElem?_eq_getElem hj]⟩⟩
      have HB := Lib.hid hBy
      have HA2 := Lib.hid hA2
      clear hA hG hR hBy hA2
      have Hxl := Lib.hid hxl
      clear hxl
      go_wp2
      go_ret
      obtain rfl := HBT.out
      exact ⟨xs, Hxl.out, HA2.out, rfl, HB.out, hb.out⟩
end Go.Proofs.Ytnifihdnpmacjaa
