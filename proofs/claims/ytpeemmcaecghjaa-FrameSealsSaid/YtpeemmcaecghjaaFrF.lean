/-
  The walk of the law FrameSeals.
-/
import Derived.Test.YtpeemmcaecghjaaFrC
import Derived.Test.YtpeemmcaecghjaaFrR
import Derived.Test.YtpeemmcaecghjaaBlk
namespace Go.Proofs.Ytpeemmcaecghjaa
open Go.RowKit

theorem byte_up (y : UInt8) : ∃ z : UInt8, IntKind.u8.wrap ((y.toNat : Int) + 1) = (z.toNat : Int) := by
  refine ⟨UInt8.ofNat ((y.toNat + 1) % 256), ?_⟩
  rw [ofNat_toNat (by omega)]
  simp [IntKind.wrap, IntKind.bits, IntKind.signed]

/-- A row whose block, all of it, holds bytes; its block lies in a certain part of memory. -/
def AllB (base top : Nat) (A : Option Addr) (c : Nat) (w : World) : Prop := 0 < c → ∃ (g : Nat) (cur : Array Value), A = some ⟨g, 0, none⟩ ∧ base ≤ g ∧ g < top ∧ w.heap[g]? = some (.cells cur 5 (0, 0)) ∧ cur.size = c ∧ ∀ u ∈ cur.toList, IsB u

theorem AllB.of {w : World} {base m c : Nat} {A : Option Addr} {xs : List UInt8} (h : Own w base A m c xs) : AllB base w.heap.size A c w := fun hp => by
  rcases h.1.2 with ⟨h1, _⟩ | ⟨g, cap, cur, hv, hg1, hg, _, _, hcs, _⟩
  · cases h1; omega
  · cases hv
    exact ⟨g, cur, rfl, hg1, (Array.getElem?_eq_some_iff.1 hg).1, hg, by omega, h.2.2.2 g cur rfl hg⟩
theorem AllB.below {base top c : Nat} {A : Option Addr} {w w' : World} (h : AllB base top A c w) (hb : Below w.heap.size w w') : AllB base top A c w' := fun hp => by
  obtain ⟨g, cur, h1, h2, h3, h4, h5⟩ := h hp
  exact ⟨g, cur, h1, h2, h3, blk_carry h4 hb (Array.getElem?_eq_some_iff.1 h4).1, h5⟩
theorem AllB.other {base top c g i : Nat} {A : Option Addr} {w : World} (h : AllB base top A c w) (hg : g < base) (u : Value) : AllB base top A c (w.setCell ⟨g, i, none⟩ u) := fun hp => by
  obtain ⟨g', cur, h1, h2, h3, h4, h5⟩ := h hp
  refine ⟨g', cur, h1, h2, h3, ?_, h5⟩
  rw [← h4]
  exact Below.heap_setCell w ⟨g, i, none⟩ u g' (by simp only; omega)
theorem AllB.put {base top c g i : Nat} {w : World} (h : AllB base top (some ⟨g, 0, none⟩) c w) (hp : 0 < c) (z : UInt8) : AllB base top (some ⟨g, 0, none⟩) c (w.setCell ⟨g, i, none⟩ (bv z)) := fun _ => by
  obtain ⟨g', cur, h1, h2, h3, h4, h5, h6⟩ := h hp
  cases h1
  refine ⟨g, _, rfl, h2, h3, blk_set h4 i _, by simpa using h5, fun u hu => ?_⟩
  rw [Array.toList_setIfInBounds] at hu
  rcases List.mem_or_eq_of_mem_set hu with hu | rfl
  · exact h6 u hu
  · exact ⟨z, rfl⟩
theorem AllB.get {base top c i : Nat} {A : Option Addr} {w : World} (h : AllB base top A c w) (hi : i < c) : ∃ (g : Nat) (y : UInt8), A = some ⟨g, 0, none⟩ ∧ base ≤ g ∧ g < top ∧ w.cell? ⟨g, i, none⟩ = some (.int .u8 (y.toNat : Int)) ∧ w.frozen? ⟨g, i, none⟩ = false := by
  obtain ⟨g, cur, h1, h2, h3, h4, h5, h6⟩ := h (by omega)
  obtain ⟨y, hy⟩ := h6 cur[i] (by simp)
  refine ⟨g, y, h1, h2, h3, ?_, blk_frozen h4 i⟩
  rw [blk_cell h4, Array.getElem?_eq_getElem (by omega), hy]
  rfl

set_option maxHeartbeats 2000000 in
set_option maxRecDepth 100000 in
theorem W_FrameSeals (A : Option Addr) (len cap : Nat) (xs : List UInt8) (w : World) : Byt w w.heap.size A len xs → len ≤ cap → cap * 1 ≤ 140737488351232 → ∀ (A2 : Option Addr) (len2 cap2 : Nat) (ys : List UInt8), Byt w w.heap.size A2 len2 ys → len2 ≤ cap2 → cap2 * 1 ≤ 140737488351232 →
    Calls Try.prog 3 #[.slice A len cap, .slice A2 len2 cap2] w fun e w' => e = .returned (.bool true) ∧ Below w.heap.size w w' := by
  intro hx0 hlc hcap0 A2 len2 cap2 ys hy0 hlc2 hcap2
  have hx := Lib.hid hx0
  have hy := Lib.hid hy0
  clear hx0 hy0
  by_cases hbig : 100000 < len ∨ 100000 < len2
  · rcases Nat.lt_or_ge 100000 len with h | h
    · have t : (100000 : Int) < (len : Int) := by omega
      go_enter Try.func3, Try.ntmps3
      go_wp2_with fail
      refine (live_any w).mono ?_
      rintro e w1 ⟨rfl, hb1⟩
      go_wp2
      go_ret
      exact ⟨rfl, hb1⟩
    · have t : ¬ (100000 : Int) < (len : Int) := by omega
      have t2 : (100000 : Int) < (len2 : Int) := by omega
      go_enter Try.func3, Try.ntmps3
      go_wp2_with fail
      refine (live_any w).mono ?_
      rintro e w1 ⟨rfl, hb1⟩
      go_wp2
      go_ret
      exact ⟨rfl, hb1⟩
  · have t : ¬ (100000 : Int) < (len : Int) := by omega
    have t2 : ¬ (100000 : Int) < (len2 : Int) := by omega
    clear hbig hcap0 hcap2
    go_enter Try.func3, Try.ntmps3
    go_wp2_with fail
    refine (live_any w).mono ?_
    rintro e w1 ⟨rfl, hb1⟩
    go_wp2_with fail
    go_loopw [26] (fun i wr => ∃ k : Nat, k ≤ 2 ∧ i = .int .i64 (k : Int) ∧ Below w.heap.size w wr) (fun i _ => 2 - (intOf i).toNat)
    case atStart => exact ⟨0, by omega, rfl, hb1⟩
    case round =>
      obtain ⟨k, hk, rfl, hbel⟩ := hrel
      clear hb1
      obtain ⟨w0, hw0⟩ : ∃ w0, w0 = wr := ⟨_, rfl⟩
      subst hw0
      by_cases hlt : k < 2
      · go_wp2_with fail
        refine (Seal_any _ cap len A xs w0 (hx.out.below hbel) hbel.size hlc).mono ?_
        rintro e w2 ⟨A3, m3, c3, er3, rfl, he3, ho3, hb2⟩
        have hb02 := hbel.trans (hb2.mono hbel.size)
        go_wp2_with fail
        refine (rSeal_any _ cap len A xs w2 (hx.out.below hb02) hb02.size hlc).mono ?_
        rintro e w3 ⟨A4, m4, c4, er4, rfl, he4, ho4, hb3⟩
        have hb03 := hb02.trans (hb3.mono hb02.size)
        go_wp2_with fail
        refine (Open_any _ cap2 len2 A2 ys w3 (hy.out.below hb03) hb03.size hlc2).mono ?_
        rintro e w4 ⟨A5, m5, c5, er5, rfl, he5, ho5, hb4⟩
        have hb04 := hb03.trans (hb4.mono hb03.size)
        go_wp2_with fail
        refine (rOpen_any _ cap2 len2 A2 ys w4 (hy.out.below hb04) hb04.size hlc2).mono ?_
        rintro e w5 ⟨A6, m6, c6, er6, rfl, he6, ho6, hb5⟩
        have hb35 := hb4.trans (hb5.mono hb4.size)
        have hb25 := hb3.trans (hb35.mono hb3.size)
        have hbr5 := hb2.trans (hb25.mono hb2.size)
        have v1 := own_str' (c := c3) (ho3.out.byt.below hb25)
        have v2 := own_str' (c := c4) (ho4.out.below hb35)
        have v3 := own_str' (c := c5) (ho5.out.byt.below hb5)
        have v4 := own_str' (c := c6) ho6.out
        have hX := Lib.hid ((AllB.of ho3.out).below hb25)
        have hP := Lib.hid ((AllB.of ho5.out).below hb5)
        have h23 := hb3.size
        have hr2 := hb2.size
        obtain rfl := he3.out
        obtain rfl := he4.out
        obtain rfl := he5.out
        obtain rfl := he6.out
        have s1 := fun W => cut_to (P := Try.prog) Try.underlying22 (elem_info elB) A3 m3 c3 c3 .i64 (c3 : Int) rfl (Nat.le_refl _) W
        have s2 := fun W => cut_to (P := Try.prog) Try.underlying22 (elem_info elB) A5 m5 c5 c5 .i64 (c5 : Int) rfl (Nat.le_refl _) W
        have HB := Lib.hid hbr5
        have HW := Lib.hid hbel
        have hc3 : c3 ≤ 9223372036854775807 := by have := ho3.out.2.2.1; unfold maxLen at this; omega
        have hc5 : c5 ≤ 9223372036854775807 := by have := ho5.out.2.2.1; unfold maxLen at this; omega
        clear ho3 ho4 ho5 ho6 he3 he4 he5 he6 hb2 hb3 hb4 hb5 hb02 hb03 hb04 hb35 hb25 hbr5 hbel
        generalize sE xs = ex
        generalize opE ys = ey
        generalize str (sB xs) = z1 at v1 v2
        generalize str (opB ys) = z2 at v3 v4
        have t3 : (z1.toList != z1.toList) = false := by simp
        have t4 : (z2.toList != z2.toList) = false := by simp
        have t5 : ((ex : Int) != (ex : Int)) = false := by simp
        have t6 : ((ey : Int) != (ey : Int)) = false := by simp
        go_wp2_with fail
        clear v1 v2 v3 v4 t3 t4 t5 t6
        go_loopw [76] (fun i wi => ∃ j : Nat, j ≤ c3 ∧ i = .int .i64 (j : Int) ∧ Hid (AllB w0.heap.size w2.heap.size A3 c3 wi) ∧ Hid (AllB w3.heap.size w4.heap.size A5 c5 wi) ∧ Hid (Below w0.heap.size w0 wi)) (fun i _ => c3 - (intOf i).toNat)
        case atStart => exact ⟨0, by omega, rfl, hX.out, hP.out, HB.out⟩
        case round =>
          obtain ⟨j, hj, rfl, hX1, hP1, hB1⟩ := hrel
          clear hX hP HB
          by_cases hj2 : j < c3
          · obtain ⟨g, y, rfl, hg1, hg2, hc, hf⟩ := hX1.out.get hj2
            obtain ⟨z, hz⟩ := byte_up y
            have hX3 := Lib.hid (hX1.out.put (by omega) (i := j) z)
            have hP3 := fun i => hP1.out.other (g := g) (i := i) (by omega) (bv z)
            replace hP3 := Lib.hid (hP3 j)
            have hB3 := Lib.hid (hB1.out.setCell (p := ⟨g, j, none⟩) hg1 (bv z))
            clear hX1 hP1 hB1 s1 s2
            go_wp2
            go_roundw
            case rel => exact ⟨j + 1, by omega, by go_num, hX3.out, hP3.out, hB3.out⟩
            case measure => simp [intOf]; omega
          · clear hX1 s1
            go_wp2_with fail
            go_loopw [92] (fun i wi => ∃ j : Nat, j ≤ c5 ∧ i = .int .i64 (j : Int) ∧ Hid (AllB w3.heap.size w4.heap.size A5 c5 wi) ∧ Hid (Below w0.heap.size w0 wi)) (fun i _ => c5 - (intOf i).toNat)
            case atStart => exact ⟨0, by omega, rfl, hP1.out, hB1.out⟩
            case round =>
              obtain ⟨j', hj', rfl, hP2, hB2⟩ := hrel
              clear hP1 hB1
              by_cases hj3 : j' < c5
              · obtain ⟨g, y, rfl, hg1, hg2, hc, hf⟩ := hP2.out.get hj3
                obtain ⟨z, hz⟩ := byte_up y
                have hP3 := Lib.hid (hP2.out.put (by omega) (i := j') z)
                have hB3 := Lib.hid (hB2.out.setCell (p := ⟨g, j', none⟩) (by simp only; omega) (bv z))
                clear hP2 hB2 s2
                go_wp2
                go_roundw
                case rel => exact ⟨j' + 1, by omega, by go_num, hP3.out, hB3.out⟩
                case measure => simp [intOf]; omega
              · clear hP2
                go_wp2
                go_roundw
                case rel => exact ⟨k + 1, by omega, by go_num, HW.out.trans (hB2.out.mono HW.out.size)⟩
                case measure => simp [intOf]; omega
      · have HW := Lib.hid hbel
        clear hbel
        go_wp2
        go_ret
        exact ⟨rfl, HW.out⟩
end Go.Proofs.Ytpeemmcaecghjaa
