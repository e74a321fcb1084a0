/-
  Contract of the reference's Load.
-/
import Derived.Test.YtnifihdnpmacjaaAlP
namespace Go.Proofs.Ytnifihdnpmacjaa
open Go.RowKit

def upto (f : Nat → Bool) (m : Nat) : Nat → Bool := fun j => f j && decide (j < m)
theorem upto_zero (f : Nat → Bool) : upto f 0 = fun _ => false := by
  funext j; unfold upto; simp
theorem upto_miss {f : Nat → Bool} {m : Nat} (h : f m = false) : upto f (m + 1) = upto f m := by
  funext j
  unfold upto
  by_cases e : j = m
  · subst e; rw [h]; simp
  · have : decide (j < m + 1) = decide (j < m) := by simp; omega
    rw [this]
theorem upto_hit {f : Nat → Bool} {m : Nat} (h : f m = true) : upto f (m + 1) m = true ∧ ∀ j, j ≠ m → upto f (m + 1) j = upto f m j := by
  refine ⟨?_, fun j e => ?_⟩
  · unfold upto; rw [h]; simp
  · unfold upto
    have : decide (j < m + 1) = decide (j < m) := by simp; omega
    rw [this]
theorem RA.congr {w : World} {h t P : Nat} {f f' : Nat → Bool} (r : RA w h t P f) (he : ∀ i, i < P → f' i = f i) : RA w h t P f' := by
  obtain ⟨hne, h1, cur, h2, h3, h4⟩ := r
  exact ⟨hne, h1, cur, h2, h3, fun i hi => by rw [he i hi]; exact h4 i hi⟩

set_option maxHeartbeats 1000000 in
set_option maxRecDepth 100000 in
theorem rLoad_bits (P B n c : Nat) (A : Option Addr) (f : Nat → Bool) (xs : List UInt8) (w : World) (hx0 : Byt w B A n xs) (hB : B ≤ w.heap.size) (hP1 : 1 ≤ P) (hP2 : P ≤ 1024) (hn : (P + 7) / 8 = n) (ha : AsBytes f xs) :
    Calls Try.prog 11 #[.int .i64 (P : Int), .slice A n c] w fun e w' => Below w.heap.size w w' ∧ ((e = .returned (.tuple #[.pointer none, .int .i64 11]) ∧ Hid (¬ Low f P)) ∨ (e = .returned (.tuple #[.pointer (some ⟨w.heap.size + 1, 0, none⟩), .int .i64 0]) ∧ Hid (∀ j, P ≤ j → j < 8 * n → f j = false) ∧ Hid (RA w' (w.heap.size + 1) w.heap.size P f))) := by
  have hn128 : n ≤ 128 := by omega
  have h8n : P ≤ 8 * n := by omega
  have e1 : ((P : Int) + 7) / 8 = (n : Int) := by omega
  have e2 : ((P : Int) + 7).tdiv 8 = (n : Int) := by rw [Int.tdiv_eq_ediv_of_nonneg (by omega)]; exact e1
  have hx := Lib.hid (hx0.more hB)
  have HA := Lib.hid ha
  clear hx0 hn ha hB
  go_enter Try.func11, Try.ntmps11
  go_wp2_with fail
  refine (rNew_any (P : Int) w).mono ?_
  rintro e w1 (⟨rfl, hno, rfl⟩ | ⟨P', hPP, _, _, rfl, hR, hb1⟩)
  · exact absurd hno (by omega)
  · obtain rfl : P' = P := by omega
    have hX1 := Lib.hid (hx.out.below hb1)
    obtain ⟨g, hg⟩ : ∃ g, w.heap.size = g := ⟨_, rfl⟩
    obtain ⟨h, hh⟩ : ∃ h, g + 1 = h := ⟨_, rfl⟩
    rw [hg, hh] at hR
    rw [hg, hh]
    have hwg : w.heap.size ≤ g := by omega
    have HG := Lib.hid hg
    have HH := Lib.hid hh
    have hb := Lib.hid hb1
    clear hb1 hx hg hh hPP
    go_wp2_with fail
    go_loopg [27] 3000 (fun q i wr => ∃ m : Nat, q + m = 3000 ∧ m ≤ n ∧ i = .int .i64 (m : Int) ∧ Hid (∀ j, P' ≤ j → j < 8 * m → f j = false) ∧ Hid (RA wr h g P' (upto f (8 * m))) ∧ Hid (Below w.heap.size w wr) ∧ Hid (Byt wr w.heap.size A n xs))
    case atStart => exact ⟨0, by omega, by omega, rfl, fun j _ hj => absurd hj (by omega), by rw [Nat.mul_zero, upto_zero]; exact hR.out, hb.out, hX1.out⟩
    case round =>
      obtain ⟨m, hq, hm, rfl, hlo, hr, hbw, hxw⟩ := hrel
      obtain ⟨g1, hg1⟩ : ∃ x, x = gk := ⟨_, rfl⟩
      subst hg1
      obtain ⟨w0, hw0⟩ : ∃ x, x = wr := ⟨_, rfl⟩
      subst hw0
      clear hR hb hX1 e1 e2
      by_cases hlt : m < n
      · obtain ⟨b, off, x, rfl, hbB, hxm, hcx⟩ := hxw.out.at_ hlt
        have hbx := Lib.hid (fun r hr => HA.out m x hxm r hr)
        have HXm := Lib.hid hxm
        clear hxm
        go_wp2_with fail
        clear hcx
        go_loopg [10] 9 (fun q i wr => ∃ d : Nat, q + d = 9 ∧ d ≤ 8 ∧ i = .int .i64 (d : Int) ∧ Hid (∀ j, P' ≤ j → j < 8 * m + d → f j = false) ∧ Hid (RA wr h g P' (upto f (8 * m + d))) ∧ Hid (Below w.heap.size w wr) ∧ Hid (Byt wr w.heap.size (some ⟨b, off, none⟩) n xs))
        case atStart => exact ⟨0, by omega, by omega, rfl, by rw [Nat.add_zero]; exact hlo.out, by rw [Nat.add_zero]; exact hr.out, hbw.out, hxw.out⟩
        case round =>
          obtain ⟨d, hq2, hd, rfl, hlo2, hr2, hbw2, hxw2⟩ := hrel
          clear hr hbw hxw hlo
          by_cases hd8 : d < 8
          · have hbit := hbx.out d hd8
            rw [Nat.testBit_eq_decide_div_mod_eq] at hbit
            have hdv : ((x.toNat : Int) / 2 ^ d) = ((x.toNat / 2 ^ d : Nat) : Int) := by simp
            obtain ⟨z, hz⟩ : ∃ z, 8 * m + d = z := ⟨_, rfl⟩
            rw [hz] at hbit hlo2 hr2
            have hz1024 : z < 1024 := by omega
            have hzz := Lib.hid hz
            have z1 : (8 : Int) * (m : Int) + (d : Int) = (z : Int) := by omega
            have z2 : IntKind.i64.wrap ((8 : Int) * (m : Int)) = (8 : Int) * (m : Int) := by rw [IntKind.wrap_i64]; omega
            have z3 : IntKind.i64.wrap (z : Int) = (z : Int) := by rw [IntKind.wrap_i64]; omega
            clear hz
            cases hf : f z
            · rw [hf] at hbit
              have hc0 : x.toNat / 2 ^ d % 2 = 0 := by have := of_decide_eq_false hbit; omega
              have t1 : ((x.toNat : Int) / 2 ^ d) % 2 = 0 := by rw [hdv]; omega
              have t2 : ((x.toNat : Int) / 2 ^ d).tmod 2 = 0 := by rw [Int.tmod_eq_emod_of_nonneg (by rw [hdv]; exact Int.natCast_nonneg _)]; exact t1
              have hlo3 : Hid (∀ j, P' ≤ j → j < z + 1 → f j = false) := fun j h1 h2 => by
                by_cases e : j = z
                · subst e; exact hf
                · exact hlo2.out j h1 (by omega)
              have hr3 := Lib.hid (show RA wr h g P' (upto f (z + 1)) by rw [upto_miss hf]; exact hr2.out)
              clear hlo2 hr2 hbit hdv hf hc0
              go_wp2
              go_roundg (gk - 1)
              case measure => omega
              case rel => exact ⟨d + 1, by omega, by omega, by go_num, by rw [← Nat.add_assoc, hzz.out]; exact hlo3.out, by rw [← Nat.add_assoc, hzz.out]; exact hr3.out, hbw2.out, hxw2.out⟩
            · rw [hf] at hbit
              have hc0 : x.toNat / 2 ^ d % 2 = 1 := of_decide_eq_true hbit
              have t1 : ((x.toNat : Int) / 2 ^ d) % 2 = 1 := by rw [hdv]; omega
              have t2 : ((x.toNat : Int) / 2 ^ d).tmod 2 = 1 := by rw [Int.tmod_eq_emod_of_nonneg (by rw [hdv]; exact Int.natCast_nonneg _)]; exact t1
              by_cases hzP : z < P'
              · have hlo3 : Hid (∀ j, P' ≤ j → j < z + 1 → f j = false) := fun j h1 h2 => hlo2.out j h1 (by omega)
                obtain ⟨s1, s2⟩ := upto_hit hf
                have hr3 := Lib.hid (hr2.out.put (i := z) s1 s2)
                obtain ⟨hbz, hfr⟩ := hr2.out.bit hzP
                have hrow := hr2.out.row
                have hbw3 := Lib.hid (below_set (i := z) hbw2.out hwg (.bool true))
                have hxw3 : Hid (Byt (wr.setCell ⟨g, z, none⟩ (.bool true)) w.heap.size (some ⟨b, off, none⟩) n xs) := by
                  refine Rd.keep hxw2.out fun p hp => ?_
                  exact World.cell?_setCell_other wr _ _ _ (fun e => by subst e; simp only at hp; omega)
                clear hlo2 hr2 hbit hdv hf hc0 s1 s2 hxw2 hbw2
                go_wp2
                go_roundg (gk - 1)
                case measure => omega
                case rel => exact ⟨d + 1, by omega, by omega, by go_num, by rw [← Nat.add_assoc, hzz.out]; exact hlo3.out, by rw [← Nat.add_assoc, hzz.out]; exact hr3.out, hbw3.out, hxw3.out⟩
              · have hnl : Hid (¬ Low f P') := fun hl => by
                  have := hl z (by omega)
                  rw [hf] at this; cases this
                have t3 : (P' : Int) ≤ (z : Int) := by omega
                clear hlo2 hr2 hbit hdv hf hc0
                go_wp2
                go_ret2
                exact ⟨hbw2.out, .inl ⟨rfl, hnl.out⟩⟩
          · obtain rfl : d = 8 := by omega
            go_wp2
            go_roundg (g1 - 1)
            case measure => omega
            case rel => exact ⟨m + 1, by omega, by omega, by go_num, by rw [Nat.mul_succ]; exact hlo2.out, by rw [Nat.mul_succ]; exact hr2.out, hbw2.out, hxw2.out⟩
      · obtain rfl : m = n := by omega
        have hr1 : RA w0 h g P' f := by
          refine hr.out.congr fun i hi => ?_
          unfold upto
          have : decide (i < 8 * m) = true := by simp; omega
          rw [this, Bool.and_true]
        have hr2 := Lib.hid hr1
        clear hr1
        clear hr hxw
        go_wp2
        go_ret2
        obtain rfl := HG.out
        obtain rfl := HH.out
        first | exact ⟨hbw.out, .inr ⟨rfl, hlo.out, hr2.out⟩⟩ | exact ⟨hbw.out, .inr ⟨rfl, hr2.out⟩⟩
end Go.Proofs.Ytnifihdnpmacjaa
