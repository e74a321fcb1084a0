/-
  Contract of alloc's Load, of bits that are an allocator's.
-/
import Derived.Test.YtnifihdnpmacjaaAlJ
namespace Go.Proofs.Ytnifihdnpmacjaa
open Go.RowKit

/-- No bit is set behind the last place. -/
def Low (f : Nat → Bool) (P : Nat) : Prop := ∀ i, P ≤ i → f i = false
theorem cnt_low {f : Nat → Bool} {P : Nat} (h : Low f P) : ∀ d, cnt f (P + d) = cnt f P
  | 0 => rfl
  | d + 1 => by
    show cnt f (P + d) + (if f (P + d) = true then 1 else 0) = _
    rw [cnt_low h d, h (P + d) (by omega)]; rfl
theorem low_flip {f : Nat → Bool} {P i : Nat} (h : Low f P) (hi : i < P) : Low (flip1 f i) P := fun j hj => by
  unfold flip1; rw [if_neg (by omega)]; exact h j hj
theorem low_fill {f : Nat → Bool} {P m n : Nat} (h : Low f P) (hi : m + n ≤ P) : Low (fill f m n) P := fun j hj => by
  have e : decide (j < m + n) = false := by simp; omega
  have h1 : fill f m n j = (f j || (decide (m ≤ j) && decide (j < m + n))) := rfl
  rw [h1, e, h j hj]; simp

set_option maxHeartbeats 1000000 in
set_option maxRecDepth 100000 in
theorem Load_ok (P B n c : Nat) (A : Option Addr) (f : Nat → Bool) (xs : List UInt8) (w : World) (hx0 : Byt w B A n xs) (hB : B ≤ w.heap.size) (hP1 : 1 ≤ P) (hP2 : P ≤ 1024) (hn : (P + 7) / 8 = n) (ha : AsBytes f xs) (hlow : Low f P) :
    Calls Try.prog 10 #[.int .i64 (P : Int), .slice A n c] w fun e w' => e = .returned (.tuple #[.pointer (some ⟨w.heap.size, 0, none⟩), .int .i64 0]) ∧ Hid (Alc w' w.heap.size P f) ∧ Below w.heap.size w w' := by
  have hn128 : n ≤ 128 := by omega
  have h8n : P ≤ 8 * n ∧ 8 * n ≤ 1024 := by omega
  have HN := Lib.hid hn
  have hx := Lib.hid (hx0.more hB)
  have HA := Lib.hid ha
  have HLow := Lib.hid hlow
  clear hx0 hn ha hlow hB
  go_enter Try.func10, Try.ntmps10
  go_wp2_with fail
  refine (New_any (P : Int) w).mono ?_
  rintro e w1 hnew
  obtain ⟨rfl, ha1, hb1⟩ := new_ok hnew hP1 hP2
  clear hnew
  have K := size_any _ P _ _ w1 ha1 hP2
  rw [HN.out] at K
  replace K := Lib.hid K
  go_wp2_with fail
  refine K.out.mono ?_
  rintro e w2 ⟨rfl, rfl⟩
  clear K
  have hX1 := hx.out.below hb1
  have t1 : ((n : Int) != (n : Int)) = false := by simp
  obtain ⟨g, hg⟩ : ∃ g, w.heap.size = g := ⟨_, rfl⟩
  obtain ⟨cur, h0, h1, h2, h3, h4⟩ := ha1
  have h3 : cur[1]? = some (.int .i64 0) := by rw [cnt_zero] at h3; exact h3
  have hw : w.heap.size ≤ g := by omega
  rw [hg] at h0
  rw [hg]
  have H0 := Lib.hid h0
  have H1 := Lib.hid h1
  have H2 := Lib.hid h2
  have H3 := Lib.hid h3
  have H4 := Lib.hid h4
  have HX := Lib.hid hX1
  have hgw := Lib.hid hg
  clear h0 h1 h2 h3 h4 hX1 hg
  go_wp2_with (with_reducible refine wpList_copy_splice rfl _ _ _ _ rfl 5 Try.underlying22 (by kernel_rfl) (some ⟨g, 2, none⟩) A 128 128 n c rfl rfl g 2 cur.toList 52 ?c1 (xs.map bv) ?c2 ?c3 ?c4 bv_one w.heap.size w ?c5 hw ?_)
  case c1 => rw [Array.toArray_toList]; exact H0.out
  case c2 => rw [List.length_map, HX.out.len]; exact (Nat.min_eq_left hn128).symm
  case c3 =>
    intro hp
    obtain ⟨b, off, x, rfl, _, _, _⟩ := HX.out.at_ (k := 0) (by have := HX.out.len; omega)
    refine ⟨_, rfl, fun j v hj => ?_⟩
    have hjn : j < n := by have := HX.out.len; have := (List.getElem?_eq_some_iff.1 hj).1; omega
    obtain ⟨b', off', y, hA, _, hy, hc⟩ := HX.out.at_ hjn
    cases hA
    rw [hy] at hj
    cases hj
    rw [add_none]
    exact hc
  case c4 =>
    have h1 := HX.out.len
    have h2 := H1.out
    simp
    omega
  case c5 => exact hb1
  intro w2 hg2 hb2
  have ha2 : Alc0 w2 g P ((cnt f 0 : Nat) : Int) f := by
    refine ⟨_, hg2.out, ?_, ?_, ?_, fun k hk => ?_⟩
    · simp only [splice, List.size_toArray, List.length_append, List.length_take, List.length_drop, Array.length_toList, List.length_map, HX.out.len, H1.out]; omega
    · simp only [splice, List.getElem?_toArray]
      rw [List.getElem?_append_left (by simp [H1.out]), List.getElem?_take, if_pos (by omega), Array.getElem?_toList]
      exact H2.out
    · simp only [splice, List.getElem?_toArray]
      rw [List.getElem?_append_left (by simp [H1.out]), List.getElem?_take, if_pos (by omega), Array.getElem?_toList]
      exact H3.out
    · have hl2 : (cur.toList.take 2).length = 2 := by simp [H1.out]
      simp only [splice, List.getElem?_toArray]
      rw [List.getElem?_append_right (by rw [hl2]; omega), hl2, show 2 + k - 2 = k by omega]
      by_cases hkn : k < n
      · obtain ⟨x, hx2⟩ : ∃ x, xs[k]? = some x := ⟨_, List.getElem?_eq_getElem (by rw [HX.out.len]; exact hkn)⟩
        refine ⟨x, ?_, HA.out k x hx2⟩
        rw [List.getElem?_append_left (by rw [List.length_map, HX.out.len]; exact hkn), List.getElem?_map, hx2]
        rfl
      · obtain ⟨x, hx2, hr⟩ := H4.out k hk
        refine ⟨x, ?_, fun r hr8 => ?_⟩
        · rw [List.getElem?_append_right (by rw [List.length_map, HX.out.len]; omega), List.length_map, HX.out.len, List.getElem?_drop, Array.getElem?_toList]
          rw [show 2 + n + (k - n) = 2 + k by omega]
          exact hx2
        · rw [hr r hr8, HLow.out _ (by omega)]
  have hA2 := Lib.hid ha2
  have hB2 := Lib.hid hb2
  clear ha2 hg2 hb1 hb2 H0 H1 H2 H3 H4 HX hx HA
  go_wp2_with fail
  go_loopw [31] (fun i wr => ∃ k : Nat, k ≤ 8 * n ∧ i = .int .i64 (k : Int) ∧ Hid (Alc0 wr g P ((cnt f k : Nat) : Int) f) ∧ Hid (Below w.heap.size w wr)) (fun i _ => 4000 - (intOf i).toNat)
  case atStart => exact ⟨0, by omega, rfl, hA2.out, hB2.out⟩
  case round =>
    obtain ⟨k, hk, rfl, hA, hb⟩ := hrel
    clear hA2 hB2
    by_cases hlt : k < 8 * n
    · have K := Lib.hid (set_any g P k _ f wr hA.out (by omega))
      have hcl := cnt_le f k
      have hst : Hid (cnt f (k + 1) = cnt f k + if f k = true then 1 else 0) := rfl
      have hcT := hA.out.cT
      have hfr := hA.out.fr 1
      go_wp2_with fail
      refine K.out.mono ?_
      rintro e w3 ⟨rfl, rfl⟩
      clear K
      cases hf : f k
      · rw [hf] at hst
        have hA3 := Lib.hid (show Alc0 wr g P ((cnt f (k + 1) : Nat) : Int) f by rw [hst.out]; exact hA.out)
        clear hA hst
        go_wp2
        go_roundw
        case rel => exact ⟨k + 1, by omega, by go_num, hA3.out, hb.out⟩
        case measure => simp [intOf]; omega
      · rw [hf] at hst
        have hkP : k < P := by
          rcases Nat.lt_or_ge k P with h | h
          · exact h
          · have := HLow.out k h
            rw [hf] at this; cases this
        have hA3 := Lib.hid (show Alc0 (wr.setCell ⟨g, 1, none⟩ (.int .i64 ((cnt f k : Int) + 1))) g P ((cnt f (k + 1) : Nat) : Int) f by
          rw [hst.out]; exact hA.out.setT ((cnt f k : Int) + 1))
        have hb3 := Lib.hid (hb.out.setCell (p := ⟨g, 1, none⟩) hw (.int .i64 ((cnt f k : Int) + 1)))
        clear hA hst hb
        go_wp2
        go_roundw
        case rel => exact ⟨k + 1, by omega, by go_num, hA3.out, hb3.out⟩
        case measure => simp [intOf]; omega
    · have hk8 : k = 8 * n := by omega
      have HP := Lib.hid (show Alc wr g P f by
        have := cnt_low HLow.out (k - P)
        rw [show P + (k - P) = k by omega] at this
        show Alc0 _ _ _ _ _
        rw [← this]; exact hA.out)
      clear hA
      obtain rfl := hgw.out
      go_wp2
      go_ret2
      exact ⟨rfl, HP.out, hb.out⟩
end Go.Proofs.Ytnifihdnpmacjaa
