/-
  Contracts of alloc's Mark, with what it makes, and of Load of any bits.
-/
import Derived.Test.YtnifihdnpmacjaaAlO
namespace Go.Proofs.Ytnifihdnpmacjaa
open Go.RowKit

def MarkFP (g P : Nat) (i : Int) (f : Nat → Bool) (w : World) (e : Ending) (w' : World) : Prop := e = .returned (.int .i64 (mrkE P f i)) ∧ Hid (Alc w' g P (mrkF P f i)) ∧ Hid (Upd g w w')

set_option maxHeartbeats 1000000 in
set_option maxRecDepth 100000 in
theorem MarkF_any (g P : Nat) (i : Int) (f : Nat → Bool) (w : World) (h : Alc w g P f) (hP : P ≤ 1024) :
    Calls Try.prog 17 #[.pointer (some ⟨g, 0, none⟩), .int .i64 i] w (MarkFP g P i f w) := by
  have K := Lib.hid (isPlace_any g P i _ f w h)
  by_cases h0 : 0 ≤ i ∧ i < (P : Int)
  · obtain ⟨n, rfl⟩ := Int.eq_ofNat_of_zero_le h0.1
    have e2 : decide (0 ≤ (n : Int) ∧ (n : Int) < (P : Int)) = true := by simp [h0]
    rw [e2] at K
    have hn : n < P := by omega
    have K2 := Lib.hid (set_any g P n _ f w h (by omega))
    cases hf : f n
    · have he1 : Ending.returned (.int .i64 0) = Ending.returned (.int .i64 (mrkE P f (n : Int))) := by unfold mrkE; rw [if_pos h0, Int.toNat_natCast, hf]; rfl
      have he2 : mrkF P f (n : Int) = flip1 f n := by unfold mrkF; rw [if_pos ⟨h0, by rw [Int.toNat_natCast]; exact hf⟩, Int.toNat_natCast]
      rw [hf] at K2
      have K3 := Lib.hid (turn_any g P n _ f w h (by omega))
      have hc := cnt_flip f n P hn
      rw [hf] at hc
      have hcl := cnt_le f P
      have hc := Lib.hid hc
      clear e2 h h0 hf
      go_enter Try.func17, Try.ntmps17
      go_wp2_with fail
      refine K.out.mono ?_
      rintro e w1 ⟨rfl, rfl⟩
      go_wp2_with fail
      refine K2.out.mono ?_
      rintro e w1 ⟨rfl, rfl⟩
      go_wp2_with fail
      refine K3.out.mono ?_
      rintro e w1 ⟨rfl, ha, hu⟩
      have hT := ha.out.cT
      have hfr := ha.out.fr 1
      have hT2 := ha.out.setT ((cnt f P : Int) + 1)
      have HP : MarkFP g P (n : Int) f w (.returned (.int .i64 0)) (w1.setCell ⟨g, 1, none⟩ (.int .i64 ((cnt f P : Int) + 1))) := by
        refine ⟨he1, ?_, hu.out.trans (Upd.set g 1 w1 _)⟩
        rw [he2]
        show Alc0 _ _ _ _ _
        rw [show ((cnt (flip1 f n) P : Nat) : Int) = (cnt f P : Int) + 1 by have := hc.out; simp at this; omega]
        exact hT2
      have HP := Lib.hid HP
      clear K K2 K3 ha hu hT2 hc
      go_wp2
      go_ret
      exact HP.out
    · rw [hf] at K2
      have HP := Lib.hid (show MarkFP g P (n : Int) f w (.returned (.int .i64 6)) w from ⟨by unfold mrkE; rw [if_pos h0, Int.toNat_natCast, hf]; rfl, by
        have e2 : mrkF P f (n : Int) = f := by unfold mrkF; rw [if_neg (fun h => by rw [Int.toNat_natCast, hf] at h; cases h.2)]
        rw [e2]; exact h, Upd.refl _ _⟩)
      clear e2 h h0 hf
      go_enter Try.func17, Try.ntmps17
      go_wp2_with fail
      refine K.out.mono ?_
      rintro e w1 ⟨rfl, rfl⟩
      go_wp2_with fail
      refine K2.out.mono ?_
      rintro e w1 ⟨rfl, rfl⟩
      go_wp2
      go_ret
      exact HP.out
  · have e2 : decide (0 ≤ i ∧ i < (P : Int)) = false := by simp only [h0, decide_false]
    rw [e2] at K
    have HP := Lib.hid (show MarkFP g P i f w (.returned (.int .i64 5)) w from ⟨by unfold mrkE; rw [if_neg h0], by
      have e2 : mrkF P f i = f := by unfold mrkF; rw [if_neg (fun h => h0 h.1)]
      rw [e2]; exact h, Upd.refl _ _⟩)
    clear e2 h h0
    go_enter Try.func17, Try.ntmps17
    go_wp2_with fail
    refine K.out.mono ?_
    rintro e w1 ⟨rfl, rfl⟩
    go_wp2
    go_ret
    exact HP.out

/-- The bits of bytes. -/
def fb (xs : List UInt8) : Nat → Bool := fun i => match xs[i / 8]? with
  | some x => x.toNat.testBit (i % 8)
  | none => false
theorem fb_as (xs : List UInt8) : AsBytes (fb xs) xs := fun k x hx r hr => by
  unfold fb
  rw [show (8 * k + r) / 8 = k by omega, hx, show (8 * k + r) % 8 = r by omega]
theorem fb_tail {xs : List UInt8} {i : Nat} (h : 8 * xs.length ≤ i) : fb xs i = false := by
  unfold fb
  rw [List.getElem?_eq_none (by omega)]

/-- What Load tells: the error and the bits, or none. -/
def ldE (p : Int) (xs : List UInt8) : Int := if p < 1 ∨ 1024 < p then 1 else if ((xs.length : Nat) : Int) = (p + 7) / 8 then 0 else 11

def LoadP (p : Int) (xs : List UInt8) (w : World) (e : Ending) (w' : World) : Prop :=
  (∃ er : Int, e = .returned (.tuple #[.pointer none, .int .i64 er]) ∧ ((ldE p xs ≠ 0 ∧ er = ldE p xs) ∨ (ldE p xs = 0 ∧ er = 11 ∧ ¬ Low (fb xs) p.toNat)) ∧ Below w.heap.size w w') ∨
  ∃ P : Nat, p = (P : Int) ∧ 1 ≤ P ∧ P ≤ 1024 ∧ xs.length = (P + 7) / 8 ∧ Low (fb xs) P ∧ e = .returned (.tuple #[.pointer (some ⟨w.heap.size, 0, none⟩), .int .i64 0]) ∧ Hid (Alc w' w.heap.size P (fb xs)) ∧ Below w.heap.size w w'

set_option maxHeartbeats 1000000 in
set_option maxRecDepth 100000 in
theorem Load_bits (P B n c : Nat) (A : Option Addr) (f : Nat → Bool) (xs : List UInt8) (w : World) (hx0 : Byt w B A n xs) (hB : B ≤ w.heap.size) (hP1 : 1 ≤ P) (hP2 : P ≤ 1024) (hn : (P + 7) / 8 = n) (ha : AsBytes f xs) (htl : ∀ i, 8 * n ≤ i → f i = false) :
    Calls Try.prog 10 #[.int .i64 (P : Int), .slice A n c] w fun e w' => Below w.heap.size w w' ∧ ((e = .returned (.tuple #[.pointer none, .int .i64 11]) ∧ Hid (¬ Low f P)) ∨ (e = .returned (.tuple #[.pointer (some ⟨w.heap.size, 0, none⟩), .int .i64 0]) ∧ Hid (Low f P) ∧ Hid (Alc w' w.heap.size P f))) := by
  have hn128 : n ≤ 128 := by omega
  have h8n : P ≤ 8 * n ∧ 8 * n ≤ 1024 := by omega
  have HN := Lib.hid hn
  have hx := Lib.hid (hx0.more hB)
  have HA := Lib.hid ha
  have HTl := Lib.hid htl
  clear hx0 hn ha htl hB
  go_enter Try.func10, Try.ntmps10
  go_wp2_with fail
  refine (New_any (P : Int) w).mono ?_
  rintro e w1 hnew
  obtain ⟨rfl, ha1, hb1⟩ := new_ok hnew hP1 hP2
  clear hnew
  have K := size_any _ P _ _ w1 ha1 hP2
  rw [HN.out] at K
  replace K := Lib.hid K
  go_wp2_with fail
  refine K.out.mono ?_
  rintro e w2 ⟨rfl, rfl⟩
  clear K
  have hX1 := hx.out.below hb1
  have t1 : ((n : Int) != (n : Int)) = false := by simp
  obtain ⟨g, hg⟩ : ∃ g, w.heap.size = g := ⟨_, rfl⟩
  obtain ⟨cur, h0, h1, h2, h3, h4⟩ := ha1
  have h3 : cur[1]? = some (.int .i64 0) := by rw [cnt_zero] at h3; exact h3
  have hw : w.heap.size ≤ g := by omega
  rw [hg] at h0
  rw [hg]
  have H0 := Lib.hid h0
  have H1 := Lib.hid h1
  have H2 := Lib.hid h2
  have H3 := Lib.hid h3
  have H4 := Lib.hid h4
  have HX := Lib.hid hX1
  have hgw := Lib.hid hg
  clear h0 h1 h2 h3 h4 hX1 hg
  go_wp2_with (with_reducible refine wpList_copy_splice rfl _ _ _ _ rfl 5 Try.underlying22 (by kernel_rfl) (some ⟨g, 2, none⟩) A 128 128 n c rfl rfl g 2 cur.toList 52 ?c1 (xs.map bv) ?c2 ?c3 ?c4 bv_one w.heap.size w ?c5 hw ?_)
  case c1 => rw [Array.toArray_toList]; exact H0.out
  case c2 => rw [List.length_map, HX.out.len]; exact (Nat.min_eq_left hn128).symm
  case c3 =>
    intro hp
    obtain ⟨b, off, x, rfl, _, _, _⟩ := HX.out.at_ (k := 0) (by have := HX.out.len; omega)
    refine ⟨_, rfl, fun j v hj => ?_⟩
    have hjn : j < n := by have := HX.out.len; have := (List.getElem?_eq_some_iff.1 hj).1; omega
    obtain ⟨b', off', y, hA, _, hy, hc⟩ := HX.out.at_ hjn
    cases hA
    rw [hy] at hj
    cases hj
    rw [add_none]
    exact hc
  case c4 =>
    have h1 := HX.out.len
    have h2 := H1.out
    simp
    omega
  case c5 => exact hb1
  intro w2 hg2 hb2
  have ha2 : Alc0 w2 g P ((cnt f 0 : Nat) : Int) f := by
    refine ⟨_, hg2.out, ?_, ?_, ?_, fun k hk => ?_⟩
    · simp only [splice, List.size_toArray, List.length_append, List.length_take, List.length_drop, Array.length_toList, List.length_map, HX.out.len, H1.out]; omega
    · simp only [splice, List.getElem?_toArray]
      rw [List.getElem?_append_left (by simp [H1.out]), List.getElem?_take, if_pos (by omega), Array.getElem?_toList]
      exact H2.out
    · simp only [splice, List.getElem?_toArray]
      rw [List.getElem?_append_left (by simp [H1.out]), List.getElem?_take, if_pos (by omega), Array.getElem?_toList]
      exact H3.out
    · have hl2 : (cur.toList.take 2).length = 2 := by simp [H1.out]
      simp only [splice, List.getElem?_toArray]
      rw [List.getElem?_append_right (by rw [hl2]; omega), hl2, show 2 + k - 2 = k by omega]
      by_cases hkn : k < n
      · obtain ⟨x, hx2⟩ : ∃ x, xs[k]? = some x := ⟨_, List.getElem?_eq_getElem (by rw [HX.out.len]; exact hkn)⟩
        refine ⟨x, ?_, HA.out k x hx2⟩
        rw [List.getElem?_append_left (by rw [List.length_map, HX.out.len]; exact hkn), List.getElem?_map, hx2]
        rfl
      · obtain ⟨x, hx2, hr⟩ := H4.out k hk
        refine ⟨x, ?_, fun r hr8 => ?_⟩
        · rw [List.getElem?_append_right (by rw [List.length_map, HX.out.len]; omega), List.length_map, HX.out.len, List.getElem?_drop, Array.getElem?_toList]
          rw [show 2 + n + (k - n) = 2 + k by omega]
          exact hx2
        · rw [hr r hr8, HTl.out _ (by omega)]
  have hA2 := Lib.hid ha2
  have hB2 := Lib.hid hb2
  clear ha2 hg2 hb1 hb2 H0 H1 H2 H3 H4 HX hx HA
  go_wp2_with fail
  go_loopw [31] (fun i wr => ∃ k : Nat, k ≤ 8 * n ∧ i = .int .i64 (k : Int) ∧ Hid (∀ j, P ≤ j → j < k → f j = false) ∧ Hid (Alc0 wr g P ((cnt f k : Nat) : Int) f) ∧ Hid (Below w.heap.size w wr)) (fun i _ => 4000 - (intOf i).toNat)
  case atStart => exact ⟨0, by omega, rfl, fun j _ h => absurd h (Nat.not_lt_zero _), hA2.out, hB2.out⟩
  case round =>
    obtain ⟨k, hk, rfl, hlo, hA, hb⟩ := hrel
    clear hA2 hB2
    by_cases hlt : k < 8 * n
    · have K := Lib.hid (set_any g P k _ f wr hA.out (by omega))
      have hcl := cnt_le f k
      have hst : Hid (cnt f (k + 1) = cnt f k + if f k = true then 1 else 0) := rfl
      have hcT := hA.out.cT
      have hfr := hA.out.fr 1
      go_wp2_with fail
      refine K.out.mono ?_
      rintro e w3 ⟨rfl, rfl⟩
      clear K
      cases hf : f k
      · rw [hf] at hst
        have hA3 := Lib.hid (show Alc0 wr g P ((cnt f (k + 1) : Nat) : Int) f by rw [hst.out]; exact hA.out)
        clear hA hst
        have hlo2 : Hid (∀ j, P ≤ j → j < k + 1 → f j = false) := fun j h1 h2 => by
          by_cases e : j = k
          · subst e; exact hf
          · exact hlo.out j h1 (by omega)
        clear hlo
        go_wp2
        go_roundw
        case rel => exact ⟨k + 1, by omega, by go_num, hlo2.out, hA3.out, hb.out⟩
        case measure => simp [intOf]; omega
      · rw [hf] at hst
        by_cases hkP : k < P
        · have hA3 := Lib.hid (show Alc0 (wr.setCell ⟨g, 1, none⟩ (.int .i64 ((cnt f k : Int) + 1))) g P ((cnt f (k + 1) : Nat) : Int) f by
            rw [hst.out]; exact hA.out.setT ((cnt f k : Int) + 1))
          have hb3 := Lib.hid (hb.out.setCell (p := ⟨g, 1, none⟩) hw (.int .i64 ((cnt f k : Int) + 1)))
          have hlo2 : Hid (∀ j, P ≤ j → j < k + 1 → f j = false) := fun j h1 h2 => hlo.out j h1 (by omega)
          clear hA hst hb hlo
          go_wp2
          go_roundw
          case rel => exact ⟨k + 1, by omega, by go_num, hlo2.out, hA3.out, hb3.out⟩
          case measure => simp [intOf]; omega
        · have hnl : Hid (¬ Low f P) := fun h => by
            have := h k (by omega)
            rw [hf] at this; cases this
          clear hst hA
          go_wp2
          go_ret2
          exact ⟨hb.out, .inl ⟨rfl, hnl.out⟩⟩
    · have hk8 : k = 8 * n := by omega
      have hLow : Low f P := fun j hj => by
        by_cases h : j < k
        · exact hlo.out j hj h
        · exact HTl.out j (by omega)
      have HLow := Lib.hid hLow
      clear hlo hLow
      have HP := Lib.hid (show Alc wr g P f by
        have := cnt_low HLow.out (k - P)
        rw [show P + (k - P) = k by omega] at this
        show Alc0 _ _ _ _ _
        rw [← this]; exact hA.out)
      clear hA
      obtain rfl := hgw.out
      go_wp2
      go_ret2
      first | exact ⟨hb.out, .inr ⟨rfl, HP.out⟩⟩ | exact ⟨hb.out, .inr ⟨rfl, HLow.out, HP.out⟩⟩

set_option maxHeartbeats 1000000 in
set_option maxRecDepth 100000 in
theorem Load_any (p : Int) (B n c : Nat) (A : Option Addr) (xs : List UInt8) (w : World) (hx0 : Byt w B A n xs) (hB : B ≤ w.heap.size) (hn : n ≤ 9223372036854775807) :
    Calls Try.prog 10 #[.int .i64 p, .slice A n c] w (LoadP p xs w) := by
  have hl := hx0.len
  by_cases h0 : p < 1 ∨ 1024 < p
  · have he : ldE p xs = 1 := if_pos h0
    have HP := Lib.hid (show LoadP p xs w (.returned (.tuple #[.pointer none, .int .i64 1])) w from .inl ⟨1, rfl, .inl ⟨by rw [he]; decide, he.symm⟩, Below.refl _ _⟩)
    have K := Lib.hid (New_any p w)
    clear hx0 he
    go_enter Try.func10, Try.ntmps10
    go_wp2_with fail
    refine K.out.mono ?_
    rintro e w1 (⟨rfl, _, rfl⟩ | ⟨P, rfl, hP1, hP2, _⟩)
    · clear K
      go_wp2
      go_ret2
      exact HP.out
    · omega
  · obtain ⟨P, rfl⟩ := Int.eq_ofNat_of_zero_le (show 0 ≤ p by omega)
    have hP1 : 1 ≤ P := by omega
    have hP2 : P ≤ 1024 := by omega
    by_cases h1 : (P + 7) / 8 = n
    · have he : ldE (P : Int) xs = 0 := by unfold ldE; rw [if_neg h0, if_pos (by omega)]
      refine (Load_bits P B n c A (fb xs) xs w hx0 hB hP1 hP2 h1 (fb_as xs) (fun i hi => fb_tail (by omega))).mono ?_
      rintro e w1 ⟨hb, ⟨rfl, hnl⟩ | ⟨rfl, hlow, ha⟩⟩
      · exact .inl ⟨11, rfl, .inr ⟨he, rfl, by rw [Int.toNat_natCast]; exact hnl.out⟩, hb⟩
      · exact .inr ⟨P, rfl, hP1, hP2, by omega, hlow.out, rfl, ha, hb⟩
    · have he : ldE (P : Int) xs = 11 := by unfold ldE; rw [if_neg h0, if_neg (by omega)]
      obtain ⟨m, hm⟩ : ∃ m, (P + 7) / 8 = m := ⟨_, rfl⟩
      have t1 : ((n : Int) != (m : Int)) = true := by simp; omega
      have HM := Lib.hid hm
      have HE := Lib.hid he
      clear hx0 hl h0 h1 he hm
      go_enter Try.func10, Try.ntmps10
      go_wp2_with fail
      refine (New_any (P : Int) w).mono ?_
      rintro e w1 hnew
      obtain ⟨rfl, ha1, hb1⟩ := new_ok hnew hP1 hP2
      have K := size_any _ P _ _ w1 ha1 hP2
      rw [HM.out] at K
      replace K := Lib.hid K
      clear hnew ha1
      go_wp2_with fail
      refine K.out.mono ?_
      rintro e w2 ⟨rfl, rfl⟩
      clear K
      go_wp2
      go_ret2
      exact .inl ⟨11, rfl, .inl ⟨by rw [HE.out]; decide, HE.out.symm⟩, hb1⟩
end Go.Proofs.Ytnifihdnpmacjaa
