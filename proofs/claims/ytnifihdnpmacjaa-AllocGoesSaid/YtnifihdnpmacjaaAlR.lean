/-
  Used's answers are blocks of their own; the reference's Load of anything.
-/
import Derived.Test.YtnifihdnpmacjaaAlQ
namespace Go.Proofs.Ytnifihdnpmacjaa
open Go.RowKit

/-- A row of whole numbers in a block of its own, from base on. -/
def OwnI (w : World) (base : Nat) (A : Option Addr) (n : Nat) (xs : List Value) : Prop := xs.length = n ∧ (0 < n → ∃ (g : Nat) (cur : Array Value), A = some ⟨g, 0, none⟩ ∧ base ≤ g ∧ w.heap[g]? = some (.cells cur 3 (0, 0)) ∧ ∀ (j : Nat) (x : Value), xs[j]? = some x → cur[j]? = some x)
theorem usedL_map (f : Nat → Bool) (k : Nat) : ((usedL f k).map iv).length = (usedL f k).length := List.length_map ..
theorem OwnI.of_own {w : World} {base n c : Nat} {A : Option Addr} {xs : List Value} (h : w.ownsRow base 3 1 (.slice A n c) n xs) (hl : xs.length = n) : OwnI w base A n xs := by
  refine ⟨hl, fun hn => ?_⟩
  rcases h.2 with ⟨_, h0⟩ | ⟨g, cap, cur, hv, hg1, hg, hcap, hcm, hcs, htake⟩
  · omega
  · injection hv with hA _ _
    subst hA
    refine ⟨g, cur, rfl, hg1, hg, fun j x hj => ?_⟩
    have h1 : (cur.toList.take n)[j]? = some x := by
      have : cur.toList.take n = xs := by simpa using htake
      rw [this]; exact hj
    have hjn : j < n := by have := (List.getElem?_eq_some_iff.1 hj).1; omega
    rw [List.getElem?_take, if_pos hjn] at h1
    rw [← Array.getElem?_toList]; exact h1

def UsedO (P : Nat) (f : Nat → Bool) (w : World) (e : Ending) (w' : World) : Prop := ∃ (A : Option Addr) (c : Nat), e = .returned (.slice A (cnt f P) c) ∧ cnt f P ≤ c ∧ Hid (OwnI w' w.heap.size A (cnt f P) ((usedL f P).map iv)) ∧ Below w.heap.size w w'

set_option maxHeartbeats 1000000 in
set_option maxRecDepth 100000 in
theorem UsedO_any (g P : Nat) (f : Nat → Bool) (w : World) (h : Alc w g P f) (hP : P ≤ 1024) :
    Calls Try.prog 24 #[.pointer (some ⟨g, 0, none⟩)] w (UsedO P f w) := by
  have hcl := cnt_le f P
  obtain ⟨T, hT⟩ : ∃ T, cnt f P = T := ⟨_, rfl⟩
  have h0 : Alc0 w g P ((T : Nat) : Int) f := by rw [← hT]; exact h
  clear h
  have hT2 : T ≤ 1024 := by omega
  have hcP := h0.cP
  have hcT := h0.cT
  have hg := h0.lt
  have H0 := Lib.hid h0
  have HT := Lib.hid hT
  obtain ⟨i0, z0, ht, hi, hz, hs1, hby, hzs, _⟩ := elI
  obtain ⟨w1, hmk, hown0, hgr⟩ := run_make_own (P := Try.prog) (w := w) w.heap.size 48 3 i0 z0 1 ht hi hz hs1 .i64 .i64 T (by rw [hby]; omega) (by unfold maxLen; omega) (Nat.le_refl _)
  have hb1 : Below w.heap.size w w1 := ⟨hgr.os, hgr.tape, hgr.output, hgr.size, fun k hk => hgr.block k hk (by simp)⟩
  have hO := Lib.hid hown0
  have hB := Lib.hid hb1
  have hcP1 := (h0.below hb1).cP
  clear hown0 hgr hb1 h0 hcl hT ht hi hz hs1 hby hzs
  go_enter Try.func24, Try.ntmps24
  go_wp2
  go_loopw [3, 14] (fun v i wr => ∃ k : Nat, k ≤ P ∧ i = .int .i64 (k : Int) ∧ wr.ownsRow w.heap.size 3 1 v (usedL f k).length ((usedL f k).map iv) ∧ Hid (Below w.heap.size w wr)) (fun _ i _ => P - (intOf i).toNat)
  case atStart => exact ⟨0, by omega, rfl, hO.out, hB.out⟩
  case round =>
    obtain ⟨k, hk, rfl, hown, hb⟩ := hrel
    have ha := H0.out.below hb.out
    have hwz := hb.out.size
    have hul := Lib.hid (usedL_len f k)
    have hcl2 := cnt_le f k
    clear hmk hcP hcT hcP1 hO hB
    by_cases hlt : k < P
    · have K := Lib.hid (set_any g P k _ f wr ha (by omega))
      go_wp2_with fail
      refine K.out.mono ?_
      rintro e w2 ⟨rfl, rfl⟩
      cases hf : f k
      · have hown2 : wr.ownsRow w.heap.size 3 1 u3 (usedL f (k + 1)).length ((usedL f (k + 1)).map iv) := by
          unfold usedL; rw [hf]; simpa using hown
        have hH := Lib.hid hown2
        clear hown hown2 K ha hul
        go_wp2
        go_roundw
        case rel => exact ⟨k + 1, by omega, by go_num, hH.out, hb.out⟩
        case measure => simp [intOf]; omega
      · clear K ha
        go_wp2_with (at_builtin; refine wp_app1 rfl _ _ _ rfl elI rfl hown rfl rfl ?c1 ?c2 ?c3 ?_)
        case c1 => have := hul.out; unfold maxLen; omega
        case c2 => have := hul.out; omega
        case c3 => exact hwz
        intro v' w3 hown3 hb3
        have hown4 : w3.ownsRow w.heap.size 3 1 v' (usedL f (k + 1)).length ((usedL f (k + 1)).map iv) := by
          have e1 : usedL f (k + 1) = usedL f k ++ [k] := by rw [usedL, hf]; rfl
          rw [e1, List.length_append, List.map_append]
          exact hown3
        have hH := Lib.hid hown4
        have hb4 := Lib.hid (hb.out.trans hb3)
        clear hown hown3 hown4 hb3 hul
        go_wp2
        go_roundw
        case rel => exact ⟨k + 1, by omega, by go_num, hH.out, hb4.out⟩
        case measure => simp [intOf]; omega
    · have hkP : k = P := by omega
      subst hkP
      obtain ⟨A1, c1, rfl, hc1, _⟩ := own_form hown
      have HP : UsedO k f w (.returned (.slice A1 (usedL f k).length c1)) wr := by
        refine ⟨A1, c1, by rw [hul.out], by have := hul.out; omega, ?_, hb.out⟩
        have := OwnI.of_own hown (usedL_map f k)
        rw [hul.out] at this
        exact this
      have HP := Lib.hid HP
      clear hown ha hul
      go_wp2
      go_ret
      exact HP.out

set_option maxHeartbeats 1000000 in
set_option maxRecDepth 100000 in
theorem rUsedO_any (h t P : Nat) (f : Nat → Bool) (w : World) (r : RA w h t P f) (hP : P ≤ 1024) :
    Calls Try.prog 31 #[.pointer (some ⟨h, 0, none⟩)] w (UsedO P f w) := by
  have hrow := r.row
  have R := Lib.hid r
  clear r
  go_enter Try.func31, Try.ntmps31
  go_wp2
  go_loopw [3, 11] (fun v i wr => ∃ k : Nat, k ≤ P ∧ i = .int .i64 (k : Int) ∧ wr.ownsRow w.heap.size 3 1 v (usedL f k).length ((usedL f k).map iv) ∧ Hid (Below w.heap.size w wr)) (fun _ i _ => P - (intOf i).toNat)
  case atStart => exact ⟨0, by omega, rfl, World.ownsRow_nil w _ _ _, Below.refl _ _⟩
  case round =>
    obtain ⟨k, hk, rfl, hown, hb⟩ := hrel
    have hR := R.out.below hb.out
    have hwz := hb.out.size
    have hul := Lib.hid (usedL_len f k)
    have hcl2 := cnt_le f k
    clear hrow
    by_cases hlt : k < P
    · have hbit := (hR.bit hlt).1
      cases hf : f k
      · rw [hf] at hbit
        have hown2 : wr.ownsRow w.heap.size 3 1 u3 (usedL f (k + 1)).length ((usedL f (k + 1)).map iv) := by
          unfold usedL; rw [hf]; simpa using hown
        have hH := Lib.hid hown2
        clear hown hown2 hR hul
        go_wp2
        go_roundw
        case rel => exact ⟨k + 1, by omega, by go_num, hH.out, hb.out⟩
        case measure => simp [intOf]; omega
      · rw [hf] at hbit
        clear hR
        go_wp2_with (at_builtin; refine wp_app1 rfl _ _ _ rfl elI rfl hown rfl rfl ?c1 ?c2 ?c3 ?_)
        case c1 => have := hul.out; unfold maxLen; omega
        case c2 => have := hul.out; omega
        case c3 => exact hwz
        intro v' w3 hown3 hb3
        have hown4 : w3.ownsRow w.heap.size 3 1 v' (usedL f (k + 1)).length ((usedL f (k + 1)).map iv) := by
          have e1 : usedL f (k + 1) = usedL f k ++ [k] := by rw [usedL, hf]; rfl
          rw [e1, List.length_append, List.map_append]
          exact hown3
        have hH := Lib.hid hown4
        have hb4 := Lib.hid (hb.out.trans hb3)
        clear hown hown3 hown4 hb3 hul hbit
        go_wp2
        go_roundw
        case rel => exact ⟨k + 1, by omega, by go_num, hH.out, hb4.out⟩
        case measure => simp [intOf]; omega
    · have hkP : k = P := by omega
      subst hkP
      obtain ⟨A1, c1, rfl, hc1, _⟩ := own_form hown
      have HP : UsedO k f w (.returned (.slice A1 (usedL f k).length c1)) wr := by
        refine ⟨A1, c1, by rw [hul.out], by have := hul.out; omega, ?_, hb.out⟩
        have := OwnI.of_own hown (usedL_map f k)
        rw [hul.out] at this
        exact this
      replace HP := Lib.hid HP
      clear hown hR hul
      go_wp2
      go_ret
      exact HP.out


def rLoadP (p : Int) (xs : List UInt8) (w : World) (e : Ending) (w' : World) : Prop :=
  (∃ er : Int, e = .returned (.tuple #[.pointer none, .int .i64 er]) ∧ ((ldE p xs ≠ 0 ∧ er = ldE p xs) ∨ (ldE p xs = 0 ∧ er = 11 ∧ ¬ Low (fb xs) p.toNat)) ∧ Below w.heap.size w w') ∨
  ∃ P : Nat, p = (P : Int) ∧ 1 ≤ P ∧ P ≤ 1024 ∧ xs.length = (P + 7) / 8 ∧ Low (fb xs) P ∧ e = .returned (.tuple #[.pointer (some ⟨w.heap.size + 1, 0, none⟩), .int .i64 0]) ∧ Hid (RA w' (w.heap.size + 1) w.heap.size P (fb xs)) ∧ Below w.heap.size w w'

set_option maxHeartbeats 1000000 in
set_option maxRecDepth 100000 in
theorem rLoad_any (p : Int) (B n c : Nat) (A : Option Addr) (xs : List UInt8) (w : World) (hx0 : Byt w B A n xs) (hB : B ≤ w.heap.size) (hn : n ≤ 9223372036854775807) :
    Calls Try.prog 11 #[.int .i64 p, .slice A n c] w (rLoadP p xs w) := by
  have hl := hx0.len
  by_cases h0 : p < 1 ∨ 1024 < p
  · have he : ldE p xs = 1 := if_pos h0
    have HP := Lib.hid (show rLoadP p xs w (.returned (.tuple #[.pointer none, .int .i64 1])) w from .inl ⟨1, rfl, .inl ⟨by rw [he]; decide, he.symm⟩, Below.refl _ _⟩)
    have K := Lib.hid (rNew_any p w)
    clear hx0 he
    go_enter Try.func11, Try.ntmps11
    go_wp2_with fail
    refine K.out.mono ?_
    rintro e w1 (⟨rfl, _, rfl⟩ | ⟨P, rfl, hP1, hP2, _⟩)
    · clear K
      go_wp2
      go_ret2
      exact HP.out
    · omega
  · obtain ⟨P, rfl⟩ := Int.eq_ofNat_of_zero_le (show 0 ≤ p by omega)
    have hP1 : 1 ≤ P := by omega
    have hP2 : P ≤ 1024 := by omega
    by_cases h1 : (P + 7) / 8 = n
    · have he : ldE (P : Int) xs = 0 := by unfold ldE; rw [if_neg h0, if_pos (by omega)]
      refine (rLoad_bits P B n c A (fb xs) xs w hx0 hB hP1 hP2 h1 (fb_as xs)).mono ?_
      rintro e w1 ⟨hb, ⟨rfl, hnl⟩ | ⟨rfl, hlo, ha⟩⟩
      · exact .inl ⟨11, rfl, .inr ⟨he, rfl, by rw [Int.toNat_natCast]; exact hnl.out⟩, hb⟩
      · refine .inr ⟨P, rfl, hP1, hP2, by omega, fun j hj => ?_, rfl, ha, hb⟩
        by_cases hj8 : j < 8 * n
        · exact hlo.out j hj hj8
        · exact fb_tail (by omega)
    · have he : ldE (P : Int) xs = 11 := by unfold ldE; rw [if_neg h0, if_neg (by omega)]
      obtain ⟨m, hm⟩ : ∃ m, (P + 7) / 8 = m := ⟨_, rfl⟩
      have t1 : ((n : Int) != (m : Int)) = true := by simp; omega
      have e1 : ((P : Int) + 7) / 8 = (m : Int) := by omega
      have e2 : ((P : Int) + 7).tdiv 8 = (m : Int) := by rw [Int.tdiv_eq_ediv_of_nonneg (by omega)]; exact e1
      have HE := Lib.hid he
      clear hx0 hl h0 h1 he hm
      go_enter Try.func11, Try.ntmps11
      go_wp2_with fail
      refine (rNew_any (P : Int) w).mono ?_
      rintro e w1 (⟨rfl, hno, rfl⟩ | ⟨P', hPP, _, _, rfl, hR, hb1⟩)
      · exact absurd hno (by omega)
      · clear hR
        go_wp2
        go_ret2
        exact .inl ⟨11, rfl, .inl ⟨by rw [HE.out]; decide, HE.out.symm⟩, hb1⟩
end Go.Proofs.Ytnifihdnpmacjaa
