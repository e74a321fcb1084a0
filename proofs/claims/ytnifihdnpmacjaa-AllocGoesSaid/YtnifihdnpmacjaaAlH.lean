/-
  Contract of alloc's Used; the walk of the law AllocCounts.
-/
import Derived.Test.YtnifihdnpmacjaaAlG
namespace Go.Proofs.Ytnifihdnpmacjaa
open Go.RowKit

/-- The places that are taken, below n. -/
def usedL (f : Nat → Bool) : Nat → List Nat
  | 0 => []
  | n + 1 => usedL f n ++ if f n = true then [n] else []
theorem usedL_len (f : Nat → Bool) : ∀ n, (usedL f n).length = cnt f n
  | 0 => rfl
  | n + 1 => by
    unfold usedL cnt
    rw [List.length_append, usedL_len f n]
    cases f n <;> simp
theorem usedL_mem {f : Nat → Bool} : ∀ {n x : Nat}, x ∈ usedL f n → x < n ∧ f x = true
  | 0, x, h => by simp [usedL] at h
  | n + 1, x, h => by
    unfold usedL at h
    rcases List.mem_append.1 h with h | h
    · have := usedL_mem h; exact ⟨by omega, this.2⟩
    · cases hf : f n
      · rw [hf] at h; simp at h
      · rw [hf] at h
        simp at h
        subst h; exact ⟨by omega, hf⟩
theorem usedL_sorted (f : Nat → Bool) : ∀ n, List.Pairwise (· < ·) (usedL f n)
  | 0 => List.Pairwise.nil
  | n + 1 => by
    unfold usedL
    refine List.pairwise_append.2 ⟨usedL_sorted f n, ?_, fun a ha b hb => ?_⟩
    · cases f n <;> simp
    · have h1 := (usedL_mem ha).1
      cases hf : f n
      · rw [hf] at hb; simp at hb
      · rw [hf] at hb
        simp at hb
        omega
theorem usedL_step {f : Nat → Bool} {n k x y : Nat} (hx : (usedL f n)[k]? = some x) (hy : (usedL f n)[k + 1]? = some y) : x < y := by
  obtain ⟨h1, rfl⟩ := List.getElem?_eq_some_iff.1 hx
  obtain ⟨h2, rfl⟩ := List.getElem?_eq_some_iff.1 hy
  exact List.pairwise_iff_getElem.1 (usedL_sorted f n) k (k + 1) h1 h2 (by omega)

def iv (x : Nat) : Value := .int .i64 (x : Int)
theorem iv_one {xs : List Nat} : ∀ u ∈ xs.map iv, u.oneCell' = true := fun u hu => by
  obtain ⟨x, _, rfl⟩ := List.mem_map.1 hu
  rfl
theorem elI : Elem Try.prog 48 3 1 8 := elem_of (z := .int .i64 0) Try.underlying48 (by kernel_rfl) rfl (by decide)

def UsedP (P : Nat) (f : Nat → Bool) (w : World) (e : Ending) (w' : World) : Prop := ∃ (A : Option Addr) (c : Nat), e = .returned (.slice A (cnt f P) c) ∧ cnt f P ≤ c ∧ Hid (Rd w' w'.heap.size 1 A (cnt f P) ((usedL f P).map iv)) ∧ Below w.heap.size w w'

set_option maxHeartbeats 1000000 in
set_option maxRecDepth 100000 in
theorem Used_any (g P : Nat) (f : Nat → Bool) (w : World) (h : Alc w g P f) (hP : P ≤ 1024) :
    Calls Try.prog 24 #[.pointer (some ⟨g, 0, none⟩)] w (UsedP P f w) := by
  have hcl := cnt_le f P
  obtain ⟨T, hT⟩ : ∃ T, cnt f P = T := ⟨_, rfl⟩
  have h0 : Alc0 w g P ((T : Nat) : Int) f := by rw [← hT]; exact h
  clear h
  have hT2 : T ≤ 1024 := by omega
  have hcP := h0.cP
  have hcT := h0.cT
  have hg := h0.lt
  have H0 := Lib.hid h0
  have HT := Lib.hid hT
  obtain ⟨i0, z0, ht, hi, hz, hs1, hby, hzs, _⟩ := elI
  obtain ⟨w1, hmk, hown0, hgr⟩ := run_make_own (P := Try.prog) (w := w) w.heap.size 48 3 i0 z0 1 ht hi hz hs1 .i64 .i64 T (by rw [hby]; omega) (by unfold maxLen; omega) (Nat.le_refl _)
  have hb1 : Below w.heap.size w w1 := ⟨hgr.os, hgr.tape, hgr.output, hgr.size, fun k hk => hgr.block k hk (by simp)⟩
  have hO := Lib.hid hown0
  have hB := Lib.hid hb1
  have hcP1 := (h0.below hb1).cP
  clear hown0 hgr hb1 h0 hcl hT ht hi hz hs1 hby hzs
  go_enter Try.func24, Try.ntmps24
  go_wp2
  go_loopw [3, 14] (fun v i wr => ∃ k : Nat, k ≤ P ∧ i = .int .i64 (k : Int) ∧ wr.ownsRow w.heap.size 3 1 v (usedL f k).length ((usedL f k).map iv) ∧ Hid (Below w.heap.size w wr)) (fun _ i _ => P - (intOf i).toNat)
  case atStart => exact ⟨0, by omega, rfl, hO.out, hB.out⟩
  case round =>
    obtain ⟨k, hk, rfl, hown, hb⟩ := hrel
    have ha := H0.out.below hb.out
    have hwz := hb.out.size
    have hul := Lib.hid (usedL_len f k)
    have hcl2 := cnt_le f k
    clear hmk hcP hcT hcP1 hO hB
    by_cases hlt : k < P
    · have K := Lib.hid (set_any g P k _ f wr ha (by omega))
      go_wp2_with fail
      refine K.out.mono ?_
      rintro e w2 ⟨rfl, rfl⟩
      cases hf : f k
      · have hown2 : wr.ownsRow w.heap.size 3 1 u3 (usedL f (k + 1)).length ((usedL f (k + 1)).map iv) := by
          unfold usedL; rw [hf]; simpa using hown
        have hH := Lib.hid hown2
        clear hown hown2 K ha hul
        go_wp2
        go_roundw
        case rel => exact ⟨k + 1, by omega, by go_num, hH.out, hb.out⟩
        case measure => simp [intOf]; omega
      · clear K ha
        go_wp2_with (at_builtin; refine wp_app1 rfl _ _ _ rfl elI rfl hown rfl rfl ?c1 ?c2 ?c3 ?_)
        case c1 => have := hul.out; unfold maxLen; omega
        case c2 => have := hul.out; omega
        case c3 => exact hwz
        intro v' w3 hown3 hb3
        have hown4 : w3.ownsRow w.heap.size 3 1 v' (usedL f (k + 1)).length ((usedL f (k + 1)).map iv) := by
          have e1 : usedL f (k + 1) = usedL f k ++ [k] := by rw [usedL, hf]; rfl
          rw [e1, List.length_append, List.map_append]
          exact hown3
        have hH := Lib.hid hown4
        have hb4 := Lib.hid (hb.out.trans hb3)
        clear hown hown3 hown4 hb3 hul
        go_wp2
        go_roundw
        case rel => exact ⟨k + 1, by omega, by go_num, hH.out, hb4.out⟩
        case measure => simp [intOf]; omega
    · have hkP : k = P := by omega
      subst hkP
      obtain ⟨A1, c1, rfl, hc1, _⟩ := own_form hown
      have HP : UsedP k f w (.returned (.slice A1 (usedL f k).length c1)) wr := by
        refine ⟨A1, c1, by rw [hul.out], by have := hul.out; omega, ?_, hb.out⟩
        have := Rd.of_own hown
        rw [hul.out] at this
        exact this
      have HP := Lib.hid HP
      clear hown ha hul
      go_wp2
      go_ret
      exact HP.out
end Go.Proofs.Ytnifihdnpmacjaa
