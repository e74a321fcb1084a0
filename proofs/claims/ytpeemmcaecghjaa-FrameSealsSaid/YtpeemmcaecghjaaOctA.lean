/-
  Contracts of octet.numLen.
-/
import Derived.Test.YtpeemmcaecghjaaBase
namespace Go.Proofs.Ytpeemmcaecghjaa
open Go.RowKit

/-- How many bytes there are up to the first one below 128, of the first ten alone; 0, if there is none. -/
def nlen (xs : List UInt8) : Nat :=
  match (xs.take 10).findIdx? (fun x => decide (x.toNat < 128)) with
  | some i => i + 1
  | none => 0

theorem nlen_hit {xs : List UInt8} {i : Nat} (hi : i < xs.length) (h10 : i < 10) (hx : xs[i].toNat < 128) (hb : ∀ j (hj : j < xs.length), j < i → 128 ≤ xs[j].toNat) : nlen xs = i + 1 := by
  have e : (xs.take 10).findIdx? (fun x => decide (x.toNat < 128)) = some i := by
    rw [List.findIdx?_eq_some_iff_getElem]
    refine ⟨by simp; omega, by simpa using hx, fun j hj => ?_⟩
    have := hb j (by omega) hj
    simpa using this
  unfold nlen; rw [e]

theorem nlen_miss {xs : List UInt8} (hb : ∀ j (hj : j < xs.length), j < 10 → 128 ≤ xs[j].toNat) : nlen xs = 0 := by
  have e : (xs.take 10).findIdx? (fun x => decide (x.toNat < 128)) = none := by
    rw [List.findIdx?_eq_none_iff]
    intro x hx
    obtain ⟨j, hj, rfl⟩ := List.getElem_of_mem hx
    simp at hj ⊢
    exact hb j (by omega) (by omega)
  unfold nlen; rw [e]

theorem nlen_cases (xs : List UInt8) : (∃ i, ∃ h : i < xs.length, i < 10 ∧ xs[i].toNat < 128 ∧ (∀ j (hj : j < xs.length), j < i → 128 ≤ xs[j].toNat) ∧ nlen xs = i + 1) ∨
    (nlen xs = 0 ∧ ∀ j (hj : j < xs.length), j < 10 → 128 ≤ xs[j].toNat) := by
  rcases h : (xs.take 10).findIdx? (fun x => decide (x.toNat < 128)) with _ | i
  · right
    refine ⟨by unfold nlen; rw [h], fun j hj h10 => ?_⟩
    rw [List.findIdx?_eq_none_iff] at h
    have := h (xs[j]) (List.mem_iff_getElem.2 ⟨j, by simp; omega, by simp⟩)
    simpa using this
  · left
    rw [List.findIdx?_eq_some_iff_getElem] at h
    obtain ⟨hi, hx, hb⟩ := h
    simp at hi
    refine ⟨i, by omega, by omega, by simpa using hx, fun j hj hji => ?_, ?_⟩
    · have := hb j hji
      simpa using this
    · refine nlen_hit (by omega) (by omega) (by simpa using hx) fun j hj hji => ?_
      have := hb j hji
      simpa using this

set_option maxHeartbeats 400000 in
theorem numLen_any (B cap n : Nat) (A : Option Addr) (xs : List UInt8) (w : World) (hl : n ≤ maxLen) (hx : Byt w B A n xs) :
    Calls Try.prog 24 #[.slice A n cap] w fun e w' => e = .returned (.int .i64 (nlen xs : Int)) ∧ w = w' := by
  unfold maxLen at hl
  have hn := hx.len
  have hcell : ∀ k, k < n → ∃ (b off : Nat) (x : UInt8), A = some ⟨b, off, none⟩ ∧ b < B ∧ xs[k]? = some x ∧ w.cell? ⟨b, off + k, none⟩ = some (.int .u8 (x.toNat : Int)) := fun k hk => hx.at_ hk
  have HC := Lib.hid hcell; clear hcell
  have HN := Lib.hid hn; clear hn hx
  go_enter Try.func24, Try.ntmps24
  go_wp2
  go_loop [7] (fun i => ∃ k : Nat, k ≤ n ∧ k ≤ 10 ∧ i = .int .i64 k ∧ Hid (∀ j (hj : j < xs.length), j < k → 128 ≤ xs[j].toNat)) (fun i => n - (intOf i).toNat)
  case atStart => exact ⟨0, by omega, by omega, rfl, fun j hj h => by omega⟩
  case round =>
    obtain ⟨k, hk, hk10, rfl, hb⟩ := hrel
    by_cases hlt : k < n
    · obtain ⟨b, off, x, rfl, _, hxk, hc⟩ := HC.out k hlt
      have HX := Lib.hid hxk; clear hxk
      by_cases h10 : k = 10
      · subst h10
        go_wp2
        go_ret
        refine ⟨ret_i ?_, rfl⟩
        rw [nlen_miss (fun j hj hh => hb.out j hj hh)]; rfl
      · have h10' : ((k : Int) == 10) = false := by simp; omega
        by_cases hs : x.toNat < 128
        · have hs' : ((x.toNat : Int) < 128) := by omega
          go_wp2
          go_ret
          refine ⟨ret_i ?_, rfl⟩
          have hkl : k < xs.length := by rw [HN.out]; exact hlt
          have hxe : xs[k] = x := by have := HX.out; rw [List.getElem?_eq_getElem hkl] at this; simpa using this
          rw [nlen_hit hkl (by omega) (by rw [hxe]; exact hs) hb.out]
          simp
        · have hs' : ¬ ((x.toNat : Int) < 128) := by omega
          go_wp2
          go_round
          case rel =>
            refine ⟨k + 1, by omega, by omega, by go_num, fun j hj hh => ?_⟩
            by_cases e : j = k
            · subst e
              have hxe : xs[j] = x := by have := HX.out; rw [List.getElem?_eq_getElem hj] at this; simpa using this
              rw [hxe]; omega
            · exact hb.out j hj (by omega)
          case measure => simp [intOf]; omega
    · go_wp2
      go_ret
      refine ⟨ret_i ?_, rfl⟩
      rw [nlen_miss (fun j hj hh => hb.out j hj (by have := HN.out; omega))]; rfl
end Go.Proofs.Ytpeemmcaecghjaa
