/-
  The walk of the law AllocLeast.
-/
import Derived.Test.YtnifihdnpmacjaaAlE
namespace Go.Proofs.Ytnifihdnpmacjaa
open Go.RowKit

/-- A list of calls in memory. -/
def Ops (w : World) (B : Nat) (A : Option Addr) (n : Nat) (os : List (Int × Int × Bool)) : Prop := os.length = n ∧ ∀ i o, os[i]? = some o →
  ∃ b off, A = some ⟨b, off, none⟩ ∧ b < B ∧ w.cell? ⟨b, off + i * 3, none⟩ = some (.int .i64 o.1) ∧ w.cell? ⟨b, off + i * 3 + 1, none⟩ = some (.int .i64 o.2.1) ∧ w.cell? ⟨b, off + i * 3 + 2, none⟩ = some (.bool o.2.2) ∧
    -9223372036854775808 ≤ o.2.1 ∧ o.2.1 ≤ 9223372036854775807
theorem Ops.below {w w' : World} {B n : Nat} {A : Option Addr} {os : List (Int × Int × Bool)} (h : Ops w B A n os) (hb : Below B w w') : Ops w' B A n os :=
  ⟨h.1, fun i o ho => by
    obtain ⟨b, off, h1, h2, h3, h4, h5, h6⟩ := h.2 i o ho
    exact ⟨b, off, h1, h2, by rw [hb.cell h2]; exact h3, by rw [hb.cell h2]; exact h4, by rw [hb.cell h2]; exact h5, h6⟩⟩
theorem Ops.at_ {w : World} {B n k : Nat} {A : Option Addr} {os : List (Int × Int × Bool)} (h : Ops w B A n os) (hk : k < n) : ∃ (b off : Nat) (o1 o2 : Int) (o3 : Bool), A = some ⟨b, off, none⟩ ∧ b < B ∧ w.cell? ⟨b, off + k * 3, none⟩ = some (.int .i64 o1) ∧ w.cell? ⟨b, off + k * 3 + 1, none⟩ = some (.int .i64 o2) ∧ w.cell? ⟨b, off + k * 3 + 2, none⟩ = some (.bool o3) ∧
    -9223372036854775808 ≤ o2 ∧ o2 ≤ 9223372036854775807 := by
  obtain ⟨b, off, h1, h2, h3, h4, h5, h6⟩ := h.2 k os[k]! (by rw [List.getElem?_eq_getElem (by have := h.1; omega)]; simp [List.getElem!_eq_getElem?_getD, List.getElem?_eq_getElem (show k < os.length by have := h.1; omega)])
  exact ⟨b, off, _, _, _, h1, h2, h3, h4, h5, h6⟩

theorem idx6 (a : Int) (n : Nat) (h0 : 0 < n) (h1 : n ≤ 100000000) : ∃ i : Nat, i < n ∧ (a.tmod (n : Int) + (n : Int)).tmod (n : Int) = (i : Int) := by
  have h2 : a.tmod (n : Int) < n := Int.tmod_lt_of_pos a (by omega)
  have h3 : -(n : Int) < a.tmod n := by
    rcases Int.le_total 0 a with ha | ha
    · have := Int.tmod_nonneg (b := (n : Int)) ha; omega
    · have h4 : (-a).tmod (n : Int) < n := Int.tmod_lt_of_pos (-a) (by omega)
      rw [Int.neg_tmod] at h4; omega
  have h5 : 0 ≤ (a.tmod (n : Int) + (n : Int)).tmod n := Int.tmod_nonneg _ (by omega)
  have h6 : (a.tmod (n : Int) + (n : Int)).tmod n < n := Int.tmod_lt_of_pos _ (by omega)
  exact ⟨((a.tmod (n : Int) + (n : Int)).tmod n).toNat, by omega, by omega⟩

theorem hasB_nat {P i : Nat} {f : Nat → Bool} (h : i < P) : hasB P f (i : Int) = f i := by
  unfold hasB
  have : decide (0 ≤ (i : Int) ∧ (i : Int) < (P : Int)) = true := by simp; omega
  rw [this, Bool.true_and, Int.toNat_natCast]

/-- What the law's own look has found so far. -/
def FrB (f : Nat → Bool) (j d : Nat) (b : Bool) : Prop := b = true ↔ ∀ k, j ≤ k → k < d → f k = false
theorem FrB.zero (f : Nat → Bool) (j : Nat) : FrB f j j true := ⟨fun _ k h1 h2 => absurd h1 (by omega), fun _ => rfl⟩
theorem FrB.step {f : Nat → Bool} {j d : Nat} {b : Bool} (h : FrB f j d b) (hd : j ≤ d) : FrB f j (d + 1) (b && !f d) := by
  cases b
  · exact ⟨fun h' => by simp at h', fun h' => by
      have := h.2 fun k h1 h2 => h' k h1 (by omega)
      cases this⟩
  · have h1 := h.1 rfl
    cases hf : f d
    · exact ⟨fun _ k h2 h3 => by
        by_cases e : k = d
        · rw [e]; exact hf
        · exact h1 k h2 (by omega), fun _ => rfl⟩
    · exact ⟨fun h' => by simp at h', fun h' => by
        have := h' d hd (by omega)
        rw [hf] at this; cases this⟩
/-- What the law's own search has found so far. -/
def WantOk (f : Nat → Bool) (N P j : Nat) (wt : Int) : Prop := (wt = -1 ∧ ∀ m', m' < j → ¬ Fr f m' N) ∨ ∃ m : Nat, wt = (m : Int) ∧ m + N ≤ P ∧ Fr f m N ∧ ∀ m', m' < m → ¬ Fr f m' N

set_option maxHeartbeats 2000000 in
set_option maxRecDepth 100000 in
theorem W_AllocLeast (p : Int) (hp1 : -9223372036854775808 ≤ p) (hp2 : p ≤ 9223372036854775807) (A : Option Addr) (len cap : Nat) (os : List (Int × Int × Bool)) (w : World) : Ops w w.heap.size A len os → len ≤ cap → cap ≤ maxLen → ∀ (n : Int), -9223372036854775808 ≤ n → n ≤ 9223372036854775807 →
    Calls Try.prog 5 #[.int .i64 p, .slice A len cap, .int .i64 n] w fun e w' => e = .returned (.bool true) ∧ Below w.heap.size w w' := by
  intro ho0 hlc hcap n hn1 hn2
  have hO := Lib.hid ho0
  clear ho0
  unfold maxLen at hcap
  go_enter Try.func5, Try.ntmps5
  go_wp2_with fail
  refine (live_any w).mono ?_
  rintro e w1 ⟨rfl, hb1⟩
  go_wp2_with fail
  refine (New_any p w1).mono ?_
  rintro e w2 (⟨rfl, _, rfl⟩ | ⟨P, rfl, hP1, hP2, rfl, ha2, hb2⟩)
  · go_wp2
    go_ret
    exact ⟨rfl, hb1⟩
  · obtain ⟨g, hg⟩ : ∃ g, w1.heap.size = g := ⟨_, rfl⟩
    rw [hg] at ha2
    have hA2 : Alc w2 g P (fun _ => false) := by show Alc0 _ _ _ _ _; rw [cnt_zero]; exact ha2.out
    have hA2 := Lib.hid hA2
    have hwg : w.heap.size ≤ g := by have := hb1.size; omega
    have hb02 := hb1.trans (hb2.mono hb1.size)
    rw [hg]
    clear ha2 hb1 hb2 hg
    go_wp2_with fail
    go_loopw [33] (fun i wr => ∃ (k : Nat) (f : Nat → Bool), k ≤ len ∧ i = .int .i64 (k : Int) ∧ Hid (Alc wr g P f) ∧ Below w.heap.size w wr) (fun i _ => len - (intOf i).toNat)
    case atStart => exact ⟨0, _, by omega, rfl, hA2.out, hb02⟩
    case round =>
      obtain ⟨k, f, hk, rfl, ha, hbel⟩ := hrel
      clear hA2 hb02
      by_cases hlt : k < len
      · obtain ⟨b, off, o1, o2, o3, rfl, hbB, c1, c2, c3, _, _⟩ := (hO.out.below hbel).at_ hlt
        have ha3 : Alc (wr.alloc (.cells #[.int .i64 o1, .int .i64 o2, .bool o3] 35)) g P f := ha.out.below ((Below.refl _ _).alloc (Nat.le_refl _) _)
        have hbel3 := hbel.alloc hbel.size (.cells #[.int .i64 o1, .int .i64 o2, .bool o3] 35)
        by_cases h2 : k < 200
        · have K := Lib.hid (Mark_any g P o2 f _ ha3 hP2)
          clear ha ha3
          go_wp2_with fail
          refine K.out.mono ?_
          rintro e w3 ⟨er, f', rfl, ha4, hu⟩
          have hbel4 := Lib.hid (hu.out.below hbel3 hwg)
          clear hu hbel3 hbel K
          go_wp2
          go_roundw
          case rel => exact ⟨k + 1, f', by omega, by go_num, ha4.out, hbel4.out⟩
          case measure => simp [intOf]; omega
        · replace ha3 := Lib.hid ha3
          replace hbel3 := Lib.hid hbel3
          clear ha hbel
          go_wp2
          go_roundw
          case rel => exact ⟨k + 1, f, by omega, by go_num, ha3.out, hbel3.out⟩
          case measure => simp [intOf]; omega
      · obtain ⟨r6, hr6, hr⟩ := idx6 n 6 (by decide) (by decide)
        obtain ⟨w0, hw0⟩ : ∃ x, x = wr := ⟨_, rfl⟩
        subst hw0
        obtain ⟨N, hN⟩ : ∃ N : Nat, 1 + r6 = N := ⟨_, rfl⟩
        have hN1 : 1 + (r6 : Int) = (N : Int) := by omega
        have hNb : 1 ≤ N ∧ N ≤ 6 := by omega
        have hb0 := Lib.hid hbel
        have hr : (n.tmod 6 + 6).tmod 6 = (r6 : Int) := hr
        have hn6 : -6 < n.tmod 6 ∧ n.tmod 6 < 6 := by
          have h2 : n.tmod 6 < 6 := Int.tmod_lt_of_pos n (by omega)
          refine ⟨?_, h2⟩
          rcases Int.le_total 0 n with hz | hz
          · have := Int.tmod_nonneg (b := 6) hz; omega
          · have h4 : (-n).tmod 6 < 6 := Int.tmod_lt_of_pos (-n) (by omega)
            rw [Int.neg_tmod] at h4; omega
        have KH := Lib.hid (fun (i : Nat) (hi : i < P) => by have := Has_any g P (i : Int) _ f w0 ha.out hP2; rw [hasB_nat hi] at this; exact this)
        have KT := Lib.hid (TakeRun_any g P (N : Int) f w0 ha.out hP2 (by omega))
        clear hbel ha hN
        go_wp2_with fail
        clear hr hN1 hn6
        go_loop [12, 13] (fun wt i => ∃ (j : Nat) (v : Int), j ≤ 2000 ∧ i = .int .i64 (j : Int) ∧ wt = .int .i64 v ∧ Hid (WantOk f N P j v)) (fun _ i => 4000 - (intOf i).toNat)
        case atStart => exact ⟨0, -1, by omega, rfl, rfl, .inl ⟨rfl, fun m' h => absurd h (Nat.not_lt_zero _)⟩⟩
        case round =>
          obtain ⟨j, v, hj, rfl, rfl, hw⟩ := hrel
          rcases hw.out with ⟨rfl, hno⟩ | ⟨m, rfl, hm1, hm2, hm3⟩
          · clear hw
            by_cases h1 : j + N ≤ P
            · have hn2 := Lib.hid hno
              clear hno
              go_wp2
              go_loop [14, 15] (fun fr i => ∃ (b : Bool) (d : Nat), j ≤ d ∧ d ≤ j + N ∧ i = .int .i64 (d : Int) ∧ fr = .bool b ∧ Hid (FrB f j d b)) (fun _ i => 4000 - (intOf i).toNat)
              case atStart => exact ⟨true, j, by omega, by omega, rfl, rfl, FrB.zero f j⟩
              case round =>
                obtain ⟨b, d, hd1, hd2, rfl, rfl, hfr⟩ := hrel
                have hst := hfr.out.step hd1
                by_cases h2 : d < j + N
                · cases b
                  · have hst := Lib.hid (show FrB f j (d + 1) false from hst)
                    go_wp2
                    go_round
                    case rel => exact ⟨false, d + 1, by omega, by omega, by go_num, rfl, hst.out⟩
                    case measure => simp [intOf]; omega
                  · go_wp2_with fail
                    refine (KH.out d (by omega)).mono ?_
                    rintro e w3 ⟨rfl, rfl⟩
                    cases hf : f d
                    · rw [hf] at hst
                      have hst := Lib.hid (show FrB f j (d + 1) true from hst)
                      go_wp2
                      go_round
                      case rel => exact ⟨true, d + 1, by omega, by omega, by go_num, rfl, hst.out⟩
                      case measure => simp [intOf]; omega
                    · rw [hf] at hst
                      have hst := Lib.hid (show FrB f j (d + 1) false from hst)
                      go_wp2
                      go_round
                      case rel => exact ⟨false, d + 1, by omega, by omega, by go_num, rfl, hst.out⟩
                      case measure => simp [intOf]; omega
                · obtain rfl : d = j + N := by omega
                  cases b
                  · have hW : WantOk f N P (j + 1) (-1) := .inl ⟨rfl, fun m' hm h => by
                      by_cases e : m' = j
                      · subst e
                        have := hfr.out.2 h
                        cases this
                      · exact hn2.out m' (by omega) h⟩
                    replace hW := Lib.hid hW
                    clear hst hfr hn2
                    go_wp2
                    go_round
                    case rel => exact ⟨j + 1, -1, by omega, by go_num, rfl, hW.out⟩
                    case measure => simp [intOf]; omega
                  · have hW : WantOk f N P (j + 1) (j : Int) := .inr ⟨j, rfl, h1, hfr.out.1 rfl, hn2.out⟩
                    replace hW := Lib.hid hW
                    clear hst hfr hn2
                    go_wp2
                    go_round
                    case rel => exact ⟨j + 1, (j : Int), by omega, by go_num, rfl, hW.out⟩
                    case measure => simp [intOf]; omega
            · have t1 : ¬ (j : Int) + (N : Int) ≤ (P : Int) := by omega
              go_wp2_with fail
              refine KT.out.mono ?_
              rintro e w3 hp
              rcases hp with ⟨er, rfl, ⟨hz, _⟩ | ⟨_, rfl, _⟩, rfl⟩ | ⟨m, k', hkk, _, rfl, hm1, hm2, _, _, _⟩
              · omega
              · clear KT KH
                go_wp2
                go_ret
                exact ⟨rfl, hb0.out⟩
              · obtain rfl : k' = N := by omega
                exact absurd hm2 (hno m (by omega))
          · clear hw
            by_cases h1 : j + N ≤ P
            · have t1 : (j : Int) + (N : Int) ≤ (P : Int) := by omega
              have t2 : ¬ (m : Int) < 0 := by omega
              go_wp2_with fail
              refine KT.out.mono ?_
              rintro e w3 hp
              obtain ⟨rfl, _, hu⟩ := take_det (m0 := m) hp hNb.1 hm1 hm2 hm3
              have hb3 := Lib.hid (hu.below hb0.out hwg)
              have tm : ((m : Int) == (m : Int)) = true := by simp
              have tn : ¬ (m : Int) < 0 := by omega
              clear hp hu KT KH hm2 hm3
              go_wp2
              go_ret
              exact ⟨by simp, hb3.out⟩
            · have t1 : ¬ (j : Int) + (N : Int) ≤ (P : Int) := by omega
              go_wp2_with fail
              refine KT.out.mono ?_
              rintro e w3 hp
              obtain ⟨rfl, _, hu⟩ := take_det (m0 := m) hp hNb.1 hm1 hm2 hm3
              have hb3 := Lib.hid (hu.below hb0.out hwg)
              have tm : ((m : Int) == (m : Int)) = true := by simp
              have tn : ¬ (m : Int) < 0 := by omega
              clear hp hu KT KH hm2 hm3
              go_wp2
              go_ret
              exact ⟨by simp, hb3.out⟩
end Go.Proofs.Ytnifihdnpmacjaa
