/-
  The walk of the law AllocOnce.
-/
import Derived.Test.YtnifihdnpmacjaaAlK
import Derived.Test.YtnifihdnpmacjaaAlF
import Derived.Test.YtnifihdnpmacjaaReg
namespace Go.Proofs.Ytnifihdnpmacjaa
open Go.RowKit

theorem asBytes_inj {f : Nat → Bool} {xs ys : List UInt8} (hl : xs.length = ys.length) (hx : AsBytes f xs) (hy : AsBytes f ys) : xs = ys := by
  apply List.ext_getElem? 
  intro k
  by_cases h : k < xs.length
  · have h1 : xs[k]? = some xs[k] := List.getElem?_eq_getElem h
    have h2 : ys[k]? = some ys[k] := List.getElem?_eq_getElem (by omega)
    rw [h1, h2]
    congr 1
    apply UInt8.toNat_inj.1
    exact byte_of (by have := ys[k].toNat_lt; omega) fun r hr => by rw [hx k _ h1 r hr, hy k _ h2 r hr]
  · rw [List.getElem?_eq_none (by omega), List.getElem?_eq_none (by omega)]

def str (xs : List UInt8) : ByteArray := ⟨xs.toArray⟩
theorem own_str' {w : World} {B n c : Nat} {A : Option Addr} {xs : List UInt8} (h : Byt w B A n xs) : (convert 22 9 (.slice A n c)).run Try.prog w = .ok (.string (str xs)) w :=
  conv_bytes (P := Try.prog) Try.underlying22 Try.underlying5 Try.underlying9 h c

theorem Alc0.upd {w w' : World} {g g' P : Nat} {T : Int} {f : Nat → Bool} (h : Alc0 w g P T f) (hu : Upd g' w w') (hne : g ≠ g') : Alc0 w' g P T f := h.keep (hu.2.2.2.2 g h.lt hne)
theorem hasB_flip {P : Nat} {f : Nat → Bool} {i : Int} (h : hasB P f i = true) : hasB P (flip1 f i.toNat) i = false := by
  have h1 := h
  unfold hasB at h1 ⊢
  simp only [Bool.and_eq_true, decide_eq_true_eq] at h1
  unfold flip1
  rw [if_pos rfl, h1.2]
  simp
theorem hasB_lt {P : Nat} {f : Nat → Bool} {i : Int} (h : hasB P f i = true) : i.toNat < P := by
  unfold hasB at h
  simp only [Bool.and_eq_true, decide_eq_true_eq] at h
  omega
theorem idx5 (n : Int) : ∃ r : Nat, r < 5 ∧ (n.tmod 5 + 5).tmod 5 = (r : Int) ∧ -5 < n.tmod 5 ∧ n.tmod 5 < 5 := by
  have h2 : n.tmod 5 < 5 := Int.tmod_lt_of_pos n (by omega)
  have h3 : -5 < n.tmod 5 := by
    rcases Int.le_total 0 n with hz | hz
    · have := Int.tmod_nonneg (b := 5) hz; omega
    · have h4 : (-n).tmod 5 < 5 := Int.tmod_lt_of_pos (-n) (by omega)
      rw [Int.neg_tmod] at h4; omega
  have h5 : 0 ≤ (n.tmod 5 + 5).tmod 5 := Int.tmod_nonneg _ (by omega)
  have h6 : (n.tmod 5 + 5).tmod 5 < 5 := Int.tmod_lt_of_pos _ (by omega)
  exact ⟨((n.tmod 5 + 5).tmod 5).toNat, by omega, by omega, h3, h2⟩

set_option maxHeartbeats 2000000 in
set_option maxRecDepth 100000 in
theorem W_AllocOnce (p : Int) (hp1 : -9223372036854775808 ≤ p) (hp2 : p ≤ 9223372036854775807) (A : Option Addr) (len cap : Nat) (os : List (Int × Int × Bool)) (w : World) : Ops w w.heap.size A len os → len ≤ cap → cap ≤ maxLen →
    Calls Try.prog 4 #[.int .i64 p, .slice A len cap] w fun e w' => e = .returned (.bool true) ∧ Below w.heap.size w w' := by
  intro ho0 hlc hcap
  have hO := Lib.hid ho0
  clear ho0
  unfold maxLen at hcap
  go_enter Try.func4, Try.ntmps4
  go_wp2_with fail
  refine (live_any w).mono ?_
  rintro e w1 ⟨rfl, hb1⟩
  go_wp2_with fail
  refine (New_any p w1).mono ?_
  rintro e w2 (⟨rfl, _, rfl⟩ | ⟨P, rfl, hP1, hP2, rfl, ha2, hb2⟩)
  · go_wp2
    go_ret
    exact ⟨rfl, hb1⟩
  · obtain ⟨g, hg⟩ : ∃ g, w1.heap.size = g := ⟨_, rfl⟩
    rw [hg] at ha2
    have hA2 : Alc w2 g P (fun _ => false) := by show Alc0 _ _ _ _ _; rw [cnt_zero]; exact ha2.out
    replace hA2 := Lib.hid hA2
    have hwg : w.heap.size ≤ g := by have := hb1.size; omega
    have hb02 := hb1.trans (hb2.mono hb1.size)
    rw [hg]
    clear ha2 hb1 hb2 hg
    by_cases hbig : 300 < len
    · have tb : (300 : Int) < (len : Int) := by omega
      clear hA2
      go_wp2
      go_ret
      exact ⟨rfl, hb02⟩
    · have tb : ¬ (300 : Int) < (len : Int) := by omega
      go_wp2_with fail
      go_loopw [36] (fun i wr => ∃ (k : Nat) (f : Nat → Bool), k ≤ len ∧ i = .int .i64 (k : Int) ∧ Hid (Alc wr g P f) ∧ Hid (Low f P) ∧ Below w.heap.size w wr) (fun i _ => len - (intOf i).toNat)
      case atStart => exact ⟨0, _, by omega, rfl, hA2.out, fun _ _ => rfl, hb02⟩
      case round =>
        obtain ⟨k, f, hk, rfl, ha, hlow, hbel⟩ := hrel
        obtain ⟨w0, hw0⟩ : ∃ x, x = wr := ⟨_, rfl⟩
        subst hw0
        clear hA2 hb02
        by_cases hlt : k < len
        · obtain ⟨b, off, o1, o2, o3, rfl, hbB, c1, c2, c3, _, _⟩ := (hO.out.below hbel).at_ hlt
          obtain ⟨w3, hw3⟩ : ∃ x, w0.alloc (.cells #[.int .i64 o1, .int .i64 o2, .bool o3] 35) = x := ⟨_, rfl⟩
          obtain ⟨ob, hob⟩ : ∃ x, w0.heap.size = x := ⟨_, rfl⟩
          have ha3 : Alc w3 g P f := by rw [← hw3]; exact ha.out.below ((Below.refl _ _).alloc (Nat.le_refl _) _)
          have hbel3 : Below w.heap.size w w3 := by rw [← hw3]; exact hbel.alloc hbel.size _
          have hoc : w3.heap[ob]? = some (.cells #[.int .i64 o1, .int .i64 o2, .bool o3] 35 (0, 0)) := by rw [← hw3, ← hob]; exact heap_alloc_new w0 _
          have hobg : ob ≠ g := by have := ha.out.lt; omega
          have hob3 : ob < w3.heap.size := (Array.getElem?_eq_some_iff.1 hoc).1
          have K := Lib.hid (Clone_any g P _ f w3 ha3)
          clear ha hbel
          go_wp2_with fail
          clear c1 c2 c3 hw3 hob
          refine K.out.mono ?_
          rintro e w4 ⟨rfl, haw, hb4⟩
          have hag : w3.heap.size ≠ g := by have := ha3.lt; omega
          have hogw : ob ≠ w3.heap.size := by omega
          obtain ⟨wb, hwb⟩ : ∃ x, w3.heap.size = x := ⟨_, rfl⟩
          rw [hwb] at haw hag hogw
          rw [hwb]
          have ha4 := Lib.hid (show Alc w4 g P f from ha3.below hb4)
          have hoc4 := blk_carry hoc hb4 hob3
          have hbel4 := hbel3.trans (hb4.mono hbel3.size)
          have hwwb : w.heap.size ≤ wb := by have := hbel3.size; omega
          clear K ha3 hbel3 hoc hb4 hob3 hwb
          have hC0 := (blk_cell hoc4 0)
          have hC1 := (blk_cell hoc4 1)
          simp only [List.getElem?_toArray, List.getElem?_cons_zero, List.getElem?_cons_succ] at hC0 hC1
          have hOC := Lib.hid hoc4
          clear hoc4
          by_cases e2 : o1 = 2
          · subst e2
            have KG := Lib.hid (fun W (hA : Alc W g P f) => Give_any g P o2 f W hA hP2)
            have KW := Lib.hid (fun W (hA : Alc0 W wb P _ f) => Has_any wb P o2 ((cnt f P : Nat) : Int) f W hA hP2)
            go_wp2_with fail
            have hS : w4.cell? ⟨ob, 1, none⟩ = some (.int .i64 o2) := hC1
            clear hC0 hC1
            refine heldS_start (fun W => W.cell? ⟨ob, 1, none⟩ = some (.int .i64 o2)) (by kernel_rfl) ?_
            refine heldS_take (i := 0) (v := ?_) rfl (by kernel_rfl) (by kernel_rfl) (by kernel_rfl) (fun _ _ _ h => h) (by rfl) hS ?_ ?_
            rotate_left
            · (intro W hW; go_simp; try with_reducible rfl)
            try simp only [Act.put, List.setIfInBounds_toArray, List.set_cons_zero, List.set_cons_succ]
            refine heldS_take (i := 1) (v := ?_) rfl (by kernel_rfl) (by kernel_rfl) (by kernel_rfl) (fun _ _ _ h => h) (by rfl) hS ?_ ?_
            rotate_left
            · (intro W hW; go_simp; try with_reducible rfl)
            try simp only [Act.put, List.setIfInBounds_toArray, List.set_cons_zero, List.set_cons_succ]
            refine heldS_take (i := 2) (v := ?_) rfl (by kernel_rfl) (by kernel_rfl) (by kernel_rfl) (fun _ _ _ h => h) (by rfl) hS ?_ ?_
            rotate_left
            · (intro W hW; have hcW : W.cell? ⟨ob, 1, none⟩ = some (.int .i64 o2) := hW; go_simp; try with_reducible rfl)
            try simp only [Act.put, List.setIfInBounds_toArray, List.set_cons_zero, List.set_cons_succ]
            refine heldS_take (i := 5) (v := ?_) rfl (by kernel_rfl) (by kernel_rfl) (by kernel_rfl) (fun _ _ _ h => h) (by rfl) hS ?_ ?_
            rotate_left
            · (intro W hW; go_simp; try with_reducible rfl)
            try simp only [Act.put, List.setIfInBounds_toArray, List.set_cons_zero, List.set_cons_succ]
            refine heldS_take (i := 6) (v := ?_) rfl (by kernel_rfl) (by kernel_rfl) (by kernel_rfl) (fun _ _ _ h => h) (by rfl) hS ?_ ?_
            rotate_left
            · (intro W hW; go_simp; try with_reducible rfl)
            try simp only [Act.put, List.setIfInBounds_toArray, List.set_cons_zero, List.set_cons_succ]
            refine heldS_take (i := 7) (v := ?_) rfl (by kernel_rfl) (by kernel_rfl) (by kernel_rfl) (fun _ _ _ h => h) (by rfl) hS ?_ ?_
            rotate_left
            · (intro W hW; have hcW : W.cell? ⟨ob, 1, none⟩ = some (.int .i64 o2) := hW; go_simp; try with_reducible rfl)
            try simp only [Act.put, List.setIfInBounds_toArray, List.set_cons_zero, List.set_cons_succ]
            refine heldS_call (i := 3) (f := 15) (args := #[.pointer (some ⟨g, 0, none⟩), .int .i64 o2]) rfl (by kernel_rfl) (by rfl) (by go_simp) ?_
            refine (KG.out w4.drew ha4.out).mono ?_
            rintro e w5 ⟨er, f', rfl, her, hf', ha5, hu⟩
            have hoc5 : w5.heap[ob]? = some (.cells #[.int .i64 2, .int .i64 o2, .bool o3] 35 (0, 0)) := by
              rw [hu.out.2.2.2.2 ob (Array.getElem?_eq_some_iff.1 hOC.out).1 hobg]; exact hOC.out
            have hS5 : w5.cell? ⟨ob, 1, none⟩ = some (.int .i64 o2) := blk_cell hoc5 1
            refine ⟨_, rfl, hS5, ?_⟩
            have haw5 : Alc0 w5 wb P ((cnt f P : Nat) : Int) f := (show Alc0 w4.drew wb P _ f from haw.out).upd hu.out hag
            have hbel5 := Lib.hid (hu.out.below hbel4.drew hwg)
            have K2 := Lib.hid (KW.out w5 haw5)
            have K3 := Lib.hid (Has_any g P o2 _ f' w5 ha5.out hP2)
            have hlow5 : Hid (Low f' P) := by
              show Low f' P
              rw [hf'.out]
              cases hh : hasB P f o2
              · exact hlow.out
              · exact low_flip hlow.out (hasB_lt hh)
            have t1 : (er == 0) = hasB P f o2 := by
              have := her.out
              cases hh : hasB P f o2
              · rw [hh] at this; subst this; rfl
              · rw [hh] at this; subst this; rfl
            have t2 : hasB P f' o2 = false := by
              rw [hf'.out]
              cases hh : hasB P f o2
              · exact hh
              · exact hasB_flip hh
            rw [t2] at K3
            clear t2 her hf' haw5 hu hoc5 KG KW hS ha4 haw hbel4 hlow
            generalize hasB P f o2 = hb at K2 t1 ⊢
            try simp only [Act.put, List.setIfInBounds_toArray, List.set_cons_zero, List.set_cons_succ]
            refine heldS_take (i := 4) (v := ?_) rfl (by kernel_rfl) (by kernel_rfl) (by kernel_rfl) (fun _ _ _ h => h) (by rfl) hS5 ?_ ?_
            rotate_left
            · (intro W hW; go_simp; try with_reducible rfl)
            try simp only [Act.put, List.setIfInBounds_toArray, List.set_cons_zero, List.set_cons_succ]
            refine heldS_call (i := 8) (f := 21) (args := #[.pointer (some ⟨wb, 0, none⟩), .int .i64 o2]) rfl (by kernel_rfl) (by rfl) (by go_simp) ?_
            refine K2.out.mono ?_
            rintro e w6 ⟨rfl, rfl⟩
            refine ⟨_, rfl, hS5, ?_⟩
            have t3 : (hb != hb) = false := by simp
            clear K2
            try simp only [Act.put, List.setIfInBounds_toArray, List.set_cons_zero, List.set_cons_succ]
            refine heldS_take (i := 9) (v := ?_) rfl (by kernel_rfl) (by kernel_rfl) (by kernel_rfl) (fun _ _ _ h => h) (by rfl) hS5 ?_ ?_
            rotate_left
            · (intro W hW; go_simp; try with_reducible rfl)
            try simp only [Act.put, List.setIfInBounds_toArray, List.set_cons_zero, List.set_cons_succ]
            refine heldS_take (i := 10) (v := ?_) rfl (by kernel_rfl) (by kernel_rfl) (by kernel_rfl) (fun _ _ _ h => h) (by rfl) hS5 ?_ ?_
            rotate_left
            · (intro W hW; go_simp; try with_reducible rfl)
            try simp only [Act.put, List.setIfInBounds_toArray, List.set_cons_zero, List.set_cons_succ]
            refine heldS_take (i := 11) (v := ?_) rfl (by kernel_rfl) (by kernel_rfl) (by kernel_rfl) (fun _ _ _ h => h) (by rfl) hS5 ?_ ?_
            rotate_left
            · (intro W hW; go_simp; try with_reducible rfl)
            try simp only [Act.put, List.setIfInBounds_toArray, List.set_cons_zero, List.set_cons_succ]
            refine heldS_take (i := 12) (v := ?_) rfl (by kernel_rfl) (by kernel_rfl) (by kernel_rfl) (fun _ _ _ h => h) (by rfl) hS5 ?_ ?_
            rotate_left
            · (intro W hW; go_simp; try with_reducible rfl)
            try simp only [Act.put, List.setIfInBounds_toArray, List.set_cons_zero, List.set_cons_succ]
            refine heldS_take (i := 13) (v := ?_) rfl (by kernel_rfl) (by kernel_rfl) (by kernel_rfl) (fun _ _ _ h => h) (by rfl) hS5 ?_ ?_
            rotate_left
            · (intro W hW; have hcW : W.cell? ⟨ob, 1, none⟩ = some (.int .i64 o2) := hW; go_simp; try with_reducible rfl)
            try simp only [Act.put, List.setIfInBounds_toArray, List.set_cons_zero, List.set_cons_succ]
            refine heldS_call (i := 14) (f := 21) (args := #[.pointer (some ⟨g, 0, none⟩), .int .i64 o2]) rfl (by kernel_rfl) (by rfl) (by go_simp) ?_
            refine K3.out.mono ?_
            rintro e w6 ⟨rfl, rfl⟩
            refine ⟨_, rfl, hS5, ?_⟩
            clear K3
            try simp only [Act.put, List.setIfInBounds_toArray, List.set_cons_zero, List.set_cons_succ]
            refine heldS_take (i := 15) (v := ?_) rfl (by kernel_rfl) (by kernel_rfl) (by kernel_rfl) (fun _ _ _ h => h) (by rfl) hS5 ?_ ?_
            rotate_left
            · (intro W hW; go_simp; try with_reducible rfl)
            try simp only [Act.put, List.setIfInBounds_toArray, List.set_cons_zero, List.set_cons_succ]
            refine wpAnyH_done (by kernel_rfl) ?_ _
            go_wp2
            go_roundw
            case rel => exact ⟨k + 1, f', by omega, by go_num, ha5.out, hlow5.out, hbel5.out⟩
            case measure => simp [intOf]; omega
          · have t2 : (o1 == 2) = false := by simp [e2]
            obtain ⟨r5, hr5, hr, hr1, hr2⟩ := idx5 o2
            obtain ⟨N, hN⟩ : ∃ N : Nat, 1 + r5 = N := ⟨_, rfl⟩
            have hN1 : 1 + (r5 : Int) = (N : Int) := by omega
            have hNb : 1 ≤ N ∧ N ≤ 5 := by omega
            have hcl := cnt_le f P
            have KT := Lib.hid (TakeRun_any g P (N : Int) f w4 ha4.out hP2 (by omega))
            clear hN hOC e2
            go_wp2_with fail
            refine KT.out.mono ?_
            rintro e w5 (⟨er, rfl, hcase, rfl⟩ | ⟨m, k', hkk, _, rfl, hm1, hm2, hm3, ha5, hu⟩)
            · have her : er = 62 := by rcases hcase with ⟨h, _⟩ | ⟨_, h, _⟩ <;> omega
              subst her
              have KL := Lib.hid (Left_any g P _ f w4 ha4.out hP2 (by omega) (by omega))
              clear KT hcase hr hN1
              go_wp2_with fail
              refine KL.out.mono ?_
              rintro e w5 ⟨rfl, hb5⟩
              have KM := Lib.hid (Left_any wb P _ f w5 (haw.out.below hb5) hP2 (by omega) (by omega))
              have ha5 := Lib.hid (show Alc w5 g P f from ha4.out.below hb5)
              have hbel5 := hbel4.trans (hb5.mono hbel4.size)
              clear hb5 hbel4 ha4 KL
              go_wp2_with fail
              refine KM.out.mono ?_
              rintro e w6 ⟨rfl, hb6⟩
              have ha6 := Lib.hid (show Alc w6 g P f from ha5.out.below hb6)
              have hbel6 := Lib.hid (hbel5.trans (hb6.mono hbel5.size))
              clear hb6 hbel5 ha5 KM haw
              go_wp2
              go_roundw
              case rel => exact ⟨k + 1, f, by omega, by go_num, ha6.out, hlow.out, hbel6.out⟩
              case measure => simp [intOf]; omega
            · obtain rfl : k' = N := by omega
              have haw5 := haw.out.upd hu.out hag
              have hbel5 := hu.out.below hbel4 hwg
              have KHw := Lib.hid (fun (i : Nat) (hi : i < P) => by have := Has_any wb P (i : Int) _ f w5 haw5 hP2; rw [hasB_nat hi] at this; exact this)
              have KHa := Lib.hid (fun (i : Nat) (hi : i < P) => by have := Has_any g P (i : Int) _ _ w5 ha5.out hP2; rw [hasB_nat hi] at this; exact this)
              have hlow5 := Lib.hid (low_fill hlow.out hm1)
              have hcf := cnt_fill hm2 hm1
              have hm2' := Lib.hid hm2
              have hcf' := Lib.hid hcf
              have hcl5 := cnt_le (fill f m k') P
              have HW5 := Lib.hid haw5
              have HB5 := Lib.hid hbel5
              clear KT hr hm2 hm3 hu haw5 hbel5 hbel4 ha4 haw hcf
              go_wp2_with fail
              clear hN1
              go_loop [14] (fun i => ∃ d : Nat, m ≤ d ∧ d ≤ m + k' ∧ i = .int .i64 (d : Int)) (fun i => 4000 - (intOf i).toNat)
              case atStart => exact ⟨m, by omega, by omega, rfl⟩
              case round =>
                obtain ⟨d, hd1, hd2, rfl⟩ := hrel
                by_cases h3 : d < m + k'
                · have q1 : f d = false := hm2'.out d hd1 h3
                  have q2 : fill f m k' d = true := by
                    unfold fill
                    have z1 : decide (m ≤ d) = true := by simp; omega
                    have z2 : decide (d < m + k') = true := by simp; omega
                    rw [z1, z2]; simp
                  have K1 := KHw.out d (by omega)
                  have K2 := KHa.out d (by omega)
                  rw [q1] at K1
                  rw [q2] at K2
                  replace K1 := Lib.hid K1
                  replace K2 := Lib.hid K2
                  clear q1 q2
                  go_wp2_with fail
                  refine K1.out.mono ?_
                  rintro e w6 ⟨rfl, rfl⟩
                  go_wp2_with fail
                  refine K2.out.mono ?_
                  rintro e w6 ⟨rfl, rfl⟩
                  go_wp2
                  go_round
                  case rel => exact ⟨d + 1, by omega, by omega, by go_num⟩
                  case measure => simp [intOf]; omega
                · have KL := Lib.hid (Left_any g P _ _ w5 ha5.out hP2 (by omega) (by omega))
                  clear KHw KHa hm2'
                  go_wp2_with fail
                  refine KL.out.mono ?_
                  rintro e w6 ⟨rfl, hb6⟩
                  have KM := Lib.hid (Left_any wb P _ f w6 (HW5.out.below hb6) hP2 (by omega) (by omega))
                  have ha6 := Lib.hid (show Alc w6 g P _ from ha5.out.below hb6)
                  have hbel6 := HB5.out.trans (hb6.mono HB5.out.size)
                  clear hb6 HB5 HW5 ha5 KL
                  go_wp2_with fail
                  refine KM.out.mono ?_
                  rintro e w7 ⟨rfl, hb7⟩
                  have ha7 := Lib.hid (show Alc w7 g P _ from ha6.out.below hb7)
                  have hbel7 := Lib.hid (hbel6.trans (hb7.mono hbel6.size))
                  have tt : ((P : Int) - ((cnt (fill f m k') P : Nat) : Int) != (P : Int) - ((cnt f P : Nat) : Int) - (k' : Int)) = false := by
                    have := hcf'.out
                    simp; omega
                  clear hb7 hbel6 ha6 KM hcf'
                  go_wp2
                  go_roundw
                  case rel => exact ⟨k + 1, _, by omega, by go_num, ha7.out, hlow5.out, hbel7.out⟩
                  case measure => simp [intOf]; omega
        · have hcl := cnt_le f P
          have KB := Lib.hid (Bits_any g P _ f w0 ha.out hP2)
          go_wp2_with fail
          refine KB.out.mono ?_
          rintro e w5 ⟨xs, hxl, hxb, rfl, hxr, hb5⟩
          have ha5 : Alc w5 g P f := ha.out.below hb5
          have hbel5 := hbel.trans (hb5.mono hbel.size)
          have KLd := Lib.hid (Load_ok P w5.heap.size _ ((P + 7) / 8) _ f xs w5 hxr.out (Nat.le_refl _) hP1 hP2 rfl hxb hlow.out)
          clear KB hxl hxb hxr hb5 hbel ha
          go_wp2_with fail
          refine KLd.out.mono ?_
          rintro e w6 ⟨rfl, hl6, hb6⟩
          have ha6 : Alc w6 g P f := ha5.below hb6
          have hbel6 := hbel5.trans (hb6.mono hbel5.size)
          obtain ⟨gb, hgb⟩ : ∃ x, w5.heap.size = x := ⟨_, rfl⟩
          rw [hgb] at hl6
          have HA6 := Lib.hid ha6
          have HB6 := Lib.hid hbel6
          clear KLd ha5 hbel5 hb6 ha6 hbel6 hlow
          go_wp2_with fail
          clear hgb
          have KB1 := Lib.hid (Bits_any gb P _ f w6.drew hl6.out hP2)
          refine held_start (by kernel_rfl) ?_
          refine held_take2 (i := 0) (v := ?_) rfl (by kernel_rfl) (by kernel_rfl) (by kernel_rfl) (fun _ _ _ h => h) (by rfl) ?_ ?_
          rotate_left
          · (intro W hW; go_simp; try with_reducible rfl)
          try simp only [Act.put, List.setIfInBounds_toArray, List.set_cons_zero, List.set_cons_succ]
          refine held_take2 (i := 1) (v := ?_) rfl (by kernel_rfl) (by kernel_rfl) (by kernel_rfl) (fun _ _ _ h => h) (by rfl) ?_ ?_
          rotate_left
          · (intro W hW; go_simp; try with_reducible rfl)
          try simp only [Act.put, List.setIfInBounds_toArray, List.set_cons_zero, List.set_cons_succ]
          refine held_take2 (i := 2) (v := ?_) rfl (by kernel_rfl) (by kernel_rfl) (by kernel_rfl) (fun _ _ _ h => h) (by rfl) ?_ ?_
          rotate_left
          · (intro W hW; go_simp; try with_reducible rfl)
          try simp only [Act.put, List.setIfInBounds_toArray, List.set_cons_zero, List.set_cons_succ]
          refine held_take2 (i := 3) (v := ?_) rfl (by kernel_rfl) (by kernel_rfl) (by kernel_rfl) (fun _ _ _ h => h) (by rfl) ?_ ?_
          rotate_left
          · (intro W hW; go_simp; try with_reducible rfl)
          try simp only [Act.put, List.setIfInBounds_toArray, List.set_cons_zero, List.set_cons_succ]
          refine held_take2 (i := 4) (v := ?_) rfl (by kernel_rfl) (by kernel_rfl) (by kernel_rfl) (fun _ _ _ h => h) (by rfl) ?_ ?_
          rotate_left
          · (intro W hW; go_simp; try with_reducible rfl)
          try simp only [Act.put, List.setIfInBounds_toArray, List.set_cons_zero, List.set_cons_succ]
          refine held_take2 (i := 5) (v := ?_) rfl (by kernel_rfl) (by kernel_rfl) (by kernel_rfl) (fun _ _ _ h => h) (by rfl) ?_ ?_
          rotate_left
          · (intro W hW; go_simp; try with_reducible rfl)
          try simp only [Act.put, List.setIfInBounds_toArray, List.set_cons_zero, List.set_cons_succ]
          refine held_take2 (i := 6) (v := ?_) rfl (by kernel_rfl) (by kernel_rfl) (by kernel_rfl) (fun _ _ _ h => h) (by rfl) ?_ ?_
          rotate_left
          · (intro W hW; go_simp; try with_reducible rfl)
          try simp only [Act.put, List.setIfInBounds_toArray, List.set_cons_zero, List.set_cons_succ]
          refine held_take2 (i := 7) (v := ?_) rfl (by kernel_rfl) (by kernel_rfl) (by kernel_rfl) (fun _ _ _ h => h) (by rfl) ?_ ?_
          rotate_left
          · (intro W hW; go_simp; try with_reducible rfl)
          try simp only [Act.put, List.setIfInBounds_toArray, List.set_cons_zero, List.set_cons_succ]
          refine held_take2 (i := 8) (v := ?_) rfl (by kernel_rfl) (by kernel_rfl) (by kernel_rfl) (fun _ _ _ h => h) (by rfl) ?_ ?_
          rotate_left
          · (intro W hW; go_simp; try with_reducible rfl)
          try simp only [Act.put, List.setIfInBounds_toArray, List.set_cons_zero, List.set_cons_succ]
          refine held_take2 (i := 9) (v := ?_) rfl (by kernel_rfl) (by kernel_rfl) (by kernel_rfl) (fun _ _ _ h => h) (by rfl) ?_ ?_
          rotate_left
          · (intro W hW; go_simp; try with_reducible rfl)
          try simp only [Act.put, List.setIfInBounds_toArray, List.set_cons_zero, List.set_cons_succ]
          refine held_take2 (i := 10) (v := ?_) rfl (by kernel_rfl) (by kernel_rfl) (by kernel_rfl) (fun _ _ _ h => h) (by rfl) ?_ ?_
          rotate_left
          · (intro W hW; go_simp; try with_reducible rfl)
          try simp only [Act.put, List.setIfInBounds_toArray, List.set_cons_zero, List.set_cons_succ]
          refine held_take2 (i := 13) (v := ?_) rfl (by kernel_rfl) (by kernel_rfl) (by kernel_rfl) (fun _ _ _ h => h) (by rfl) ?_ ?_
          rotate_left
          · (intro W hW; go_simp; try with_reducible rfl)
          try simp only [Act.put, List.setIfInBounds_toArray, List.set_cons_zero, List.set_cons_succ]
          refine held_call (i := 11) (f := 23) (args := #[.pointer (some ⟨gb, 0, none⟩)]) rfl (by kernel_rfl) (by rfl) (by go_simp) ?_
          refine KB1.out.mono ?_
          rintro e w7 ⟨ys, hyl, hyb, rfl, hyr, hb7⟩
          refine ⟨_, rfl, hb7, ?_⟩
          have hl7 := Lib.hid (show Alc w7 gb P f from (show Alc w6.drew gb P f from hl6.out).below hb7)
          have ha7 := Lib.hid (show Alc w7 g P f from (show Alc w6.drew g P f from HA6.out).below hb7)
          have hB7 := Lib.hid (HB6.out.drew.trans (hb7.mono HB6.out.size))
          have hY := Lib.hid (fun (W : World) (hW : Fwd w7 W) => own_str' (A := some ⟨w6.heap.size, 0, none⟩) (c := (P + 7) / 8) (hyr.out.below hW))
          have KB2 := Lib.hid (Bits_any g P _ f w7 ha7.out hP2)
          have HYL := Lib.hid hyl
          have HYB := Lib.hid hyb
          clear KB1 hyl hyb hyr hb7 hl6 HA6 HB6
          try simp only [Act.put, List.setIfInBounds_toArray, List.set_cons_zero, List.set_cons_succ]
          refine held_take2 (i := 12) (v := ?_) rfl (by kernel_rfl) (by kernel_rfl) (by kernel_rfl) (fun _ _ _ h => h) (by rfl) ?_ ?_
          rotate_left
          · (intro W hW; have hcv := hY.out W hW; go_simp; try with_reducible rfl)
          try simp only [Act.put, List.setIfInBounds_toArray, List.set_cons_zero, List.set_cons_succ]
          refine held_call (i := 14) (f := 23) (args := #[.pointer (some ⟨g, 0, none⟩)]) rfl (by kernel_rfl) (by rfl) (by go_simp) ?_
          refine KB2.out.mono ?_
          rintro e w8 ⟨zs, hzl, hzb, rfl, hzr, hb8⟩
          have hzy := asBytes_inj (hzl.trans HYL.out.symm) hzb HYB.out
          subst hzy
          refine ⟨_, rfl, hb8, ?_⟩
          have hl8 := Lib.hid (show Alc w8 gb P f from hl7.out.below hb8)
          have ha8 := Lib.hid (show Alc w8 g P f from ha7.out.below hb8)
          have hB8 := Lib.hid (hB7.out.trans (hb8.mono hB7.out.size))
          have hZ := Lib.hid (fun (W : World) (hW : Fwd w8 W) => own_str' (c := (P + 7) / 8) (hzr.out.below hW))
          have KL1 := Lib.hid (Left_any gb P _ f w8 hl8.out hP2 (by omega) (by omega))
          clear KB2 hzl hzb hzr hb8 hl7 ha7 hB7 hY HYL HYB
          generalize str zs = z at hZ ⊢
          have tz : (z.toList == z.toList) = true := by simp
          try simp only [Act.put, List.setIfInBounds_toArray, List.set_cons_zero, List.set_cons_succ]
          refine held_take2 (i := 15) (v := ?_) rfl (by kernel_rfl) (by kernel_rfl) (by kernel_rfl) (fun _ _ _ h => h) (by rfl) ?_ ?_
          rotate_left
          · (intro W hW; have hcv := hZ.out W hW; go_simp; try with_reducible rfl)
          try simp only [Act.put, List.setIfInBounds_toArray, List.set_cons_zero, List.set_cons_succ]
          refine held_take2 (i := 16) (v := ?_) rfl (by kernel_rfl) (by kernel_rfl) (by kernel_rfl) (fun _ _ _ h => h) (by rfl) ?_ ?_
          rotate_left
          · (intro W hW; go_simp; try with_reducible rfl)
          try simp only [Act.put, List.setIfInBounds_toArray, List.set_cons_zero, List.set_cons_succ]
          refine held_take2 (i := 17) (v := ?_) rfl (by kernel_rfl) (by kernel_rfl) (by kernel_rfl) (fun _ _ _ h => h) (by rfl) ?_ ?_
          rotate_left
          · (intro W hW; go_simp; try with_reducible rfl)
          try simp only [Act.put, List.setIfInBounds_toArray, List.set_cons_zero, List.set_cons_succ]
          refine held_take2 (i := 18) (v := ?_) rfl (by kernel_rfl) (by kernel_rfl) (by kernel_rfl) (fun _ _ _ h => h) (by rfl) ?_ ?_
          rotate_left
          · (intro W hW; go_simp; try with_reducible rfl)
          try simp only [Act.put, List.setIfInBounds_toArray, List.set_cons_zero, List.set_cons_succ]
          refine held_take2 (i := 19) (v := ?_) rfl (by kernel_rfl) (by kernel_rfl) (by kernel_rfl) (fun _ _ _ h => h) (by rfl) ?_ ?_
          rotate_left
          · (intro W hW; go_simp; try with_reducible rfl)
          try simp only [Act.put, List.setIfInBounds_toArray, List.set_cons_zero, List.set_cons_succ]
          refine held_take2 (i := 21) (v := ?_) rfl (by kernel_rfl) (by kernel_rfl) (by kernel_rfl) (fun _ _ _ h => h) (by rfl) ?_ ?_
          rotate_left
          · (intro W hW; go_simp; try with_reducible rfl)
          try simp only [Act.put, List.setIfInBounds_toArray, List.set_cons_zero, List.set_cons_succ]
          refine held_call (i := 20) (f := 22) (args := #[.pointer (some ⟨gb, 0, none⟩)]) rfl (by kernel_rfl) (by rfl) (by go_simp) ?_
          refine KL1.out.mono ?_
          rintro e w9 ⟨rfl, hb9⟩
          refine ⟨_, rfl, hb9, ?_⟩
          have KL2 := Lib.hid (Left_any g P _ f w9 (ha8.out.below hb9) hP2 (by omega) (by omega))
          have hB9 := Lib.hid (hB8.out.trans (hb9.mono hB8.out.size))
          clear KL1 hb9 ha8 hl8 hB8 hZ
          try simp only [Act.put, List.setIfInBounds_toArray, List.set_cons_zero, List.set_cons_succ]
          refine held_call (i := 22) (f := 22) (args := #[.pointer (some ⟨g, 0, none⟩)]) rfl (by kernel_rfl) (by rfl) (by go_simp) ?_
          refine KL2.out.mono ?_
          rintro e w10 ⟨rfl, hb10⟩
          refine ⟨_, rfl, hb10, ?_⟩
          have hB10 := Lib.hid (hB9.out.trans (hb10.mono hB9.out.size))
          clear KL2 hb10 hB9
          try simp only [Act.put, List.setIfInBounds_toArray, List.set_cons_zero, List.set_cons_succ]
          refine held_take2 (i := 23) (v := ?_) rfl (by kernel_rfl) (by kernel_rfl) (by kernel_rfl) (fun _ _ _ h => h) (by rfl) ?_ ?_
          rotate_left
          · (intro W hW; go_simp; try with_reducible rfl)
          try simp only [Act.put, List.setIfInBounds_toArray, List.set_cons_zero, List.set_cons_succ]
          refine held_take2 (i := 24) (v := ?_) rfl (by kernel_rfl) (by kernel_rfl) (by kernel_rfl) (fun _ _ _ h => h) (by rfl) ?_ ?_
          rotate_left
          · (intro W hW; go_simp; try with_reducible rfl)
          try simp only [Act.put, List.setIfInBounds_toArray, List.set_cons_zero, List.set_cons_succ]
          refine held_take2 (i := 25) (v := ?_) rfl (by kernel_rfl) (by kernel_rfl) (by kernel_rfl) (fun _ _ _ h => h) (by rfl) ?_ ?_
          rotate_left
          · (intro W hW; go_simp; try with_reducible rfl)
          try simp only [Act.put, List.setIfInBounds_toArray, List.set_cons_zero, List.set_cons_succ]
          refine wpAnyH_done (by kernel_rfl) ?_ _
          go_wp2
          go_ret
          exact ⟨by simp, hB10.out⟩
end Go.Proofs.Ytnifihdnpmacjaa
