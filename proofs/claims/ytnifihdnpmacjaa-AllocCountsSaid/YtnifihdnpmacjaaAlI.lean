/-
  The walk of the law AllocCounts.
-/
import Derived.Test.YtnifihdnpmacjaaAlH
namespace Go.Proofs.Ytnifihdnpmacjaa
open Go.RowKit

set_option maxHeartbeats 2000000 in
set_option maxRecDepth 100000 in
theorem W_AllocCounts (p : Int) (hp1 : -9223372036854775808 ≤ p) (hp2 : p ≤ 9223372036854775807) (A : Option Addr) (len cap : Nat) (os : List (Int × Int × Bool)) (w : World) : Ops w w.heap.size A len os → len ≤ cap → cap ≤ maxLen →
    Calls Try.prog 6 #[.int .i64 p, .slice A len cap] w fun e w' => e = .returned (.bool true) ∧ Below w.heap.size w w' := by
  intro ho0 hlc hcap
  have hO := Lib.hid ho0
  clear ho0
  unfold maxLen at hcap
  go_enter Try.func6, Try.ntmps6
  go_wp2_with fail
  refine (live_any w).mono ?_
  rintro e w1 ⟨rfl, hb1⟩
  go_wp2_with fail
  refine (New_any p w1).mono ?_
  rintro e w2 (⟨rfl, _, rfl⟩ | ⟨P, rfl, hP1, hP2, rfl, ha2, hb2⟩)
  · go_wp2
    go_ret
    exact ⟨rfl, hb1⟩
  · obtain ⟨g, hg⟩ : ∃ g, w1.heap.size = g := ⟨_, rfl⟩
    rw [hg] at ha2
    have hA2 : Alc w2 g P (fun _ => false) := by show Alc0 _ _ _ _ _; rw [cnt_zero]; exact ha2.out
    replace hA2 := Lib.hid hA2
    have hwg : w.heap.size ≤ g := by have := hb1.size; omega
    have hb02 := hb1.trans (hb2.mono hb1.size)
    rw [hg]
    clear ha2 hb1 hb2 hg
    go_wp2_with fail
    go_loopw [31] (fun i wr => ∃ (k : Nat) (f : Nat → Bool), k ≤ len ∧ i = .int .i64 (k : Int) ∧ Hid (Alc wr g P f) ∧ Below w.heap.size w wr) (fun i _ => len - (intOf i).toNat)
    case atStart => exact ⟨0, _, by omega, rfl, hA2.out, hb02⟩
    case round =>
      obtain ⟨k, f, hk, rfl, ha, hbel⟩ := hrel
      clear hA2 hb02
      by_cases hlt : k < len
      · obtain ⟨b, off, o1, o2, o3, rfl, hbB, c1, c2, c3, _, _⟩ := (hO.out.below hbel).at_ hlt
        have ha3 : Alc (wr.alloc (.cells #[.int .i64 o1, .int .i64 o2, .bool o3] 35)) g P f := ha.out.below ((Below.refl _ _).alloc (Nat.le_refl _) _)
        have hbel3 := hbel.alloc hbel.size (.cells #[.int .i64 o1, .int .i64 o2, .bool o3] 35)
        by_cases h2 : k < 200
        · by_cases e2 : o1 = 2
          · subst e2
            have K := Lib.hid (Give_any g P o2 f _ ha3 hP2)
            clear ha ha3
            go_wp2_with fail
            refine K.out.mono ?_
            rintro e w3 ⟨er, f', rfl, _, _, ha4, hu⟩
            have hbel4 := Lib.hid (hu.out.below hbel3 hwg)
            clear hu hbel3 hbel K
            go_wp2
            go_roundw
            case rel => exact ⟨k + 1, f', by omega, by go_num, ha4.out, hbel4.out⟩
            case measure => simp [intOf]; omega
          · have t2 : (o1 == 2) = false := by simp [e2]
            by_cases e3 : o1 = 3
            · subst e3
              have K := Lib.hid (Mark_any g P o2 f _ ha3 hP2)
              clear ha ha3
              go_wp2_with fail
              refine K.out.mono ?_
              rintro e w3 ⟨er, f', rfl, ha4, hu⟩
              have hbel4 := Lib.hid (hu.out.below hbel3 hwg)
              clear hu hbel3 hbel K
              go_wp2
              go_roundw
              case rel => exact ⟨k + 1, f', by omega, by go_num, ha4.out, hbel4.out⟩
              case measure => simp [intOf]; omega
            · have t3 : (o1 == 3) = false := by simp [e3]
              have K := Lib.hid (Take_any g P f _ ha3 hP2)
              replace ha3 := Lib.hid ha3
              clear ha e2 e3
              go_wp2_with fail
              refine K.out.mono ?_
              rintro e w3 (⟨er, rfl, _, rfl⟩ | ⟨m, k', _, _, rfl, _, _, _, ha4, hu⟩)
              · replace hbel3 := Lib.hid hbel3
                clear hbel K
                go_wp2
                go_roundw
                case rel => exact ⟨k + 1, f, by omega, by go_num, ha3.out, hbel3.out⟩
                case measure => simp [intOf]; omega
              · have hbel4 := Lib.hid (hu.out.below hbel3 hwg)
                clear hu hbel3 hbel K
                go_wp2
                go_roundw
                case rel => exact ⟨k + 1, _, by omega, by go_num, ha4.out, hbel4.out⟩
                case measure => simp [intOf]; omega
        · have t1 : (200 : Int) ≤ (k : Int) := by omega
          replace ha3 := Lib.hid ha3
          replace hbel3 := Lib.hid hbel3
          clear ha hbel
          go_wp2
          go_roundw
          case rel => exact ⟨k + 1, f, by omega, by go_num, ha3.out, hbel3.out⟩
          case measure => simp [intOf]; omega
      · obtain ⟨w0, hw0⟩ : ∃ x, x = wr := ⟨_, rfl⟩
        subst hw0
        have K := Lib.hid (Used_any g P f w0 ha.out hP2)
        go_wp2_with fail
        refine K.out.mono ?_
        rintro e w3 ⟨A1, c1, rfl, hc1, hrd, hb3⟩
        have ha3 := ha.out.below hb3
        have hb03 := Lib.hid (hbel.trans (hb3.mono hbel.size))
        have hcl := cnt_le f P
        have KH := Lib.hid (fun (i : Nat) (hi : i < P) => by have := Has_any g P (i : Int) _ f w3 ha3 hP2; rw [hasB_nat hi] at this; exact this)
        have KL := Lib.hid (Left_any g P _ f w3 ha3 hP2 (by omega) (by omega))
        clear K ha ha3 hbel hb3
        go_wp2_with fail
        go_loop [62, 11] (fun i la => ∃ (k : Nat) (v : Int), k ≤ cnt f P ∧ i = .int .i64 (k : Int) ∧ la = .int .i64 v ∧ Hid (∀ x, (usedL f P)[k]? = some x → v < (x : Int))) (fun i _ => 4000 - (intOf i).toNat)
        case atStart => exact ⟨0, -1, by omega, rfl, rfl, fun x _ => by omega⟩
        case round =>
          obtain ⟨j, v, hj, rfl, rfl, hv⟩ := hrel
          by_cases h1 : j < cnt f P
          · obtain ⟨x, hx⟩ : ∃ x, (usedL f P)[j]? = some x := ⟨_, List.getElem?_eq_getElem (by rw [usedL_len]; exact h1)⟩
            have hvx := hv.out x hx
            have hmx := usedL_mem (List.mem_of_getElem? hx)
            have K2 := KH.out x hmx.1
            rw [hmx.2] at K2
            have K2 := Lib.hid K2
            have hnx : Hid (∀ y, (usedL f P)[j + 1]? = some y → (x : Int) < (y : Int)) := fun y hy => by have := usedL_step hx hy; omega
            have hcx : ∃ b off, A1 = some ⟨b, off, none⟩ ∧ w3.cell? ⟨b, off + j, none⟩ = some (.int .i64 (x : Int)) := by
              obtain ⟨b, off, hA, _, hcell⟩ := hrd.out.2 (by omega)
              refine ⟨b, off, hA, ?_⟩
              have := hcell j (by rw [List.length_map, usedL_len]; exact h1)
              rw [this]
              obtain ⟨hj2, hx2⟩ := List.getElem?_eq_some_iff.1 hx
              simp only [List.getElem_map, hx2]
              rfl
            obtain ⟨b2, off2, rfl, hcell⟩ := hcx
            have t1 : ¬ (x : Int) ≤ v := by omega
            have hxP : x < P := hmx.1
            clear hv hx hmx
            go_wp2_with fail
            refine K2.out.mono ?_
            rintro e w4 ⟨rfl, rfl⟩
            go_wp2
            go_round
            case rel => exact ⟨j + 1, (x : Int), by omega, by go_num, rfl, hnx.out⟩
            case measure => simp [intOf]; omega
          · clear hv hrd
            go_wp2_with fail
            go_loop [14, 78] (fun s i => ∃ k : Nat, k ≤ P ∧ i = .int .i64 (k : Int) ∧ s = .int .i64 ((cnt f k : Nat) : Int)) (fun _ i => 4000 - (intOf i).toNat)
            case atStart => exact ⟨0, by omega, rfl, rfl⟩
            case round =>
              obtain ⟨d, hd, rfl, rfl⟩ := hrel
              have hcd := cnt_le f d
              by_cases h3 : d < P
              · have hstep : Hid (cnt f (d + 1) = cnt f d + if f d = true then 1 else 0) := rfl
                go_wp2_with fail
                refine (KH.out d h3).mono ?_
                rintro e w4 ⟨rfl, rfl⟩
                cases hf : f d
                · rw [hf] at hstep
                  go_wp2
                  go_round
                  case rel => exact ⟨d + 1, by omega, by go_num, by rw [hstep.out]; rfl⟩
                  case measure => simp [intOf]; omega
                · rw [hf] at hstep
                  go_wp2
                  go_round
                  case rel => exact ⟨d + 1, by omega, by go_num, by rw [hstep.out]; go_num⟩
                  case measure => simp [intOf]; omega
              · obtain rfl : d = P := by omega
                go_wp2_with fail
                refine KL.out.mono ?_
                rintro e w4 ⟨rfl, hb4⟩
                have hb04 := Lib.hid (hb03.out.trans (hb4.mono hb03.out.size))
                have tt : ((d : Int) - ((cnt f d : Nat) : Int) + ((cnt f d : Nat) : Int) == (d : Int)) = true := by simp
                clear KL KH hb4 hb03
                go_wp2
                go_ret
                exact ⟨by simp, hb04.out⟩
end Go.Proofs.Ytnifihdnpmacjaa
