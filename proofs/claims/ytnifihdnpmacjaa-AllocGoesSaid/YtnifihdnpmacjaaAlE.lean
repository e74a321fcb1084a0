/-
  Contracts of alloc's size, Bits; of the law's live.
-/
import Derived.Test.YtnifihdnpmacjaaAlD
import Derived.Deep.OwnRows
import Derived.Laws.CopyOwn
namespace Go.Proofs.Ytnifihdnpmacjaa
open Go.RowKit

set_option maxHeartbeats 400000 in
theorem size_any (g P : Nat) (T : Int) (f : Nat → Bool) (w : World) (h : Alc0 w g P T f) (hP : P ≤ 1024) :
    Calls Try.prog 25 #[.pointer (some ⟨g, 0, none⟩)] w fun e w' => e = .returned (.int .i64 (((P + 7) / 8 : Nat) : Int)) ∧ w = w' := by
  have hc := h.cP
  obtain ⟨n, hn⟩ : ∃ n, (P + 7) / 8 = n := ⟨_, rfl⟩
  have e1 : ((P : Int) + 7) / 8 = (n : Int) := by omega
  have e2 : ((P : Int) + 7).tdiv 8 = (n : Int) := by rw [Int.tdiv_eq_ediv_of_nonneg (by omega)]; exact e1
  rw [hn]
  clear h hn
  go_enter Try.func25, Try.ntmps25
  go_wp2
  go_ret
  exact ⟨rfl, rfl⟩

/-- The bits as bytes. -/
def AsBytes (f : Nat → Bool) (xs : List UInt8) : Prop := ∀ k x, xs[k]? = some x → ∀ r, r < 8 → x.toNat.testBit r = f (8 * k + r)

theorem Alc0.bytes {w : World} {g P : Nat} {T : Int} {f : Nat → Bool} (h : Alc0 w g P T f) : ∀ n, n ≤ 128 → ∃ xs : List UInt8, xs.length = n ∧ AsBytes f xs ∧ ∀ k x, xs[k]? = some x → w.cell? ⟨g, 2 + k, none⟩ = some (bv x)
  | 0, _ => ⟨[], rfl, fun k x h => by simp at h, fun k x h => by simp at h⟩
  | n + 1, hn => by
    obtain ⟨xs, hl, ha, hc⟩ := h.bytes n (by omega)
    obtain ⟨x, hx, hr⟩ := h.cB (k := n) (by omega)
    refine ⟨xs ++ [x], by simp [hl], fun k y hk r hr8 => ?_, fun k y hk => ?_⟩
    · by_cases e : k < n
      · rw [List.getElem?_append_left (by omega)] at hk
        exact ha k y hk r hr8
      · rw [List.getElem?_append_right (by omega)] at hk
        obtain ⟨hk0, rfl⟩ := List.getElem?_eq_some_iff.1 hk
        simp at hk0
        have : k = n := by omega
        subst this
        simpa using hr r hr8
    · by_cases e : k < n
      · rw [List.getElem?_append_left (by omega)] at hk
        exact hc k y hk
      · rw [List.getElem?_append_right (by omega)] at hk
        obtain ⟨hk0, rfl⟩ := List.getElem?_eq_some_iff.1 hk
        simp at hk0
        have : k = n := by omega
        subst this
        simpa [bv] using hx

def BitsP (P : Nat) (f : Nat → Bool) (w : World) (e : Ending) (w' : World) : Prop := ∃ xs : List UInt8, xs.length = (P + 7) / 8 ∧ AsBytes f xs ∧ e = .returned (.slice (some ⟨w.heap.size, 0, none⟩) ((P + 7) / 8) ((P + 7) / 8)) ∧ Hid (Byt w' w'.heap.size (some ⟨w.heap.size, 0, none⟩) ((P + 7) / 8) xs) ∧ Below w.heap.size w w'

set_option maxHeartbeats 1000000 in
set_option maxRecDepth 100000 in
theorem Bits_any (g P : Nat) (T : Int) (f : Nat → Bool) (w : World) (h : Alc0 w g P T f) (hP : P ≤ 1024) :
    Calls Try.prog 23 #[.pointer (some ⟨g, 0, none⟩)] w (BitsP P f w) := by
  have K := size_any g P T f w h hP
  unfold BitsP
  have hn0 : (P + 7) / 8 ≤ 128 := by omega
  obtain ⟨n, hn⟩ : ∃ n, (P + 7) / 8 = n := ⟨_, rfl⟩
  rw [hn] at K hn0
  rw [hn]
  clear hn
  obtain ⟨xs, hl, ha, hc⟩ := h.bytes n hn0
  have hmk := fun W => run_make_row' (P := Try.prog) 22 5 (.int .u8 0) 1 Try.underlying22 (by kernel_rfl) rfl .i64 .i64 n (by omega) (by omega) W
  have K := Lib.hid K
  have HC := Lib.hid hc
  have HL := Lib.hid hl
  have HA := Lib.hid ha
  have hg := h.lt
  clear hc hl ha h
  go_enter Try.func23, Try.ntmps23
  go_wp2_with fail
  refine K.out.mono ?_
  rintro e w1 ⟨rfl, rfl⟩
  go_wp2_with (with_reducible refine wpList_copy_splice rfl _ _ _ _ rfl 5 Try.underlying22 (by kernel_rfl) (some ⟨w.heap.size, 0, none⟩) (some ⟨g, 2, none⟩) n n 128 128 rfl rfl w.heap.size 0 (madeCells #[.int .u8 0] n).toList 5 ?c1 (xs.map bv) ?c2 ?c3 ?c4 bv_one w.heap.size w ?c5 (Nat.le_refl _) ?_)
  case c1 => exact heap_alloc_new w _
  case c2 => rw [List.length_map, HL.out]; exact (Nat.min_eq_right hn0).symm
  case c3 =>
    intro _
    exact HC.out
  case c4 => simp [size_madeCells, HL.out]
  case c5 => exact (Below.refl _ _).alloc (Nat.le_refl _) _
  intro w2 hg2 hb2
  have HB := Lib.hid (show Byt w2 w2.heap.size (some ⟨w.heap.size, 0, none⟩) n xs from ⟨by rw [List.length_map, HL.out, Nat.mul_one], fun _ => ⟨_, 0, rfl, (Array.getElem?_eq_some_iff.1 hg2.out).1, fun j hj => by
    rw [blk_cell hg2.out, Nat.zero_add]
    simp only [splice, List.getElem?_toArray, List.take_zero, List.nil_append]
    rw [List.getElem?_append_left hj, List.getElem?_eq_getElem hj]⟩⟩)
  clear hg2 hmk K HC
  go_wp2
  go_ret
  exact ⟨xs, HL.out, HA.out, rfl, HB.out, hb2⟩

theorem fr_iff {f : Nat → Bool} {m n : Nat} : Fr f m n ↔ ((List.range n).all fun d => !f (m + d)) = true := by
  rw [List.all_eq_true]
  constructor
  · intro h d hd
    have := h (m + d) (by omega) (by have := List.mem_range.1 hd; omega)
    simp [this]
  · intro h k h1 h2
    have := h (k - m) (List.mem_range.2 (by omega))
    rw [show m + (k - m) = k by omega] at this
    simpa using this

theorem take_det {g P : Nat} {k m0 : Nat} {f : Nat → Bool} {w w' : World} {e : Ending} (h : TakeP g P (k : Int) f w e w') (hk : 1 ≤ k) (h1 : m0 + k ≤ P) (h2 : Fr f m0 k) (h3 : ∀ m', m' < m0 → ¬ Fr f m' k) :
    e = .returned (.tuple #[.int .i64 (m0 : Int), .int .i64 0]) ∧ Alc w' g P (fill f m0 k) ∧ Upd g w w' := by
  rcases h with ⟨er, _, h4, _⟩ | ⟨m, k', hkk, _, he, h5, h6, h7, ha, hu⟩
  · rcases h4 with ⟨h4, _⟩ | ⟨_, _, h4⟩
    · omega
    · exact absurd (by rw [Int.toNat_natCast]; exact h2) (h4 m0 (by omega))
  · have : k' = k := by omega
    subst this
    have hm : m = m0 := by
      rcases Nat.lt_trichotomy m m0 with h | h | h
      · exact absurd h6 (h3 m h)
      · exact h
      · exact absurd h2 (h7 m0 h)
    subst hm
    exact ⟨he, ha.out, hu.out⟩

theorem new_ok {P : Nat} {w w' : World} {e : Ending} (h : NewP (P : Int) w e w') (h1 : 1 ≤ P) (h2 : P ≤ 1024) : e = .returned (.tuple #[.pointer (some ⟨w.heap.size, 0, none⟩), .int .i64 0]) ∧ Alc w' w.heap.size P (fun _ => false) ∧ Below w.heap.size w w' := by
  rcases h with ⟨_, h3, _⟩ | ⟨P', hp, _, _, he, ha, hb⟩
  · omega
  · have : P' = P := by omega
    subst this
    refine ⟨he, ?_, hb⟩
    show Alc0 _ _ _ _ _
    rw [cnt_zero]; exact ha.out

/-- The bits behind the chapter's example. -/
def f5 : Nat → Bool := fill (fill (flip1 (fill (fill (fun _ => false) 0 1) 1 1) 0) 2 2) 0 1

theorem byte_of {x : UInt8} {n : Nat} (hn : n < 256) (h : ∀ r, r < 8 → x.toNat.testBit r = n.testBit r) : x.toNat = n := by
  apply Nat.eq_of_testBit_eq
  intro r
  by_cases hr : r < 8
  · exact h r hr
  · have h1 : x.toNat < 2 ^ r := Nat.lt_of_lt_of_le x.toNat_lt (Nat.pow_le_pow_right (n := 2) (by decide) (show 8 ≤ r by omega))
    have h2 : n < 2 ^ r := Nat.lt_of_lt_of_le hn (Nat.pow_le_pow_right (n := 2) (by decide) (show 8 ≤ r by omega))
    rw [Nat.testBit_lt_two_pow h1, Nat.testBit_lt_two_pow h2]

set_option maxHeartbeats 1000000 in
set_option maxRecDepth 100000 in
theorem live_any (w : World) : Calls Try.prog 7 #[] w fun e w' => e = .returned (.bool true) ∧ Below w.heap.size w w' := by
  go_enter Try.func7, Try.ntmps7
  go_wp2_with fail
  refine (New_any 10 w).mono ?_
  rintro e w1 hn
  obtain ⟨rfl, ha1, hb1⟩ := new_ok (P := 10) hn (by decide) (by decide)
  clear hn
  go_wp2_with fail
  refine (Take_any _ 10 _ w1 ha1 (by decide)).mono ?_
  rintro e w2 hp
  obtain ⟨rfl, ha2, hu2⟩ := take_det (k := 1) (m0 := 0) hp (by decide) (by decide) (fr_iff.2 (by decide)) (fun m' h => absurd h (Nat.not_lt_zero _))
  have hb2 := hu2.below hb1 (Nat.le_refl _)
  clear hp hu2 ha1 hb1
  go_wp2_with fail
  refine (Take_any _ 10 _ w2 ha2 (by decide)).mono ?_
  rintro e w3 hp
  obtain ⟨rfl, ha3, hu3⟩ := take_det (k := 1) (m0 := 1) hp (by decide) (by decide) (fr_iff.2 (by decide)) (fun m' h => by
    obtain rfl : m' = 0 := by omega
    rw [fr_iff]; decide)
  have hb3 := hu3.below hb2 (Nat.le_refl _)
  clear hp hu3 ha2 hb2
  go_wp2_with fail
  refine (Give_any _ 10 0 _ w3 ha3 (by decide)).mono ?_
  rintro e w4 ⟨er, f', rfl, her, hf', ha4, hu4⟩
  have hh : hasB 10 (fill (fill (fun _ => false) 0 1) 1 1) 0 = true := by decide
  rw [hh] at her hf'
  obtain rfl := her.out
  obtain rfl := hf'.out
  have hb4 := hu4.out.below hb3 (Nat.le_refl _)
  clear hh her hf' hu4 ha3 hb3
  go_wp2_with fail
  refine (TakeRun_any _ 10 2 _ w4 ha4.out (by decide) (by decide)).mono ?_
  rintro e w5 hp
  obtain ⟨rfl, ha5, hu5⟩ := take_det (k := 2) (m0 := 2) hp (by decide) (by decide) (fr_iff.2 (by decide)) (fun m' h => by
    obtain rfl | rfl : m' = 0 ∨ m' = 1 := by omega
    all_goals rw [fr_iff]; decide)
  have hb5 := hu5.below hb4 (Nat.le_refl _)
  clear hp hu5 ha4 hb4
  go_wp2_with fail
  refine (Take_any _ 10 _ w5 ha5 (by decide)).mono ?_
  rintro e w6 hp
  obtain ⟨rfl, ha6, hu6⟩ := take_det (k := 1) (m0 := 0) hp (by decide) (by decide) (fr_iff.2 (by decide)) (fun m' h => absurd h (Nat.not_lt_zero _))
  have hb6 := hu6.below hb5 (Nat.le_refl _)
  have hc : cnt f5 10 = 4 := by decide
  have ha7 : Alc0 w6 w.heap.size 10 4 f5 := by
    have : Alc0 w6 w.heap.size 10 ((cnt f5 10 : Nat) : Int) f5 := ha6
    rw [hc] at this; exact this
  clear hp hu6 ha5 hb5 ha6 hc
  go_wp2_with fail
  refine (Bits_any _ 10 _ _ w6 ha7 (by decide)).mono ?_
  rintro e w7 ⟨xs, hl, hx, rfl, hB, hb7⟩
  have ha8 := ha7.below hb7
  obtain ⟨b0, off0, x0, hA0, _, hx0, hc0⟩ := hB.out.at_ (k := 0) (by decide)
  obtain ⟨b1, off1, x1, hA1, _, hx1, hc1⟩ := hB.out.at_ (k := 1) (by decide)
  cases hA0; cases hA1
  have y0 : x0.toNat = 15 := byte_of (by decide) fun r hr => by
    rw [hx 0 x0 hx0 r hr]
    match r, hr with
    | 0, _ => rfl
    | 1, _ => rfl
    | 2, _ => rfl
    | 3, _ => rfl
    | 4, _ => rfl
    | 5, _ => rfl
    | 6, _ => rfl
    | 7, _ => rfl
  have y1 : x1.toNat = 0 := byte_of (by decide) fun r hr => by
    rw [hx 1 x1 hx1 r hr]
    match r, hr with
    | 0, _ => rfl
    | 1, _ => rfl
    | 2, _ => rfl
    | 3, _ => rfl
    | 4, _ => rfl
    | 5, _ => rfl
    | 6, _ => rfl
    | 7, _ => rfl
  rw [y0] at hc0
  rw [y1] at hc1
  have hc0 : w7.cell? ⟨w6.heap.size, 0, none⟩ = some (.int .u8 15) := hc0
  have hc1 : w7.cell? ⟨w6.heap.size, 1, none⟩ = some (.int .u8 0) := hc1
  have hb07 := Lib.hid (hb6.trans (hb7.mono hb6.size))
  have K := Lib.hid (Left_any _ 10 4 _ w7 ha8 (by decide) (by decide) (by decide))
  simp only [show (10 + 7) / 8 = 2 from rfl]
  clear ha7 ha8 hx hl hx0 hx1 y0 y1 hB hb6 hb7
  go_wp2_with fail
  refine K.out.mono ?_
  rintro e w8 ⟨rfl, hb8⟩
  have hb08 := Lib.hid (hb07.out.trans (hb8.mono hb07.out.size))
  clear K hb8 hb07
  go_wp2
  go_ret
  exact ⟨rfl, hb08.out⟩
end Go.Proofs.Ytnifihdnpmacjaa
