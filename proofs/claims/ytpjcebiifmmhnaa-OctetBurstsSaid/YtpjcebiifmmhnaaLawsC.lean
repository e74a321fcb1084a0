/-
  The walks of the laws OctetSums, OctetParts.
-/
import Derived.Test.YtpjcebiifmmhnaaLawsA
namespace Go.Proofs.Ytpjcebiifmmhnaa
open Go.RowKit

theorem hid' {p : Prop} (h : p) : Hid p := h

theorem idx_lt (a : Int) (n : Nat) (h0 : 0 < n) (h1 : n ≤ 100000000) : ∃ i : Nat, i < n ∧ (wrap64 (a.tmod (n : Int) + (n : Int))).tmod (n : Int) = (i : Int) := by
  have h2 : a.tmod (n : Int) < n := Int.tmod_lt_of_pos a (by omega)
  have h3 : -(n : Int) < a.tmod n := by
    rcases Int.le_total 0 a with ha | ha
    · have := Int.tmod_nonneg (b := (n : Int)) ha; omega
    · have h4 : (-a).tmod (n : Int) < n := Int.tmod_lt_of_pos (-a) (by omega)
      rw [Int.neg_tmod] at h4; omega
  have e : wrap64 (a.tmod (n : Int) + (n : Int)) = a.tmod (n : Int) + (n : Int) := by
    unfold wrap64; omega
  rw [e]
  have h5 : 0 ≤ (a.tmod (n : Int) + (n : Int)).tmod n := Int.tmod_nonneg _ (by omega)
  have h6 : (a.tmod (n : Int) + (n : Int)).tmod n < n := Int.tmod_lt_of_pos _ (by omega)
  exact ⟨((a.tmod (n : Int) + (n : Int)).tmod n).toNat, by omega, by omega⟩

/-- An owned row of bytes with an element at least: its block. -/
theorem own_pos {w : World} {base n : Nat} {e : TypeId} {v : Value} {xs : List UInt8} (h : w.ownsRow base e 1 v n (xs.map bv)) (hn : 0 < n) :
    ∃ g cap cur, v = .slice (some ⟨g, 0, none⟩) n cap ∧ base ≤ g ∧ n ≤ cap ∧ cap ≤ maxLen ∧ w.heap[g]? = some (.cells cur e (0, 0)) ∧ cur.toList.take n = xs.map bv ∧ g < w.heap.size := by
  rcases h.2 with ⟨_, h0⟩ | ⟨g, cap, cur, rfl, hg1, hg, hcap, hcm, hcs, htake⟩
  · omega
  · exact ⟨g, cap, cur, rfl, hg1, hcap, hcm, hg, by simpa using htake, (Array.getElem?_eq_some_iff.1 hg).1⟩

theorem blk_get {w : World} {g t n : Nat} {cur : Array Value} {xs : List UInt8} (hg : w.heap[g]? = some (.cells cur t (0, 0))) (ht : cur.toList.take n = xs.map bv) {i : Nat} {x : UInt8} (hi : xs[i]? = some x) (hin : i < n) : w.cell? ⟨g, i, none⟩ = some (.int .u8 (x.toNat : Int)) := by
  rw [blk_cell hg, ← Array.getElem?_toList]
  have h1 : (cur.toList.take n)[i]? = some (bv x) := by rw [ht, List.getElem?_map, hi]; rfl
  rw [List.getElem?_take, if_pos hin] at h1
  exact h1

theorem sum_turned {xs : List UInt8} {i : Nat} {x y : UInt8} (hi : xs[i]? = some x) (hne : x.toNat ≠ y.toNat) : sum32 xs ≠ sum32 (xs.set i y) := by
  obtain ⟨h, rfl⟩ := List.getElem?_eq_some_iff.1 hi
  have hw := word_set xs i h y
  have hd : xs[i].toNat ^^^ y.toNat < 2 ^ 32 := Nat.lt_of_lt_of_le (Nat.xor_lt_two_pow (n := 8) xs[i].toNat_lt y.toNat_lt) (by decide)
  have := sum_differs (xs := xs) (ys := xs.set i y) (by simp) hw hd (by omega)
  intro e
  exact hne (x_eq.1 (this.1 e))

theorem blk_put {w : World} {g t n : Nat} {cur : Array Value} {xs : List UInt8} (hg : w.heap[g]? = some (.cells cur t (0, 0))) (ht : cur.toList.take n = xs.map bv) (i : Nat) (y : UInt8) :
    (w.setCell ⟨g, i, none⟩ (bv y)).heap[g]? = some (.cells (cur.setIfInBounds i (bv y)) t (0, 0)) ∧ (cur.setIfInBounds i (bv y)).toList.take n = (xs.set i y).map bv := by
  refine ⟨blk_set hg i _, ?_⟩
  rw [Array.toList_setIfInBounds, List.take_set, ht, List.map_set]

theorem blk_byt {w : World} {g t n : Nat} {cur : Array Value} {xs : List UInt8} (hg : w.heap[g]? = some (.cells cur t (0, 0))) (ht : cur.toList.take n = xs.map bv) (hl : xs.length = n) : Byt w w.heap.size (some ⟨g, 0, none⟩) n xs := by
  refine ⟨by simpa using hl, fun _ => ⟨g, 0, rfl, (Array.getElem?_eq_some_iff.1 hg).1, fun j hj => ?_⟩⟩
  have hj' : j < xs.length := by simpa using hj
  rw [Nat.zero_add, blk_get hg ht (List.getElem?_eq_getElem hj') (by omega)]
  simp [bv]

set_option maxHeartbeats 2000000 in
set_option maxRecDepth 100000 in
theorem W_OctetParts (A : Option Addr) (len cap : Nat) (xs : List UInt8) (w : World) : Byt w w.heap.size A len xs → len ≤ cap → cap * 1 ≤ 140737488351232 → ∀ (at_ : Int), -9223372036854775808 ≤ at_ → at_ ≤ 9223372036854775807 → ∀ (by_ : Nat), by_ < 256 →
    Calls Try.prog 11 #[.slice A len cap, .int .i64 at_, .int .u8 (by_ : Int)] w fun e w' => e = .returned (.bool true) ∧ Below w.heap.size w w' := by
  intro hx0 hlc0 hcap0 at_ ha1 ha2 by_ hby
  have hx := Lib.hid hx0
  clear hx0 hcap0
  by_cases hz : len = 0 ∨ 100000 < len ∨ by_ = 0
  · rcases hz with hz | hz | hz
    · subst hz
      go_enter Try.func11, Try.ntmps11
      go_wp2_with fail
      refine (live_any w).mono ?_
      rintro e w1 ⟨rfl, hb1⟩
      go_wp2
      go_ret
      exact ⟨rfl, hb1⟩
    · have t1 : ((len : Int) == 0) = false := by simp; omega
      go_enter Try.func11, Try.ntmps11
      go_wp2_with fail
      refine (live_any w).mono ?_
      rintro e w1 ⟨rfl, hb1⟩
      go_wp2
      go_ret
      exact ⟨rfl, hb1⟩
    · subst hz
      go_enter Try.func11, Try.ntmps11
      go_wp2_with fail
      refine (live_any w).mono ?_
      rintro e w1 ⟨rfl, hb1⟩
      go_wp2
      all_goals go_ret
      all_goals exact ⟨rfl, hb1⟩
  · have hn0 : 0 < len := by omega
    have hn1 : len ≤ 100000 := by omega
    have hb0 : 0 < by_ := by omega
    clear hz
    have t1 : ((len : Int) == 0) = false := by simp; omega
    have t2 : ((by_ : Int) == 0) = false := by simp; omega
    go_enter Try.func11, Try.ntmps11
    go_wp2_with fail
    refine (live_any w).mono ?_
    rintro e w1 ⟨rfl, hb1⟩
    have hX1 := hx.out.below hb1
    go_wp2_with (at_builtin; refine wp_app rfl _ _ _ _ rfl elB rfl (World.ownsRow_nil _ w1.heap.size _ _) rfl (src_rd Try.underlying23 hX1 bv_one) ?c1 ?c2 ?c3 ?_)
    case c1 => unfold maxLen; omega
    case c2 => omega
    case c3 => exact Nat.le_refl _
    intro v w2 hown2 hb2
    obtain ⟨g, cap2, cur, rfl, hg1, hcap2, hcm, hg, htake, hgs⟩ := own_pos hown2 hn0
    have hl := hx.out.len
    obtain ⟨i, hi, hidx⟩ := idx_lt at_ len hn0 (by omega)
    obtain ⟨x, hxi⟩ : ∃ x, xs[i]? = some x := ⟨_, List.getElem?_eq_getElem (by omega)⟩
    have hc := blk_get hg htake hxi hi
    have hf := blk_frozen hg i
    have hxor := u8_xor_nat x.toNat by_ x.toNat_lt hby
    have hy : x.toNat ^^^ by_ < 256 := Nat.xor_lt_two_pow (n := 8) x.toNat_lt hby
    obtain ⟨y, hye⟩ : ∃ y : UInt8, y.toNat = x.toNat ^^^ by_ := ⟨UInt8.ofNat _, ofNat_toNat hy⟩
    have hne : x.toNat ≠ y.toNat := by
      rw [hye]
      intro e
      have : x.toNat ^^^ (x.toNat ^^^ by_) = 0 := x_eq.2 e
      rw [← Nat.xor_assoc, Nat.xor_self, Nat.zero_xor] at this
      omega
    rw [← hye] at hxor
    obtain ⟨hg3, ht3⟩ := blk_put hg htake i y
    have hb3 : Below w1.heap.size w1 (w2.setCell ⟨g, i, none⟩ (bv y)) := hb2.setCell hg1 _
    have hb03 : Below w.heap.size w (w2.setCell ⟨g, i, none⟩ (bv y)) := hb1.trans (hb3.mono hb1.size)
    have hst := sum_turned hxi hne
    have hX3 : Byt _ _ _ _ _ := (hx.out.below hb03).more hb03.size
    have hY3 : Byt _ _ _ _ _ := blk_byt hg3 ht3 (by simpa using hl)
    have K1 := Sum_any cap len A xs _ (by unfold maxLen; omega) hX3
    have K2 := fun W (hW : Below (w2.setCell ⟨g, i, none⟩ (bv y)).heap.size (w2.setCell ⟨g, i, none⟩ (bv y)) W) => Sum_any cap2 len (some ⟨g, 0, none⟩) (xs.set i y) W (by unfold maxLen; omega) ((hY3.below hW).more hW.size)
    have K1 := hid' K1
    have K2 := hid' K2
    have hb03 := hid' hb03
    have hlt1 := sum_lt xs
    have hlt2 := sum_lt (xs.set i y)
    have t3 : (((sum32 xs : Nat) : Int) != ((sum32 (xs.set i y) : Nat) : Int)) = true := by rw [bne_iff_ne]; omega
    clear hown2 hg htake hX1 hb2 hy hxi hye hl hne hX3 hY3 hg3 ht3 hb3 hst hlt1 hlt2 hx
    generalize sum32 xs = s1 at K1 t3
    generalize sum32 (xs.set i y) = s2 at K2 t3
    go_wp2_with fail
    refine (show Calls _ _ _ _ _ from K1.out).mono ?_
    rintro e w4 ⟨rfl, hb4⟩
    go_wp2_with fail
    refine (K2.out _ hb4).mono ?_
    rintro e w5 ⟨rfl, hb5⟩
    go_wp2
    go_ret
    exact ⟨by first | rfl | exact ret_b t3, hb03.out.trans ((hb4.trans (hb5.mono hb4.size)).mono hb03.out.size)⟩
end Go.Proofs.Ytpjcebiifmmhnaa
