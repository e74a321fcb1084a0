/-
  The walks of the laws SpanPoints, SpanNext.
-/
import Derived.Test.YtpinofeknilgfaaSpanN
namespace Go.Proofs.Ytpinofeknilgfaa
open Go.RowKit

theorem Point_good (k : ByteArray) (h : okK k = true) {v : ByteArray} (hv : pHi k = v) (w : World) : Calls Try.prog 22 #[.string k] w fun e w' =>
    e = .returned (.tuple #[.agg #[.string k, .string v], .int .i64 0]) ∧ Below w.heap.size w w' := by
  have K := Point_any k w
  unfold pV pE at K
  rw [if_pos h, if_pos h, hv] at K
  exact K

set_option maxHeartbeats 1000000 in
theorem W_SpanPoints (k : ByteArray) (_hk : k.size ≤ 140737488351232) (o : ByteArray) (_ho : o.size ≤ 140737488351232) (w : World) :
    Calls Try.prog 6 #[.string k, .string o] w fun e w' => e = .returned (.bool true) ∧ Below w.heap.size w w' := by
  clear _hk _ho
  cases hk : okK k
  · go_enter Try.func6, Try.ntmps6
    go_wp2_with fail
    refine (live_any w).mono ?_
    rintro e w1 ⟨rfl, hb1⟩
    go_wp2_with fail
    refine (Point_bad k hk _).mono ?_
    rintro e w2 ⟨rfl, hb2⟩
    unfold emp
    go_wp2_with (go_at_call 12; refine (CheckKey_b _ hk _).mono ?_; rintro e w' ⟨rfl, rfl⟩; dsimp only [cond])
    go_ret
    exact ⟨rfl, Below.alloc (hb1.trans (hb2.mono hb1.size)) (Nat.le_trans hb1.size hb2.size) _⟩
  · obtain ⟨h1, h2⟩ := point_has k k hk
    obtain ⟨h3, _⟩ := point_has k o hk
    obtain ⟨v, hv⟩ : ∃ v, pHi k = v := ⟨_, rfl⟩
    rw [hv] at h1 h2 h3
    have h1 : hasB k v k = true := by rw [h1]; simp
    have hko : (o.toList == k.toList) = decide (o.toList = k.toList) := by
      by_cases e : o.toList = k.toList <;> simp [e]
    obtain ⟨b, hb⟩ : ∃ b, decide (o.toList = k.toList) = b := ⟨_, rfl⟩
    rw [hb] at h3 hko
    have P := hid' (Point_good k hk hv)
    clear hb hv
    cases b
    all_goals
      go_enter Try.func6, Try.ntmps6
      go_wp2_with fail
      refine (live_any w).mono ?_
      rintro e w1 ⟨rfl, hb1⟩
      go_wp2_with fail
      refine (P.out _).mono ?_
      rintro e w2 ⟨rfl, hb2⟩
      go_wp2_with fail
      have hw := al_new w2 (.cells #[.string k, .string v] 23)
      have hbw : Below w.heap.size w _ := Below.alloc (hb1.trans (hb2.mono hb1.size)) (Nat.le_trans hb1.size hb2.size) (.cells #[.string k, .string v] 23)
      have hlt : w2.heap.size < (w2.alloc (.cells #[.string k, .string v] 23)).heap.size := by simp
      generalize World.alloc w2 _ = w3 at hw hbw hlt ⊢
      obtain ⟨c0, c1, _, _⟩ := cells2 hw
      refine (Check_b k v h2 _).mono ?_
      rintro e w4 ⟨rfl, hb4⟩
      dsimp only [cond]
      have hw4 := blk_carry hw hb4 hlt
      obtain ⟨d0, d1, _, _⟩ := cells2 hw4
      have hbw4 := hbw.trans (hb4.mono hbw.size)
      go_wp2_with fail
      refine (Has_b k v k h1 _).mono ?_
      rintro e w5 ⟨rfl, hb5⟩
      have hw5 := blk_carry hw4 hb5 (Nat.lt_of_lt_of_le hlt hb4.size)
      obtain ⟨f0, f1, _, _⟩ := cells2 hw5
      have hbw5 := hid' (hbw4.trans (hb5.mono hbw4.size))
      clear hw hbw c0 c1 d0 d1 hb4 hb5 hb1 hb2 hbw4 hw4 hw5
    · go_wp2_with fail
      refine (Has_b k v o h3 _).mono ?_
      rintro e w6 ⟨rfl, hb6⟩
      go_wp2
      go_ret
      exact ⟨rfl, hbw5.out.trans (hb6.mono hbw5.out.size)⟩
    · go_wp2
      go_ret
      exact ⟨rfl, hbw5.out⟩

theorem next_facts (k o : ByteArray) (hk : okK k = true) (ho : okK o = true) : (lt o k || eqS o k || (!(em (pHi k)) && !(lt o (pHi k)))) = true ∧ (em (pHi k) || lt k (pHi k)) = true := by
  obtain ⟨h1, h2⟩ := point_has k o hk
  obtain ⟨h3, _⟩ := point_has k k hk
  generalize pHi k = v at *
  unfold hasB belowB at h1 h3
  rw [h2, ho, show (lt k o || eqS k o) = !(lt o k) from leq_not k o] at h1
  rw [h2, hk] at h3
  have h5 : (lt k k || eqS k k) = true := by simp [eqS]
  rw [h5] at h3
  have hd : decide (o.toList = k.toList) = eqS o k := by
    unfold eqS
    by_cases e : o.toList = k.toList <;> simp [e]
  rw [hd] at h1
  have h6 : (decide (k.toList = k.toList)) = true := by simp
  rw [h6] at h3
  refine ⟨?_, by simpa using h3⟩
  clear h3 h5 hd h6
  revert h1
  generalize lt o k = a
  generalize eqS o k = b
  generalize em v = c
  generalize lt o v = d
  revert a b c d
  decide

set_option maxHeartbeats 1000000 in
theorem W_SpanNext (k : ByteArray) (_hk : k.size ≤ 140737488351232) (o : ByteArray) (_ho : o.size ≤ 140737488351232) (w : World) :
    Calls Try.prog 10 #[.string k, .string o] w fun e w' => e = .returned (.bool true) ∧ Below w.heap.size w w' := by
  clear _hk _ho
  cases hk : okK k
  · go_enter Try.func10, Try.ntmps10
    go_wp2_with fail
    refine (live_any w).mono ?_
    rintro e w1 ⟨rfl, hb1⟩
    go_wp2_with fail
    refine (Point_bad k hk _).mono ?_
    rintro e w2 ⟨rfl, hb2⟩
    unfold emp
    go_wp2
    go_ret
    exact ⟨rfl, Below.alloc (hb1.trans (hb2.mono hb1.size)) (Nat.le_trans hb1.size hb2.size) _⟩
  · cases ho : okK o
    · have P := hid' (Point_good k hk rfl)
      go_enter Try.func10, Try.ntmps10
      go_wp2_with fail
      refine (live_any w).mono ?_
      rintro e w1 ⟨rfl, hb1⟩
      go_wp2_with fail
      refine (P.out _).mono ?_
      rintro e w2 ⟨rfl, hb2⟩
      go_wp2_with (go_at_call 12; refine (CheckKey_b _ ho _).mono ?_; rintro e w' ⟨rfl, rfl⟩; dsimp only [cond])
      go_ret
      exact ⟨rfl, Below.alloc (hb1.trans (hb2.mono hb1.size)) (Nat.le_trans hb1.size hb2.size) _⟩
    · obtain ⟨h1, h2⟩ := next_facts k o hk ho
      obtain ⟨v, hv⟩ : ∃ v, pHi k = v := ⟨_, rfl⟩
      rw [hv] at h1 h2
      have P := hid' (Point_good k hk hv)
      clear hv
      have t1 : (k.toList == k.toList) = true := by simp
      have c1 : (Op.bytesLess o.toList k.toList || o.toList == k.toList) = (lt o k || eqS o k) := rfl
      have c2 : v.toList.isEmpty = em v := rfl
      have c3 : Op.bytesLess o.toList v.toList = lt o v := rfl
      have c4 : (Op.bytesLess v.toList k.toList || v.toList == k.toList) = !(lt k v) := leq_not v k
      generalize (lt o k || eqS o k) = p at h1 c1
      generalize lt o v = q at h1 c3
      generalize em v = r at h1 h2 c2
      generalize lt k v = s at h2 c4
      cases p <;> cases q <;> cases r <;> cases s <;> first | (exact absurd h1 (by decide)) | (exact absurd h2 (by decide)) | skip
      all_goals
        simp only [Bool.not_true, Bool.not_false] at c4
        clear h1 h2
        go_enter Try.func10, Try.ntmps10
        go_wp2_with fail
        refine (live_any w).mono ?_
        rintro e w1 ⟨rfl, hb1⟩
        go_wp2_with fail
        refine (P.out _).mono ?_
        rintro e w2 ⟨rfl, hb2⟩
        go_wp2_with (go_at_call 12; refine (CheckKey_b _ ho _).mono ?_; rintro e w' ⟨rfl, rfl⟩; dsimp only [cond])
        go_ret
        exact ⟨rfl, Below.alloc (hb1.trans (hb2.mono hb1.size)) (Nat.le_trans hb1.size hb2.size) _⟩
end Go.Proofs.Ytpinofeknilgfaa
