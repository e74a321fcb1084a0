/-
  The walk of the law SpanParts.
-/
import Derived.Test.YtpinofeknilgfaaSpanN
namespace Go.Proofs.Ytpinofeknilgfaa
open Go.RowKit

theorem bk_lt {w : World} {g : Nat} {o : Obj} (h : w.heap[g]? = some o) : g < w.heap.size := (Array.getElem?_eq_some_iff.1 h).1
theorem bk_call {w w' : World} {g : Nat} {o : Obj} (h : w.heap[g]? = some o) (hb : Below w.heap.size w w') : w'.heap[g]? = some o := (hb.block g (bk_lt h)).trans h
theorem bk_al {w : World} {g : Nat} {o : Obj} (h : w.heap[g]? = some o) (x : Obj) : (w.alloc x).heap[g]? = some o := (Below.heap_alloc w x g (bk_lt h)).trans h

theorem Meet_t (a b c d : ByteArray) {m l : ByteArray} (h : meetB a b c d = true) (hm : mxS a c = m) (hl : lesserB b d = l) (w : World) : Calls Try.prog 18 #[.agg #[.string a, .string b], .agg #[.string c, .string d]] w fun e w' =>
    e = .returned (.tuple #[.agg #[.string m, .string l], .bool true]) ∧ Below w.heap.size w w' := Meet_lit a b c d m l true h hm hl w
theorem Meet_f (a b c d : ByteArray) (h : meetB a b c d = false) (w : World) : Calls Try.prog 18 #[.agg #[.string a, .string b], .agg #[.string c, .string d]] w fun e w' =>
    e = .returned (.tuple #[.agg #[.string ⟨#[]⟩, .string ⟨#[]⟩], .bool false]) ∧ Below w.heap.size w w' := Meet_lit a b c d _ _ false h rfl rfl w

theorem meet_assoc {a b c d e f : ByteArray} (h1 : meetB a b c d = true) (h2 : meetB c d e f = true) : meetB (mxS a c) (lesserB b d) e f = meetB a b (mxS c e) (lesserB d f) := by
  refine bool_ext (meetB_iff ..) (meetB_iff ..) ?_
  rw [mxS_list, lesserB_list, mxS_list, lesserB_list]
  exact M.parts ((meetB_iff ..).1 h1) ((meetB_iff ..).1 h2)

set_option maxHeartbeats 2000000 in
theorem W_SpanParts (a b : ByteArray) (_ : a.size ≤ maxLen) (_ : b.size ≤ maxLen) (c d : ByteArray) (_ : c.size ≤ maxLen) (_ : d.size ≤ maxLen) (e f : ByteArray) (_ : e.size ≤ maxLen) (_ : f.size ≤ maxLen) (w : World) :
    Calls Try.prog 8 #[.agg #[.string a, .string b], .agg #[.string c, .string d], .agg #[.string e, .string f]] w fun e w' => e = .returned (.bool true) ∧ Below w.heap.size w w' := by
  rename_i s1 s2 s3 s4 s5 s6
  clear s1 s2 s3 s4 s5 s6
  obtain ⟨m1, hm1⟩ : ∃ m, mxS a c = m := ⟨_, rfl⟩
  obtain ⟨l1, hl1⟩ : ∃ m, lesserB b d = m := ⟨_, rfl⟩
  obtain ⟨m2, hm2⟩ : ∃ m, mxS c e = m := ⟨_, rfl⟩
  obtain ⟨l2, hl2⟩ : ∃ m, lesserB d f = m := ⟨_, rfl⟩
  cases h1 : meetB a b c d
  · go_enter Try.func8, Try.ntmps8
    go_wp2_with fail
    refine (live_any _).mono ?_
    rintro e_ w1 ⟨rfl, hb1⟩
    have a1 := bk_call (al3_0 w _ _ _) hb1
    have b1 := bk_call (al3_1 w _ _ _) hb1
    have c1 := bk_call (al3_2 w _ _ _) hb1
    have f1 := (al3_below w _ _ _).trans (hb1.mono (by simp <;> omega))
    obtain ⟨x1, x2, _, _⟩ := cells2 a1
    obtain ⟨y1, y2, _, _⟩ := cells2 b1
    go_wp2_with fail
    refine (Meet_f _ _ _ _ h1 _).mono ?_
    rintro e_ w2 ⟨rfl, hb2⟩
    clear x1 x2 y1 y2
    have b2 := bk_call b1 hb2
    have c2 := bk_call c1 hb2
    have f2 := f1.trans (hb2.mono f1.size)
    clear hb1 hb2 a1 b1 c1 f1
    have q1 := bk_lt b2
    have q2 := bk_lt c2
    obtain ⟨y1, y2, _, _⟩ := cells2 b2
    obtain ⟨z1, z2, _, _⟩ := cells2 c2
    cases h2 : meetB c d e f
    · go_wp2_with fail
      refine (Meet_f _ _ _ _ h2 _).mono ?_
      rintro e_ w3 ⟨rfl, hb3⟩
      have f3 := hid' ((f2.alloc f2.size _).trans (hb3.mono (by simp; exact Nat.le_succ_of_le f2.size)))
      go_wp2
      go_ret
      exact ⟨rfl, f3.out.alloc f3.out.size _⟩
    · go_wp2_with fail
      refine (Meet_t _ _ _ _ h2 hm2 hl2 _).mono ?_
      rintro e_ w3 ⟨rfl, hb3⟩
      have f3 := hid' ((f2.alloc f2.size _).trans (hb3.mono (by simp; exact Nat.le_succ_of_le f2.size)))
      go_wp2
      go_ret
      exact ⟨rfl, f3.out.alloc f3.out.size _⟩
  · cases h2 : meetB c d e f
    · go_enter Try.func8, Try.ntmps8
      go_wp2_with fail
      refine (live_any _).mono ?_
      rintro e_ w1 ⟨rfl, hb1⟩
      have a1 := bk_call (al3_0 w _ _ _) hb1
      have b1 := bk_call (al3_1 w _ _ _) hb1
      have c1 := bk_call (al3_2 w _ _ _) hb1
      have f1 := (al3_below w _ _ _).trans (hb1.mono (by simp <;> omega))
      obtain ⟨x1, x2, _, _⟩ := cells2 a1
      obtain ⟨y1, y2, _, _⟩ := cells2 b1
      go_wp2_with fail
      refine (Meet_t _ _ _ _ h1 hm1 hl1 _).mono ?_
      rintro e_ w2 ⟨rfl, hb2⟩
      clear x1 x2 y1 y2
      have b2 := bk_call b1 hb2
      have c2 := bk_call c1 hb2
      have f2 := f1.trans (hb2.mono f1.size)
      clear hb1 hb2 a1 b1 c1 f1
      have q1 := bk_lt b2
      have q2 := bk_lt c2
      obtain ⟨y1, y2, _, _⟩ := cells2 b2
      obtain ⟨z1, z2, _, _⟩ := cells2 c2
      go_wp2_with fail
      refine (Meet_f _ _ _ _ h2 _).mono ?_
      rintro e_ w3 ⟨rfl, hb3⟩
      have f3 := hid' ((f2.alloc f2.size _).trans (hb3.mono (by simp; exact Nat.le_succ_of_le f2.size)))
      go_wp2
      go_ret
      exact ⟨rfl, f3.out.alloc f3.out.size _⟩
    · have h34 := meet_assoc h1 h2
      rw [hm1, hl1, hm2, hl2] at h34
      have hmm : mxS m1 e = mxS a m2 := ext_list (by rw [mxS_list, mxS_list, ← hm1, ← hm2, mxS_list, mxS_list, M.mx_assoc])
      have hll : lesserB l1 f = lesserB b l2 := ext_list (by rw [lesserB_list, lesserB_list, ← hl1, ← hl2, lesserB_list, lesserB_list, M.ls_assoc])
      obtain ⟨v, hv⟩ : ∃ v, meetB m1 l1 e f = v := ⟨_, rfl⟩
      have hv2 : meetB a b m2 l2 = v := by rw [← h34]; exact hv
      obtain ⟨m3, hm3⟩ : ∃ v, mxS m1 e = v := ⟨_, rfl⟩
      obtain ⟨l3, hl3⟩ : ∃ v, lesserB l1 f = v := ⟨_, rfl⟩
      have P3 := hid' (Meet_lit m1 l1 e f m3 l3 v hv hm3 hl3)
      have P4 := hid' (Meet_lit a b m2 l2 m3 l3 v hv2 (hmm ▸ hm3) (hll ▸ hl3))
      have H1 := hid' (Meet_lit a b c d m1 l1 true h1 hm1 hl1)
      have H2 := hid' (Meet_lit c d e f m2 l2 true h2 hm2 hl2)
      clear h34 hmm hll hv hv2 hm3 hl3 h1 h2 hm1 hl1 hm2 hl2
      obtain ⟨p, q, hpq⟩ : ∃ p q, (cond v (.agg #[.string m3, .string l3]) (.agg #[.string ⟨#[]⟩, .string ⟨#[]⟩]) : Value) = .agg #[.string p, .string q] := by
        cases v
        · exact ⟨_, _, rfl⟩
        · exact ⟨_, _, rfl⟩
      rw [hpq] at P3 P4
      clear hpq
      have tp : (p.toList == p.toList) = true := by simp
      have tq : (q.toList == q.toList) = true := by simp
      go_enter Try.func8, Try.ntmps8
      go_wp2_with fail
      refine (live_any _).mono ?_
      rintro e_ w1 ⟨rfl, hb1⟩
      have a1 := bk_call (al3_0 w _ _ _) hb1
      have b1 := bk_call (al3_1 w _ _ _) hb1
      have c1 := bk_call (al3_2 w _ _ _) hb1
      have f1 := (al3_below w _ _ _).trans (hb1.mono (by simp <;> omega))
      obtain ⟨x1, x2, _, _⟩ := cells2 a1
      obtain ⟨y1, y2, _, _⟩ := cells2 b1
      go_wp2_with fail
      refine (H1.out _).mono ?_
      rintro e_ w2 ⟨rfl, hb2⟩
      dsimp only [cond]
      clear x1 x2 y1 y2
      have a2 := bk_al (bk_call a1 hb2) (.cells #[.string m1, .string l1] 23)
      have b2 := bk_call b1 hb2
      have c2 := bk_call c1 hb2
      have c2' := bk_al c2 (.cells #[.string m1, .string l1] 23)
      have x2 := al_new w2 (.cells #[.string m1, .string l1] 23)
      have f2 := f1.trans (hb2.mono f1.size)
      have f2' := f2.alloc f2.size (.cells #[.string m1, .string l1] 23)
      clear hb1 hb2 a1 b1 c1 f1
      have q1 := bk_lt b2
      have q2 := bk_lt c2
      obtain ⟨y1, y2, _, _⟩ := cells2 b2
      obtain ⟨z1, z2, _, _⟩ := cells2 c2
      go_wp2_with fail
      clear y1 y2 z1 z2 q1 q2 b2 c2 f2
      refine (H2.out _).mono ?_
      rintro e_ w3 ⟨rfl, hb3⟩
      dsimp only [cond]
      have a3 := bk_call a2 hb3
      have c3 := bk_call c2' hb3
      have x3 := bk_call x2 hb3
      have f3 := f2'.trans (hb3.mono f2'.size)
      clear a2 c2' x2 f2' hb3
      have q1 := bk_lt c3
      have q2 := bk_lt x3
      obtain ⟨z1, z2, _, _⟩ := cells2 c3
      obtain ⟨y1, y2, _, _⟩ := cells2 x3
      have a3' := bk_al a3 (.cells #[.string m2, .string l2] 23)
      have x3' := al_new w3 (.cells #[.string m2, .string l2] 23)
      have f3' := f3.alloc f3.size (.cells #[.string m2, .string l2] 23)
      go_wp2_with fail
      clear z1 z2 y1 y2 q1 q2 c3 x3 a3 f3
      refine (P3.out _).mono ?_
      rintro e_ w4 ⟨rfl, hb4⟩
      have a4 := bk_call a3' hb4
      have x4 := bk_call x3' hb4
      have f4 := f3'.trans (hb4.mono f3'.size)
      clear a3' x3' f3' hb4
      have q1 := bk_lt a4
      have q2 := bk_lt x4
      obtain ⟨z1, z2, _, _⟩ := cells2 a4
      obtain ⟨y1, y2, _, _⟩ := cells2 x4
      have x4' := al_new w4 (.cells #[.string p, .string q] 23)
      have f4' := f4.alloc f4.size (.cells #[.string p, .string q] 23)
      go_wp2_with fail
      clear z1 z2 y1 y2 q1 q2 x4 a4 f4
      refine (P4.out _).mono ?_
      rintro e_ w5 ⟨rfl, hb5⟩
      have x5 := bk_call x4' hb5
      have f5 := hid' (f4'.trans (hb5.mono f4'.size))
      clear x4' f4' hb5
      have q2 := bk_lt x5
      obtain ⟨y1, y2, _, _⟩ := cells2 x5
      go_wp2
      all_goals go_ret
      all_goals exact ⟨by first | rfl | (cases v <;> rfl), f5.out.alloc f5.out.size _⟩
end Go.Proofs.Ytpinofeknilgfaa
