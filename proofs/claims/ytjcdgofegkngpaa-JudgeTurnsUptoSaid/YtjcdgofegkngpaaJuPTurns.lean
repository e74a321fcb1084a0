/-
  Two that are decided side by side, and touch nothing in common, turned: the law's value.
  Conditions: none.
-/
import Derived.Test.YtjcdgofegkngpaaJuL
import Derived.Test.YtjcdgofegkngpaaJuF
import Derived.Test.YtjcdgofegkngpaaJTurns
import Derived.Test.YtjcdgofegkngpaaKu
namespace Go.Proofs.Ytjcdgofegkngpaa
set_option linter.unusedVariables false
set_option linter.unusedSimpArgs false
open Go.RowKit
theorem jkey_iff {x y : SeenT} : jkey y = jkey x ↔ y.xClient = x.xClient ∧ ((y.xReq : Nat) : Int) = ((x.xReq : Nat) : Int) := by
  unfold jkey
  constructor
  · intro h
    injection h with h1 h2
    exact ⟨h1, by rw [h2]⟩
  · intro h
    rw [h.1, Int.ofNat.inj h.2]
/-- the operations of the last one that asks for a request -/
def lastop (a : SeenT) : List SeenT → List OpD → List OpD
  | [], X => X
  | x :: q, X => lastop a q (if x.xKind = 1 ∧ jkey x = jkey a then x.xOps.ls else X)
theorem tu_L0 (l0 : List SeenT) (p1 : Int) (r : Bool) (P : List PairD) (a b : SeenT) : ∀ (q : List SeenT) (X Y : List OpD), w23_JudgeTurns_L0 l0 p1 r P a b q X Y = (lastop a q X, lastop b q Y)
  | [], X, Y => rfl
  | x :: q, X, Y => by
    unfold w23_JudgeTurns_L0 lastop
    simp only [bnd_eq, jkey_iff, tu_L0 l0 p1 r P a b q]
    have tf : ∀ p : Prop, p = True ∨ p = False := fun p => (Classical.em p).elim (fun h => .inl (eq_true h)) (fun h => .inr (eq_false h))
    rcases tf (x.xKind = 1) with h1 | h1
    · rcases tf (x.xClient = a.xClient) with h2 | h2 <;> rcases tf (((x.xReq : Nat) : Int) = ((a.xReq : Nat) : Int)) with h3 | h3 <;> rcases tf (x.xClient = b.xClient) with h4 | h4 <;> rcases tf (((x.xReq : Nat) : Int) = ((b.xReq : Nat) : Int)) with h5 | h5 <;> simp only [h1, h2, h3, h4, h5, if_true, if_false, and_true, true_and, and_false, false_and, and_self]
    · simp only [h1, if_false, false_and]
theorem lastop_no (a : SeenT) : ∀ (q : List SeenT) (X : List OpD), (∀ x ∈ q, x.xKind = 1 → jkey x ≠ jkey a) → lastop a q X = X
  | [], X, _ => rfl
  | x :: q, X, h => by
    unfold lastop
    rw [if_neg (fun e => h x (.head _) e.1 e.2)]
    exact lastop_no a q X fun y hy => h y (.tail _ hy)
theorem lastop_in (a : SeenT) : ∀ (q : List SeenT) (X : List OpD), (∃ x ∈ q, x.xKind = 1 ∧ jkey x = jkey a) → ∃ x ∈ q, x.xKind = 1 ∧ jkey x = jkey a ∧ lastop a q X = x.xOps.ls
  | [], X, h => by obtain ⟨x, hx, _⟩ := h; cases hx
  | x :: q, X, h => by
    unfold lastop
    by_cases hq : ∃ x ∈ q, x.xKind = 1 ∧ jkey x = jkey a
    · obtain ⟨y, g1, g2⟩ := lastop_in a q (if x.xKind = 1 ∧ jkey x = jkey a then x.xOps.ls else X) hq
      exact ⟨y, .tail _ g1, g2⟩
    · obtain ⟨y, g1, g2⟩ := h
      rcases List.mem_cons.1 g1 with rfl | g1
      · refine ⟨y, .head _, g2.1, g2.2, ?_⟩
        rw [if_pos g2]
        exact lastop_no a q _ fun z hz h1 h2 => hq ⟨z, hz, h1, h2⟩
      · exact absurd ⟨y, g1, g2⟩ hq
/-- it is what was seen of the request -/
theorem lastop_fate {a : SeenT} {l : List SeenT} {t : List PairD × JM} {v : fateT} (h : jrun l [] [] = .inl t) (hv : mget t.2 (jkey a) = some v) : lastop a l [] = v.xops.ls := by
  obtain ⟨x, g1, g2, g3, g4⟩ := lastop_in a l [] (fate_from h hv rfl)
  obtain ⟨u, k1, k2⟩ := fate_asked h g1 g2
  rw [g3, hv] at k1
  rw [g4, ← k2, ← Option.some.inj k1]
theorem rspan_ok {o : OpD} (h : op_CheckOp o = 0) : r04_Span o = (spn o, 0) := by
  have hk := co_kind h
  unfold r04_Span spn
  rw [bnd_eq, ← co_eq, if_pos h]
  by_cases h3 : o.xKind ≤ 3
  · have hkk := co_key h (by omega)
    rw [if_pos h3, if_pos (ne_len.2 hkk.1), bnd_eq, rp_ok hkk]
  · rw [if_neg h3, if_neg (by rw [co_range_key h (by omega)]; simp)]
theorem rlocks_L : ∀ (l : List OpD) (r : List LockD), (∀ o ∈ l, op_CheckOp o = 0) → r04_Locks_L0 l r = r ++ l.map fun o => LockD.mk (spn o) (r04_Writes o)
  | [], r, _ => by simp [r04_Locks_L0]
  | x :: q, r, h => by
    rw [r04_Locks_L0, bnd_eq, bnd_eq, rspan_ok (h x (.head _)), rlocks_L q _ fun o ho => h o (.tail _ ho)]
    simp
theorem rlocks_ok {l : List OpD} (h : ∀ o ∈ l, op_CheckOp o = 0) : (r04_Locks l).1 = l.map fun o => LockD.mk (spn o) (r04_Writes o) := by
  unfold r04_Locks
  simp only [bnd_eq, ← ce_eq]
  rw [if_pos (ce_0.2 h), rlocks_L l [] h, List.nil_append]
theorem rmt {r s : RangeD} (h : M.M r.xLo r.xHi s.xLo s.xHi) : (r02_Meet r s).2 = true := by
  obtain ⟨h1, h2, h3⟩ := h
  have hmx : maxL r.xLo s.xLo = M.mx r.xLo s.xLo := rfl
  have hls : (if r02_below s.xHi r.xHi = true then s.xHi else r.xHi) = M.ls r.xHi s.xHi := by
    unfold r02_below M.ls
    by_cases g1 : s.xHi = []
    · rw [g1]; simp
    · by_cases g2 : r.xHi = []
      · rw [g2]; simp [g1]
      · by_cases g3 : s.xHi < r.xHi <;> simp [g1, g2, g3]
  unfold r02_Meet
  simp only [bnd_eq, hmx]
  rw [if_pos (rc_R.2 h1), if_pos (rc_R.2 h2)]
  have hls' : (if r02_below s.xHi r.xHi = true then s.xHi else r.xHi) = M.ls r.xHi s.xHi := hls
  rw [hls']
  unfold M.B at h3
  by_cases g : M.ls r.xHi s.xHi = []
  · rw [if_neg (by simp [g])]
  · rw [if_pos g]
    have := h3.resolve_left g
    rw [if_neg (fun q => (k_nlt.2 q) this)]
theorem tu_L2 (r : Bool) (x : LockD) : ∀ q : List LockD, w23_JudgeTurns_L2 r x q = .inr r ∨ (w23_JudgeTurns_L2 r x q = .inl () ∧ ∀ y ∈ q, ¬ (r02_Meet x.xRange y.xRange).2 = true)
  | [] => .inr ⟨rfl, fun y h => (by cases h)⟩
  | y :: q => by
    unfold w23_JudgeTurns_L2
    simp only [bnd_eq]
    by_cases h : (r02_Meet x.xRange y.xRange).2 = true
    · rw [if_pos h]; exact .inl rfl
    · rw [if_neg h]
      rcases tu_L2 r x q with g | ⟨g1, g2⟩
      · exact .inl g
      · refine .inr ⟨g1, fun z hz => ?_⟩
        rcases List.mem_cons.1 hz with rfl | hz
        · exact h
        · exact g2 z hz
theorem tu_L1 (l0 : List SeenT) (p1 : Int) (r : Bool) (P : List PairD) (a b : SeenT) (r2 : List LockD) : ∀ q : List LockD, w23_JudgeTurns_L1 l0 p1 r P a b r2 q = .inr r ∨ (w23_JudgeTurns_L1 l0 p1 r P a b r2 q = .inl () ∧ ∀ x ∈ q, ∀ y ∈ r2, ¬ (r02_Meet x.xRange y.xRange).2 = true)
  | [] => .inr ⟨rfl, fun y h => (by cases h)⟩
  | x :: q => by
    unfold w23_JudgeTurns_L1
    rcases tu_L2 r x r2 with g | ⟨g1, g2⟩
    · rw [g]; exact .inl rfl
    · rw [g1]
      rcases tu_L1 l0 p1 r P a b r2 q with k | ⟨k1, k2⟩
      · exact .inl k
      · refine .inr ⟨k1, fun z hz => ?_⟩
        rcases List.mem_cons.1 hz with rfl | hz
        · exact g2
        · exact k2 z hz
theorem two_at {α : Type} {l : List α} {i : Nat} (h : i + 1 < l.length) : ∃ pre a b post, l = pre ++ a :: b :: post ∧ pre.length = i := by
  refine ⟨List.take i l, l[i], l[i + 1], List.drop (i + 2) l, ?_, by rw [List.length_take]; omega⟩
  have h2 : List.drop (i + 1) l = l[i + 1] :: List.drop (i + 2) l := List.drop_eq_getElem_cons h
  have h1 : List.drop i l = l[i] :: List.drop (i + 1) l := List.drop_eq_getElem_cons (by omega)
  rw [← h2, ← h1, List.take_append_drop]
/-- the two steps turned -/
theorem turned {pre post : List SeenT} {a b : SeenT} {t : List PairD × JM} (ha : a.xKind = 2) (hb : b.xKind = 2) (h : jrun (pre ++ a :: b :: post) [] [] = .inl t)
    (hd : ∀ x ∈ lastop a (pre ++ a :: b :: post) [], ∀ y ∈ lastop b (pre ++ a :: b :: post) [], op_CheckOp x = 0 → op_CheckOp y = 0 → apart x y) : ∃ u, jrun (pre ++ b :: a :: post) [] [] = .inl (t.1, u) := by
  have hall := h
  rw [jrun_app] at h
  cases h0 : jrun pre [] [] with
  | inr r => rw [h0] at h; cases h
  | inl s0 =>
    rw [h0] at h
    simp only at h
    have h1 : jrun (a :: b :: post) s0.1 s0.2 = .inl t := by
      cases g : jrun (a :: b :: post) s0.1 s0.2 with
      | inl u => rw [g] at h; exact h
      | inr r => obtain ⟨i, e⟩ := r; rw [g] at h; cases h
    obtain ⟨s1, a1, h2⟩ := jrun_in h1
    obtain ⟨s2, b1, h3⟩ := jrun_in h2
    obtain ⟨ya, a2, a3, a4, a5, a6, a7⟩ := jv_dec ha a1
    obtain ⟨yb, b2, b3, b4, b5, b6, b7⟩ := jv_dec hb b1
    have hne : jkey a ≠ jkey b := fun e => by
      rw [mget_put, if_pos e, a7] at b2
      have := Option.some.inj b2
      rw [← this] at b3
      exact b3 rfl
    rw [mget_put, if_neg hne] at b2
    obtain ⟨va, f1, f2⟩ := fate_keep h1 a2
    obtain ⟨vb, f3, f4⟩ := fate_keep h1 b2
    have la := lastop_fate hall f1
    have lb := lastop_fate hall f3
    rw [f2] at la
    rw [f4] at lb
    rw [la, lb] at hd
    obtain ⟨m1, c1, e1⟩ := apply_zero a6
    obtain ⟨m2, c2, e2⟩ := apply_zero b6
    have hm : op_CheckMap s0.1 = 0 := m1
    obtain ⟨w1, w2⟩ := run_swap (X := ya.xops.ls) (Y := yb.xops.ls) hm c1 c2 fun x hx y hy => hd x hx y hy (c1 x hx) (c2 y hy)
    have e3 : op_Apply s0.1 yb.xops.ls = ((run s0.1 yb.xops.ls).1, (run s0.1 yb.xops.ls).2, 0) := apply_ok hm (ce_0.2 c2)
    have e4 : op_Apply (run s0.1 yb.xops.ls).1 ya.xops.ls = ((run (run s0.1 yb.xops.ls).1 ya.xops.ls).1, (run s0.1 ya.xops.ls).2, 0) := by
      rw [apply_ok (run_keep hm c2) (ce_0.2 c1), w2]
    rw [e1] at a7
    have s11 : s1.1 = (run s0.1 ya.xops.ls).1 := by rw [a7]
    rw [s11] at e2 b7
    rw [e2, w1] at b7
    have kb := jv_dec' (x := b) (p := s0.1) (y := yb) hb b5 b3 b4 (by rw [e3])
    have ka := jv_dec' (x := a) (p := (run s0.1 yb.xops.ls).1) (y := ya) ha a5 a3 a4 (by rw [e4])
    rw [e3] at kb
    rw [e4] at ka
    have h4 : jrun post s2.1 (mput (mput s0.2 (jkey a) s1.2) (jkey b) s2.2) = .inl t := h3
    rw [b7, a7] at h4
    obtain ⟨u, hu⟩ := jrun_ext (m' := mput (mput s0.2 (jkey b) (fateT.mk yb.xops true yb.xtold ⟨(run s0.1 yb.xops.ls).2⟩)) (jkey a) (fateT.mk ya.xops true ya.xtold ⟨(run s0.1 ya.xops.ls).2⟩)) (fun k => by
      rw [mget_put, mget_put, mget_put, mget_put]
      by_cases q1 : jkey a = k
      · rw [if_pos q1, if_pos q1, if_neg (fun q2 => hne (q1.trans q2.symm))]
      · rw [if_neg q1, if_neg q1]) h4
    refine ⟨u, ?_⟩
    have r1 : jrun (b :: a :: post) s0.1 s0.2 = .inl (t.1, u) := by
      refine jrun_to (by rw [b2]; exact kb) ?_
      refine jrun_to (s := ((run (run s0.1 yb.xops.ls).1 ya.xops.ls).1, fateT.mk ya.xops true ya.xtold ⟨(run s0.1 ya.xops.ls).2⟩)) ?_ hu
      rw [mget_put, if_neg (fun e => hne e.symm), a2]
      exact ka
    rw [jrun_app, h0]
    simp only
    rw [r1]
theorem dec_ok {pre post : List SeenT} {a : SeenT} {t : List PairD × JM} (ha : a.xKind = 2) (h : jrun (pre ++ a :: post) [] [] = .inl t) : ∀ o ∈ lastop a (pre ++ a :: post) [], op_CheckOp o = 0 := by
  have hall := h
  rw [jrun_app] at h
  cases h0 : jrun pre [] [] with
  | inr r => rw [h0] at h; cases h
  | inl s0 =>
    rw [h0] at h
    simp only at h
    have h1 : jrun (a :: post) s0.1 s0.2 = .inl t := by
      cases g : jrun (a :: post) s0.1 s0.2 with
      | inl u => rw [g] at h; exact h
      | inr r => obtain ⟨i, e⟩ := r; rw [g] at h; cases h
    obtain ⟨s1, a1, h2⟩ := jrun_in h1
    obtain ⟨ya, a2, a3, a4, a5, a6, a7⟩ := jv_dec ha a1
    obtain ⟨va, f1, f2⟩ := fate_keep h1 a2
    rw [lastop_fate hall f1, f2]
    exact (apply_zero a6).2.1
theorem T_JudgeTurns (l : List SeenT) (c : Int) : w23_JudgeTurns l c = true := by
  unfold w23_JudgeTurns
  simp only [bnd_eq, live_true, if_true]
  rw [replay_eq]
  cases h : jrun l [] [] with
  | inr r =>
    obtain ⟨i, e⟩ := r
    simp only
    rw [if_neg (jrun_err h).1]
  | inl t =>
    simp only
    rw [if_pos True.intro]
    by_cases hl : ((List.length l : Nat) : Int) < 2
    · rw [if_pos hl]
    rw [if_neg hl]
    by_cases hl2 : ((List.length l : Nat) : Int) > 100
    · rw [if_pos hl2]
    rw [if_neg hl2]
    have z1 := remI_bd c (n := List.length l - 1) (by omega)
    have z2 := remI_bd (((remI c ((List.length l) - 1)) + ((List.length l : Nat) : Int)) - 1) (n := List.length l - 1) (by omega)
    have z3 := remI_nn (a := ((remI c ((List.length l) - 1)) + ((List.length l : Nat) : Int)) - 1) (n := List.length l - 1) (by omega)
    generalize remI (((remI c ((List.length l) - 1)) + ((List.length l : Nat) : Int)) - 1) ((List.length l) - 1) = z at z2 z3 ⊢
    obtain ⟨i, rfl⟩ : ∃ i : Nat, z = ((i : Nat) : Int) := ⟨z.toNat, by omega⟩
    rw [show Int.toNat ((i : Nat) : Int) = i from rfl, show Int.toNat (((i : Nat) : Int) + 1) = i + 1 by omega]
    obtain ⟨pre, a, b, post, rfl, rfl⟩ := two_at (l := l) (i := i) (by omega)
    have ga : List.getD (pre ++ a :: b :: post) pre.length default = a := getMid pre a (b :: post)
    have gb : List.getD (pre ++ a :: b :: post) (pre.length + 1) default = b := by
      simp
    have gs : List.set (List.set (pre ++ a :: b :: post) pre.length b) (pre.length + 1) a = pre ++ b :: a :: post := by
      rw [setMid pre a b (b :: post)]
      simp
    rw [ga, gb]
    by_cases ha : a.xKind = 2
    · rw [if_pos ha]
      by_cases hb : b.xKind = 2
      · rw [if_pos hb, tu_L0]
        simp only
        rcases tu_L1 (pre ++ a :: b :: post) c true t.1 a b (r04_Locks (lastop b (pre ++ a :: b :: post) [])).1 (r04_Locks (lastop a (pre ++ a :: b :: post) [])).1 with g | ⟨g1, g2⟩
        · rw [g]; rfl
        · rw [g1]
          show (if (judge_Replay (List.set (List.set (pre ++ a :: b :: post) pre.length b) (pre.length + 1) a)).2 = 0 then r04_SameMap t.1 (judge_Replay (List.set (List.set (pre ++ a :: b :: post) pre.length b) (pre.length + 1) a)).1 else false) = true
          rw [gs]
          have hok : ∀ (x : SeenT), x = a ∨ x = b → ∀ o ∈ lastop x (pre ++ a :: b :: post) [], op_CheckOp o = 0 := by
            intro x hx
            rcases hx with rfl | rfl
            · exact dec_ok ha h
            · have e : pre ++ a :: x :: post = (pre ++ [a]) ++ x :: post := by simp
              rw [e] at h ⊢
              exact dec_ok hb h
          obtain ⟨u, hu⟩ := turned ha hb h fun x hx y hy cx cy => by
            refine apart_of cx cy fun hM => ?_
            have e1 := rlocks_ok (hok a (.inl rfl))
            have e2 := rlocks_ok (hok b (.inr rfl))
            rw [e1, e2] at g2
            exact g2 _ (List.mem_map.2 ⟨x, hx, rfl⟩) _ (List.mem_map.2 ⟨y, hy, rfl⟩) (rmt hM)
          rw [replay_eq, hu]
          simp [sm_refl]
      · rw [if_neg hb]
    · rw [if_neg ha]
theorem ju_bk (y : SeenD) : 1 ≤ bk y := Nat.le_add_right 1 _
theorem ju_len2 {a0 : Sv SeenD} {n : Nat} (hb : bk a0 + n ≤ 1048576) : List.length (List.map SeenD.abs a0.ls) ≤ 1048576 := by
  rw [List.length_map]
  have := Sv.bk_len (s := a0) ju_bk
  omega
theorem ju_ops {a0 : Sv SeenD} {n : Nat} (hb : bk a0 + n ≤ 1048576) : OpsLe (List.map SeenD.abs a0.ls) := fun x hx => by
  obtain ⟨y, hy, rfl⟩ := List.mem_map.1 hx
  have h1 := Sv.bk_mem hy
  have h2 : bk y.xOps ≤ bk y := Nat.le_trans (Nat.le_add_right _ _) (Nat.le_trans (Nat.le_add_left _ (bk y.xCode)) (Nat.le_trans (Nat.le_add_left _ (bk y.xReq)) (Nat.le_trans (Nat.le_add_left _ (bk y.xClient)) (Nat.le_add_left _ (bk y.xKind)))))
  have h3 := Sv.bk_len (s := y.xOps) (fun o : OpD => Nat.le_add_right 1 _)
  show List.length y.xOps.ls ≤ 1048576
  omega
end Go.Proofs.Ytjcdgofegkngpaa
