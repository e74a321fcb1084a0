/-
 judge: the document's answer, which may not be.
-/
import Derived.Test.YtjcdgofegkngpaaJuR
namespace Go.Proofs.Ytjcdgofegkngpaa
open Go.RowKit
set_option linter.unusedVariables false
set_option linter.unusedSectionVars false
set_option linter.unusedSimpArgs false
def r23_Judge_L0 (l0 : List SeenT) : Nat → Nat → Unit ⊕ (Int × Int)
  | 0, k21 => Sum.inl ()
  | q22 + 1, k21 => bnd (r23_wrong l0 ((k21 : Nat) : Int)) fun yr39 => if yr39 = 0 then r23_Judge_L0 l0 q22 (k21 + 1) else Sum.inr (((k21 : Nat) : Int), yr39)
def r23_Judge (l0 : List SeenT) : Int × Int :=
 lp (r23_Judge_L0 l0 l0.length 0) fun _ => ((-1), 0)
set_option maxRecDepth 100000 in
set_option maxHeartbeats 2000000 in
theorem r23_Judge_ok (w : World) (D : Nat → Prop) (A0 : Option Addr) (n0 c0 : Nat) (d0 : List SeenD) (l0 : List SeenT) (r0 : Int) (r1 : Int) (H : Own w D w []) (hd0 : List.map SeenD.abs d0 = l0) (hx0 : Ro w D fun w' => Rds w' 6 A0 n0 (List.flatMap SeenD.cells d0)) (hm0 : ∀ x ∈ d0, Ro w D (fun w' => Rds w' 6 x.xOps.A x.xOps.ls.length (List.flatMap OpD.cells x.xOps.ls)) ∧ (x.xOps.ls.length ≤ x.xOps.c ∧ x.xOps.ls.length ≤ 9223372036854775807) ∧ Ro w D (fun w' => Rds w' 3 x.xResults.A x.xResults.ls.length (List.flatMap ResultD.cells x.xResults.ls)) ∧ (x.xResults.ls.length ≤ x.xResults.c ∧ x.xResults.ls.length ≤ 9223372036854775807) ∧ (∀ y1 ∈ x.xResults.ls, Ro w D (fun w' => Rds w' 2 y1.xPairs.A y1.xPairs.ls.length (List.flatMap PairD.cells y1.xPairs.ls)) ∧ (y1.xPairs.ls.length ≤ y1.xPairs.c ∧ y1.xPairs.ls.length ≤ 9223372036854775807))) (hn0 : n0 = l0.length) (hl0 : l0.length ≤ 9223372036854775807) (hq0 : l0.length ≤ c0) (hh0 : l0.length ≤ 1000000000) (hr : r23_Judge l0 = (r0, r1)) :
    Calls Try.prog 10 #[.slice A0 n0 c0] w (Ret fun v w' => v = .tuple #[.int .i64 r0, .int .i64 r1] ∧ Own w D w' []) := by
 subst hn0
 have hdl0 := abs_len hd0
 refine Calls.body (args := [.slice A0 l0.length c0]) Try.func10 rfl rfl rfl ?_
 show Wp _ _ _ [(0, .slice A0 l0.length c0)] _ _
 refine sr (Az rfl (An rfl (Wp.seq (sr (Mz rfl (Kz (.int .i64 ((l0.length : Nat) : Int)) (Mn rfl (bo ?_))))))))
 have H23 : Own w D w [] := H.pk []
 obtain ⟨I27, hI28⟩ : ∃ q : Nat → World → Prop, q = fun (i : Nat) w' => Own w D w' [] ∧ (i ≤ l0.length ∧ RpAll i l0 ∧ r23_Judge_L0 l0 l0.length 0 = r23_Judge_L0 l0 (l0.length - i) i) := ⟨_, rfl⟩
 have dm29 : ∀ {k21 : Nat} {w' : World}, I27 k21 w' ↔ Own w D w' [] ∧ k21 ≤ l0.length ∧ RpAll k21 l0 ∧ r23_Judge_L0 l0 l0.length 0 = r23_Judge_L0 l0 (l0.length - k21) k21 := by intros; subst hI28; exact Iff.rfl
 refine Wp.loop (fun i : Nat => [(2, .int .i64 0), (3, .int .i64 0), (8, .int .i64 ((i : Nat) : Int)), (7, .int .i64 ((l0.length : Nat) : Int)), (0, .slice A0 l0.length c0)]) I27 (fun i => l0.length - i) 0 ⟨rfl, rfl, rfl, rfl, rfl, trivial⟩ (dm29.2 ⟨H23, by omega, by first | exact rp_zero | exact rp_next (by assumption) (by assumption) (by omega), rfl⟩) ?_
 rintro k21 w24 hf26
 show Wp _ _ _ [(2, .int .i64 0), (3, .int .i64 0), (8, .int .i64 ((k21 : Nat) : Int)), (7, .int .i64 ((l0.length : Nat) : Int)), (0, .slice A0 l0.length c0)] _ _
 obtain ⟨H25, hi31, hi32, hq30⟩ := dm29.1 hf26
 refine sr (Kz (.bool (decide (((k21 : Nat) : Int) < ((l0.length : Nat) : Int)))) (nt (Wp.seq ?_)))
 by_cases h33 : ((k21 : Nat) : Int) < ((l0.length : Nat) : Int)
 refine jT (dT h33) (sk (Wp.seq (bo (sr (Mz rfl (Ar rfl (Mz rfl (Mz rfl ?_))))))))
 obtain ⟨r39, hr40⟩ : ∃ q, r23_wrong l0 ((k21 : Nat) : Int) = q := ⟨_, rfl⟩
 obtain ⟨D34, HP35, ro36, bk37, rr38⟩ := Own.enter0 H25
 refine cl Try.call19 (r23_wrong_ok _ _ A0 l0.length c0 d0 l0 ((k21 : Nat) : Int) r39 HP35 hd0 (ro36 _ hx0) (fun x9 h9 => ⟨ro36 _ (hm0 x9 h9).1, (hm0 x9 h9).2.1, ro36 _ (hm0 x9 h9).2.2.1, (hm0 x9 h9).2.2.2.1, (fun y1 k1 => ⟨ro36 _ ((hm0 x9 h9).2.2.2.2 y1 k1).1, ((hm0 x9 h9).2.2.2.2 y1 k1).2⟩)⟩) rfl (by omega) (by first | omega | (simp only [List.length_take, List.length_drop]; omega) | exact Nat.le_refl _) (by omega) (by exact rp_all (by assumption)) hr40) ?_
 rintro _ w41 ⟨rfl, HQ42⟩
 have H43 := bk37 _ _ HQ42
 refine Ar rfl (Mz rfl (fw (.bool (decide (¬ (r39 = 0)))) (Yl.bool (e := !(decide (r39 = 0))) yk decide_not.symm) (nt ?_)))
 by_cases h44 : r39 = 0
 refine jF (dF (not_not_intro h44)) (Wp.skip (bN (Fin.then (Wp.region (fw (.int .i64 ((k21 + 1 : Nat) : Int)) (Yl.int (e := IntKind.i64.wrap (((k21 : Nat) : Int) + 1)) yk (by rw [IntWalk.i64_in _ (by omega)]; omega)) (Mz rfl (WL.nil ?_)))))))
 have H45 := H43.pk []
 exact Fin.round (k21 + 1) ⟨rfl, rfl, rfl, rfl, rfl, trivial⟩ (dm29.2 ⟨H45, by omega, by first | exact rp_zero | exact rp_next (by assumption) (by assumption) (by omega), et (hq30) (et (congrArg (fun q => r23_Judge_L0 l0 q k21) (sub_at (n := l0.length) (i := k21) (by omega))) (et (bnd_of hr40) (ip h44)))⟩) (by show l0.length - (k21 + 1) < l0.length - k21; omega)
 refine jT (dT h44) (sr (Mz rfl (Mz rfl (Az rfl (An rfl (rt (bR (tR (tR (bR (tR (Fin.res (res2 rfl rfl rfl) ?_))))))))))))
 have H46 := H43.pk []
 have e : r23_Judge l0 = (((k21 : Nat) : Int), r39) := lp_r (et (hq30) (et (congrArg (fun q => r23_Judge_L0 l0 q k21) (sub_at (n := l0.length) (i := k21) (by omega))) (et (bnd_of hr40) (iN h44))))
 obtain ⟨rfl, rfl⟩ := pj2 (e.symm.trans hr)
 exact ⟨rfl, H46⟩
 refine jF (dF h33) (Wp.exit (Fin.thenX ?_))
 have hL47 : r23_Judge_L0 l0 l0.length 0 = Sum.inl () := et (hq30) (et (congrArg (fun q => r23_Judge_L0 l0 q k21) (sub_end (n := l0.length) (i := k21) (by omega))) rfl)
 refine Fin.thenX (Fin.blockX (Fin.then (sr (Az rfl (An rfl (rt (Fin.res (res2 rfl rfl rfl) ?_)))))))
 have H48 := H25.pk []
 have e : r23_Judge l0 = ((-1), 0) := lp_l hL47
 obtain ⟨rfl, rfl⟩ := pj2 (e.symm.trans hr)
 exact ⟨rfl, H48⟩
theorem rj_L {l : List SeenT} : ∀ (n k : Nat), RpAll k l → (r23_Judge_L0 l n k = .inl () ∧ RpAll (k + n) l) ∨ ∃ i e, r23_Judge_L0 l n k = .inr (i, e) ∧ e ≠ 0
  | 0, k, h => .inl ⟨rfl, h⟩
  | n + 1, k, h => by
    unfold r23_Judge_L0
    simp only [bnd]
    by_cases e : r23_wrong l ((k : Nat) : Int) = 0
    · rw [ip e]
      rcases rj_L n (k + 1) (rp_next h rfl e) with ⟨g1, g2⟩ | g
      · exact .inl ⟨g1, by rw [show k + (n + 1) = k + 1 + n by omega]; exact g2⟩
      · exact .inr g
    · rw [iN e]
      exact .inr ⟨_, _, rfl, e⟩
theorem rp_judge {l : List SeenT} {i e : Int} (h : r23_Judge l = (i, e)) (he : e = 0) : RpOk l := by
 unfold r23_Judge at h
 rcases rj_L (l := l) l.length 0 rp_zero with ⟨g1, g2⟩ | ⟨a, b, g1, g2⟩
 · exact (congrArg RpOk (List.take_length (l := l))).mp (rp_all g2 l.length (by omega))
 · rw [g1] at h; have h2 : (a, b) = (i, e) := h; injection h2 with _ h3; exact absurd (h3.trans he) g2
def r23_Replay (l0 : List SeenT) : (List PairD) × Int :=
 bnd (r23_Judge l0) fun yr26 => if yr26.2 = 0 then bnd (r23_replay l0) fun yr38 => (yr38.1, 0) else ([], yr26.2)
set_option maxRecDepth 100000 in
set_option maxHeartbeats 2000000 in
theorem r23_Replay_ok (w : World) (D : Nat → Prop) (A0 : Option Addr) (n0 c0 : Nat) (d0 : List SeenD) (l0 : List SeenT) (r0 : List PairD) (r1 : Int) (H : Own w D w []) (hd0 : List.map SeenD.abs d0 = l0) (hx0 : Ro w D fun w' => Rds w' 6 A0 n0 (List.flatMap SeenD.cells d0)) (hm0 : ∀ x ∈ d0, Ro w D (fun w' => Rds w' 6 x.xOps.A x.xOps.ls.length (List.flatMap OpD.cells x.xOps.ls)) ∧ (x.xOps.ls.length ≤ x.xOps.c ∧ x.xOps.ls.length ≤ 9223372036854775807) ∧ Ro w D (fun w' => Rds w' 3 x.xResults.A x.xResults.ls.length (List.flatMap ResultD.cells x.xResults.ls)) ∧ (x.xResults.ls.length ≤ x.xResults.c ∧ x.xResults.ls.length ≤ 9223372036854775807) ∧ (∀ y1 ∈ x.xResults.ls, Ro w D (fun w' => Rds w' 2 y1.xPairs.A y1.xPairs.ls.length (List.flatMap PairD.cells y1.xPairs.ls)) ∧ (y1.xPairs.ls.length ≤ y1.xPairs.c ∧ y1.xPairs.ls.length ≤ 9223372036854775807))) (hn0 : n0 = l0.length) (hl0 : l0.length ≤ 9223372036854775807) (hq0 : l0.length ≤ c0) (hh0 : l0.length ≤ 1000000000) (hr : r23_Replay l0 = (r0, r1)) :
    Calls Try.prog 12 #[.slice A0 n0 c0] w (Ret fun v w' => ∃ (B0 : Option Addr) (b0 : Nat), v = .tuple #[.slice B0 r0.length b0, .int .i64 r1] ∧ Own w D w' [row B0 r0.length b0 (List.flatMap PairD.cells r0) 32 2]) := by
 subst hn0
 have hdl0 := abs_len hd0
 refine Calls.body (args := [.slice A0 l0.length c0]) Try.func12 rfl rfl rfl ?_
 show Wp _ _ _ [(0, .slice A0 l0.length c0)] _ _
 refine sr (Az rfl (An rfl (Wp.seq (sr (Mz rfl ?_)))))
 obtain ⟨⟨r26, r27⟩, hr28⟩ : ∃ q : Int × Int, r23_Judge l0 = q := ⟨_, rfl⟩
 obtain ⟨D21, HP22, ro23, bk24, rr25⟩ := Own.enter0 H
 refine cl Try.call10 (r23_Judge_ok _ _ A0 l0.length c0 d0 l0 r26 r27 HP22 hd0 (ro23 _ hx0) (fun x9 h9 => ⟨ro23 _ (hm0 x9 h9).1, (hm0 x9 h9).2.1, ro23 _ (hm0 x9 h9).2.2.1, (hm0 x9 h9).2.2.2.1, (fun y1 k1 => ⟨ro23 _ ((hm0 x9 h9).2.2.2.2 y1 k1).1, ((hm0 x9 h9).2.2.2.2 y1 k1).2⟩)⟩) rfl (by omega) (by first | omega | (simp only [List.length_take, List.length_drop]; omega) | exact Nat.le_refl _) (by omega) hr28) ?_
 rintro _ w29 ⟨rfl, HQ30⟩
 have H31 := bk24 _ _ HQ30
 refine Mz rfl (Kz (.int .i64 r26) (Kz (.int .i64 r27) (Az rfl (Ar rfl (Mz rfl (fw (.bool (decide (¬ (r27 = 0)))) (Yl.bool (e := !(decide (r27 = 0))) yk decide_not.symm) (nt ?_)))))))
 by_cases h32 : r27 = 0
 refine jF (dF (not_not_intro h32)) (sk (sr (Mz rfl ?_)))
 obtain ⟨⟨r38, r39⟩, hr40⟩ : ∃ q : (List PairD) × (List ResultT), r23_replay l0 = q := ⟨_, rfl⟩
 obtain ⟨D33, HP34, ro35, bk36, rr37⟩ := Own.enter0 H31
 refine cl Try.call21 (r23_replay_ok _ _ A0 l0.length c0 d0 l0 r38 r39 HP34 hd0 (ro35 _ hx0) (fun x9 h9 => ⟨ro35 _ (hm0 x9 h9).1, (hm0 x9 h9).2.1, ro35 _ (hm0 x9 h9).2.2.1, (hm0 x9 h9).2.2.2.1, (fun y1 k1 => ⟨ro35 _ ((hm0 x9 h9).2.2.2.2 y1 k1).1, ((hm0 x9 h9).2.2.2.2 y1 k1).2⟩)⟩) rfl (by omega) (by exact rp_judge (by assumption) (by omega)) (by first | omega | (simp only [List.length_take]; omega)) hr40) ?_
 rintro _ w41 ⟨A44, c45, A46, c47, d48, rfl, HQ42, hd49⟩
 have H43 := bk36 _ _ HQ42
 have hl50 := abs_len hd49
 have hb51 := H43.rowC (i := 0) rfl
 have hb52 := H43.rowC (i := 1) rfl
 refine Mz rfl (Kz (.slice A44 r38.length c45) (Kz (.slice A46 r39.length c47) (Az rfl (An rfl (Wp.seq ?_)))))
 have H53 := H43.pk [0]
 refine Wp.region (Mz rfl (Az rfl (An rfl (rt (Fin.res (res2 rfl rfl rfl) ?_)))))
 have H54 := H53.pk [0]
 have e : r23_Replay l0 = (r38, 0) := et (bnd_of hr28) (et (ip h32) (bnd_of hr40))
 obtain ⟨rfl, rfl⟩ := pj2 (e.symm.trans hr)
 exact ⟨A44, c45, rfl, H54⟩
 refine jT (dT h32) (sr (Mz rfl (Az rfl (An rfl (rt (tR (Fin.res (res2 rfl rfl rfl) ?_)))))))
 have H55 : Own w D w29 [row none 0 0 (List.flatMap PairD.cells ([])) 32 2] := H31.free (row_nil 32 2)
 have H56 := H55.pk [0]
 have e : r23_Replay l0 = ([], r27) := et (bnd_of hr28) (iN h32)
 obtain ⟨rfl, rfl⟩ := pj2 (e.symm.trans hr)
 exact ⟨none, 0, rfl, H56⟩
end Go.Proofs.Ytjcdgofegkngpaa
