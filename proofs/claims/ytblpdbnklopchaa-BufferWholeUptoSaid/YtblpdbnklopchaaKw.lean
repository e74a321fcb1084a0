/-
  Ranges over functions whose assignment makes memory of its own; what was handed on.
  Conditions: none beyond each law's own.
-/
import Derived.Test.YtblpdbnklopchaaKr
namespace Go.Proofs.Ytblpdbnklopchaa
set_option linter.unusedVariables false
set_option linter.unusedSimpArgs false
set_option linter.unusedSectionVars false
open Go.RowKit
section
variable {P : Program} {n : Nat} {F : List (Nat × Value)} {w0 w : World} {D : Nat → Prop} {L : List HP}
theorem Wf.rangeFuncA {α γ : Type} {g : Operand} {ps : List Nat} {assign body : Code} {Q : Exit → Act → World → Prop} {gf : Nat} {lb : List Value} {encs : α → List Value} {xs : List α} {Li : List HP} {ds : List Deferred}
    (C : List α → HP) (J : Code → List α → HP) (A : γ → α → List HP) (F1 : γ → α → List (Nat × Value)) (hg : ev F g = some (.func (.func gf) #[] lb.toArray)) (eg : ∀ (b : Array Value) W, (callFunc gf b).run P W = .ok (.enter gf b) W) (hps : ∀ x, (encs x).length = ps.length) (hpn : ps.all (fun p => Nat.blt p n) = true)
    (it : Iter P w0 D gf lb encs xs Li) (H : Own w0 D w (C [] :: Li))
    (hasg : ∀ (l : Nat) (pre : List α) (x : α) (R : HP) (W : World) (K : Act → World → Prop), pre ++ [x] <+: xs → Own w0 D W [C pre, R] → (∀ (g : γ) (W' : World), Own w0 D W' (A g x ++ [C pre, R]) → Ff [] (Exit.then K fun _ _ _ => False) .normal n (F1 g x) W') → Wf (some l) [] P assign n (putF ps (encs x) F) W (Exit.then K fun _ _ _ => False))
    (hbody : ∀ (l : Nat) (g : γ) (pre : List α) (x : α) (R : HP) (W : World), pre ++ [x] <+: xs → Own w0 D W (A g x ++ [C pre, R]) → Wf (some l) [] P body n (F1 g x) W (RP w0 D C J (pre ++ [x]) R))
    (hdone : ∀ (r : Nat) (W : World), Own w0 D W [obj r (.deferred (some [])), C xs] → Ff (mark r :: ds) Q .normal n F W)
    (hret : ∀ (r : Nat) (pre : List α) (W : World), pre <+: xs → Own w0 D W [obj r (.deferred (some [])), J .ret pre] → Ff (mark r :: ds) Q .ret n F W)
    (hexit : ∀ (r id : Nat) (pre : List α) (W : World), pre <+: xs → Own w0 D W [obj r (.deferred (some [])), J (.exit id) pre] → Ff (mark r :: ds) Q (.exit id) n F W) :
    Wf none ds P (.rangeFunc g ps.toArray assign body) n F w Q := by
  intro a ha hds
  refine wpIn_rangeFunc fun fn _ => ?_
  obtain ⟨rec, hrec⟩ : ∃ rec : LoopState → Option Code → Loop, rec = fun st pe => { state := st, pending := pe, fn, tmps := a.tmps, params := ps.toArray, assign, body, defers := w.heap.size } := ⟨_, rfl⟩
  obtain ⟨r, hr⟩ : ∃ r, r = w.heap.size := ⟨_, rfl⟩
  have H1 := (H.alloc (R := obj r (.deferred (some []))) (.deferred (some [])) (by simp [obj, hr]))
  have H2 := H1.alloc (R := obj (r + 1) (.loop (rec .ready none))) (.loop (rec .ready none)) (by simp [obj, hr])
  have hent := run_enterLoop_outer (P := P) (w := w) fn a.tmps ps.toArray assign body
  obtain ⟨W1, hW1⟩ : ∃ W1, (w.alloc (.deferred (some []))).alloc (.loop (rec .ready none)) = W1 := ⟨_, rfl⟩
  have hent' : (Instr.enterLoop fn a.tmps ps.toArray assign body (fen none).round).run P w = .ok (r + 1, [mark r]) W1 := by
    rw [← hW1, hr, hrec]; exact hent
  rw [hW1] at H2
  clear hent hW1 H1
  have hres : (resolve a.eval (rangeCall g (r + 1)) 0).run P W1 = .ok { target := .fn (.func gf) lb.toArray, args := #[.func (.yield (r + 1)) #[] #[]] } W1 := by
    simp only [resolve, ha.eval hg]
    simp [Deferred.ofValue, Act.eval]
  refine ⟨r + 1, [mark r], W1, _, W1, gf, (.func (.yield (r + 1)) #[] #[] :: lb).toArray, W1, hent', hres, fun _ _ => trivial, ?_, fun hd => absurd hd (by simp [fen, Fence.wide]), ?_⟩
  · simp [invoke, eg]
  · refine calls_fen.2 ?_
    have HC : Own w0 D W1 (sepL [C [], obj (r + 1) (.loop (rec .ready none)), obj r (.deferred (some []))] :: Li) := by
      have := H2.perm (L2 := [C [], obj (r + 1) (.loop (rec .ready none)), obj r (.deferred (some []))] ++ Li) (by
        simp only [List.cons_append, List.nil_append]
        refine (List.Perm.cons _ (List.Perm.swap _ _ _)).trans ?_
        refine (List.Perm.swap _ _ _).trans ?_
        exact List.Perm.refl _)
      exact this.pack
    refine (it (r + 1) (fun pre => sepL [C pre, obj (r + 1) (.loop (rec .ready none)), obj r (.deferred (some []))])
      (fun pre h => ∃ c : Code, (c = .ret ∨ ∃ id, c = .exit id) ∧ sepL [J c pre, obj (r + 1) (.loop (rec .done (some c))), obj r (.deferred (some []))] h) W1 ?_ HC).mono ?_
    · intro pre x R W hpre HW
      have HW2 := (HW.flat).pick [1, 0, 2, 3] (by decide) rfl
      have hl := HW2.obj (i := 0) rfl
      have hy := run_yield (P := P) (args := (encs x).toArray) hl (by rw [hrec]; simp [hps x])
      rw [hrec] at hy
      refine ⟨fn, _, assign, body, hy, roundIn_of_wpIn (F := Fence.wide) trivial ?_⟩
      have hag : Ag0 n F { tmps := a.tmps, defers := [] } := ⟨ha.size, ha.at_⟩
      have hag2 := putF_ag ps (encs x) F a.tmps hag hpn
      have hz : ∀ (t : Array Value), (ps.toArray.zip (encs x).toArray).foldl (fun t (p, v) => t.setIfInBounds p v) t = (ps.zip (encs x)).foldl (fun t (p, v) => t.setIfInBounds p v) t := fun t => by
        rw [List.zip_toArray, List.foldl_toArray]
      have hzz := hz a.tmps
      have HC1 : Own w0 D W [C pre, sepL [obj (r + 1) (.loop (rec .ready none)), obj r (.deferred (some [])), R]] := by
        have h3 := HW2.pick [0, 2, 3, 1] (by decide) rfl
        have h4 : Own w0 D W (sepL [obj (r + 1) (.loop (rec .ready none)), obj r (.deferred (some [])), R] :: [C pre]) := h3.pack (L1 := [obj (r + 1) (.loop (rec .ready none)), obj r (.deferred (some [])), R])
        exact h4.pick [1, 0] (by decide) rfl
      refine hasg (r + 1) pre x _ W _ hpre HC1 ?_ _ ?_ rfl
      · intro g Wa HA a1 ha1 hd1
        have HA2 : Own w0 D Wa (sepL (A g x ++ [C pre]) :: [sepL [obj (r + 1) (.loop (rec .ready none)), obj r (.deferred (some [])), R]]) := Own.pack (by rw [List.append_assoc]; exact HA)
        have HA3 := (HA2.pick [1, 0] (by decide) rfl).flat
        have hla := HA3.obj (i := 0) rfl
        have hbr := run_beginRound (P := P) hla (by rw [hrec])
        have HB := HA3.putObj (.loop { rec .ready none with state := .busy })
        obtain ⟨Wb, hWb⟩ : ∃ Wb, Wa.putObj (r + 1) (.loop { rec .ready none with state := .busy }) = Wb := ⟨_, rfl⟩
        rw [hWb] at HB hbr
        refine ⟨_, hbr, ?_⟩
        have HB2 : Own w0 D Wb (A g x ++ [C pre, sepL [obj (r + 1) (.loop { rec .ready none with state := .busy }), obj r (.deferred (some [])), R]]) := by
          have h4 : Own w0 D Wb (sepL [obj (r + 1) (.loop { rec .ready none with state := .busy }), obj r (.deferred (some [])), R] :: [sepL (A g x ++ [C pre])]) := Own.pack (L1 := [obj (r + 1) (.loop { rec .ready none with state := .busy }), obj r (.deferred (some [])), R]) HB
          have h5 := (h4.pick [1, 0] (by decide) rfl).flat
          rw [List.append_assoc] at h5
          exact h5
        refine wpIn_mono (hbody (r + 1) g pre x _ _ hpre HB2 a1 ha1 hd1) ?_
        have fin : ∀ (X : HP) (jump : Option Code) (W3 : World), Own w0 D W3 [X, sepL [obj (r + 1) (.loop { rec .ready none with state := .busy }), obj r (.deferred (some [])), R]] →
            ∃ W4, (Instr.endRound (r + 1) jump).run P W3 = .ok (.bool jump.isNone) W4 ∧ Own w0 D W4 [sepL [X, obj (r + 1) (.loop (rec (if jump.isNone then .ready else .done) jump)), obj r (.deferred (some []))], R] := fun X jump W3 h3 => by
          have h4 := ((h3.pick [1, 0] (by decide) rfl).flat)
          have hl3 := h4.obj (i := 0) rfl
          have he : (Instr.endRound (r + 1) jump).run P W3 = .ok (.bool jump.isNone) (W3.putObj (r + 1) (.loop (rec (if jump.isNone then .ready else .done) jump))) := by
            have := run_endRound (P := P) jump hl3
            rw [hrec] at this ⊢; exact this
          have h5 := h4.putObj (.loop (rec (if jump.isNone then .ready else .done) jump))
          obtain ⟨W4, hW4⟩ : ∃ W4, W3.putObj (r + 1) (.loop (rec (if jump.isNone then .ready else .done) jump)) = W4 := ⟨_, rfl⟩
          rw [hW4] at he h5
          have h7 : Own w0 D W4 ([X, obj (r + 1) (.loop (rec (if jump.isNone then .ready else .done) jump)), obj r (.deferred (some []))] ++ [R]) := h5.pick [3, 0, 1, 2] (by decide) rfl
          exact ⟨W4, he, h7.pack⟩
        rintro e a3 W3 hp
        cases e with
        | normal =>
          obtain ⟨W4, he, h4⟩ := fin _ none W3 hp
          exact ⟨_, W4, he, _, rfl, .inl ⟨rfl, h4⟩⟩
        | ret =>
          obtain ⟨W4, he, h4⟩ := fin _ (some .ret) W3 hp
          exact ⟨_, W4, he, _, rfl, .inr ⟨rfl, h4.imp fun h1 hs => ⟨.ret, .inl rfl, hs⟩⟩⟩
        | exit id =>
          obtain ⟨W4, he, h4⟩ := fin _ (some (.exit id)) W3 hp
          exact ⟨_, W4, he, _, rfl, .inr ⟨rfl, h4.imp fun h1 hs => ⟨.exit id, .inr ⟨id, rfl⟩, hs⟩⟩⟩
        | goto t => exact (show False from hp).elim
        | panic ch => exact (show False from hp).elim
        | outgrown => exact (show False from hp).elim
      · have := hag2
        rw [← hzz] at this
        exact this
    · rintro e W2 ⟨v, rfl, h2⟩
      rcases h2 with h2 | ⟨pre, hpre, h2⟩
      · have h3 := (h2.flat (L2 := [])).pick [1, 2, 0] (by decide) rfl
        have hl := h3.obj (i := 0) rfl
        have he := run_endLoop (P := P) hl (by rw [hrec]; simp)
        have he' : (Instr.endLoop (r + 1)).run P W2 = .ok none (W2.putObj (r + 1) (.loop { rec .ready none with state := .exhausted })) := by rw [hrec] at he ⊢; exact he
        refine ⟨none, _, he', ?_⟩
        exact hdone r _ (h3.putObj _).drop1 _ ⟨ha.size, ha.at_⟩ (by rw [hds]; rfl)
      · obtain ⟨c, hc⟩ := h2.open (S := fun c : Code => [(fun h => (c = .ret ∨ ∃ id, c = .exit id) ∧ J c pre h : HP), obj (r + 1) (.loop (rec .done (some c))), obj r (.deferred (some []))]) fun h ⟨c, h1, h2⟩ => ⟨c, by
            obtain ⟨f, f1, f2, f3⟩ := h2
            refine ⟨f, fun i R hi => ?_, f2, f3⟩
            match i, hi with
            | 0, hi => simp only [List.getElem?_cons_zero, Option.some.injEq] at hi; subst hi; exact ⟨h1, f1 0 _ rfl⟩
            | i + 1, hi => exact f1 (i + 1) R hi⟩
        obtain ⟨hx, hc1, _⟩ := hc.get (i := 0) rfl
        have hc2 : Own w0 D W2 [J c pre, obj (r + 1) (.loop (rec .done (some c))), obj r (.deferred (some []))] := hc.imp fun h1 hs => hs.2
        have h3 := hc2.pick [1, 2, 0] (by decide) rfl
        have hl := h3.obj (i := 0) rfl
        have he := run_endLoop (P := P) hl (by rw [hrec]; simp)
        have he' : (Instr.endLoop (r + 1)).run P W2 = .ok (some c) (W2.putObj (r + 1) (.loop { rec .done (some c) with state := .exhausted })) := by rw [hrec] at he ⊢; exact he
        refine ⟨some c, _, he', ?_⟩
        have h4 := (h3.putObj (.loop { rec .done (some c) with state := .exhausted })).drop1
        rcases hc1.1 with rfl | ⟨id, rfl⟩
        · exact wpIn_ret (hret r pre _ hpre h4 _ ⟨ha.size, ha.at_⟩ (by rw [hds]; rfl))
        · exact wpIn_exit (hexit r id pre _ hpre h4 _ ⟨ha.size, ha.at_⟩ (by rw [hds]; rfl))
end
theorem drop_pre {α : Type} {pre xs : List α} {x : α} (h : pre ++ [x] <+: xs) : List.drop (List.length pre) xs = x :: List.drop (List.length (pre ++ [x])) xs := by
  obtain ⟨t, rfl⟩ := h
  rw [List.drop_left, List.append_assoc, List.drop_left]
  rfl
theorem drop_all {α : Type} (xs : List α) : List.drop (List.length xs) xs = [] := List.drop_of_length_le (Nat.le_refl _)
theorem pre_le {α : Type} {pre xs : List α} {x : α} (h : pre ++ [x] <+: xs) : List.length pre < List.length xs ∧ List.length (pre ++ [x]) = List.length pre + 1 := by
  have := h.length_le
  rw [List.length_append, List.length_cons, List.length_nil] at this
  exact ⟨by omega, by rw [List.length_append]; rfl⟩
theorem pre_mem {α : Type} {pre xs : List α} {x : α} (h : pre ++ [x] <+: xs) : x ∈ xs := h.subset (List.mem_append_right _ (.head _))
end Go.Proofs.Ytblpdbnklopchaa
