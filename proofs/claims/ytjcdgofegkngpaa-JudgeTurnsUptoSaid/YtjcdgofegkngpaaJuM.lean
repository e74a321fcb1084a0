/-
  What was seen, one after another: a step at a time.
  Conditions: none.
-/
import Derived.Test.YtjcdgofegkngpaaJb
namespace Go.Proofs.Ytjcdgofegkngpaa
set_option linter.unusedVariables false
set_option linter.unusedSimpArgs false
open Go.RowKit
abbrev JM : Type := List (requestD × fateT)
def jkey (x : SeenT) : requestD := requestD.mk x.xClient x.xReq
/-- results are the same, from a place on -/
def eqR (x : SeenT) (y : fateT) : Nat → Nat → Bool
  | 0, _ => true
  | q + 1, i => if judge_same (List.getD x.xResults.ls i default) (List.getD y.xresults.ls i default) = true then eqR x y q (i + 1) else false
def jsame (x : SeenT) (y : fateT) : Bool := if ((List.length x.xResults.ls : Nat) : Int) = ((List.length y.xresults.ls : Nat) : Int) then eqR x y (List.length x.xResults.ls) 0 else false
theorem L1_eq (k : Nat) (p : List PairD) (m : JM) (x : SeenT) (y : fateT) : ∀ n i, judge_Judge_L1 k p m x y n i = if eqR x y n i = true then .inl () else .inr ((k : Int), 11)
  | 0, i => rfl
  | n + 1, i => by
    show (if judge_same (List.getD x.xResults.ls i default) (List.getD y.xresults.ls i default) = true then judge_Judge_L1 k p m x y n (i + 1) else Sum.inr ((k : Int), 11)) = _
    unfold eqR
    by_cases h : judge_same (List.getD x.xResults.ls i default) (List.getD y.xresults.ls i default) = true
    · rw [if_pos h, if_pos h]; exact L1_eq k p m x y n (i + 1)
    · rw [if_neg h, if_neg h]; rfl
theorem R1_eq (p : List PairD) (m : JM) (x : SeenT) (y : fateT) : ∀ n i, judge_Replay_L1 p m x y n i = if eqR x y n i = true then .inl () else .inr ([], 11)
  | 0, i => rfl
  | n + 1, i => by
    show (if judge_same (List.getD x.xResults.ls i default) (List.getD y.xresults.ls i default) = true then judge_Replay_L1 p m x y n (i + 1) else Sum.inr ([], 11)) = _
    unfold eqR
    by_cases h : judge_same (List.getD x.xResults.ls i default) (List.getD y.xresults.ls i default) = true
    · rw [if_pos h, if_pos h]; exact R1_eq p m x y n (i + 1)
    · rw [if_neg h, if_neg h]; rfl
/-- what is done of one that is fine by itself, of whose request y was seen -/
def jhit (x : SeenT) (y : fateT) (p : List PairD) (m : JM) : (List PairD × JM) ⊕ Int :=
  if x.xKind = 1 then .inr 6
  else if x.xKind = 2 then (if y.xdecided = true then .inr 6 else if y.xtold = true then .inr 4 else if (op_Apply p y.xops.ls).2.2 = 0 then .inl ((op_Apply p y.xops.ls).1, mput m (jkey x) (fateT.mk y.xops true y.xtold ⟨(op_Apply p y.xops.ls).2.1⟩)) else .inr 1)
  else if x.xKind = 3 then (if y.xtold = true then .inr 6 else if y.xdecided = decide (x.xCode = 1) then (if jsame x y = true then .inl (p, mput m (jkey x) (fateT.mk y.xops y.xdecided true y.xresults)) else .inr 11) else .inr 4)
  else .inl (p, mput m (jkey x) y)
def jnew (x : SeenT) (p : List PairD) (m : JM) : (List PairD × JM) ⊕ Int :=
  if x.xKind = 1 then .inl (p, mput m (jkey x) (fateT.mk x.xOps false false ⟨[]⟩)) else .inr 5
def jmid (x : SeenT) (p : List PairD) (m : JM) : Option fateT → (List PairD × JM) ⊕ Int
  | some y => jhit x y p m
  | none => jnew x p m
def jstep (x : SeenT) (p : List PairD) (m : JM) : (List PairD × JM) ⊕ Int :=
  if judge_check x = 0 then jmid x p m (mget m (jkey x)) else .inr (judge_check x)
def jgo {α : Type} (r : (List PairD × JM) ⊕ Int) (f : List PairD → JM → α) (g : Int → α) : α := match r with
  | .inl s => f s.1 s.2
  | .inr e => g e
theorem jgo_if {α : Type} {c : Prop} [Decidable c] (a b : (List PairD × JM) ⊕ Int) (f : List PairD → JM → α) (g : Int → α) : jgo (if c then a else b) f g = if c then jgo a f g else jgo b f g := by
  by_cases h : c
  · rw [if_pos h, if_pos h]
  · rw [if_neg h, if_neg h]
theorem lpS_if {α σ ρ : Type} {c : Prop} [Decidable c] (a b : α ⊕ ρ) (f : α → σ ⊕ ρ) : lpS (if c then a else b) f = if c then lpS a f else lpS b f := by
  by_cases h : c
  · rw [if_pos h, if_pos h]
  · rw [if_neg h, if_neg h]
theorem if_two {α : Type} {c d : Prop} [Decidable c] [Decidable d] (a b : α) : (if c then (if d then a else b) else b) = if (if c then decide d else false) = true then a else b := by
  by_cases h : c <;> by_cases h2 : d <;> simp [h, h2]
theorem Judge_cons (x : SeenT) (q : List SeenT) (k : Nat) (p : List PairD) (m : JM) : judge_Judge_L0 (x :: q) k p m = jgo (jstep x p m) (fun p' m' => judge_Judge_L0 q (k + 1) p' m') fun e => .inr ((k : Int), e) := by
  have e : judge_check (SeenT.mk x.xKind x.xClient x.xReq x.xCode (Ll.mk x.xOps.ls) (Ll.mk x.xResults.ls)) = judge_check x := rfl
  simp only [judge_Judge_L0, bnd_eq, e]
  unfold jstep
  rw [jgo_if]
  by_cases hc : judge_check x = 0
  · rw [if_pos hc, if_pos hc]
    show _ = jgo (jmid x p m (mget m (requestD.mk x.xClient x.xReq))) _ _
    cases hm : mget m (requestD.mk x.xClient x.xReq) with
    | none =>
      rw [if_neg (by simp)]
      show _ = jgo (jnew x p m) _ _
      unfold jnew
      rw [jgo_if]
      by_cases h1 : x.xKind = 1
      · rw [if_pos h1, if_pos h1]; rfl
      · rw [if_neg h1, if_neg h1]
        by_cases h2 : x.xKind = 2
        · rw [if_pos h2]; rfl
        · rw [if_neg h2]
          by_cases h3 : x.xKind = 3
          · rw [if_pos h3]; rfl
          · rw [if_neg h3]; rfl
    | some y =>
      rw [if_pos (by simp)]
      show _ = jgo (jhit x y p m) _ _
      simp only [Option.getD_some]
      unfold jhit
      rw [jgo_if, jgo_if, jgo_if, jgo_if, jgo_if, jgo_if, jgo_if, jgo_if, jgo_if]
      by_cases h1 : x.xKind = 1
      · rw [if_pos h1, if_pos h1]; rfl
      · rw [if_neg h1, if_neg h1]
        by_cases h2 : x.xKind = 2
        · rw [if_pos h2, if_pos h2]; rfl
        · rw [if_neg h2, if_neg h2]
          by_cases h3 : x.xKind = 3
          · rw [if_pos h3, if_pos h3]
            by_cases h4 : y.xtold = true
            · rw [if_pos h4, if_pos h4]; rfl
            · rw [if_neg h4, if_neg h4]
              by_cases h5 : y.xdecided = decide (x.xCode = 1)
              · rw [if_pos h5, if_pos h5]
                unfold jsame
                by_cases h6 : ((List.length x.xResults.ls : Nat) : Int) = ((List.length y.xresults.ls : Nat) : Int)
                · rw [if_pos h6, if_pos h6, L1_eq, lpS_if]; rfl
                · rw [if_neg h6, if_neg h6, if_neg (by simp)]; rfl
              · rw [if_neg h5, if_neg h5]; rfl
          · rw [if_neg h3, if_neg h3]; rfl
  · rw [if_neg hc, if_neg hc]; rfl
theorem Replay_cons (x : SeenT) (q : List SeenT) (p : List PairD) (m : JM) : judge_Replay_L0 (x :: q) p m = jgo (jstep x p m) (fun p' m' => judge_Replay_L0 q p' m') fun e => .inr ([], e) := by
  have e : judge_check (SeenT.mk x.xKind x.xClient x.xReq x.xCode (Ll.mk x.xOps.ls) (Ll.mk x.xResults.ls)) = judge_check x := rfl
  simp only [judge_Replay_L0, bnd_eq, e]
  unfold jstep
  rw [jgo_if]
  by_cases hc : judge_check x = 0
  · rw [if_pos hc, if_pos hc]
    show _ = jgo (jmid x p m (mget m (requestD.mk x.xClient x.xReq))) _ _
    cases hm : mget m (requestD.mk x.xClient x.xReq) with
    | none =>
      rw [if_neg (by simp)]
      show _ = jgo (jnew x p m) _ _
      unfold jnew
      rw [jgo_if]
      by_cases h1 : x.xKind = 1
      · rw [if_pos h1, if_pos h1]; rfl
      · rw [if_neg h1, if_neg h1]
        by_cases h2 : x.xKind = 2
        · rw [if_pos h2]; rfl
        · rw [if_neg h2]
          by_cases h3 : x.xKind = 3
          · rw [if_pos h3]; rfl
          · rw [if_neg h3]; rfl
    | some y =>
      rw [if_pos (by simp)]
      show _ = jgo (jhit x y p m) _ _
      simp only [Option.getD_some]
      unfold jhit
      rw [jgo_if, jgo_if, jgo_if, jgo_if, jgo_if, jgo_if, jgo_if, jgo_if, jgo_if]
      by_cases h1 : x.xKind = 1
      · rw [if_pos h1, if_pos h1]; rfl
      · rw [if_neg h1, if_neg h1]
        by_cases h2 : x.xKind = 2
        · rw [if_pos h2, if_pos h2]; rfl
        · rw [if_neg h2, if_neg h2]
          by_cases h3 : x.xKind = 3
          · rw [if_pos h3, if_pos h3]
            by_cases h4 : y.xtold = true
            · rw [if_pos h4, if_pos h4]; rfl
            · rw [if_neg h4, if_neg h4]
              by_cases h5 : y.xdecided = decide (x.xCode = 1)
              · rw [if_pos h5, if_pos h5]
                unfold jsame
                by_cases h6 : ((List.length x.xResults.ls : Nat) : Int) = ((List.length y.xresults.ls : Nat) : Int)
                · rw [if_pos h6, if_pos h6, R1_eq, lpS_if]; rfl
                · rw [if_neg h6, if_neg h6, if_neg (by simp)]; rfl
              · rw [if_neg h5, if_neg h5]; rfl
          · rw [if_neg h3, if_neg h3]; rfl
  · rw [if_neg hc, if_neg hc]; rfl
/-- an error is none of nought -/
theorem jstep_ne {x : SeenT} {p : List PairD} {m : JM} {e : Int} (h : jstep x p m = .inr e) : e ≠ 0 := by
  intro h0
  subst h0
  unfold jstep at h
  by_cases hc : judge_check x = 0
  · rw [if_pos hc] at h
    cases hm : mget m (jkey x) with
    | none =>
      rw [hm] at h
      simp only [jmid, jnew] at h
      by_cases h1 : x.xKind = 1
      · rw [if_pos h1] at h; cases h
      · rw [if_neg h1] at h; simp at h
    | some y =>
      rw [hm] at h
      simp only [jmid, jhit] at h
      by_cases h1 : x.xKind = 1
      · rw [if_pos h1] at h; simp at h
      · rw [if_neg h1] at h
        by_cases h2 : x.xKind = 2
        · rw [if_pos h2] at h
          by_cases h3 : y.xdecided = true
          · rw [if_pos h3] at h; simp at h
          · rw [if_neg h3] at h
            by_cases h4 : y.xtold = true
            · rw [if_pos h4] at h; simp at h
            · rw [if_neg h4] at h
              by_cases h5 : (op_Apply p y.xops.ls).2.2 = 0
              · rw [if_pos h5] at h; cases h
              · rw [if_neg h5] at h; simp at h
        · rw [if_neg h2] at h
          by_cases h3 : x.xKind = 3
          · rw [if_pos h3] at h
            by_cases h4 : y.xtold = true
            · rw [if_pos h4] at h; simp at h
            · rw [if_neg h4] at h
              by_cases h5 : y.xdecided = decide (x.xCode = 1)
              · rw [if_pos h5] at h
                by_cases h6 : jsame x y = true
                · rw [if_pos h6] at h; cases h
                · rw [if_neg h6] at h; simp at h
              · rw [if_neg h5] at h; simp at h
          · rw [if_neg h3] at h; cases h
  · rw [if_neg hc] at h
    exact hc (Sum.inr.inj h)
/-- all steps: what is behind, or which one is not fine and why -/
def jrun : List SeenT → List PairD → JM → (List PairD × JM) ⊕ (Nat × Int)
  | [], p, m => .inl (p, m)
  | x :: q, p, m => match jstep x p m with
    | .inl s => match jrun q s.1 s.2 with
      | .inl t => .inl t
      | .inr (i, e) => .inr (i + 1, e)
    | .inr e => .inr (0, e)
theorem Judge_run : ∀ (l : List SeenT) (k : Nat) (p : List PairD) (m : JM), judge_Judge_L0 l k p m = match jrun l p m with
    | .inl _ => .inl ()
    | .inr (i, e) => .inr (((k + i : Nat) : Int), e)
  | [], k, p, m => rfl
  | x :: q, k, p, m => by
    rw [Judge_cons]
    unfold jrun
    cases h : jstep x p m with
    | inr e => rfl
    | inl s =>
      show judge_Judge_L0 q (k + 1) s.1 s.2 = _
      rw [Judge_run q (k + 1) s.1 s.2]
      simp only
      cases h2 : jrun q s.1 s.2 with
      | inl t => rfl
      | inr r =>
        obtain ⟨i, e⟩ := r
        show Sum.inr _ = Sum.inr _
        rw [show k + 1 + i = k + (i + 1) by omega]
theorem Replay_run : ∀ (l : List SeenT) (p : List PairD) (m : JM), judge_Replay_L0 l p m = match jrun l p m with
    | .inl t => .inl t.1
    | .inr (i, e) => .inr ([], e)
  | [], p, m => rfl
  | x :: q, p, m => by
    rw [Replay_cons]
    unfold jrun
    cases h : jstep x p m with
    | inr e => rfl
    | inl s =>
      show judge_Replay_L0 q s.1 s.2 = _
      rw [Replay_run q s.1 s.2]
      simp only
      cases h2 : jrun q s.1 s.2 with
      | inl t => rfl
      | inr r => rfl
theorem judge_eq (l : List SeenT) : judge_Judge l = match jrun l [] [] with
    | .inl _ => (-1, 0)
    | .inr (i, e) => ((i : Int), e) := by
  unfold judge_Judge
  rw [Judge_run l 0 [] []]
  cases h : jrun l [] [] with
  | inl t => rfl
  | inr r =>
    obtain ⟨i, e⟩ := r
    show (((0 + i : Nat) : Int), e) = _
    rw [Nat.zero_add]
theorem replay_eq (l : List SeenT) : judge_Replay l = match jrun l [] [] with
    | .inl t => (t.1, 0)
    | .inr (i, e) => ([], e) := by
  unfold judge_Replay
  rw [Replay_run l [] []]
  cases h : jrun l [] [] with
  | inl t => rfl
  | inr r => rfl
theorem jrun_err : ∀ {l : List SeenT} {p : List PairD} {m : JM} {i : Nat} {e : Int}, jrun l p m = .inr (i, e) → e ≠ 0 ∧ i < List.length l
  | [], p, m, i, e, h => by simp [jrun] at h
  | x :: q, p, m, i, e, h => by
    unfold jrun at h
    cases hs : jstep x p m with
    | inr e' =>
      rw [hs] at h
      simp only [Sum.inr.injEq, Prod.mk.injEq] at h
      obtain ⟨rfl, rfl⟩ := h
      exact ⟨jstep_ne hs, by simp⟩
    | inl s =>
      rw [hs] at h
      simp only at h
      cases h2 : jrun q s.1 s.2 with
      | inl t => rw [h2] at h; cases h
      | inr r =>
        obtain ⟨j, e'⟩ := r
        rw [h2] at h
        simp only [Sum.inr.injEq, Prod.mk.injEq] at h
        obtain ⟨rfl, rfl⟩ := h
        have := jrun_err h2
        exact ⟨this.1, by simp only [List.length_cons]; omega⟩
theorem jrun_cons (x : SeenT) (q : List SeenT) (p : List PairD) (m : JM) : jrun (x :: q) p m = match jstep x p m with
    | .inl s => (match jrun q s.1 s.2 with
      | .inl t => .inl t
      | .inr (i, e) => .inr (i + 1, e))
    | .inr e => .inr (0, e) := rfl
theorem jrun_app : ∀ (a b : List SeenT) (p : List PairD) (m : JM), jrun (a ++ b) p m = match jrun a p m with
    | .inl t => (match jrun b t.1 t.2 with
      | .inl u => .inl u
      | .inr (i, e) => .inr (List.length a + i, e))
    | .inr r => .inr r
  | [], b, p, m => by
    show jrun b p m = match jrun b p m with
      | .inl u => .inl u
      | .inr (i, e) => .inr (0 + i, e)
    cases h : jrun b p m with
    | inl u => rfl
    | inr r =>
      obtain ⟨i, e⟩ := r
      simp only [Nat.zero_add]
  | x :: a, b, p, m => by
    show jrun (x :: (a ++ b)) p m = _
    rw [jrun_cons, jrun_cons]
    cases hs : jstep x p m with
    | inr e => rfl
    | inl s =>
      simp only
      rw [jrun_app a b s.1 s.2]
      cases h : jrun a s.1 s.2 with
      | inr r => obtain ⟨i, e⟩ := r; rfl
      | inl t =>
        simp only
        cases h2 : jrun b t.1 t.2 with
        | inl u => rfl
        | inr r =>
          obtain ⟨i, e⟩ := r
          simp only [List.length_cons]
          rw [show a.length + i + 1 = a.length + 1 + i by omega]
end Go.Proofs.Ytjcdgofegkngpaa
