/-
  Any results of any parts are gathered as the document says. Conditions: none beyond each law's own.
-/
import Derived.Test.YtcjjblkgbfaapaaGaL
import Derived.Test.YtcjjblkgbfaapaaWoO
namespace Go.Proofs.Ytcjjblkgbfaapaa
set_option linter.unusedVariables false
set_option linter.unusedSimpArgs false
theorem bnG {α β : Type} (x : α) (f : α → β) : bnd x f = f x := rfl
def selF (l2 : List (Ll ResultT)) (i k : Nat) : List Int → Nat → List ResultT
  | [], _ => []
  | f :: q, j => if f = (k : Int) then List.getD (List.getD l2 i default).ls j default :: selF l2 i k q (j + 1) else selF l2 i k q (j + 1)
def selP (l2 : List (Ll ResultT)) (k : Nat) : List PartT → Nat → List ResultT
  | [], _ => []
  | p :: q, i => selF l2 i k p.xFrom.ls 0 ++ selP l2 k q (i + 1)
theorem gdset (l : List (Ll ResultT)) (i k : Nat) (y : Ll ResultT) (hi : i < l.length) : List.getD (List.set l i y) k default = if k = i then y else List.getD l k default := by
  rw [List.getD_eq_getElem?_getD, List.getD_eq_getElem?_getD]
  by_cases h : k = i
  · rw [if_pos h, h, List.getElem?_set_self hi]; rfl
  · rw [if_neg h, List.getElem?_set_ne (Ne.symm h)]
theorem oL1 (l2 : List (Ll ResultT)) (i n : Nat) : ∀ (q : List Int) (j : Nat) (l : List (Ll ResultT)), l.length = n → FromOk n q → (owner_Gather_L1 l2 i q j l).length = n ∧ ∀ k, k < n → (List.getD (owner_Gather_L1 l2 i q j l) k default).ls = (List.getD l k default).ls ++ selF l2 i k q j
  | [], j, l, hl, _ => by
    rw [owner_Gather_L1]
    exact ⟨hl, fun k _ => by rw [selF, List.append_nil]⟩
  | f :: q, j, l, hl, h => by
    have hf := h f (.head _)
    rw [owner_Gather_L1]
    simp only [bnG]
    obtain ⟨h1, h2⟩ := oL1 l2 i n q (j + 1) (List.set l (Int.toNat f) (Ll.mk ((List.getD l (Int.toNat f) default).ls ++ [ResultT.mk (List.getD (List.getD l2 i default).ls j default).xFound (List.getD (List.getD l2 i default).ls j default).xValue (Ll.mk (List.getD (List.getD l2 i default).ls j default).xPairs.ls)]))) (by rw [List.length_set]; exact hl) (fun g hg => h g (.tail _ hg))
    refine ⟨h1, fun k hk => ?_⟩
    rw [h2 k hk, gdset _ _ _ _ (by omega), selF]
    by_cases c : k = Int.toNat f
    · rw [if_pos c, if_pos (by omega), ← c, List.append_assoc]; rfl
    · rw [if_neg c, if_neg (by omega)]
theorem oL0 (l0 : List OpD) (l2 : List (Ll ResultT)) (n : Nat) : ∀ (q : List PartT) (i : Nat) (l : List (Ll ResultT)), l.length = n → (∀ p ∈ q, FromOk n p.xFrom.ls) → (owner_Gather_L0 l0 l2 q i l).length = n ∧ ∀ k, k < n → (List.getD (owner_Gather_L0 l0 l2 q i l) k default).ls = (List.getD l k default).ls ++ selP l2 k q i
  | [], i, l, hl, _ => by
    rw [owner_Gather_L0]
    exact ⟨hl, fun k _ => by rw [selP, List.append_nil]⟩
  | p :: q, i, l, hl, h => by
    rw [owner_Gather_L0]
    simp only [bnG]
    obtain ⟨g1, g2⟩ := oL1 l2 i n p.xFrom.ls 0 l hl (h p (.head _))
    obtain ⟨h1, h2⟩ := oL0 l0 l2 n q (i + 1) _ g1 (fun p hp => h p (.tail _ hp))
    refine ⟨h1, fun k hk => ?_⟩
    rw [h2 k hk, g2 k hk, selP, List.append_assoc]
theorem oG0 (o : OpD) : ∀ (q : List ResultT) (l : List PairD), owner_gatherOp_L0 o q l = l ++ q.flatMap fun r => r.xPairs.ls
  | [], l => by rw [owner_gatherOp_L0]; simp
  | x :: q, l => by rw [owner_gatherOp_L0, oG0 o q, List.flatMap_cons, List.append_assoc]
theorem oL2 (T : List (Ll ResultT)) : ∀ (q : List OpD) (k : Nat) (A R : List ResultT), A.length = k → R.length = q.length → ∃ t, owner_Gather_L2 T q k (A ++ R) = A ++ t ∧ t.length = q.length ∧ ∀ i o, q[i]? = some o → t[i]? = some (owner_gatherOp o (List.getD T (k + i) default).ls)
  | [], k, A, R, _, hR => ⟨R, by rw [owner_Gather_L2], hR, fun i o h => by simp at h⟩
  | x :: q, k, A, [], _, hR => by simp at hR
  | x :: q, k, A, y :: R, hA, hR => by
    rw [owner_Gather_L2]
    simp only [bnG]
    have e : List.set (A ++ y :: R) k (ResultT.mk (owner_gatherOp x (List.getD T k default).ls).xFound (owner_gatherOp x (List.getD T k default).ls).xValue (Ll.mk (owner_gatherOp x (List.getD T k default).ls).xPairs.ls)) = (A ++ [owner_gatherOp x (List.getD T k default).ls]) ++ R := by
      rw [← hA]; simp
    rw [e]
    obtain ⟨t, h1, h2, h3⟩ := oL2 T q (k + 1) (A ++ [owner_gatherOp x (List.getD T k default).ls]) R (by simp [hA]) (by simpa using hR)
    refine ⟨owner_gatherOp x (List.getD T k default).ls :: t, by rw [h1]; simp, by simp [h2], fun i o h => ?_⟩
    cases i with
    | zero =>
      simp only [List.getElem?_cons_zero, Option.some.injEq] at h
      subst h; rfl
    | succ i =>
      simp only [List.getElem?_cons_succ] at h ⊢
      rw [h3 i o h, show k + 1 + i = k + (i + 1) by omega]
theorem mapS (l : List PairD) : ∀ (q pre : List PairD), l = pre ++ q → r04_SameMap_L0 l q pre.length = .inl ()
  | [], _, _ => by rw [r04_SameMap_L0]
  | x :: q, pre, e => by
    rw [r04_SameMap_L0, bnG, e, gdS, if_pos ⟨rfl, rfl⟩]
    have e2 : pre.length + 1 = (pre ++ [x]).length := by simp
    rw [e2, ← e]
    exact mapS l q (pre ++ [x]) (by rw [e]; simp)
theorem mapS2 (l : List PairD) : r04_SameMap l l = true := by
  unfold r04_SameMap
  rw [if_pos rfl, show r04_SameMap_L0 l l 0 = .inl () from mapS l l [] rfl, lpG_inl]
theorem resS (l : List ResultT) : ∀ (q pre : List ResultT), l = pre ++ q → r04_SameResults_L0 l q pre.length = .inl ()
  | [], _, _ => by rw [r04_SameResults_L0]
  | x :: q, pre, e => by
    have hg : List.getD (pre ++ x :: q) pre.length default = x := by simp
    rw [r04_SameResults_L0, bnG, e, hg, if_pos rfl, if_neg (fun w => w rfl), bnG, mapS2, if_pos rfl]
    have e2 : pre.length + 1 = (pre ++ [x]).length := by simp
    rw [e2, ← e]
    exact resS l q (pre ++ [x]) (by rw [e]; simp)
theorem resS2 (l : List ResultT) : r04_SameResults l l = true := by
  unfold r04_SameResults
  rw [if_pos rfl, show r04_SameResults_L0 l l 0 = .inl () from resS l l [] rfl, lpG_inl]
end Go.Proofs.Ytcjjblkgbfaapaa
