/-
  Any results of any parts are gathered as the document says. Conditions: none beyond each law's own.
-/
import Derived.Test.YtcjjblkgbfaapaaLGathers
namespace Go.Proofs.Ytcjjblkgbfaapaa
set_option linter.unusedVariables false
set_option linter.unusedSimpArgs false
theorem bnG {α β : Type} (x : α) (f : α → β) : bnd x f = f x := rfl
set_option maxRecDepth 100000 in
theorem live_true : w17_live = true := by decide +kernel
/-! ### one more, behind those alike -/
theorem in0_spec (p : PairD) : ∀ (q : List PairD) (k : Nat), ∃ j, r17_in_L0 p q k = k + j ∧ (∀ x ∈ List.take j q, ltP p x = false) ∧ (∀ y, q[j]? = some y → ltP p y = true) ∧ j ≤ q.length
  | [], k => ⟨0, by rw [r17_in_L0]; rfl, fun x hx => (by cases hx), fun y hy => by simp at hy, Nat.le_refl _⟩
  | x :: q, k => by
    rw [r17_in_L0]
    by_cases c : x.xKey ≤ p.xKey
    · obtain ⟨j, h1, h2, h3, h4⟩ := in0_spec p q (k + 1)
      refine ⟨j + 1, by rw [if_pos c, h1]; omega, fun y hy => ?_, fun y hy => ?_, by simp; omega⟩
      · rw [List.take_succ_cons] at hy
        rcases List.mem_cons.1 hy with e | e
        · rw [e]; exact ltP_f.2 c
        · exact h2 y e
      · simp only [List.getElem?_cons_succ] at hy; exact h3 y hy
    · refine ⟨0, by rw [if_neg c]; rfl, fun y hy => (by cases hy), fun y hy => ?_, Nat.zero_le _⟩
      simp only [List.getElem?_cons_zero, Option.some.injEq] at hy
      subst hy
      exact ltP_iff.2 (List.not_le.1 c)
theorem in_spec {l : List PairD} (hs : Srt ltP l) (p : PairD) : Srt ltP (r17_in l p) ∧ Fil ltP (l ++ [p]) (r17_in l p) ∧ (r17_in l p).length = l.length + 1 := by
  obtain ⟨j, h1, h2, h3, h4⟩ := in0_spec p l 0
  have e : r17_in l p = (List.take j l ++ [p]) ++ List.drop j l := by
    unfold r17_in
    simp only [bnG]
    rw [h1, Nat.zero_add]
  rw [e]
  have hl : List.take j l ++ List.drop j l = l := List.take_append_drop j l
  have hs2 : Srt ltP (List.take j l ++ List.drop j l) := by rw [hl]; exact hs
  obtain ⟨s1, s2, s3⟩ := srt_app.1 hs2
  have hB : ∀ y ∈ List.drop j l, ltP p y = true := by
    cases hd : List.drop j l with
    | nil => intro y hy; cases hy
    | cons z B =>
      have hz : l[j]? = some z := by
        have : (List.drop j l)[0]? = some z := by rw [hd]; rfl
        rw [List.getElem?_drop] at this; exact this
      have hpz := h3 z hz
      rw [hd] at s2
      obtain ⟨t1, t2⟩ := List.pairwise_cons.1 s2
      intro y hy
      rcases List.mem_cons.1 hy with e | e
      · rw [e]; exact hpz
      · cases c : ltP p y with
        | true => rfl
        | false => rw [ordP.nt _ _ _ c (t1 y e)] at hpz; cases hpz
  refine ⟨srt_app.2 ⟨srt_app.2 ⟨s1, List.pairwise_singleton _ _, fun u hu v hv => by rw [List.mem_singleton.1 hv]; exact h2 u hu⟩, s2, fun u hu v hv => ?_⟩, ?_, ?_⟩
  · rcases List.mem_append.1 hu with e | e
    · exact s3 u e v hv
    · rw [List.mem_singleton.1 e]; exact ordP.as (hB v hv)
  · have h5 : Fil ltP (List.drop j l ++ [p]) ([p] ++ List.drop j l) := Fil.swap ordP fun u hu v hv => by rw [List.mem_singleton.1 hv]; exact hB u hu
    have h6 := (Fil.refl (lt := ltP) (List.take j l)).app h5
    rw [← List.append_assoc, hl] at h6
    rw [List.append_assoc]
    exact h6
  · simp; omega
theorem ins_all : ∀ (q l : List PairD), Srt ltP l → Srt ltP (q.foldl r17_in l) ∧ Fil ltP (l ++ q) (q.foldl r17_in l) ∧ (q.foldl r17_in l).length = l.length + q.length
  | [], l, h => ⟨h, by rw [List.append_nil]; exact Fil.refl _, rfl⟩
  | x :: q, l, h => by
    obtain ⟨h1, h2, h3⟩ := in_spec h x
    obtain ⟨k1, k2, k3⟩ := ins_all q (r17_in l x) h1
    refine ⟨k1, Fil.trans ?_ k2, by rw [List.foldl_cons, k3, h3, List.length_cons]; omega⟩
    have := h2.app (Fil.refl (lt := ltP) q)
    simpa using this
theorem stable_ins (l : List PairD) : slices_SortStableFunc_api_Pair_api_Pair l = l.foldl r17_in [] ∧ (slices_SortStableFunc_api_Pair_api_Pair l).length = l.length := by
  obtain ⟨h1, h2⟩ := stable_ok l
  obtain ⟨k1, k2, k3⟩ := ins_all l [] List.Pairwise.nil
  have e := srt_one ordP h2 k1 (h1.symm.trans k2)
  exact ⟨e, by rw [e, k3]; simp⟩
/-! ### what is told of the k-th operation -/
def selF (l2 : List (Ll ResultT)) (i k : Nat) : List Int → Nat → List ResultT
  | [], _ => []
  | f :: q, j => if f = (k : Int) then List.getD (List.getD l2 i default).ls j default :: selF l2 i k q (j + 1) else selF l2 i k q (j + 1)
def selP (l2 : List (Ll ResultT)) (k : Nat) : List PartT → Nat → List ResultT
  | [], _ => []
  | p :: q, i => selF l2 i k p.xFrom.ls 0 ++ selP l2 k q (i + 1)
theorem gdset (l : List (Ll ResultT)) (i k : Nat) (y : Ll ResultT) (hi : i < l.length) : List.getD (List.set l i y) k default = if k = i then y else List.getD l k default := by
  rw [List.getD_eq_getElem?_getD, List.getD_eq_getElem?_getD]
  by_cases h : k = i
  · rw [if_pos h, h, List.getElem?_set_self hi]; rfl
  · rw [if_neg h, List.getElem?_set_ne (Ne.symm h)]
theorem oL1 (l2 : List (Ll ResultT)) (i n : Nat) : ∀ (q : List Int) (j : Nat) (l : List (Ll ResultT)), l.length = n → FromOk n q → (owner_Gather_L1 l2 i q j l).length = n ∧ ∀ k, k < n → (List.getD (owner_Gather_L1 l2 i q j l) k default).ls = (List.getD l k default).ls ++ selF l2 i k q j
  | [], j, l, hl, _ => by
    rw [owner_Gather_L1]
    exact ⟨hl, fun k _ => by rw [selF, List.append_nil]⟩
  | f :: q, j, l, hl, h => by
    have hf := h f (.head _)
    rw [owner_Gather_L1]
    simp only [bnG]
    obtain ⟨h1, h2⟩ := oL1 l2 i n q (j + 1) (List.set l (Int.toNat f) (Ll.mk ((List.getD l (Int.toNat f) default).ls ++ [ResultT.mk (List.getD (List.getD l2 i default).ls j default).xFound (List.getD (List.getD l2 i default).ls j default).xValue (Ll.mk (List.getD (List.getD l2 i default).ls j default).xPairs.ls)]))) (by rw [List.length_set]; exact hl) (fun g hg => h g (.tail _ hg))
    refine ⟨h1, fun k hk => ?_⟩
    rw [h2 k hk, gdset _ _ _ _ (by omega), selF]
    by_cases c : k = Int.toNat f
    · rw [if_pos c, if_pos (by omega), ← c, List.append_assoc]; rfl
    · rw [if_neg c, if_neg (by omega)]
theorem oL0 (l0 : List OpD) (l2 : List (Ll ResultT)) (n : Nat) : ∀ (q : List PartT) (i : Nat) (l : List (Ll ResultT)), l.length = n → (∀ p ∈ q, FromOk n p.xFrom.ls) → (owner_Gather_L0 l0 l2 q i l).length = n ∧ ∀ k, k < n → (List.getD (owner_Gather_L0 l0 l2 q i l) k default).ls = (List.getD l k default).ls ++ selP l2 k q i
  | [], i, l, hl, _ => by
    rw [owner_Gather_L0]
    exact ⟨hl, fun k _ => by rw [selP, List.append_nil]⟩
  | p :: q, i, l, hl, h => by
    rw [owner_Gather_L0]
    simp only [bnG]
    obtain ⟨g1, g2⟩ := oL1 l2 i n p.xFrom.ls 0 l hl (h p (.head _))
    obtain ⟨h1, h2⟩ := oL0 l0 l2 n q (i + 1) _ g1 (fun p hp => h p (.tail _ hp))
    refine ⟨h1, fun k hk => ?_⟩
    rw [h2 k hk, g2 k hk, selP, List.append_assoc]
/-! ### the document's way over them -/
def stp (o : OpD) (s : Bool × Bool × List UInt8 × List PairD) (r : ResultT) : Bool × Bool × List UInt8 × List PairD :=
  if o.xKind = 4 then (false, s.2.1, s.2.2.1, r.xPairs.ls.foldl r17_in s.2.2.2) else if s.1 = true then (false, r.xFound, r.xValue, r.xPairs.ls) else (false, s.2.1, s.2.2.1, s.2.2.2)
theorem rL5 (k : Nat) (b : Bool) (v : List UInt8) : ∀ (q l : List PairD), r17_Gather_L5 k b v q l = q.foldl r17_in l
  | [], l => by rw [r17_Gather_L5]; rfl
  | x :: q, l => by rw [r17_Gather_L5, bnG, rL5 k b v q]; rfl
theorem rL4 (l2 : List (Ll ResultT)) (o : OpD) (i k : Nat) : ∀ (q : List Int) (j : Nat) (b fo : Bool) (v : List UInt8) (ps : List PairD), r17_Gather_L4 l2 o i k q b j fo v ps = (selF l2 i k q j).foldl (stp o) (b, fo, v, ps)
  | [], j, b, fo, v, ps => by rw [r17_Gather_L4, selF]; rfl
  | f :: q, j, b, fo, v, ps => by
    rw [r17_Gather_L4, selF]
    by_cases c : f = (k : Int)
    · rw [if_pos c, if_pos c, List.foldl_cons]
      simp only [bnG]
      by_cases c4 : o.xKind = 4
      · rw [if_pos c4, rL4 l2 o i k q, rL5]
        unfold stp
        rw [if_pos c4]
      · rw [if_neg c4]
        by_cases cb : b = true
        · rw [if_pos cb, rL4 l2 o i k q]
          have e : stp o (b, fo, v, ps) (List.getD (List.getD l2 i default).ls j default) = (false, (List.getD (List.getD l2 i default).ls j default).xFound, (List.getD (List.getD l2 i default).ls j default).xValue, (List.getD (List.getD l2 i default).ls j default).xPairs.ls) := by
            unfold stp; rw [if_neg c4, if_pos cb]
          rw [e]
        · rw [if_neg cb, rL4 l2 o i k q]
          have e : stp o (b, fo, v, ps) (List.getD (List.getD l2 i default).ls j default) = (false, fo, v, ps) := by
            unfold stp; rw [if_neg c4, if_neg cb]
          rw [e]
    · rw [if_neg c, if_neg c, rL4 l2 o i k q]
def toR (p : PartT) : PartDT := PartDT.mk p.xShard (Ll.mk p.xOps.ls) (Ll.mk p.xFrom.ls)
theorem rL3 (l2 : List (Ll ResultT)) (o : OpD) (out : List ResultT) (k : Nat) : ∀ (q : List PartT) (i : Nat) (b fo : Bool) (v : List UInt8) (ps : List PairD), r17_Gather_L3 l2 o out k (q.map toR) b i fo v ps = ((selP l2 k q i).foldl (stp o) (b, fo, v, ps)).2
  | [], i, b, fo, v, ps => by rw [List.map_nil, r17_Gather_L3, selP]; rfl
  | p :: q, i, b, fo, v, ps => by
    rw [List.map_cons, r17_Gather_L3, bnG, selP, List.foldl_append]
    rw [show (toR p).xFrom.ls = p.xFrom.ls from rfl, rL4]
    exact rL3 l2 o out k q (i + 1) _ _ _ _
/-! ### both are the same -/
theorem fold_scan {o : OpD} (c : o.xKind = 4) : ∀ (q : List ResultT) (b fo : Bool) (v : List UInt8) (ps : List PairD), (q.foldl (stp o) (b, fo, v, ps)).2 = (fo, v, (q.flatMap fun r => r.xPairs.ls).foldl r17_in ps)
  | [], _, _, _, _ => rfl
  | r :: q, b, fo, v, ps => by
    have e : stp o (b, fo, v, ps) r = (false, fo, v, r.xPairs.ls.foldl r17_in ps) := by unfold stp; rw [if_pos c]
    rw [List.foldl_cons, e, fold_scan c q, List.flatMap_cons, List.foldl_append]
theorem fold_rest {o : OpD} (c : ¬ o.xKind = 4) : ∀ (q : List ResultT) (fo : Bool) (v : List UInt8) (ps : List PairD), (q.foldl (stp o) (false, fo, v, ps)).2 = (fo, v, ps)
  | [], _, _, _ => rfl
  | r :: q, fo, v, ps => by
    have e : stp o (false, fo, v, ps) r = (false, fo, v, ps) := by unfold stp; rw [if_neg c, if_neg (fun w => by cases w)]
    rw [List.foldl_cons, e, fold_rest c q]
theorem oG0 (o : OpD) : ∀ (q : List ResultT) (l : List PairD), owner_gatherOp_L0 o q l = l ++ q.flatMap fun r => r.xPairs.ls
  | [], l => by rw [owner_gatherOp_L0]; simp
  | x :: q, l => by rw [owner_gatherOp_L0, oG0 o q, List.flatMap_cons, List.append_assoc]
/-- what the document makes of what is told of an operation -/
def docR (o : OpD) (s : Bool × List UInt8 × List PairD) : ResultT :=
  if o.xKind = 4 then (if ((s.2.2.length : Nat) : Int) > max 0 o.xMost then ResultT.mk s.1 s.2.1 (Ll.mk (List.take (Int.toNat (max 0 o.xMost)) s.2.2)) else ResultT.mk s.1 s.2.1 (Ll.mk s.2.2)) else ResultT.mk s.1 s.2.1 (Ll.mk s.2.2)
theorem op_same (o : OpD) (q : List ResultT) : owner_gatherOp o q = docR o (q.foldl (stp o) (true, false, [], [])).2 := by
  unfold owner_gatherOp docR
  simp only [bnG]
  by_cases c : o.xKind = 4
  · obtain ⟨h1, h2⟩ := stable_ins (q.flatMap fun r => r.xPairs.ls)
    rw [if_pos c, if_pos c, fold_scan c, oG0, List.nil_append, h1]
    rw [h1] at h2
    dsimp only
    by_cases d : ((((q.flatMap fun r => r.xPairs.ls).foldl r17_in []).length : Nat) : Int) > max 0 o.xMost
    · rw [if_pos d]
      rw [show Int.toNat (min (max o.xMost 0) (((q.flatMap fun r => r.xPairs.ls).length : Nat) : Int)) = Int.toNat (max 0 o.xMost) by omega]
    · rw [if_neg d, List.take_of_length_le (by omega)]
  · rw [if_neg c, if_neg c]
    cases q with
    | nil => rw [if_pos (by rfl)]; rfl
    | cons r q =>
      rw [if_neg (by simp; omega), List.foldl_cons]
      have e : stp o (true, false, [], []) r = (false, r.xFound, r.xValue, r.xPairs.ls) := by unfold stp; rw [if_neg c, if_pos rfl]
      rw [e, fold_rest c]; rfl
theorem rL2 (l2 : List (Ll ResultT)) (l1 : List PartT) : ∀ (q : List OpD) (out : List ResultT) (k : Nat), ∃ t, r17_Gather_L2 (l1.map toR) l2 q out k = out ++ t ∧ t.length = q.length ∧ ∀ i o, q[i]? = some o → t[i]? = some (docR o ((selP l2 (k + i) l1 0).foldl (stp o) (true, false, [], [])).2)
  | [], out, k => ⟨[], by rw [r17_Gather_L2, List.append_nil], rfl, fun i o h => by simp at h⟩
  | x :: q, out, k => by
    have key : r17_Gather_L2 (l1.map toR) l2 (x :: q) out k = r17_Gather_L2 (l1.map toR) l2 q (out ++ [docR x ((selP l2 k l1 0).foldl (stp x) (true, false, [], [])).2]) (k + 1) := by
      rw [r17_Gather_L2, bnG, rL3]
      unfold docR
      by_cases c : x.xKind = 4
      · rw [if_pos c, if_pos c]
        split <;> rfl
      · rw [if_neg c, if_neg c]
    obtain ⟨t, h1, h2, h3⟩ := rL2 l2 l1 q (out ++ [docR x ((selP l2 k l1 0).foldl (stp x) (true, false, [], [])).2]) (k + 1)
    refine ⟨docR x ((selP l2 k l1 0).foldl (stp x) (true, false, [], [])).2 :: t, by rw [key, h1]; simp, by simp [h2], fun i o h => ?_⟩
    cases i with
    | zero =>
      simp only [List.getElem?_cons_zero, Option.some.injEq] at h
      subst h; rfl
    | succ i =>
      simp only [List.getElem?_cons_succ] at h ⊢
      rw [h3 i o h, show k + 1 + i = k + (i + 1) by omega]
theorem oL2 (T : List (Ll ResultT)) : ∀ (q : List OpD) (k : Nat) (A R : List ResultT), A.length = k → R.length = q.length → ∃ t, owner_Gather_L2 T q k (A ++ R) = A ++ t ∧ t.length = q.length ∧ ∀ i o, q[i]? = some o → t[i]? = some (owner_gatherOp o (List.getD T (k + i) default).ls)
  | [], k, A, R, _, hR => ⟨R, by rw [owner_Gather_L2], hR, fun i o h => by simp at h⟩
  | x :: q, k, A, [], _, hR => by simp at hR
  | x :: q, k, A, y :: R, hA, hR => by
    rw [owner_Gather_L2]
    simp only [bnG]
    have e : List.set (A ++ y :: R) k (ResultT.mk (owner_gatherOp x (List.getD T k default).ls).xFound (owner_gatherOp x (List.getD T k default).ls).xValue (Ll.mk (owner_gatherOp x (List.getD T k default).ls).xPairs.ls)) = (A ++ [owner_gatherOp x (List.getD T k default).ls]) ++ R := by
      rw [← hA]; simp
    rw [e]
    obtain ⟨t, h1, h2, h3⟩ := oL2 T q (k + 1) (A ++ [owner_gatherOp x (List.getD T k default).ls]) R (by simp [hA]) (by simpa using hR)
    refine ⟨owner_gatherOp x (List.getD T k default).ls :: t, by rw [h1]; simp, by simp [h2], fun i o h => ?_⟩
    cases i with
    | zero =>
      simp only [List.getElem?_cons_zero, Option.some.injEq] at h
      subst h; rfl
    | succ i =>
      simp only [List.getElem?_cons_succ] at h ⊢
      rw [h3 i o h, show k + 1 + i = k + (i + 1) by omega]
theorem rC1 (l0 : List OpD) (k : Nat) : ∀ q : List Int, (r17_Gather_L1 l0 k q = .inl () ∧ FromOk (List.length l0) q) ∨ (r17_Gather_L1 l0 k q = .inr ([], 1) ∧ ¬ FromOk (List.length l0) q)
  | [] => .inl ⟨by rw [r17_Gather_L1], fun f hf => by cases hf⟩
  | x :: q => by
    rw [r17_Gather_L1]
    by_cases c1 : x < 0
    · exact .inr ⟨by rw [if_pos c1], fun w => by have := w x (.head _); omega⟩
    · by_cases c2 : x ≥ ((List.length l0 : Nat) : Int)
      · exact .inr ⟨by rw [if_neg c1, if_pos c2], fun w => by have := w x (.head _); omega⟩
      · rw [if_neg c1, if_neg c2]
        rcases rC1 l0 k q with ⟨h1, h2⟩ | ⟨h1, h2⟩
        · refine .inl ⟨h1, fun f hf => ?_⟩
          rcases List.mem_cons.1 hf with e | e
          · rw [e]; omega
          · exact h2 f e
        · exact .inr ⟨h1, fun w => h2 fun f hf => w f (.tail _ hf)⟩
theorem rC0 (l0 : List OpD) (lx : List PartDT) (l2 : List (Ll ResultT)) : ∀ (q : List PartT) (k : Nat), (r17_Gather_L0 l0 lx l2 (q.map toR) k = .inl () ∧ ∀ (i : Nat) (x : PartT), q[i]? = some x → PartOk l0 x (List.getD l2 (k + i) default)) ∨ (r17_Gather_L0 l0 lx l2 (q.map toR) k = .inr ([], 1) ∧ ¬ ∀ (i : Nat) (x : PartT), q[i]? = some x → PartOk l0 x (List.getD l2 (k + i) default))
  | [], k => .inl ⟨by rw [List.map_nil, r17_Gather_L0], fun i x h => by simp at h⟩
  | x :: q, k => by
    rw [List.map_cons, r17_Gather_L0]
    simp only [bnG]
    rw [show (toR x).xOps.ls = x.xOps.ls from rfl, show (toR x).xFrom.ls = x.xFrom.ls from rfl]
    by_cases c1 : ((x.xOps.ls.length : Nat) : Int) = ((x.xFrom.ls.length : Nat) : Int)
    · rw [if_pos c1]
      by_cases c2 : ((x.xOps.ls.length : Nat) : Int) = (((List.getD l2 k default).ls.length : Nat) : Int)
      · rw [if_pos c2]
        rcases rC1 l0 k x.xFrom.ls with ⟨h1, h2⟩ | ⟨h1, h2⟩
        · rw [h1, lpSG_inl]
          rcases rC0 l0 lx l2 q (k + 1) with ⟨g1, g2⟩ | ⟨g1, g2⟩
          · refine .inl ⟨g1, fun i y hy => ?_⟩
            cases i with
            | zero =>
              simp only [List.getElem?_cons_zero, Option.some.injEq] at hy
              subst hy
              exact ⟨by omega, by rw [Nat.add_zero]; omega, h2⟩
            | succ i =>
              simp only [List.getElem?_cons_succ] at hy
              have := g2 i y hy
              rw [show k + 1 + i = k + (i + 1) by omega] at this
              exact this
          · refine .inr ⟨g1, fun w => g2 fun i y hy => ?_⟩
            have := w (i + 1) y (by simpa using hy)
            rw [show k + (i + 1) = k + 1 + i by omega] at this
            exact this
        · rw [h1, lpSG_inr]
          exact .inr ⟨rfl, fun w => h2 (w 0 x rfl).2.2⟩
      · rw [if_neg c2]
        exact .inr ⟨rfl, fun w => c2 (by have := (w 0 x rfl).2.1; rw [Nat.add_zero] at this; omega)⟩
    · rw [if_neg c1]
      exact .inr ⟨rfl, fun w => c1 (by have := (w 0 x rfl).1; omega)⟩
theorem gather_same (l0 : List OpD) (l1 : List PartT) (l2 : List (Ll ResultT)) : owner_Gather l0 l1 l2 = r17_Gather l0 (l1.map toR) l2 := by
  unfold owner_Gather r17_Gather
  simp only [bnG]
  rcases chk l0 l1 l2 with ⟨h1, h2, h3⟩ | ⟨h1, h2⟩
  · rw [h1, if_pos rfl, if_pos (by rw [List.length_map]; omega)]
    rcases rC0 l0 (l1.map toR) l2 l1 0 with ⟨g1, _⟩ | ⟨g1, g2⟩
    · rw [g1, lpG_inl]
      have hn : ∀ p ∈ l1, FromOk l0.length p.xFrom.ls := fun p hp => by
        obtain ⟨i, hi⟩ := List.mem_iff_getElem?.1 hp
        exact (h3 i p hi).2.2
      obtain ⟨o1, o2⟩ := oL0 l0 l2 l0.length l1 0 (List.replicate l0.length (Ll.mk [] : Ll ResultT)) List.length_replicate hn
      obtain ⟨t, a1, a2, a3⟩ := oL2 (owner_Gather_L0 l0 l2 l1 0 (List.replicate l0.length (Ll.mk [] : Ll ResultT))) l0 0 [] (List.replicate l0.length (ResultT.mk false [] (Ll.mk []))) rfl List.length_replicate
      obtain ⟨s, b1, b2, b3⟩ := rL2 l2 l1 l0 [] 0
      rw [List.nil_append] at a1 b1
      rw [List.nil_append] at a1
      rw [a1, b1]
      have e : t = s := by
        apply List.ext_getElem?
        intro i
        by_cases hi : i < l0.length
        · have ho : l0[i]? = some l0[i] := List.getElem?_eq_getElem hi
          rw [a3 i _ ho, b3 i _ ho, Nat.zero_add, o2 i hi, op_same]
          have : (List.getD (List.replicate l0.length (Ll.mk [] : Ll ResultT)) i default).ls = [] := by
            rw [List.getD_eq_getElem?_getD, List.getElem?_replicate, if_pos hi]; rfl
          rw [this, List.nil_append]
        · rw [List.getElem?_eq_none (by omega), List.getElem?_eq_none (by omega)]
      rw [e]
    · exact absurd (fun i x hx => by rw [Nat.zero_add]; exact h3 i x hx) g2
  · rw [h1, if_neg (by decide)]
    by_cases c : (((l1.map toR).length : Nat) : Int) = ((l2.length : Nat) : Int)
    · rw [if_pos c]
      rw [List.length_map] at c
      rcases rC0 l0 (l1.map toR) l2 l1 0 with ⟨_, g2⟩ | ⟨g1, _⟩
      · exact absurd ⟨by omega, fun i x hx => by have := g2 i x hx; rw [Nat.zero_add] at this; exact this⟩ h2
      · rw [g1, lpG_inr]
    · rw [if_neg c]
/-! ### what a law compares -/
theorem mapS (l : List PairD) : ∀ (q pre : List PairD), l = pre ++ q → r04_SameMap_L0 l q pre.length = .inl ()
  | [], _, _ => by rw [r04_SameMap_L0]
  | x :: q, pre, e => by
    rw [r04_SameMap_L0, bnG, e, gdS, if_pos ⟨rfl, rfl⟩]
    have e2 : pre.length + 1 = (pre ++ [x]).length := by simp
    rw [e2, ← e]
    exact mapS l q (pre ++ [x]) (by rw [e]; simp)
theorem mapS2 (l : List PairD) : r04_SameMap l l = true := by
  unfold r04_SameMap
  rw [if_pos rfl, show r04_SameMap_L0 l l 0 = .inl () from mapS l l [] rfl, lpG_inl]
theorem resS (l : List ResultT) : ∀ (q pre : List ResultT), l = pre ++ q → r04_SameResults_L0 l q pre.length = .inl ()
  | [], _, _ => by rw [r04_SameResults_L0]
  | x :: q, pre, e => by
    have hg : List.getD (pre ++ x :: q) pre.length default = x := by simp
    rw [r04_SameResults_L0, bnG, e, hg, if_pos rfl, if_neg (fun w => w rfl), bnG, mapS2, if_pos rfl]
    have e2 : pre.length + 1 = (pre ++ [x]).length := by simp
    rw [e2, ← e]
    exact resS l q (pre ++ [x]) (by rw [e]; simp)
theorem resS2 (l : List ResultT) : r04_SameResults l l = true := by
  unfold r04_SameResults
  rw [if_pos rfl, show r04_SameResults_L0 l l 0 = .inl () from resS l l [] rfl, lpG_inl]
theorem parts_to (l0 : List OpD) (l1 : List PartT) (l2 : List (Ll ResultT)) (r : Bool) : ∀ (q : List PartT) (l : List PartDT), w17_OwnerGathers_L0 l0 l1 l2 r q l = l ++ q.map toR
  | [], l => by rw [w17_OwnerGathers_L0]; simp
  | x :: q, l => by rw [w17_OwnerGathers_L0, parts_to l0 l1 l2 r q, List.map_cons, List.append_assoc]; rfl
theorem gath_loop (l0 : List OpD) (l1 : List PartT) (l2 : List (Ll ResultT)) (r : Bool) : ∀ q : Nat, w17_OwnerGathers_L1 l0 l1 l2 r (l1.map toR) q = .inl ()
  | 0 => by rw [w17_OwnerGathers_L1]
  | q + 1 => by
    rw [w17_OwnerGathers_L1, bnG, bnG, ← gather_same, if_pos rfl, bnG, resS2, if_pos rfl, bnG]
    exact gath_loop l0 l1 l2 r q
theorem T_OwnerGathers (l0 : List OpD) (l1 : List PartT) (l2 : List (Ll ResultT)) : w17_OwnerGathers l0 l1 l2 = true := by
  unfold w17_OwnerGathers
  rw [bnG, bnG, parts_to, List.nil_append, gath_loop, lpG_inl]
  exact live_true
theorem tot_bk : ∀ l : List ResultD, tot (List.map ResultD.abs l) ≤ (l.map bk).sum
  | [] => Nat.le_refl _
  | x :: l => by
    have h1 := tot_bk l
    have h2 := Sv.bk_len (s := x.xPairs) fun y => Nat.le_trans (bk_pos_str y.xKey) (Nat.le_add_right _ _)
    have h3 : bk x = bk x.xFound + (bk x.xValue + (bk x.xPairs + 0)) := rfl
    have h4 := bk_pos_str x.xValue
    rw [List.map_cons, List.map_cons, List.sum_cons, tot]
    have h5 : (ResultD.abs x).xPairs.ls = x.xPairs.ls := rfl
    rw [h5]
    omega
theorem tt_bk : ∀ l : List Row49D, tt (List.map Row49D.abs l) ≤ (l.map bk).sum
  | [] => Nat.le_refl _
  | x :: l => by
    have h1 := tt_bk l
    have h2 := tot_bk x.ls
    have h3 : bk x = (x.ls.map bk).sum + (x.c - x.ls.length) + 1 := rfl
    rw [List.map_cons, List.map_cons, List.sum_cons, tt]
    have h4 : (Row49D.abs x).ls = List.map ResultD.abs x.ls := rfl
    rw [h4]
    omega
theorem ga_small {a0 : Sv OpD} {a1 : Sv PartD} {a2 : Sv Row49D} (hb : bk a0 + bk a1 + bk a2 ≤ 1048576) : tt (List.map Row49D.abs a2.ls) ≤ 100000000 := by
  have h1 := tt_bk a2.ls
  have h2 : bk a2 = (a2.ls.map bk).sum + (a2.c - a2.ls.length) + 1 := rfl
  omega
end Go.Proofs.Ytcjjblkgbfaapaa
