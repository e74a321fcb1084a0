/-
  PROVED HERE: which parts a cut has, and what gathering tells of what the parts tell.
  Conditions: none beyond each law's own.
-/
import Derived.Test.YtcjjblkgbfaapaaWhN
import Derived.Test.YtcjjblkgbfaapaaWhA
namespace Go.Proofs.Ytcjjblkgbfaapaa
set_option linter.unusedVariables false
set_option linter.unusedSimpArgs false
open Go.ChangeShapes
theorem gather_any {l : List OwnerD} {m : List PairD} {o : OpD} (h : Ows l) (hm : op_CheckMap m = 0) (ho : op_CheckOp o = 0) : owner_gatherOp o (five.flatMap (tells l m o)) = (stp m o).2 := by
  have hk := co_kind ho
  by_cases h4 : o.xKind = 4
  · exact gather4 h hm ho h4
  · by_cases h5 : o.xKind = 5
    · have hs := (cm_ok.1 hm).2
      have all : ∀ r ∈ five.flatMap (tells l m o), r = noR := fun r hr => by
        obtain ⟨s, _, hr⟩ := List.mem_flatMap.1 hr
        unfold tells at hr
        rw [cut_rng (.inr h5), run5 h5 ho (srt_sub (flS_sub l _ m) hs) fun i hi => by
          obtain ⟨⟨y, hy, _⟩, hm⟩ := ix_mem0.1 hi
          exact ⟨⟨y, hy⟩, hm⟩] at hr
        obtain ⟨_, _, e⟩ := List.mem_map.1 hr
        exact e.symm
      rw [stp5 hs (co_range ho (.inr h5)) h5]
      unfold owner_gatherOp
      rw [if_neg h4]
      revert all
      generalize five.flatMap (tells l m o) = q
      intro all
      cases q with
      | nil => rfl
      | cons r q =>
        rw [if_neg (by simp only [List.length_cons]; omega), bnd_eq, all r (.head _)]; rfl
    · have h45 : ¬ (o.xKind = 4 ∨ o.xKind = 5) := fun c => c.elim h4 h5
      have hkk : kok o.xKey := co_key ho (by omega)
      obtain ⟨j, x, hpj, hx, hsd⟩ := shd_at h hkk
      have hsh := h.shard x (List.mem_of_getElem? hx)
      have e : ∀ s : Nat, tells l m o s = if shd l o.xKey = ((s : Nat) : Int) then [(stp m o).2] else [] := fun s => (stp_fl h hm ho).2 h45
      have e2 : five.flatMap (tells l m o) = [(stp m o).2] := by
        simp only [five, List.flatMap_cons, List.flatMap_nil, e]
        have : shd l o.xKey = 1 ∨ shd l o.xKey = 2 ∨ shd l o.xKey = 3 ∨ shd l o.xKey = 4 := by omega
        rcases this with q | q | q | q <;> rw [q] <;> simp
      rw [e2]
      unfold owner_gatherOp
      rw [if_neg h4, if_neg (by simp), bnd_eq]; rfl
def tellsAt (l : List OwnerD) : List PairD → List OpD → Nat → Nat → List ResultT
  | _, [], _, _ => []
  | m, o :: _, 0, s => tells l m o s
  | m, o :: q, i + 1, s => tellsAt l (stp m o).1 q i s
theorem gatherAt {l : List OwnerD} (h : Ows l) : ∀ {ops : List OpD} {m : List PairD} {k : Nat} {o : OpD}, op_CheckMap m = 0 → (∀ o ∈ ops, op_CheckOp o = 0) → ops[k]? = some o → (run m ops).2[k]? = some (owner_gatherOp o (five.flatMap (tellsAt l m ops k)))
  | [], m, k, o, _, _, hk => by simp at hk
  | x :: q, m, 0, o, hm, ho, hk => by
    simp only [List.getElem?_cons_zero, Option.some.injEq] at hk
    subst hk
    show some (stp m x).2 = _
    rw [← gather_any h hm (ho x (.head _))]; rfl
  | x :: q, m, k + 1, o, hm, ho, hk => by
    simp only [List.getElem?_cons_succ] at hk
    show (run (stp m x).1 q).2[k]? = some (owner_gatherOp o (five.flatMap (tellsAt l (stp m x).1 q k)))
    exact gatherAt h (stp_keep hm (ho x (.head _))) (fun y hy => ho y (.tail _ hy)) hk
theorem tellsAt_nil {l : List OwnerD} {s : Nat} : ∀ {ops : List OpD} {m : List PairD} {k : Nat}, opsOf l ((s : Nat) : Int) ops = [] → tellsAt l m ops k s = []
  | [], _, _, _ => by rw [tellsAt]
  | o :: q, m, k, h => by
    have e : opsOf l ((s : Nat) : Int) (o :: q) = owner_cutOp l ((s : Nat) : Int) o ++ opsOf l ((s : Nat) : Int) q := List.flatMap_cons ..
    rw [e, List.append_eq_nil_iff] at h
    cases k with
    | zero => rw [tellsAt]; unfold tells; rw [h.1]; rfl
    | succ k => rw [tellsAt]; exact tellsAt_nil h.2
def fromOf (l : List OwnerD) (s : Int) : List OpD → Nat → List Int
  | [], _ => []
  | o :: q, k => List.replicate (owner_cutOp l s o).length ((k : Nat) : Int) ++ fromOf l s q (k + 1)
theorem fromOf_len (l : List OwnerD) (s : Int) : ∀ (ops : List OpD) (k : Nat), (fromOf l s ops k).length = (opsOf l s ops).length
  | [], _ => rfl
  | o :: q, k => by
    have e : opsOf l s (o :: q) = owner_cutOp l s o ++ opsOf l s q := List.flatMap_cons ..
    rw [fromOf, e, List.length_append, List.length_append, List.length_replicate, fromOf_len l s q]
theorem fromOf_mem (l : List OwnerD) (s : Int) : ∀ (ops : List OpD) (k : Nat), ∀ f ∈ fromOf l s ops k, ((k : Nat) : Int) ≤ f ∧ f < ((k + ops.length : Nat) : Int)
  | [], _, f, hf => by cases hf
  | o :: q, k, f, hf => by
    rw [fromOf] at hf
    rcases List.mem_append.1 hf with e | e
    · rw [List.eq_of_mem_replicate e, List.length_cons]; omega
    · have := fromOf_mem l s q (k + 1) f e
      rw [List.length_cons]; omega
theorem take_rep {x : Int} {k d : Nat} (R : List Int) : List.take (k + d) (List.replicate k x ++ (List.replicate d x ++ R)) = List.replicate (k + d) x := by
  rw [← List.append_assoc, List.replicate_append_replicate, List.take_left' (by simp)]
theorem rep0 (x : Int) (n : Nat) : ∀ (q k : Nat) (l : List Int), n - k < q → k ≤ n → (1 ≤ k ∨ n = 0) → l.length = n → List.take k l = List.replicate k x → slices_Repeat_int_int_L0 n q k l = List.replicate n x
  | 0, k, l, hq, _, _, _, _ => by omega
  | q + 1, k, l, hq, hk, h1, hl, ht => by
    rw [slices_Repeat_int_int_L0]
    by_cases c : ((k : Nat) : Int) < ((n : Nat) : Int)
    · rw [if_pos c]
      refine rep0 x n q _ _ (by omega) (by omega) (by omega) (by simp; omega) ?_
      rw [ht, List.take_replicate, show min (min k (n - k)) k = min k (n - k) by omega]
      exact take_rep _
    · rw [if_neg c]
      have e : k = n := by omega
      subst e
      rw [← ht, List.take_of_length_le (by omega)]
theorem rep_ok (x : Int) (n : Nat) : slices_Repeat_int_int [x] ((n : Nat) : Int) = List.replicate n x := by
  unfold slices_Repeat_int_int math_bits_Mul math_bits_Mul64
  simp only [bnd_eq, Nat.one_mul, Int.toNat_natCast, List.length_singleton, List.take_zero, List.nil_append, Nat.zero_add]
  refine rep0 x n _ _ _ (by omega) (by omega) (by omega) (by simp; omega) ?_
  rcases Nat.eq_zero_or_pos n with e | e
  · subst e; simp
  · rw [show min 1 n = 1 by omega]; rfl
theorem cutL1 (l : List OwnerD) (p : List PartT) (s : Nat) : ∀ (q : List OpD) (k : Nat) (a : List OpD) (b : List Int), owner_Cut_L1 l p s q k a b = (a ++ opsOf l ((s : Nat) : Int) q, b ++ fromOf l ((s : Nat) : Int) q k)
  | [], k, a, b => by rw [owner_Cut_L1, fromOf]; show _ = (a ++ [], _); rw [List.append_nil, List.append_nil]
  | o :: q, k, a, b => by
    have e : opsOf l ((s : Nat) : Int) (o :: q) = owner_cutOp l ((s : Nat) : Int) o ++ opsOf l ((s : Nat) : Int) q := List.flatMap_cons ..
    rw [owner_Cut_L1]
    simp only [bnd_eq]
    rw [rep_ok, cutL1 l p s q, fromOf, e, List.append_assoc, List.append_assoc]
def prt (l : List OwnerD) (ops : List OpD) (s : Nat) : PartT := PartT.mk ((s : Nat) : Int) (Ll.mk (opsOf l ((s : Nat) : Int) ops)) (Ll.mk (fromOf l ((s : Nat) : Int) ops 0))
def hasP (l : List OwnerD) (ops : List OpD) (s : Nat) : Bool := decide (0 < (opsOf l ((s : Nat) : Int) ops).length)
theorem cutL0 (l : List OwnerD) (ops : List OpD) : ∀ (q k : Nat) (p : List PartT), owner_Cut_L0 l ops q p k = p ++ ((List.range' k q).filter (hasP l ops)).map (prt l ops)
  | 0, k, p => by rw [owner_Cut_L0]; simp
  | q + 1, k, p => by
    rw [owner_Cut_L0]
    simp only [bnd_eq]
    rw [cutL1, List.nil_append, List.nil_append, List.range'_succ, List.filter_cons]
    show (if (((opsOf l ((k : Nat) : Int) ops).length : Nat) : Int) > 0 then owner_Cut_L0 l ops q (p ++ [prt l ops k]) (k + 1) else owner_Cut_L0 l ops q p (k + 1)) = _
    by_cases c : 0 < (opsOf l ((k : Nat) : Int) ops).length
    · rw [if_pos (by omega), if_pos (show hasP l ops k = true from decide_eq_true c), cutL0 l ops q, List.append_assoc]; rfl
    · rw [if_neg (by omega), if_neg (show ¬ hasP l ops k = true by unfold hasP; simpa using c), cutL0 l ops q]
def shs (l : List OwnerD) (ops : List OpD) : List Nat := five.filter (hasP l ops)
theorem cut_ok {l : List OwnerD} {ops : List OpD} (h : Ows l) (ho : op_Check ops = 0) : owner_Cut l ops = ((shs l ops).map (prt l ops), 0) := by
  unfold owner_Cut
  simp only [bnd_eq]
  rw [if_pos (chk_ok.2 h), if_pos ho, cutL0]; rfl
theorem cut_inv {l : List OwnerD} {ops : List OpD} {ps : List PartT} {e : Int} (hc : owner_Cut l ops = (ps, e)) (he : e = 0) : Ows l ∧ op_Check ops = 0 ∧ ps = (shs l ops).map (prt l ops) := by
  by_cases h : owner_Check l = 0
  · by_cases ho : op_Check ops = 0
    · rw [cut_ok (chk_ok.1 h) ho] at hc
      injection hc with h1 _
      exact ⟨chk_ok.1 h, ho, h1.symm⟩
    · exfalso
      unfold owner_Cut at hc
      simp only [bnd_eq] at hc
      rw [if_pos h, if_neg ho] at hc
      injection hc with _ h2
      exact ho (h2.trans he)
  · exfalso
    have := cut_chk hc
    omega
theorem opc {ops : List OpD} (h : op_Check ops = 0) : ops.length ≤ 4 ∧ ∀ o ∈ ops, op_CheckOp o = 0 := by
  unfold op_Check at h
  split at h
  · cases h
  · split at h
    · cases h
    · rw [bnd_eq] at h
      exact ⟨by omega, ce_0.1 h⟩
theorem app_inv {m : List PairD} {l : List OpD} {a : List PairD} {b : List ResultT} {e : Int} (h : op_Apply m l = (a, b, e)) (he : e = 0) : op_CheckMap m = 0 ∧ (∀ o ∈ l, op_CheckOp o = 0) ∧ a = (run m l).1 ∧ b = (run m l).2 := by
  by_cases c : op_CheckMap m = 0 ∧ op_checkEach l = 0
  · rw [apply_ok c.1 c.2] at h
    injection h with h1 h2
    injection h2 with h2 _
    exact ⟨c.1, ce_0.1 c.2, h1.symm, h2.symm⟩
  · exfalso
    obtain ⟨h1, h2⟩ := apply_bad c
    rw [h1] at h
    injection h with _ h3
    injection h3 with _ h3
    exact h2 (h3.trans he)
theorem shs_nodup (l : List OwnerD) (ops : List OpD) : (shs l ops).Nodup := List.Pairwise.sublist List.filter_sublist (by decide)
theorem shs_len (l : List OwnerD) (ops : List OpD) : (shs l ops).length ≤ 5 := List.length_filter_le _ _
theorem cut_small {l : List OwnerD} {ops : List OpD} {ps : List PartT} {e : Int} (hc : owner_Cut l ops = (ps, e)) : ¬ e = 0 ∨ List.length ps ≤ 5 := by
  by_cases he : e = 0
  · obtain ⟨_, _, e2⟩ := cut_inv hc he
    right; rw [e2, List.length_map]; exact shs_len _ _
  · exact .inl he
theorem part_at2 {l : List OwnerD} {ops : List OpD} {ps : List PartT} {e : Int} (hc : owner_Cut l ops = (ps, e)) (he : e = 0) {i : Nat} {p : PartT} (hp : ps[i]? = some p) : ∃ s, (shs l ops)[i]? = some s ∧ p = prt l ops s := by
  obtain ⟨_, _, e2⟩ := cut_inv hc he
  rw [e2, List.getElem?_map] at hp
  cases hs : (shs l ops)[i]? with
  | none => rw [hs] at hp; cases hp
  | some s => rw [hs] at hp; cases hp; exact ⟨s, rfl, rfl⟩
theorem part_small {l : List OwnerD} {ops : List OpD} {ps : List PartT} {e : Int} (hc : owner_Cut l ops = (ps, e)) (he : e = 0) {i : Nat} {p : PartT} (hp : ps[i]? = some p) : List.length p.xOps.ls ≤ 24 := by
  obtain ⟨h1, h2, _⟩ := cut_inv hc he
  obtain ⟨s, _, rfl⟩ := part_at2 hc he hp
  have a := (opsOf_ok (s := ((s : Nat) : Int)) h1 (opc h2).2).2
  have b := (opc h2).1
  show (opsOf l _ ops).length ≤ 24
  omega
def mine (l : List OwnerD) (ps : List PartT) (p : PairD) : Bool := ps.any fun q => decide (q.xShard = shd l p.xKey)
def dn (l : List OwnerD) (W : List PairD) (ps : List PartT) : Nat := (W.filter (mine l ps)).length
def nd (l : List OwnerD) (ps : List PartT) (m : List PairD) : Nat := (m.filter fun p => !mine l ps p).length
theorem dn_le (l : List OwnerD) (W : List PairD) (ps : List PartT) : dn l W ps ≤ W.length := List.length_filter_le _ _
theorem dn_add {l : List OwnerD} {ps : List PartT} {p : PartT} (hn : ∀ q ∈ ps, q.xShard ≠ p.xShard) : ∀ W : List PairD, dn l W (ps ++ [p]) = dn l W ps + (flS l p.xShard W).length
  | [] => rfl
  | x :: W => by
    have ih := dn_add (l := l) hn W
    unfold dn flS at ih ⊢
    rw [List.filter_cons, List.filter_cons, List.filter_cons]
    have e : mine l (ps ++ [p]) x = (mine l ps x || decide (p.xShard = shd l x.xKey)) := by unfold mine; rw [List.any_append]; simp
    by_cases c : shd l x.xKey = p.xShard
    · have z : mine l ps x = false := by
        rw [Bool.eq_false_iff]
        intro hc
        obtain ⟨q, hq, h⟩ := List.any_eq_true.1 hc
        exact hn q hq ((of_decide_eq_true h).trans c)
      rw [e, z, if_pos (by simp [c]), if_neg (by decide), if_pos (decide_eq_true c), List.length_cons, List.length_cons, ih]; omega
    · have z : decide (p.xShard = shd l x.xKey) = false := decide_eq_false fun q => c q.symm
      rw [e, z, Bool.or_false, if_neg (c := decide (shd l x.xKey = p.xShard) = true) (by simpa using c)]
      by_cases d : mine l ps x = true
      · rw [if_pos d, if_pos d, List.length_cons, List.length_cons, ih]; omega
      · rw [if_neg d, if_neg d, ih]
theorem part_dist {l : List OwnerD} {ops : List OpD} {ps : List PartT} {e : Int} (hc : owner_Cut l ops = (ps, e)) (he : e = 0) {i : Nat} {p : PartT} (hp : ps[i]? = some p) : ∀ q ∈ List.take i ps, q.xShard ≠ p.xShard := fun q hq => by
  obtain ⟨j, hj⟩ := List.mem_iff_getElem?.1 hq
  have hji : j < i := by have := (List.getElem?_eq_some_iff.1 hj).1; rw [List.length_take] at this; omega
  rw [List.getElem?_take, if_pos hji] at hj
  obtain ⟨s, hs, rfl⟩ := part_at2 hc he hp
  obtain ⟨t, ht, rfl⟩ := part_at2 hc he hj
  have hd := List.pairwise_iff_getElem.1 (shs_nodup l ops) j i (List.getElem?_eq_some_iff.1 ht).1 (List.getElem?_eq_some_iff.1 hs).1 hji
  rw [(List.getElem?_eq_some_iff.1 ht).2, (List.getElem?_eq_some_iff.1 hs).2] at hd
  intro c
  have c : ((t : Nat) : Int) = ((s : Nat) : Int) := c
  omega
theorem part_run {l : List OwnerD} {ops : List OpD} {ps : List PartT} {m W : List PairD} {R : List ResultT} {e e2 : Int} (hc : owner_Cut l ops = (ps, e)) (he : e = 0) (ha : op_Apply m ops = (W, R, e2)) (he2 : e2 = 0) {i : Nat} {p : PartT} (hp : ps[i]? = some p) :
    op_Apply (flS l p.xShard m) p.xOps.ls = (flS l p.xShard W, (run (flS l p.xShard m) p.xOps.ls).2, 0) := by
  obtain ⟨h1, h2, _⟩ := cut_inv hc he
  obtain ⟨g1, g2, g3, g4⟩ := app_inv ha he2
  obtain ⟨s, _, rfl⟩ := part_at2 hc he hp
  show op_Apply (flS l ((s : Nat) : Int) m) (opsOf l ((s : Nat) : Int) ops) = (flS l ((s : Nat) : Int) W, (run (flS l ((s : Nat) : Int) m) (opsOf l ((s : Nat) : Int) ops)).2, 0)
  rw [apply_ok (cm_flS g1) (ce_0.2 (opsOf_ok h1 g2).1), g3]
  congr 1
  exact run_fl h1 g1 g2
theorem grow {l : List OwnerD} {ops : List OpD} {ps : List PartT} {m W o a A : List PairD} {R b : List ResultT} {e e2 c : Int} {i : Nat} {p : PartT} (hc : owner_Cut l ops = (ps, e)) (he : e = 0) (ha : op_Apply m ops = (W, R, e2)) (he2 : e2 = 0) (hp : ps[i]? = some p) (ho : o = flS l p.xShard m) (hb : op_Apply o p.xOps.ls = (a, b, c)) (hA : List.length A ≤ dn l W (List.take i ps)) :
    List.length A + List.length a ≤ dn l W (List.take (i + 1) ps) ∧ dn l W (List.take (i + 1) ps) ≤ List.length W := by
  refine ⟨?_, dn_le _ _ _⟩
  have hr := part_run hc he ha he2 hp
  rw [← ho, hb] at hr
  injection hr with hr _
  have hi := (List.getElem?_eq_some_iff.1 hp).1
  have ht : List.take (i + 1) ps = List.take i ps ++ [p] := by rw [List.take_succ_eq_append_getElem hi, (List.getElem?_eq_some_iff.1 hp).2]
  rw [ht, dn_add (part_dist hc he hp), hr]; omega
theorem dn_all {l : List OwnerD} {W : List PairD} {ps : List PartT} {n k : Nat} (h : n ≤ dn l W (List.take k ps)) (hk : List.length ps ≤ k) : n ≤ dn l W ps := by rw [List.take_of_length_le hk] at h; exact h
theorem fl_0 {l : List OwnerD} {s : Int} {m : List PairD} : ([] : List PairD) = flS l s (List.take 0 m) := rfl
theorem fl_in {l : List OwnerD} {s r e : Int} {m o : List PairD} {k : Nat} {x : PairD} {w : OwnerD} (h : o = flS l s (List.take k m)) (hx : m[k]? = some x) (hf : owner_Find l x.xKey = (r, e)) (hw : l[Int.toNat r]? = some w) (hs : w.xShard = s) : o ++ [x] = flS l s (List.take (k + 1) m) := by
  obtain ⟨hk, hx2⟩ := List.getElem?_eq_some_iff.1 hx
  rw [List.take_succ_eq_append_getElem hk, flS_app, ← h, hx2]
  congr 1
  unfold flS shd
  rw [List.filter_cons, if_pos (by rw [hf, getD_of hw]; exact decide_eq_true hs)]; rfl
theorem fl_out {l : List OwnerD} {s r e : Int} {m o : List PairD} {k : Nat} {x : PairD} {w : OwnerD} (h : o = flS l s (List.take k m)) (hx : m[k]? = some x) (hf : owner_Find l x.xKey = (r, e)) (hw : l[Int.toNat r]? = some w) (hs : ¬ w.xShard = s) : o = flS l s (List.take (k + 1) m) := by
  obtain ⟨hk, hx2⟩ := List.getElem?_eq_some_iff.1 hx
  rw [List.take_succ_eq_append_getElem hk, flS_app, ← h, hx2]
  have : flS l s [x] = [] := by
    unfold flS shd
    rw [List.filter_cons, if_neg (by rw [hf, getD_of hw]; simpa using hs)]; rfl
  rw [this, List.append_nil]
theorem fl_all {l : List OwnerD} {s : Int} {m o : List PairD} {k : Nat} (h : o = flS l s (List.take k m)) (hk : List.length m ≤ k) : o = flS l s m := by rw [List.take_of_length_le hk] at h; exact h
def MI (m : List (Int × Bool)) (ps : List PartT) : Prop := ∀ s : Int, Option.getD (mget m s) false = true ↔ ∃ q ∈ ps, q.xShard = s
theorem mi_0 {ps : List PartT} : MI [] (List.take 0 ps) := fun s => ⟨fun h => (by cases h), fun ⟨q, hq, _⟩ => (by cases hq)⟩
theorem mi_in {m : List (Int × Bool)} {ps : List PartT} {k : Nat} {p : PartT} {s : Int} (h : MI m (List.take k ps)) (hp : ps[k]? = some p) (hs : p.xShard = s) : MI (mput m s true) (List.take (k + 1) ps) := fun t => by
  obtain ⟨hk, hx2⟩ := List.getElem?_eq_some_iff.1 hp
  rw [List.take_succ_eq_append_getElem hk, hx2, mget_put]
  by_cases c : s = t
  · rw [if_pos c]
    exact ⟨fun _ => ⟨p, List.mem_append_right _ (.head _), hs.trans c⟩, fun _ => rfl⟩
  · rw [if_neg c, h t]
    constructor
    · rintro ⟨q, hq, e⟩; exact ⟨q, List.mem_append_left _ hq, e⟩
    · rintro ⟨q, hq, e⟩
      rcases List.mem_append.1 hq with g | g
      · exact ⟨q, g, e⟩
      · rw [List.mem_singleton.1 g] at e; exact absurd (hs.symm.trans e) c
theorem mi_all {m : List (Int × Bool)} {ps : List PartT} {k : Nat} (h : MI m (List.take k ps)) (hk : List.length ps ≤ k) : MI m ps := by rw [List.take_of_length_le hk] at h; exact h
theorem mine_iff {l : List OwnerD} {ps : List PartT} {p : PairD} : mine l ps p = true ↔ ∃ q ∈ ps, q.xShard = shd l p.xKey := by
  unfold mine
  rw [List.any_eq_true]
  exact ⟨fun ⟨q, h, e⟩ => ⟨q, h, of_decide_eq_true e⟩, fun ⟨q, h, e⟩ => ⟨q, h, decide_eq_true e⟩⟩
theorem nd_0 {l : List OwnerD} {ps : List PartT} {m A W : List PairD} (h : List.length A ≤ dn l W ps) : List.length A ≤ dn l W ps + nd l ps (List.take 0 m) := h
theorem nd_in {l : List OwnerD} {ps : List PartT} {m A W : List PairD} {M : List (Int × Bool)} {k : Nat} {x : PairD} {w : OwnerD} {r e : Int} {o : Option Bool} (h : List.length A ≤ dn l W ps + nd l ps (List.take k m)) (hM : MI M ps) (hx : m[k]? = some x) (hf : owner_Find l x.xKey = (r, e)) (hw : l[Int.toNat r]? = some w) (hs : mget M w.xShard = o) (ho : Option.getD o false = false) : List.length (A ++ [x]) ≤ dn l W ps + nd l ps (List.take (k + 1) m) := by
  obtain ⟨hk, hx2⟩ := List.getElem?_eq_some_iff.1 hx
  have e1 : shd l x.xKey = w.xShard := by unfold shd; rw [hf, getD_of hw]
  have e2 : mine l ps x = false := by
    rw [Bool.eq_false_iff]
    intro hc
    have := (hM (shd l x.xKey)).2 (mine_iff.1 hc)
    rw [e1, hs, ho] at this; cases this
  have e3 : nd l ps (List.take (k + 1) m) = nd l ps (List.take k m) + 1 := by
    unfold nd
    rw [List.take_succ_eq_append_getElem hk, hx2, List.filter_append, List.length_append, List.filter_cons, if_pos (by rw [e2]; rfl)]; rfl
  rw [e3, List.length_append, List.length_singleton]; omega
theorem nd_out {l : List OwnerD} {ps : List PartT} {m A W : List PairD} {k : Nat} (h : List.length A ≤ dn l W ps + nd l ps (List.take k m)) : List.length A ≤ dn l W ps + nd l ps (List.take (k + 1) m) := by
  have : nd l ps (List.take k m) ≤ nd l ps (List.take (k + 1) m) := by
    unfold nd
    have e : List.take k m = List.take k (List.take (k + 1) m) := by rw [List.take_take, Nat.min_eq_left (by omega)]
    rw [e]
    exact (List.Sublist.filter _ (List.take_sublist _ _)).length_le
  omega
theorem nd_same {l : List OwnerD} {ops : List OpD} {ps : List PartT} {m W : List PairD} {R : List ResultT} {e e2 : Int} (hc : owner_Cut l ops = (ps, e)) (he : e = 0) (ha : op_Apply m ops = (W, R, e2)) (he2 : e2 = 0) : (m.filter fun p => !mine l ps p) = W.filter fun p => !mine l ps p := by
  obtain ⟨h1, h2, h3⟩ := cut_inv hc he
  obtain ⟨g1, g2, g3, g4⟩ := app_inv ha he2
  have hW : op_CheckMap W = 0 := by rw [g3]; exact run_keep g1 g2
  have hs := (cm_ok.1 g1).2
  have hsW := (cm_ok.1 hW).2
  have key : ∀ p : PairD, kok p.xKey → ¬ mine l ps p = true → (p ∈ m ↔ p ∈ W) := fun p hk hn => by
    obtain ⟨j, x, hpj, hx, hsd⟩ := shd_at h1 hk
    have hsh := h1.shard x (List.mem_of_getElem? hx)
    have hno : opsOf l (shd l p.xKey) ops = [] := by
      apply Classical.byContradiction
      intro c
      refine hn (mine_iff.2 ⟨prt l ops (shd l p.xKey).toNat, ?_, by show (((shd l p.xKey).toNat : Nat) : Int) = _; omega⟩)
      rw [h3]
      refine List.mem_map.2 ⟨_, List.mem_filter.2 ⟨?_, ?_⟩, rfl⟩
      · have : (shd l p.xKey).toNat = 1 ∨ (shd l p.xKey).toNat = 2 ∨ (shd l p.xKey).toNat = 3 ∨ (shd l p.xKey).toNat = 4 := by omega
        rcases this with q | q | q | q <;> rw [q] <;> decide
      · unfold hasP
        rw [show (((shd l p.xKey).toNat : Nat) : Int) = shd l p.xKey by omega]
        exact decide_eq_true (List.length_pos_iff.2 c)
    have e3 := run_fl (s := shd l p.xKey) h1 g1 g2
    rw [hno, ← g3] at e3
    have e4 : flS l (shd l p.xKey) m = flS l (shd l p.xKey) W := e3
    constructor
    · intro hp
      have : p ∈ flS l (shd l p.xKey) m := List.mem_filter.2 ⟨hp, decide_eq_true rfl⟩
      rw [e4] at this; exact (List.mem_filter.1 this).1
    · intro hp
      have : p ∈ flS l (shd l p.xKey) W := List.mem_filter.2 ⟨hp, decide_eq_true rfl⟩
      rw [← e4] at this; exact (List.mem_filter.1 this).1
  have a1 : srt (m.filter fun p => !mine l ps p) := srt_sub List.filter_sublist hs
  have a2 : srt (W.filter fun p => !mine l ps p) := srt_sub List.filter_sublist hsW
  have m1 : ∀ p, p ∈ (m.filter fun p => !mine l ps p) → p ∈ W.filter fun p => !mine l ps p := fun p hp => by
    obtain ⟨b1, b2⟩ := List.mem_filter.1 hp
    exact List.mem_filter.2 ⟨(key p ((cm_ok.1 g1).1 p b1).1 (by simpa using b2)).1 b1, b2⟩
  have m2 : ∀ p, p ∈ (W.filter fun p => !mine l ps p) → p ∈ m.filter fun p => !mine l ps p := fun p hp => by
    obtain ⟨b1, b2⟩ := List.mem_filter.1 hp
    exact List.mem_filter.2 ⟨(key p ((cm_ok.1 hW).1 p b1).1 (by simpa using b2)).2 b1, b2⟩
  have q := take_same ((m.filter fun p => !mine l ps p).length + (W.filter fun p => !mine l ps p).length) a1 a2 m2 fun p hp => m1 p (List.mem_of_mem_take hp)
  rw [List.take_of_length_le (by omega), List.take_of_length_le (by omega)] at q
  exact q.symm
theorem dn_nd {l : List OwnerD} {ops : List OpD} {ps : List PartT} {m W : List PairD} {R : List ResultT} {e e2 : Int} (hc : owner_Cut l ops = (ps, e)) (he : e = 0) (ha : op_Apply m ops = (W, R, e2)) (he2 : e2 = 0) (k : Nat) : dn l W ps + nd l ps (List.take k m) ≤ List.length W := by
  have h1 := len_two (mine l ps) W
  have h2 := nd_same hc he ha he2
  have h3 : nd l ps (List.take k m) ≤ (m.filter fun p => !mine l ps p).length := (List.Sublist.filter _ (List.take_sublist _ _)).length_le
  rw [h2] at h3
  unfold dn; omega
theorem stp_tot {m : List PairD} {o : OpD} (hm : op_CheckMap m = 0) (ho : op_CheckOp o = 0) : List.length (stp m o).2.xPairs.ls ≤ 4 := by
  have hs := (cm_ok.1 hm).2
  have hk := co_kind ho
  by_cases h4 : o.xKind = 4
  · have := co_most ho h4
    rw [stp4 hs (co_range ho (.inl h4)) h4 this.1]
    show (List.take _ _).length ≤ 4
    rw [List.length_take]; omega
  · by_cases h5 : o.xKind = 5
    · rw [stp5 hs (co_range ho (.inr h5)) h5]; exact Nat.zero_le _
    · obtain ⟨a, e, d, hc, _, _⟩ := find3 hs o.xKey
      unfold stp
      by_cases h1 : o.xKind = 1
      · rw [if_pos h1]
        rcases get_of hs hc with ⟨_, g⟩ | ⟨v, _, g⟩ <;> rw [g] <;> exact Nat.zero_le _
      · by_cases h2 : o.xKind = 2
        · rw [if_neg h1, if_pos h2, put_of hs hc]; exact Nat.zero_le _
        · rw [if_neg h1, if_neg h2, if_pos (by omega), del_of hs hc]; exact Nat.zero_le _
theorem run_tot : ∀ {l : List OpD} {m : List PairD}, op_CheckMap m = 0 → (∀ o ∈ l, op_CheckOp o = 0) → tot (run m l).2 ≤ 5 * l.length
  | [], m, _, _ => Nat.le_refl _
  | o :: l, m, hm, ho => by
    have h1 := stp_tot hm (ho o (.head _))
    have h2 := run_tot (stp_keep hm (ho o (.head _))) fun x hx => ho x (.tail _ hx)
    show tot ((stp m o).2 :: (run (stp m o).1 l).2) ≤ _
    rw [tot, List.length_cons]; omega
theorem app_tot {m : List PairD} {l : List OpD} {a : List PairD} {b : List ResultT} {e : Int} (h : op_Apply m l = (a, b, e)) : tot b ≤ 5 * List.length l := by
  by_cases he : e = 0
  · obtain ⟨g1, g2, _, g4⟩ := app_inv h he
    rw [g4]; exact run_tot g1 g2
  · have : ¬ (op_CheckMap m = 0 ∧ op_checkEach l = 0) := fun c => by
      rw [apply_ok c.1 c.2] at h
      injection h with _ h; injection h with _ h
      exact he h.symm
    rw [(apply_bad this).1] at h
    injection h with _ h; injection h with h _
    rw [← h]; exact Nat.zero_le _
theorem tt_one (l : List (Ll ResultT)) (b : List ResultT) : tt (l ++ [Ll.mk b]) = tt l + tot b := by
  rw [tt_app]; rfl
end Go.Proofs.Ytcjjblkgbfaapaa
