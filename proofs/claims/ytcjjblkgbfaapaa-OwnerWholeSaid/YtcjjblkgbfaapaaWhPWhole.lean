/-
  PROVED HERE: operations that are cut, each part done on its shard's keys alone, and gathered, tell what they tell when they are done on all.
  Conditions: none beyond the statement's own.
-/
import Derived.Test.YtcjjblkgbfaapaaLWhole
namespace Go.Proofs.Ytcjjblkgbfaapaa
set_option linter.unusedVariables false
set_option linter.unusedSimpArgs false
open Go.ChangeShapes
set_option maxRecDepth 100000 in
theorem live_true : w17_live = true := by decide +kernel
theorem selF_app (L : List (Ll ResultT)) (i k : Nat) : ∀ (a b : List Int) (j : Nat), selF L i k (a ++ b) j = selF L i k a j ++ selF L i k b (j + a.length)
  | [], b, j => by rw [selF]; rfl
  | f :: a, b, j => by
    rw [List.cons_append, selF, selF, selF_app L i k a b (j + 1), List.length_cons, show j + 1 + a.length = j + (a.length + 1) by omega]
    split <;> rfl
theorem selF_one (L : List (Ll ResultT)) (i k : Nat) : ∀ (q : List Int) (j : Nat), selF L i k q j = selF [List.getD L i default] 0 k q j
  | [], j => by rw [selF, selF]
  | f :: q, j => by rw [selF, selF, selF_one L i k q]; rfl
theorem selF_rep (R : List ResultT) (k k' : Nat) : ∀ (c j : Nat) (A B : List ResultT), List.drop j R = A ++ B → A.length = c → selF [Ll.mk R] 0 k (List.replicate c ((k' : Nat) : Int)) j = if k' = k then A else []
  | 0, j, A, B, hd, hA => by
    rw [List.eq_nil_of_length_eq_zero hA, List.replicate_zero, selF]; split <;> rfl
  | c + 1, j, [], B, hd, hA => by simp at hA
  | c + 1, j, a :: A, B, hd, hA => by
    obtain ⟨h1, h2⟩ := drop_one hd
    rw [List.replicate_succ, selF, selF_rep R k k' c (j + 1) A B h2 (by simpa using hA)]
    by_cases e : k' = k
    · rw [if_pos (by omega), if_pos e, if_pos e]
      congr 1
      show List.getD R j default = a
      exact getD_of h1
    · rw [if_neg (by omega), if_neg e, if_neg e]
theorem selF_from {l : List OwnerD} {s : Nat} (h : Ows l) (R : List ResultT) (k : Nat) : ∀ (ops : List OpD) (m : List PairD) (k0 j : Nat), op_CheckMap m = 0 → (∀ o ∈ ops, op_CheckOp o = 0) → List.drop j R = (run (flS l ((s : Nat) : Int) m) (opsOf l ((s : Nat) : Int) ops)).2 → selF [Ll.mk R] 0 k (fromOf l ((s : Nat) : Int) ops k0) j = if k0 ≤ k then tellsAt l m ops (k - k0) s else []
  | [], m, k0, j, _, _, _ => by rw [fromOf, selF, tellsAt]; split <;> rfl
  | o :: q, m, k0, j, hm, ho, hd => by
    have e : opsOf l ((s : Nat) : Int) (o :: q) = owner_cutOp l ((s : Nat) : Int) o ++ opsOf l ((s : Nat) : Int) q := List.flatMap_cons ..
    rw [e, run_app, (stp_fl h hm (ho o (.head _))).1] at hd
    have hd : List.drop j R = tells l m o s ++ (run (flS l ((s : Nat) : Int) (stp m o).1) (opsOf l ((s : Nat) : Int) q)).2 := hd
    have hA : (tells l m o s).length = (owner_cutOp l ((s : Nat) : Int) o).length := run_len _ _
    have hd2 : List.drop (j + (owner_cutOp l ((s : Nat) : Int) o).length) R = (run (flS l ((s : Nat) : Int) (stp m o).1) (opsOf l ((s : Nat) : Int) q)).2 := by
      rw [← List.drop_drop, hd, ← hA, List.drop_left]
    rw [fromOf, selF_app, selF_rep R k k0 _ j _ _ hd hA, List.length_replicate, selF_from h R k q (stp m o).1 (k0 + 1) _ (stp_keep hm (ho o (.head _))) (fun x hx => ho x (.tail _ hx)) hd2]
    by_cases c : k0 = k
    · subst c
      rw [if_pos rfl, if_neg (by omega), if_pos (Nat.le_refl _), Nat.sub_self, List.append_nil]; rfl
    · by_cases c2 : k0 ≤ k
      · rw [if_neg c, if_pos (by omega), if_pos c2, List.nil_append, show k - k0 = (k - (k0 + 1)) + 1 by omega]; rfl
      · rw [if_neg c, if_neg (by omega), if_neg c2]; rfl
def rsl (l : List OwnerD) (m : List PairD) (ops : List OpD) (s : Nat) : Ll ResultT := Ll.mk (run (flS l ((s : Nat) : Int) m) (opsOf l ((s : Nat) : Int) ops)).2
theorem selP_map (l : List OwnerD) (m : List PairD) (ops : List OpD) (k : Nat) : ∀ (ss : List Nat) (pre : List (Ll ResultT)), selP (pre ++ ss.map (rsl l m ops)) k (ss.map (prt l ops)) pre.length = ss.flatMap fun s => selF [rsl l m ops s] 0 k (fromOf l ((s : Nat) : Int) ops 0) 0
  | [], pre => by rw [List.map_nil, List.map_nil, selP]; rfl
  | s :: ss, pre => by
    have ih := selP_map l m ops k ss (pre ++ [rsl l m ops s])
    rw [List.append_assoc, List.length_append] at ih
    rw [List.map_cons, List.map_cons, selP, List.flatMap_cons, selF_one]
    have e : List.getD (pre ++ rsl l m ops s :: List.map (rsl l m ops) ss) pre.length default = rsl l m ops s := getMid _ _ _
    rw [e]
    congr 1
theorem flat_flt {α : Type} {f : Nat → List α} {p : Nat → Bool} : ∀ {ss : List Nat}, (∀ s ∈ ss, ¬ p s = true → f s = []) → (ss.filter p).flatMap f = ss.flatMap f
  | [], _ => rfl
  | s :: ss, h => by
    have ih := flat_flt (ss := ss) fun x hx => h x (.tail _ hx)
    rw [List.filter_cons, List.flatMap_cons]
    split
    · rw [List.flatMap_cons, ih]
    · rename_i c; rw [ih, h s (.head _) c]; rfl
theorem told_at {l : List OwnerD} {m : List PairD} {ops : List OpD} (h : Ows l) (hm : op_CheckMap m = 0) (ho : ∀ o ∈ ops, op_CheckOp o = 0) (k : Nat) : selP ((shs l ops).map (rsl l m ops)) k ((shs l ops).map (prt l ops)) 0 = five.flatMap (tellsAt l m ops k) := by
  have h1 := selP_map l m ops k (shs l ops) []
  rw [List.nil_append, List.length_nil] at h1
  rw [h1]
  have e : ∀ s : Nat, selF [rsl l m ops s] 0 k (fromOf l ((s : Nat) : Int) ops 0) 0 = tellsAt l m ops k s := fun s => by
    have := selF_from (s := s) h (run (flS l ((s : Nat) : Int) m) (opsOf l ((s : Nat) : Int) ops)).2 k ops m 0 0 hm ho rfl
    rw [if_pos (Nat.zero_le _), Nat.sub_zero] at this
    exact this
  simp only [e]
  unfold shs
  refine flat_flt fun s _ hs => tellsAt_nil ?_
  unfold hasP at hs
  simp only [decide_eq_true_eq] at hs
  exact List.eq_nil_of_length_eq_zero (by omega)
theorem gather_ok {l : List OwnerD} {m : List PairD} {ops : List OpD} (h : Ows l) (hm : op_CheckMap m = 0) (ho : ∀ o ∈ ops, op_CheckOp o = 0) : owner_Gather ops ((shs l ops).map (prt l ops)) ((shs l ops).map (rsl l m ops)) = ((run m ops).2, 0) := by
  have hf : ∀ p ∈ (shs l ops).map (prt l ops), FromOk ops.length p.xFrom.ls := fun p hp f hf => by
    obtain ⟨s, _, rfl⟩ := List.mem_map.1 hp
    have := fromOf_mem l ((s : Nat) : Int) ops 0 f hf
    rw [Nat.zero_add] at this
    exact ⟨by omega, this.2⟩
  have hc : owner_checkParts ops ((shs l ops).map (prt l ops)) ((shs l ops).map (rsl l m ops)) = 0 := by
    rcases chk ops ((shs l ops).map (prt l ops)) ((shs l ops).map (rsl l m ops)) with q | ⟨_, no⟩
    · exact q.1
    · refine absurd ⟨by rw [List.length_map, List.length_map], fun i x hx => ?_⟩ no
      rw [List.getElem?_map] at hx
      cases hs : (shs l ops)[i]? with
      | none => rw [hs] at hx; cases hx
      | some s =>
        rw [hs] at hx; cases hx
        have e : List.getD ((shs l ops).map (rsl l m ops)) i default = rsl l m ops s := getD_of (by rw [List.getElem?_map, hs]; rfl)
        rw [e]
        refine ⟨(fromOf_len l ((s : Nat) : Int) ops 0).symm, (run_len _ _).symm, fun f hf => ?_⟩
        have := fromOf_mem l ((s : Nat) : Int) ops 0 f hf
        rw [Nat.zero_add] at this
        exact ⟨by omega, this.2⟩
  unfold owner_Gather
  simp only [bnd_eq]
  rw [hc, if_pos rfl]
  obtain ⟨hl, hT⟩ := oL0 ops ((shs l ops).map (rsl l m ops)) ops.length ((shs l ops).map (prt l ops)) 0 (List.replicate ops.length (Ll.mk [])) (by simp) hf
  revert hl hT
  generalize owner_Gather_L0 ops ((shs l ops).map (rsl l m ops)) ((shs l ops).map (prt l ops)) 0 (List.replicate ops.length (Ll.mk [])) = T
  intro hl hT
  obtain ⟨t, h1, h2, h3⟩ := oL2 T ops 0 [] (List.replicate ops.length (ResultT.mk false [] (Ll.mk []))) rfl (by simp)
  rw [List.nil_append, List.nil_append] at h1
  rw [h1]
  congr 1
  refine List.ext_getElem? fun i => ?_
  by_cases hi : i < ops.length
  · obtain ⟨o, hoi⟩ : ∃ o, ops[i]? = some o := ⟨_, List.getElem?_eq_getElem hi⟩
    rw [h3 i o hoi, gatherAt h hm ho hoi, Nat.zero_add, hT i hi, told_at h hm ho i]
    have e : (List.getD (List.replicate ops.length (Ll.mk [] : Ll ResultT)) i default).ls = [] := by
      rw [getD_of (x := Ll.mk []) (by rw [List.getElem?_replicate, if_pos hi])]
    rw [e, List.nil_append]
  · rw [List.getElem?_eq_none (by omega), List.getElem?_eq_none (by rw [run_len]; omega)]
theorem law1 (l : List OwnerD) (A : List PairD) (p : PartT) (B : List (Ll ResultT)) (M : List (Int × Bool)) : ∀ q acc : List PairD, w17_OwnerWhole_L1 l A B M p q acc = acc ++ flS l p.xShard q
  | [], acc => by rw [w17_OwnerWhole_L1]; show acc = acc ++ []; rw [List.append_nil]
  | x :: q, acc => by
    rw [w17_OwnerWhole_L1]
    simp only [bnd_eq]
    have e : flS l p.xShard (x :: q) = (if shd l x.xKey = p.xShard then [x] else []) ++ flS l p.xShard q := by
      unfold flS
      rw [List.filter_cons]
      by_cases c : shd l x.xKey = p.xShard
      · rw [if_pos (decide_eq_true c), if_pos c]; rfl
      · rw [if_neg (by simpa using c), if_neg c]; rfl
    rw [e, law1 l A p B M q, law1 l A p B M q]
    show (if shd l x.xKey = p.xShard then _ else _) = _
    by_cases c : shd l x.xKey = p.xShard
    · rw [if_pos c, if_pos c, List.append_assoc]
    · rw [if_neg c, if_neg c]; rfl
def marks (M : List (Int × Bool)) (ss : List Nat) : List (Int × Bool) := ss.foldl (fun M s => mput M ((s : Nat) : Int) true) M
theorem marks_get (t : Int) : ∀ (ss : List Nat) (M : List (Int × Bool)), Option.getD (mget (marks M ss) t) false = true ↔ (∃ s ∈ ss, ((s : Nat) : Int) = t) ∨ Option.getD (mget M t) false = true
  | [], M => ⟨fun h => .inr h, fun h => h.elim (fun ⟨s, hs, _⟩ => (by cases hs)) id⟩
  | s :: ss, M => by
    show Option.getD (mget (marks (mput M ((s : Nat) : Int) true) ss) t) false = true ↔ _
    rw [marks_get t ss, mget_put]
    by_cases c : ((s : Nat) : Int) = t
    · rw [if_pos c]
      exact ⟨fun _ => .inl ⟨s, .head _, c⟩, fun _ => .inr rfl⟩
    · rw [if_neg c]
      constructor
      · rintro (⟨x, hx, e⟩ | h)
        · exact .inl ⟨x, .tail _ hx, e⟩
        · exact .inr h
      · rintro (⟨x, hx, e⟩ | h)
        · rcases List.mem_cons.1 hx with g | g
          · subst g; exact absurd e c
          · exact .inl ⟨x, g, e⟩
        · exact .inr h
theorem law0 {l : List OwnerD} {m W : List PairD} {ops : List OpD} (b : Bool) (ps : List PartT) (R : List ResultT) (hp : ∀ s : Nat, op_Apply (flS l ((s : Nat) : Int) m) (opsOf l ((s : Nat) : Int) ops) = (flS l ((s : Nat) : Int) W, (rsl l m ops s).ls, 0)) (h24 : ∀ s : Nat, (opsOf l ((s : Nat) : Int) ops).length ≤ 24) : ∀ (ss : List Nat) (A : List PairD) (B : List (Ll ResultT)) (M : List (Int × Bool)), ss.Nodup → (∀ s ∈ ss, ¬ Option.getD (mget M ((s : Nat) : Int)) false = true) →
    w17_OwnerWhole_L0 l m ops b ps W R (ss.map (prt l ops)) A B M = .inl (A ++ ss.flatMap (fun s => flS l ((s : Nat) : Int) W), B ++ ss.map (rsl l m ops), marks M ss)
  | [], A, B, M, _, _ => by
    rw [List.map_nil, w17_OwnerWhole_L0]
    show _ = Sum.inl (A ++ [], B ++ [], M)
    rw [List.append_nil, List.append_nil]
  | s :: ss, A, B, M, hn, hM => by
    obtain ⟨n1, n2⟩ := List.pairwise_cons.1 hn
    rw [List.map_cons, w17_OwnerWhole_L0]
    simp only [bnd_eq]
    rw [law1, List.nil_append]
    have hps := hp s
    have e1 : op_Apply (flS l (prt l ops s).xShard m) (prt l ops s).xOps.ls = (flS l ((s : Nat) : Int) W, (rsl l m ops s).ls, 0) := hps
    have h24s : ¬ (((prt l ops s).xOps.ls.length : Nat) : Int) > 24 := by
      have : (prt l ops s).xOps.ls.length ≤ 24 := h24 s
      omega
    rw [e1, if_pos rfl, if_neg (show ¬ Option.getD (mget M (prt l ops s).xShard) false = true from hM s (.head _))]
    show w17_OwnerWhole_L0 l m ops b ps W R (ss.map (prt l ops)) (A ++ flS l ((s : Nat) : Int) W) (B ++ [rsl l m ops s]) (mput M ((s : Nat) : Int) true) = _
    rw [law0 b ps R hp h24 ss _ _ _ n2 (fun x hx => by
      rw [mget_put, if_neg (fun c => n1 x hx (by omega))]
      exact hM x (.tail _ hx)), List.flatMap_cons, List.map_cons, List.append_assoc, List.append_assoc]; rfl
theorem law2 {l : List OwnerD} {ps : List PartT} {M : List (Int × Bool)} (ops : List OpD) (b : Bool) (qs : List PartT) (W : List PairD) (R : List ResultT) (B : List (Ll ResultT)) (hM : MI M ps) : ∀ q acc : List PairD, w17_OwnerWhole_L2 l ops b qs W R B M q acc = acc ++ q.filter fun p => !mine l ps p
  | [], acc => by rw [w17_OwnerWhole_L2]; simp
  | x :: q, acc => by
    rw [w17_OwnerWhole_L2]
    simp only [bnd_eq]
    rw [law2 ops b qs W R B hM q, law2 ops b qs W R B hM q, List.filter_cons]
    have e : (Option.getD (mget M (shd l x.xKey)) false = true) ↔ mine l ps x = true := by rw [hM, mine_iff]
    show (if Option.getD (mget M (shd l x.xKey)) false = true then _ else _) = _
    by_cases c : mine l ps x = true
    · rw [if_pos (e.2 c), if_neg (by rw [c]; decide)]
    · rw [if_neg (fun q => c (e.1 q)), if_pos (by rw [Bool.not_eq_true] at c; rw [c]; rfl), List.append_assoc]; rfl
theorem fd {k : Key} {v : List UInt8} : ∀ {q : List PairD}, (∀ p ∈ q, p.xKey = k → p.xValue = v) → (∃ p ∈ q, p.xKey = k) → r04_Find q k = (v, true)
  | [], _, ⟨p, hp, _⟩ => by cases hp
  | x :: q, h, hex => by
    unfold r04_Find
    rw [r04_Find_L0]
    by_cases c : x.xKey = k
    · rw [if_pos c, lpG_inr, h x (.head _) c]
    · rw [if_neg c]
      refine fd (fun p hp => h p (.tail _ hp)) ?_
      obtain ⟨p, hp, e⟩ := hex
      rcases List.mem_cons.1 hp with g | g
      · subst g; exact absurd e c
      · exact ⟨p, g, e⟩
theorem law3 (b : Bool) (all : List PairD) : ∀ q : List PairD, (∀ x ∈ q, r04_Find all x.xKey = (x.xValue, true)) → w17_OwnerWhole_L3 b all q = .inl ()
  | [], _ => by rw [w17_OwnerWhole_L3]
  | x :: q, h => by
    rw [w17_OwnerWhole_L3, bnd_eq, h x (.head _), if_pos rfl, if_neg (fun c => c rfl)]
    exact law3 b all q fun y hy => h y (.tail _ hy)
theorem srt_uniq : ∀ {W : List PairD} {p q : PairD}, srt W → p ∈ W → q ∈ W → p.xKey = q.xKey → p = q
  | [], p, q, _, hp, _, _ => by cases hp
  | x :: W, p, q, hs, hp, hq, e => by
    obtain ⟨h1, h2⟩ := srt_cons.1 hs
    rcases List.mem_cons.1 hp with a | a <;> rcases List.mem_cons.1 hq with b | b
    · rw [a, b]
    · subst a; have := h1 q b; rw [e] at this; exact absurd this (k_irr _)
    · subst b; have := h1 p a; rw [e] at this; exact absurd this (k_irr _)
    · exact srt_uniq h2 a b e
theorem dn_all_len (l : List OwnerD) (ops : List OpD) (W : List PairD) : ∀ ss : List Nat, ss.Nodup → (ss.flatMap fun s => flS l ((s : Nat) : Int) W).length = dn l W (ss.map (prt l ops))
  | [], _ => by
    show 0 = (W.filter fun _ => false).length
    rw [List.filter_eq_nil_iff.2 fun _ _ => by decide]; rfl
  | s :: ss, hn => by
    obtain ⟨n1, n2⟩ := List.pairwise_cons.1 hn
    have h := dn_add (l := l) (ps := ss.map (prt l ops)) (p := prt l ops s) (fun q hq => by
      obtain ⟨t, ht, rfl⟩ := List.mem_map.1 hq
      have := n1 t ht
      show ((t : Nat) : Int) ≠ ((s : Nat) : Int)
      omega) W
    have e : dn l W ((s :: ss).map (prt l ops)) = dn l W (ss.map (prt l ops) ++ [prt l ops s]) := by
      unfold dn
      rw [List.map_cons]
      refine congrArg List.length (flt_congr fun x _ => ?_)
      unfold mine
      rw [List.any_cons, List.any_append, List.any_cons, List.any_nil, Bool.or_false, Bool.or_comm]
    rw [e, h, List.flatMap_cons, List.length_append, dn_all_len l ops W ss n2, Nat.add_comm]; rfl
theorem T_OwnerWhole (l : List OwnerD) (m : List PairD) (ops : List OpD) : w17_OwnerWhole l m ops = true := by
  unfold w17_OwnerWhole
  simp only [bnd_eq]
  by_cases h1 : (owner_Cut l ops).2 = 0
  · by_cases h2 : (op_Apply m ops).2.2 = 0
    · rw [if_pos h1, if_pos h2]
      obtain ⟨ps, e, hc⟩ : ∃ ps e, owner_Cut l ops = (ps, e) := ⟨_, _, rfl⟩
      obtain ⟨W, R, e2, ha⟩ : ∃ W R e2, op_Apply m ops = (W, R, e2) := ⟨_, _, _, rfl⟩
      rw [hc] at h1 ⊢
      rw [ha] at h2 ⊢
      have he : e = 0 := h1
      have he2 : e2 = 0 := h2
      obtain ⟨g1, g2, g3⟩ := cut_inv hc he
      obtain ⟨k1, k2, k3, k4⟩ := app_inv ha he2
      have hW : op_CheckMap W = 0 := by rw [k3]; exact run_keep k1 k2
      have hsW := (cm_ok.1 hW).2
      have hp : ∀ s : Nat, op_Apply (flS l ((s : Nat) : Int) m) (opsOf l ((s : Nat) : Int) ops) = (flS l ((s : Nat) : Int) W, (rsl l m ops s).ls, 0) := fun s => by
        rw [apply_ok (cm_flS k1) (ce_0.2 (opsOf_ok g1 k2).1), k3, run_fl g1 k1 k2]; rfl
      have h24 : ∀ s : Nat, (opsOf l ((s : Nat) : Int) ops).length ≤ 24 := fun s => by
        have a := (opsOf_ok (s := ((s : Nat) : Int)) g1 k2).2
        have b := (opc g2).1
        omega
      have L0 := law0 w17_live ps R hp h24 (shs l ops) [] [] [] (shs_nodup l ops) (fun s _ c => by cases c)
      rw [List.nil_append, List.nil_append, ← g3] at L0
      show lp (w17_OwnerWhole_L0 l m ops w17_live ps W R ps [] [] []) _ = true
      rw [L0, lpG_inl]
      have hM : MI (marks [] (shs l ops)) ps := fun t => by
        rw [marks_get, g3]
        constructor
        · rintro (⟨s, hs, e⟩ | c)
          · exact ⟨_, List.mem_map.2 ⟨s, hs, rfl⟩, e⟩
          · cases c
        · rintro ⟨q, hq, e⟩
          obtain ⟨s, hs, rfl⟩ := List.mem_map.1 hq
          exact .inl ⟨s, hs, e⟩
      have hL2 := law2 (l := l) (M := marks [] (shs l ops)) ops w17_live ps W R ((shs l ops).map (rsl l m ops)) hM m ((shs l ops).flatMap fun s => flS l ((s : Nat) : Int) W)
      have hG := gather_ok (m := m) g1 k1 k2
      rw [← g3, ← k4] at hG
      simp only [hL2, hG, resS2, if_true]
      rw [nd_same hc he ha he2]
      have hlen : ((shs l ops).flatMap (fun s => flS l ((s : Nat) : Int) W) ++ W.filter fun p => !mine l ps p).length = W.length := by
        rw [List.length_append, dn_all_len l ops W _ (shs_nodup l ops), ← g3, len_two (mine l ps) W]; rfl
      rw [if_pos (by rw [hlen])]
      have hsub : ∀ p ∈ ((shs l ops).flatMap (fun s => flS l ((s : Nat) : Int) W) ++ W.filter fun p => !mine l ps p), p ∈ W := fun p hp => by
        rcases List.mem_append.1 hp with q | q
        · obtain ⟨s, _, q⟩ := List.mem_flatMap.1 q
          exact (List.mem_filter.1 q).1
        · exact (List.mem_filter.1 q).1
      have hsup : ∀ p ∈ W, p ∈ ((shs l ops).flatMap (fun s => flS l ((s : Nat) : Int) W) ++ W.filter fun p => !mine l ps p) := fun p hp => by
        by_cases c : mine l ps p = true
        · obtain ⟨q, hq, e⟩ := mine_iff.1 c
          rw [g3] at hq
          obtain ⟨s, hs, rfl⟩ := List.mem_map.1 hq
          exact List.mem_append_left _ (List.mem_flatMap.2 ⟨s, hs, List.mem_filter.2 ⟨hp, decide_eq_true e.symm⟩⟩)
        · exact List.mem_append_right _ (List.mem_filter.2 ⟨hp, by simpa using c⟩)
      rw [law3 _ _ W fun x hx => fd (fun p hp e => by rw [srt_uniq hsW (hsub p hp) hx e]) ⟨x, hsup x hx, rfl⟩, lpG_inl]
      exact live_true
    · rw [if_pos h1, if_neg h2]; exact live_true
  · rw [if_neg h1]; exact live_true
end Go.Proofs.Ytcjjblkgbfaapaa
