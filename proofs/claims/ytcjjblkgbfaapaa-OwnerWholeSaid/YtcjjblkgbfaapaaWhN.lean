/-
  PROVED HERE: what the parts of an operation tell, gathered, is what the operation tells; which parts a cut has.
  Conditions: none beyond each law's own.
-/
import Derived.Test.YtcjjblkgbfaapaaWhM
namespace Go.Proofs.Ytcjjblkgbfaapaa
set_option linter.unusedVariables false
set_option linter.unusedSimpArgs false
open Go.ChangeShapes
theorem take_same : ∀ (M : Nat) {S T : List PairD}, srt S → srt T → (∀ p ∈ T, p ∈ S) → (∀ p ∈ List.take M S, p ∈ T) → List.take M T = List.take M S
  | 0, S, T, _, _, _, _ => by rw [List.take_zero, List.take_zero]
  | M + 1, [], T, _, _, h, _ => by
    cases T with
    | nil => rfl
    | cons b T => exact absurd (h b (.head _)) (fun w => (by cases w))
  | M + 1, a :: S, T, hS, hT, h1, h2 => by
    have ha := h2 a (by rw [List.take_succ_cons]; exact .head _)
    cases T with
    | nil => cases ha
    | cons b T =>
      have hS' := srt_cons.1 hS
      have hT' := srt_cons.1 hT
      have e : b = a := by
        rcases List.mem_cons.1 ha with e | e
        · exact e.symm
        · rcases List.mem_cons.1 (h1 b (.head _)) with e2 | e2
          · exact e2
          · exact absurd (k_tr (hS'.1 b e2) (hT'.1 a e)) (k_irr _)
      subst e
      rw [List.take_succ_cons, List.take_succ_cons, take_same M hS'.2 hT'.2 (fun p hp => ?_) fun p hp => ?_]
      · rcases List.mem_cons.1 (h1 p (.tail _ hp)) with q | q
        · subst q; exact absurd (hT'.1 p hp) (k_irr _)
        · exact q
      · rcases List.mem_cons.1 (h2 p (by rw [List.take_succ_cons]; exact .tail _ hp)) with q | q
        · subst q; exact absurd (hS'.1 p (List.mem_of_mem_take hp)) (k_irr _)
        · exact q
theorem take_flt {α : Type} (q : α → Bool) : ∀ (M : Nat) {S : List α} {p : α}, p ∈ List.take M S → q p = true → p ∈ List.take M (S.filter q)
  | 0, S, p, h, _ => by rw [List.take_zero] at h; cases h
  | M + 1, [], p, h, _ => by cases h
  | M + 1, a :: S, p, h, hq => by
    rw [List.take_succ_cons] at h
    rw [List.filter_cons]
    rcases List.mem_cons.1 h with e | e
    · subst e; rw [if_pos hq, List.take_succ_cons]; exact .head _
    · have ih := take_flt q M e hq
      split
      · rw [List.take_succ_cons]; exact .tail _ ih
      · exact List.mem_of_mem_take (i := M) (by rw [List.take_take, Nat.min_eq_left (by omega)]; exact ih)
theorem flat1 {α β : Type} {f : α → List β} {p : β → Bool} (j : α) : ∀ {ix : List α}, ix.Nodup → (∀ i ∈ ix, i ≠ j → (f i).filter p = []) → ((ix.flatMap f).filter p).length ≤ ((f j).filter p).length
  | [], _, _ => Nat.zero_le _
  | i :: ix, hn, h => by
    obtain ⟨h1, h2⟩ := List.pairwise_cons.1 hn
    rw [List.flatMap_cons, List.filter_append, List.length_append]
    have ih := flat1 j h2 fun x hx => h x (.tail _ hx)
    by_cases e : i = j
    · subst e
      have z : (ix.flatMap f).filter p = [] := by
        rw [List.filter_eq_nil_iff]
        intro y hy
        obtain ⟨x, hx, hy⟩ := List.mem_flatMap.1 hy
        have := h x (.tail _ hx) (Ne.symm (h1 x hx))
        exact (List.filter_eq_nil_iff.1 this) y hy
      rw [z]; exact Nat.le_refl _
    · rw [h i (.head _) e]; simpa using ih
theorem alike_k {x y : PairD} : alike ltP x y = true ↔ x.xKey = y.xKey := by
  rw [alike_t, ltP_f, ltP_f]
  exact ⟨fun h => List.le_antisymm h.2 h.1, fun h => by rw [h]; exact ⟨List.le_refl _, List.le_refl _⟩⟩
theorem srt_one_at {S : List PairD} (hs : srt S) (x : PairD) : (S.filter (alike ltP x)).length ≤ 1 := by
  induction S with
  | nil => exact Nat.zero_le _
  | cons a S ih =>
    obtain ⟨h1, h2⟩ := srt_cons.1 hs
    rw [List.filter_cons]
    split
    · rename_i c
      have z : S.filter (alike ltP x) = [] := by
        rw [List.filter_eq_nil_iff]
        intro y hy hc
        have e := (alike_k.1 c).symm.trans (alike_k.1 hc)
        have := h1 y hy
        rw [e] at this; exact k_irr _ this
      rw [z]; exact Nat.le_refl _
    · exact ih h2
theorem srt_of : ∀ {T : List PairD}, Srt ltP T → (∀ x, (T.filter (alike ltP x)).length ≤ 1) → srt T
  | [], _, _ => List.Pairwise.nil
  | a :: T, h, h1 => by
    obtain ⟨g1, g2⟩ := List.pairwise_cons.1 h
    refine srt_cons.2 ⟨fun y hy => ?_, srt_of g2 fun x => Nat.le_trans ?_ (h1 x)⟩
    · have hle := ltP_f.1 (g1 y hy)
      rcases k_tri a.xKey y.xKey with e | e | e
      · exact e
      · exfalso
        have := h1 a
        rw [List.filter_cons, if_pos (alike_k.2 rfl)] at this
        have hm : y ∈ T.filter (alike ltP a) := List.mem_filter.2 ⟨hy, alike_k.2 e⟩
        have := List.length_pos_of_mem hm
        simp only [List.length_cons] at *
        omega
      · exact absurd e (k_nlt.2 hle)
    · rw [List.filter_cons]
      split
      · simp
      · exact Nat.le_refl _
theorem sort_take {S l : List PairD} (M : Nat) (hs : srt S) (h1 : ∀ x, (l.filter (alike ltP x)).length ≤ 1) (h2 : ∀ p ∈ l, p ∈ S) (h3 : ∀ p ∈ List.take M S, p ∈ l) : List.take M (slices_SortStableFunc_api_Pair_api_Pair l) = List.take M S := by
  obtain ⟨f, s⟩ := stable_ok l
  refine take_same M hs (srt_of s fun x => by rw [← f x]; exact h1 x) (fun p hp => h2 p (f.mem ordP hp)) fun p hp => f.symm.mem ordP (h3 p hp)
theorem len_two {α : Type} (p : α → Bool) : ∀ l : List α, l.length = (l.filter p).length + (l.filter fun x => !p x).length
  | [] => rfl
  | x :: l => by
    have ih := len_two p l
    rw [List.filter_cons, List.filter_cons]
    cases p x <;> simp <;> omega
theorem fil_len : ∀ (n : Nat) {l m : List PairD}, l.length ≤ n → Fil ltP l m → l.length = m.length
  | n, [], m, _, h => by
    cases m with
    | nil => rfl
    | cons b m => exact absurd (h.mem ordP (.head _)) (fun w => (by cases w))
  | 0, a :: l, m, hn, h => by simp at hn
  | n + 1, a :: l, m, hn, h => by
    have e1 : ((a :: l).filter (alike ltP a)).length = (m.filter (alike ltP a)).length := by rw [h a]
    have e2 : Fil ltP ((a :: l).filter fun x => !alike ltP a x) (m.filter fun x => !alike ltP a x) := fun x => by
      rw [flt_comm, flt_comm (m := m), h x]
    have e3 : ((a :: l).filter fun x => !alike ltP a x).length ≤ n := by
      rw [List.filter_cons, if_neg (by simp [alike_k])]
      exact Nat.le_trans (List.length_filter_le _ _) (by simpa using hn)
    rw [len_two (alike ltP a) (a :: l), len_two (alike ltP a) m, e1, fil_len n e3 e2]
abbrev five : List Nat := [0, 1, 2, 3, 4]
def tells (l : List OwnerD) (m : List PairD) (o : OpD) (s : Nat) : List ResultT := (run (flS l ((s : Nat) : Int) m) (owner_cutOp l ((s : Nat) : Int) o)).2
theorem tells4 {l : List OwnerD} {m : List PairD} {o : OpD} (h : Ows l) (hm : op_CheckMap m = 0) (ho : op_CheckOp o = 0) (hk : o.xKind = 4) (s : Nat) :
    (tells l m o s).flatMap (fun r => r.xPairs.ls) = (ixL l ((s : Nat) : Int) o l 0).flatMap fun i => List.take o.xMost.toNat ((m.filter fun p => inR o.xLo o.xHi p.xKey).filter fun p => decide (owner_place l p.xKey = ((i : Nat) : Int))) := by
  have hs := (cm_ok.1 hm).2
  have hix : ∀ i ∈ ixL l ((s : Nat) : Int) o l 0, (∃ x, l[i]? = some x) ∧ meets l o i = true := fun i hi => by
    obtain ⟨⟨y, hy, _⟩, hm⟩ := ix_mem0.1 hi
    exact ⟨⟨y, hy⟩, hm⟩
  unfold tells
  rw [cut_rng (.inl hk), run4 (srt_sub (flS_sub l _ m) hs) hk ho hix, List.flatMap_map]
  have key : ∀ i ∈ ixL l ((s : Nat) : Int) o l 0, (flS l ((s : Nat) : Int) m).filter (fun p => inR (pcA l o i).xLo (pcA l o i).xHi p.xKey) = (m.filter fun p => inR o.xLo o.xHi p.xKey).filter fun p => decide (owner_place l p.xKey = ((i : Nat) : Int)) := fun i hi => by
    obtain ⟨⟨y, hy, hsh⟩, _⟩ := ix_mem0.1 hi
    unfold flS
    rw [List.filter_filter, List.filter_filter]
    refine flt_congr fun p hp => ?_
    have hkk := ((cm_ok.1 hm).1 p hp).1
    obtain ⟨j, x, hpj, hx, hsd⟩ := shd_at h hkk
    rw [Bool.eq_iff_iff, Bool.and_eq_true, Bool.and_eq_true, pc_inR h hkk hpj hy, place_of hpj, decide_eq_true_eq, decide_eq_true_eq]
    constructor
    · rintro ⟨⟨h1, h2⟩, _⟩; exact ⟨by rw [h2], h1⟩
    · rintro ⟨h1, h2⟩
      have e : i = j := by omega
      subst e
      rw [hy] at hx; cases hx
      exact ⟨⟨h2, rfl⟩, by rw [hsd, hsh]⟩
  clear hix
  revert key
  generalize ixL l ((s : Nat) : Int) o l 0 = ix
  intro key
  induction ix with
  | nil => rfl
  | cons i ix ih =>
    rw [List.flatMap_cons, List.flatMap_cons, ih fun i hi => key i (.tail _ hi)]
    congr 1
    show List.take _ _ = _
    rw [key i (.head _)]
theorem gather4 {l : List OwnerD} {m : List PairD} {o : OpD} (h : Ows l) (hm : op_CheckMap m = 0) (ho : op_CheckOp o = 0) (hk : o.xKind = 4) : owner_gatherOp o (five.flatMap (tells l m o)) = (stp m o).2 := by
  have hs := (cm_ok.1 hm).2
  have hmo := co_most ho hk
  rw [stp4 hs (co_range ho (.inl hk)) hk hmo.1]
  have e1 : owner_gatherOp_L0 o (five.flatMap (tells l m o)) [] = five.flatMap fun s => (ixL l ((s : Nat) : Int) o l 0).flatMap fun i => List.take o.xMost.toNat ((m.filter fun p => inR o.xLo o.xHi p.xKey).filter fun p => decide (owner_place l p.xKey = ((i : Nat) : Int))) := by
    rw [oG0, List.nil_append, List.flatMap_assoc]
    congr 1
    funext s
    exact tells4 h hm ho hk s
  have hS : srt (m.filter fun p => inR o.xLo o.xHi p.xKey) := srt_sub List.filter_sublist hs
  have hSk : ∀ p ∈ (m.filter fun p => inR o.xLo o.xHi p.xKey), kok p.xKey ∧ inR o.xLo o.xHi p.xKey = true := fun p hp => by
    obtain ⟨a, b⟩ := List.mem_filter.1 hp
    exact ⟨((cm_ok.1 hm).1 p a).1, b⟩
  unfold owner_gatherOp
  simp only [bnd_eq]
  rw [if_pos hk, e1]
  revert hS hSk
  generalize hSe : (m.filter fun p => inR o.xLo o.xHi p.xKey) = S
  intro hS hSk
  have g3 : ∀ p ∈ List.take o.xMost.toNat S, p ∈ five.flatMap fun s => (ixL l ((s : Nat) : Int) o l 0).flatMap fun i => List.take o.xMost.toNat (S.filter fun p => decide (owner_place l p.xKey = ((i : Nat) : Int))) := fun p hp => by
    obtain ⟨hkk, hin⟩ := hSk p (List.mem_of_mem_take hp)
    obtain ⟨j, x, hpj, hx, hsd⟩ := shd_at h hkk
    have hsh := h.shard x (List.mem_of_getElem? hx)
    refine List.mem_flatMap.2 ⟨x.xShard.toNat, ?_, List.mem_flatMap.2 ⟨j, ix_mem0.2 ⟨⟨x, hx, by omega⟩, meets_of h (co_range ho (.inl hk)) hkk hpj hx hin⟩, take_flt _ _ hp (by rw [place_of hpj]; exact decide_eq_true rfl)⟩⟩
    have : x.xShard.toNat = 1 ∨ x.xShard.toNat = 2 ∨ x.xShard.toNat = 3 ∨ x.xShard.toNat = 4 := by omega
    rcases this with e | e | e | e <;> rw [e] <;> decide
  have g2 : ∀ p ∈ (five.flatMap fun s => (ixL l ((s : Nat) : Int) o l 0).flatMap fun i => List.take o.xMost.toNat (S.filter fun p => decide (owner_place l p.xKey = ((i : Nat) : Int)))), p ∈ S := fun p hp => by
    obtain ⟨s, _, hp⟩ := List.mem_flatMap.1 hp
    obtain ⟨i, _, hp⟩ := List.mem_flatMap.1 hp
    exact (List.mem_filter.1 (List.mem_of_mem_take hp)).1
  have g1 : ∀ x, ((five.flatMap fun s => (ixL l ((s : Nat) : Int) o l 0).flatMap fun i => List.take o.xMost.toNat (S.filter fun p => decide (owner_place l p.xKey = ((i : Nat) : Int)))).filter (alike ltP x)).length ≤ 1 := fun x => by
    have z1 : ∀ (s i : Nat), ((List.take o.xMost.toNat (S.filter fun p => decide (owner_place l p.xKey = ((i : Nat) : Int)))).filter (alike ltP x)).length ≤ 1 := fun s i =>
      Nat.le_trans ((List.Sublist.filter _ ((List.take_sublist _ _).trans List.filter_sublist)).length_le) (srt_one_at hS x)
    by_cases hx : ∃ y ∈ S, alike ltP x y = true
    · obtain ⟨y, hy, hal⟩ := hx
      obtain ⟨hkk, _⟩ := hSk y hy
      have hxy := alike_k.1 hal
      rw [← hxy] at hkk
      obtain ⟨j, z, hpj, hz, hsd⟩ := shd_at h hkk
      have z0 : ∀ i, i ≠ j → (List.take o.xMost.toNat (S.filter fun p => decide (owner_place l p.xKey = ((i : Nat) : Int)))).filter (alike ltP x) = [] := fun i hi => by
        rw [List.filter_eq_nil_iff]
        intro p hp hc
        have hp2 := of_decide_eq_true (List.mem_filter.1 (List.mem_of_mem_take hp)).2
        rw [← alike_k.1 hc, place_of hpj] at hp2
        omega
      refine Nat.le_trans (flat1 (z.xShard.toNat) (by decide) fun s hs hne => ?_) (Nat.le_trans (flat1 j (ix_nodup l _ o l 0 rfl).1 fun i _ hi => z0 i hi) (z1 0 j))
      rw [List.filter_eq_nil_iff]
      intro p hp hc
      obtain ⟨i, hi, hp⟩ := List.mem_flatMap.1 hp
      by_cases e : i = j
      · subst e
        obtain ⟨⟨y2, hy2, hs2⟩, _⟩ := ix_mem0.1 hi
        rw [hz] at hy2; cases hy2
        omega
      · exact (List.filter_eq_nil_iff.1 (z0 i e)) p hp hc
    · have : (five.flatMap fun s => (ixL l ((s : Nat) : Int) o l 0).flatMap fun i => List.take o.xMost.toNat (S.filter fun p => decide (owner_place l p.xKey = ((i : Nat) : Int)))).filter (alike ltP x) = [] := by
        rw [List.filter_eq_nil_iff]
        intro p hp hc
        exact hx ⟨p, g2 p hp, hc⟩
      rw [this]; exact Nat.zero_le _
  revert g1 g2 g3
  generalize (five.flatMap fun s => (ixL l ((s : Nat) : Int) o l 0).flatMap fun i => List.take o.xMost.toNat (S.filter fun p => decide (owner_place l p.xKey = ((i : Nat) : Int)))) = P
  intro g3 g2 g1
  have st := sort_take o.xMost.toNat hS g1 g2 g3
  congr 2
  by_cases c : o.xMost ≤ ((P.length : Nat) : Int)
  · rw [show Int.toNat (min (max o.xMost 0) ((P.length : Nat) : Int)) = o.xMost.toNat by omega, st]
  · rw [show Int.toNat (min (max o.xMost 0) ((P.length : Nat) : Int)) = P.length by omega, ← st]
    have hlen : (slices_SortStableFunc_api_Pair_api_Pair P).length = P.length := (fil_len _ (Nat.le_refl _) (stable_ok P).1).symm
    rw [List.take_of_length_le (by omega), List.take_of_length_le (by omega)]
end Go.Proofs.Ytcjjblkgbfaapaa
