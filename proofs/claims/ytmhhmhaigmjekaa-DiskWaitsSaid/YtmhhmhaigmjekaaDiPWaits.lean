/-
  What waits, and what is read.
  Conditions: none beyond each law's own.
-/
import Derived.Test.YtmhhmhaigmjekaaDiT
import Derived.Test.YtmhhmhaigmjekaaLWaits
namespace Go.Proofs.Ytmhhmhaigmjekaa
set_option linter.unusedVariables false
set_option linter.unusedSimpArgs false
structure WInv (m : DiskT) (bl : List Bool) (l : List (List UInt8)) : Prop where
  up : m.xup = true
  sec : m.xsectors = 12
  fuse : m.xfuse = -1
  ssrt : Srt m.xsafe
  srt : Srt m.xwaits
  key : ∀ p ∈ m.xwaits, 0 ≤ p.1 ∧ p.1 < 12
  ll : l.length = 12
  lb : bl.length = 12
  at_ : ∀ j : Nat, j < 12 → l[j]? = some ((mget m.xwaits (j : Int)).getD (rd m.xsafe j))
  bt : ∀ j : Nat, j < 12 → bl[j]? = some (mget m.xwaits (j : Int)).isSome
theorem wa_L1 (r : Bool) : ∀ (q : List OpD) (bl : List Bool) (l : List (List UInt8)) (m : DiskT), WInv m bl l → ∃ s : List Bool × List (List UInt8) × DiskT, w06_DiskWaits_L1 r q bl l m = .inl s ∧ WInv s.2.2 s.1 s.2.1
  | [], bl, l, m, h => ⟨(bl, l, m), rfl, h⟩
  | x :: q, bl, l, m, h => by
    obtain ⟨h1, h2, h3, h0, h5, h6, h7, h8, h9, h10⟩ := h
    rw [w06_DiskWaits_L1]
    have hfl := full_len x.xV
    generalize w06_full x.xV = u at hfl ⊢
    by_cases hd : x.xDo = 2
    · have hs : disk_Disk_Sync m = (0, ⟨12, keepAll m.xsafe m.xwaits, [], true, -1⟩) := by
        rw [sync_eq, if_pos h1, if_neg (by rw [h3]; omega), h1, h2, h3]; rfl
      simp only [bnd, if_pos hd, hs, if_true]
      refine wa_L1 r q _ _ _ ⟨rfl, rfl, rfl, keepAll_srt h0, List.Pairwise.nil, fun p hp => (by cases hp), h7, List.length_replicate, fun j hj => ?_, fun j hj => by rw [List.getElem?_replicate, if_pos hj]; rfl⟩
      rw [h9 j hj]
      exact congrArg some (rd_keepAll h0 h5 j).symm
    · obtain ⟨i, hi⟩ : ∃ i, i = (Int.toNat ((remI x.xN 12) + 12)) % 12 := ⟨_, rfl⟩
      have hi12 : i < 12 := by omega
      have hw : disk_Disk_Write m ((i : Nat) : Int) u = (0, ⟨12, m.xsafe, sput m.xwaits i u, true, -1⟩) := by
        rw [write_eq, if_pos h1, if_neg (by omega), if_neg (by rw [h2]; omega), if_pos hfl, if_neg (by rw [h3]; omega), h1, h2, h3]; rfl
      simp only [bnd, if_neg hd, ← hi, hw, if_true]
      refine wa_L1 r q _ _ _ ⟨rfl, rfl, rfl, h0, sput_srt h5, fun p hp => ?_, by rw [List.length_set]; exact h7, by rw [List.length_set]; exact h8, fun j hj => ?_, fun j hj => ?_⟩
      · rcases (sput_mem h5).1 hp with rfl | ⟨hp, _⟩
        · show (0 : Int) ≤ (i : Int) ∧ (i : Int) < 12; omega
        · exact h6 p hp
      · show _ = some ((mget (sput m.xwaits i u) (j : Int)).getD (rd m.xsafe j))
        rw [mget_sput h5, set_atE (by omega)]
        by_cases e : i = j
        · rw [if_pos e, if_pos (by omega)]; rfl
        · rw [if_neg e, if_neg (by omega)]; exact h9 j hj
      · show _ = some (mget (sput m.xwaits i u) (j : Int)).isSome
        rw [mget_sput h5, set_atE (by omega)]
        by_cases e : i = j
        · rw [if_pos e, if_pos (by omega)]; rfl
        · rw [if_neg e, if_neg (by omega)]; exact h10 j hj
theorem wa_L2 (r : Bool) {m : DiskT} {bl : List Bool} {l : List (List UInt8)} (h : WInv m bl l) : ∀ (q k : Nat) (acc : List Int) (w : List Ent), q + k = 12 → Srt w → (∀ p ∈ w, (k : Int) ≤ p.1 ∧ p.1 < 12) → (∀ j : Nat, k ≤ j → j < 12 → bl[j]? = some (mget w (j : Int)).isSome) → w06_DiskWaits_L2 r bl l m q acc k = .inl (acc ++ List.map Prod.fst w)
  | 0, k, acc, w, hk, hw, hb, _ => by
    cases w with
    | nil => show Sum.inl acc = _; rw [List.map_nil, List.append_nil]
    | cons p w => have := hb p (.head _); omega
  | q + 1, k, acc, w, hk, hw, hb, ha => by
    rw [w06_DiskWaits_L2]
    have hr : disk_Disk_Read m ((k : Nat) : Int) = (_, 0) := read_ok h.up (by omega) (by rw [h.sec]; omega)
    simp only [bnd, getD_at (ha k (Nat.le_refl _) (by omega)), hr, if_true, getD_at (h.at_ k (by omega)), ne_eq, not_true_eq_false, if_false]
    cases hm : mget w (k : Int) with
    | none =>
      rw [if_neg (by simp)]
      refine wa_L2 r h q (k + 1) acc w (by omega) hw (fun p hp => ?_) fun j hj hj2 => ha j (by omega) hj2
      have := hb p hp
      have hne : p.1 ≠ (k : Int) := fun e => by
        have := srt_get hw (show (p.1, p.2) ∈ w from hp)
        rw [e, hm] at this; cases this
      omega
    | some v =>
      rw [if_pos (by simp)]
      cases w with
      | nil => cases hm
      | cons p w =>
        obtain ⟨w1, w2⟩ := List.pairwise_cons.1 hw
        have hp := hb p (.head _)
        have hpk : p.1 = (k : Int) := by
          rcases List.mem_cons.1 (mget_mem hm) with e | e
          · rw [← e]
          · have := w1 _ e; simp only at this; omega
        rw [wa_L2 r h q (k + 1) (acc ++ [((k : Nat) : Int)]) w (by omega) w2 (fun p' hp' => ?_) fun j hj hj2 => ?_]
        · rw [List.map_cons, List.append_assoc, hpk]; rfl
        · have := w1 p' hp'; have := hb p' (.tail _ hp'); omega
        · rw [ha j (by omega) hj2]
          obtain ⟨a, b⟩ := p
          simp only at hpk
          rw [mget_cons, if_neg (by omega)]
theorem wa_L3 (r : Bool) (l : List Int) : ∀ (xs : List Int) (k : Nat), (∀ j, xs[j]? = l[k + j]?) → w06_DiskWaits_L3 r l xs k = .inl ()
  | [], k, _ => rfl
  | x :: xs, k, h => by
    rw [w06_DiskWaits_L3]
    have h0 := h 0
    simp only [List.getElem?_cons_zero, Nat.add_zero] at h0
    simp only [bnd, getD_at h0.symm, if_true]
    exact wa_L3 r l xs (k + 1) fun j => by rw [← List.getElem?_cons_succ (a := x), h (j + 1)]; congr 1; omega
theorem wa_L0 (l0 : List OpD) (r : Bool) (m : DiskT) : w06_DiskWaits_L0 l0 r m 12 0 (List.replicate 12 ([] : List UInt8)) = List.replicate 12 (List.replicate 64 (0 : UInt8)) := rfl
theorem T_DiskWaits (l0 : List OpD) : w06_DiskWaits l0 = true := by
  unfold w06_DiskWaits
  simp only [bnd, live_true, if_true, wa_L0]
  split
  · rfl
  · have i1 : WInv (⟨12, [], [], true, -1⟩ : DiskT) (List.replicate 12 false) (List.replicate 12 (List.replicate 64 (0 : UInt8))) := ⟨rfl, rfl, rfl, List.Pairwise.nil, List.Pairwise.nil, fun p hp => (by cases hp), List.length_replicate, List.length_replicate, fun j hj => by rw [List.getElem?_replicate, if_pos hj]; rfl, fun j hj => by rw [List.getElem?_replicate, if_pos hj]; rfl⟩
    obtain ⟨s, e, hi⟩ := wa_L1 true l0 _ _ _ i1
    rw [e]
    simp only [lp]
    rw [wa_L2 true hi 12 0 [] s.2.2.xwaits rfl hi.srt (fun p hp => by have := hi.key p hp; omega) fun j _ hj => hi.bt j hj]
    simp only [disk_Disk_Waits, List.nil_append]
    rw [if_pos trivial, wa_L3 true _ _ 0 fun j => by rw [Nat.zero_add]]
end Go.Proofs.Ytmhhmhaigmjekaa
