/-
  What was synced is read behind every crash.
  Conditions: none beyond each law's own.
-/
import Derived.Test.YtmhhmhaigmjekaaDiT
import Derived.Test.YtmhhmhaigmjekaaLSafe
namespace Go.Proofs.Ytmhhmhaigmjekaa
set_option linter.unusedVariables false
set_option linter.unusedSimpArgs false
/-- a device that is written to: what is read of it, or waits -/
structure SInv (S : List Ent) (dflt : Int → List UInt8) (m : DiskT) (l : List (List UInt8)) : Prop where
  up : m.xup = true
  sec : m.xsectors = 12
  fuse : m.xfuse = -1
  safe : m.xsafe = S
  srt : Srt m.xwaits
  len : ∀ p ∈ m.xwaits, p.2.length = 64
  ll : l.length = 12
  at_ : ∀ j : Nat, j < 12 → l[j]? = some ((mget m.xwaits (j : Int)).getD (dflt j))
theorem sa_write {S : List Ent} {dflt : Int → List UInt8} {m : DiskT} {l : List (List UInt8)} (h : SInv S dflt m l) (i : Int) (v : UInt8) :
    ((disk_Disk_Write m i (w06_full v)).1 = 0 ∧ SInv S dflt (disk_Disk_Write m i (w06_full v)).2 (List.set l (Int.toNat i) (w06_full v))) ∨ (¬ (disk_Disk_Write m i (w06_full v)).1 = 0 ∧ SInv S dflt (disk_Disk_Write m i (w06_full v)).2 l) := by
  obtain ⟨h1, h2, h3, h4, h5, h6, h7, h8⟩ := h
  have ht : tick (-1) = -1 := rfl
  have hfl := full_len v
  generalize w06_full v = u at hfl ⊢
  by_cases hi : i < 0
  · right
    simp only [write_eq, h1, if_true, if_pos hi]
    exact ⟨by omega, ⟨h1, h2, h3, h4, h5, h6, h7, h8⟩⟩
  · by_cases hj : i ≥ 12
    · right
      simp only [write_eq, h1, if_true, if_neg hi, h2, if_pos hj]
      exact ⟨by omega, ⟨h1, h2, h3, h4, h5, h6, h7, h8⟩⟩
    · left
      simp only [write_eq, h1, if_true, if_neg hi, h2, if_neg hj, hfl, h3, ht, show ¬ (-1 : Int) = 0 by omega, if_false]
      refine ⟨trivial, ⟨rfl, rfl, rfl, h4, sput_srt h5, fun p hp => ?_, by rw [List.length_set]; exact h7, fun j hj2 => ?_⟩⟩
      · rcases (sput_mem h5).1 hp with rfl | ⟨hp, _⟩
        · exact hfl
        · exact h6 p hp
      · show _ = some ((mget (sput m.xwaits i (u)) (j : Int)).getD (dflt j))
        rw [mget_sput h5, set_atE (by omega)]
        by_cases e : i = (j : Int)
        · rw [if_pos e, if_pos (by omega)]; rfl
        · rw [if_neg e, if_neg (by omega)]; exact h8 j hj2
theorem sa_L1 (l1 : List OpD) (p2 : List UInt8) (r : Bool) {S : List Ent} {dflt : Int → List UInt8} : ∀ (q : List OpD) (l : List (List UInt8)) (m : DiskT), SInv S dflt m l → SInv S dflt (w06_DiskSafe_L1 l1 p2 r q l m).2 (w06_DiskSafe_L1 l1 p2 r q l m).1
  | [], l, m, h => h
  | x :: q, l, m, h => by
    rw [w06_DiskSafe_L1]
    simp only [bnd]
    rcases sa_write h x.xN x.xV with ⟨e, hi⟩ | ⟨e, hi⟩
    · rw [if_pos e]; exact sa_L1 l1 p2 r q _ _ hi
    · rw [if_neg e]; exact sa_L1 l1 p2 r q _ _ hi
theorem sa_L2 (p2 : List UInt8) (r : Bool) (l80 : List (List UInt8)) {S : List Ent} {dflt : Int → List UInt8} : ∀ (q : List OpD) (m : DiskT) (l : List (List UInt8)), SInv S dflt m l → SInv S dflt (w06_DiskSafe_L2 p2 r l80 q m l).1 (w06_DiskSafe_L2 p2 r l80 q m l).2
  | [], m, l, h => h
  | x :: q, m, l, h => by
    rw [w06_DiskSafe_L2]
    simp only [bnd]
    rcases sa_write h x.xN x.xV with ⟨e, hi⟩ | ⟨e, hi⟩
    · rw [if_pos e]; exact sa_L2 p2 r l80 q _ _ hi
    · rw [if_neg e]; exact sa_L2 p2 r l80 q _ _ hi
theorem sa_L3 (r : Bool) (l80 l177 : List (List UInt8)) (d : DiskT) (hr : ∀ j : Nat, j < 12 → ∃ v a b, disk_Disk_Read d (j : Int) = (v, 0) ∧ l80[j]? = some a ∧ l177[j]? = some b ∧ (v = a ∨ (b ≠ [] ∧ v = b))) : ∀ (q k : Nat), q + k = 12 → w06_DiskSafe_L3 r l80 l177 d q k = .inl ()
  | 0, k, _ => rfl
  | q + 1, k, h => by
    obtain ⟨v, a, b, e, ea, eb, hv⟩ := hr k (by omega)
    rw [w06_DiskSafe_L3]
    simp only [bnd, e, if_true, getD_at ea, getD_at eb]
    have ih := sa_L3 r l80 l177 d hr q (k + 1) (by omega)
    rcases hv with rfl | ⟨hb, rfl⟩
    · rw [if_neg (fun h => h rfl)]; exact ih
    · by_cases e2 : v ≠ a
      · rw [if_pos e2, if_neg hb, if_neg (fun h => h rfl)]; exact ih
      · rw [if_neg e2]; exact ih
theorem sa_L0 (l0 l1 : List OpD) (p2 : List UInt8) (r : Bool) (m : DiskT) : w06_DiskSafe_L0 l0 l1 p2 r m 12 0 (List.replicate 12 ([] : List UInt8)) = List.replicate 12 (List.replicate 64 (0 : UInt8)) := rfl
theorem T_DiskSafe (l0 l1 : List OpD) (p2 : List UInt8) : w06_DiskSafe l0 l1 p2 = true := by
  unfold w06_DiskSafe
  simp only [bnd, live_true, if_true, sa_L0]
  have i1 : SInv [] (fun _ => List.replicate 64 (0 : UInt8)) (⟨12, [], [], true, -1⟩ : DiskT) (List.replicate 12 (List.replicate 64 (0 : UInt8))) := ⟨rfl, rfl, rfl, rfl, List.Pairwise.nil, fun p hp => (by cases hp), List.length_replicate, fun j hj => by rw [List.getElem?_replicate, if_pos hj]; rfl⟩
  have i2 := sa_L1 l1 p2 true l0 _ _ i1
  generalize w06_DiskSafe_L1 l1 p2 true l0 (List.replicate 12 (List.replicate 64 (0 : UInt8))) ⟨12, [], [], true, -1⟩ = s1 at i2
  obtain ⟨was, m1⟩ := s1
  obtain ⟨a1, a2, a3, a4, a5, a6, a7, a8⟩ := i2
  simp only at a1 a2 a3 a4 a5 a6 a7 a8 ⊢
  have hsync : disk_Disk_Sync m1 = (0, ⟨12, keepAll [] m1.xwaits, [], true, -1⟩) := by
    rw [sync_eq, if_pos a1, if_neg (by rw [a3]; omega), a1, a2, a3, a4]; rfl
  simp only [hsync, if_true]
  have hS : Srt (keepAll [] m1.xwaits) := keepAll_srt List.Pairwise.nil
  have i3 : SInv (keepAll [] m1.xwaits) (fun _ => []) (⟨12, keepAll [] m1.xwaits, [], true, -1⟩ : DiskT) (List.replicate 12 ([] : List UInt8)) := ⟨rfl, rfl, rfl, rfl, List.Pairwise.nil, fun p hp => (by cases hp), List.length_replicate, fun j hj => by rw [List.getElem?_replicate, if_pos hj]; rfl⟩
  have i4 := sa_L2 p2 true was l1 _ _ i3
  generalize w06_DiskSafe_L2 p2 true was l1 ⟨12, keepAll [] m1.xwaits, [], true, -1⟩ (List.replicate 12 ([] : List UInt8)) = s2 at i4
  obtain ⟨m2, is⟩ := s2
  obtain ⟨b1, b2, b3, b4, b5, b6, b7, b8⟩ := i4
  simp only at b1 b2 b3 b4 b5 b6 b7 b8 ⊢
  obtain ⟨s', hc, hs', hj⟩ := crash_eq m2 p2 (by rw [b4]; exact hS) b5
  rw [hc, start_down, b2]
  rw [sa_L3 true was is _ (fun j hj2 => ?_) 12 0 rfl]
  · rfl
  · refine ⟨_, _, _, read_ok rfl (by omega) (by show (j : Int) < 12; omega), a8 j hj2, b8 j hj2, ?_⟩
    show (mget [] (j : Int)).getD (rd s' j) = _ ∨ _
    show rd s' j = _ ∨ (_ ∧ rd s' j = _)
    rcases hj j with h | ⟨v, h1, h2⟩
    · left
      rw [h, b4, rd_keepAll List.Pairwise.nil a5]
      rfl
    · right
      rw [h1, h2]
      refine ⟨fun e => ?_, rfl⟩
      have := b6 _ (mget_mem h1)
      simp only [Option.getD_some] at e
      rw [e] at this
      cases this
end Go.Proofs.Ytmhhmhaigmjekaa
