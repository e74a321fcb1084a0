/-
  A fuse lets so many acts be done.
  Conditions: none beyond each law's own.
-/
import Derived.Test.YtmhhmhaigmjekaaDiT
import Derived.Test.YtmhhmhaigmjekaaLFuse
namespace Go.Proofs.Ytmhhmhaigmjekaa
set_option linter.unusedVariables false
set_option linter.unusedSimpArgs false
theorem short_bd (p : Int) : 0 ≤ w06_short p ∧ w06_short p < 130 := by unfold w06_short; omega
structure FInv (n z : Int) (m : DiskT) : Prop where
  sec : m.xsectors = 12
  lo : 0 ≤ z
  le : z ≤ n
  hi : n < 130
  st : (m.xup = true ∧ m.xfuse = n - z) ∨ (m.xup = false ∧ z = n)
theorem fu_act {n z : Int} {m : DiskT} (h : FInv n z m) (x : OpD) : ∃ s : Int × DiskT, (if x.xDo = 2 then bnd (disk_Disk_Sync m) fun y => (y.1, y.2) else bnd (w06_full x.xV) fun y => bnd (disk_Disk_Write m (((Int.toNat ((remI x.xN 12) + 12)) % 12 : Nat) : Int) y) fun u => (u.1, u.2)) = s ∧
    ((s.1 = 0 ∧ FInv n (z + 1) s.2) ∨ (s.1 = 60 ∧ z = n ∧ s.2.xup = false ∧ FInv n z s.2)) := by
  refine ⟨_, rfl, ?_⟩
  obtain ⟨h1, h2, h3, h4, h5⟩ := h
  simp only [bnd, sync_eq, write_eq, full_len, if_true, h1]
  have hi : ¬ (((Int.toNat ((remI x.xN 12) + 12)) % 12 : Nat) : Int) < 0 := by omega
  have hj : ¬ (((Int.toNat ((remI x.xN 12) + 12)) % 12 : Nat) : Int) ≥ 12 := by omega
  rw [if_neg hi, if_neg hj]
  have hw : ∀ f : Int, 0 < f → f < 130 → tick f = f - 1 := fun f h1 h2 => by
    unfold tick
    rw [if_pos h1, IntWalk.i64_in _ (by omega)]
  rcases h5 with ⟨hu, hf⟩ | ⟨hu, hz⟩
  · by_cases h0 : m.xfuse = 0
    · right
      have hz : z = n := by omega
      have hz2 : FInv n z ⟨12, m.xsafe, m.xwaits, false, m.xfuse⟩ := ⟨rfl, h2, h3, h4, .inr ⟨rfl, hz⟩⟩
      by_cases hd : x.xDo = 2
      · simp only [hd, hu, if_true, if_pos h0]; exact ⟨trivial, hz, trivial, hz2⟩
      · simp only [if_neg hd, hu, if_true, if_pos h0]; exact ⟨trivial, hz, trivial, hz2⟩
    · left
      have ht := hw m.xfuse (by omega) (by omega)
      by_cases hd : x.xDo = 2
      · simp only [hd, hu, if_true, if_neg h0]; exact ⟨trivial, ⟨rfl, by omega, by omega, h4, .inl ⟨rfl, by show tick m.xfuse = _; rw [ht]; omega⟩⟩⟩
      · simp only [if_neg hd, hu, if_true, if_neg h0]; exact ⟨trivial, ⟨rfl, by omega, by omega, h4, .inl ⟨rfl, by show tick m.xfuse = _; rw [ht]; omega⟩⟩⟩
  · right
    have hm : FInv n z m := ⟨h1, h2, h3, h4, .inr ⟨hu, hz⟩⟩
    by_cases hd : x.xDo = 2
    · simp only [hd, hu, if_true, Bool.false_eq_true, if_false]; exact ⟨trivial, hz, trivial, hm⟩
    · simp only [if_neg hd, hu, Bool.false_eq_true, if_false]; exact ⟨trivial, hz, trivial, hm⟩
theorem fu_L0 (l1 : List OpD) (r : Bool) {n : Int} : ∀ (l : List OpD) (z : Int) (m : DiskT), FInv n z m → w06_DiskFuse_L0 l1 r n l z m = .inl (min n (z + (l.length : Int)))
  | [], z, m, h => by
    have := h.le
    show Sum.inl z = _
    rw [show min n (z + ((([] : List OpD).length : Nat) : Int)) = z by simp; omega]
  | x :: l, z, m, h => by
    obtain ⟨s, e, hs⟩ := fu_act h x
    rw [w06_DiskFuse_L0]
    rw [e]
    simp only [bnd]
    have hl := h.lo; have hn := h.le; have hh := h.hi
    rcases hs with ⟨e0, hi⟩ | ⟨e0, hz, hu, hi⟩
    · rw [if_pos e0, IntWalk.i64_in _ (by omega), fu_L0 l1 r l (z + 1) s.2 hi]
      rw [List.length_cons]
      exact congrArg Sum.inl (by omega)
    · rw [if_neg (by omega), if_pos e0, if_pos hz]
      unfold disk_Disk_Up
      rw [if_neg (by rw [hu]; exact Bool.false_ne_true), fu_L0 l1 r l z s.2 hi]
      rw [List.length_cons]
      exact congrArg Sum.inl (by omega)
theorem T_DiskFuse (p0 : Int) (l1 : List OpD) : w06_DiskFuse p0 l1 = true := by
  unfold w06_DiskFuse
  simp only [bnd, live_true, if_true]
  have hb := short_bd p0
  rw [fu_L0 (n := w06_short p0) l1 true l1 0 _ ⟨rfl, by omega, by omega, by omega, .inl ⟨rfl, by show max (w06_short p0) (-1) = _; omega⟩⟩]
  simp only [lp]
  rw [decide_eq_true_iff]
  omega
end Go.Proofs.Ytmhhmhaigmjekaa
