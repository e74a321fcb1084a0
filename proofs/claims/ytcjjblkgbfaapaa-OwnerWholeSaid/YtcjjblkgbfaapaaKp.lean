/-
  Rows within rows that are written; slices that are cut again and again.
  Conditions: none beyond each law's own.
-/
import Derived.Test.YtcjjblkgbfaapaaKo
namespace Go.Proofs.Ytcjjblkgbfaapaa
set_option linter.unusedVariables false
set_option linter.unusedSimpArgs false
open Go.RowKit
theorem svLen {β : Type} : ∀ x : Sv β, (Sv.enc x).length = 1 := fun _ => rfl
section
variable {w0 w : World} {D : Nat → Prop} {L : List HP} {α β : Type}
theorem take_at {ds : List α} {i : Nat} {x : α} (hx : ds[i]? = some x) : ds = List.take i ds ++ (x :: List.drop (i + 1) ds) := by
  obtain ⟨hi, rfl⟩ := List.getElem?_eq_some_iff.1 hx
  rw [List.getElem_cons_drop, List.take_append_drop]
theorem set_at {ds : List α} {i : Nat} {x : α} (y : α) (hx : ds[i]? = some x) : List.set ds i y = List.take i ds ++ (y :: List.drop (i + 1) ds) := by
  obtain ⟨hi, rfl⟩ := List.getElem?_eq_some_iff.1 hx
  exact List.set_eq_take_append_cons_drop.trans (by rw [if_pos hi])
theorem Own.sepOpen {f : α → List HP} {ds : List α} {i : Nat} {x : α} (hx : ds[i]? = some x) (H : Own w0 D w (sepL (List.flatMap f ds) :: L)) :
    Own w0 D w (f x ++ (sepL (List.flatMap f (List.take i ds) ++ List.flatMap f (List.drop (i + 1) ds)) :: L)) := by
  rw [take_at hx, List.flatMap_append, List.flatMap_cons] at H
  have h1 := H.flat
  have e : ((List.flatMap f (List.take i ds) ++ (f x ++ List.flatMap f (List.drop (i + 1) ds))) ++ L).Perm ((List.flatMap f (List.take i ds) ++ List.flatMap f (List.drop (i + 1) ds)) ++ (f x ++ L)) := by
    rw [← List.append_assoc, ← List.append_assoc]
    refine List.Perm.append_right L ?_
    rw [List.append_assoc, List.append_assoc]
    exact List.Perm.append_left _ List.perm_append_comm
  have h2 := (h1.perm e).pack
  exact h2.perm (by
    have : (sepL (List.flatMap f (List.take i ds) ++ List.flatMap f (List.drop (i + 1) ds)) :: (f x ++ L)).Perm (f x ++ (sepL (List.flatMap f (List.take i ds) ++ List.flatMap f (List.drop (i + 1) ds)) :: L)) := List.perm_middle.symm
    exact this)
theorem Own.sepClose {f : α → List HP} {ds : List α} {i : Nat} {x y : α} (hx : ds[i]? = some x)
    (H : Own w0 D w (f y ++ (sepL (List.flatMap f (List.take i ds) ++ List.flatMap f (List.drop (i + 1) ds)) :: L))) : Own w0 D w (sepL (List.flatMap f (List.set ds i y)) :: L) := by
  have h1 : Own w0 D w (sepL (List.flatMap f (List.take i ds) ++ List.flatMap f (List.drop (i + 1) ds)) :: (f y ++ L)) := H.perm List.perm_middle
  have h2 := h1.flat
  have e : ((List.flatMap f (List.take i ds) ++ List.flatMap f (List.drop (i + 1) ds)) ++ (f y ++ L)).Perm ((List.flatMap f (List.take i ds) ++ (f y ++ List.flatMap f (List.drop (i + 1) ds))) ++ L) := by
    rw [← List.append_assoc, ← List.append_assoc]
    refine List.Perm.append_right L ?_
    rw [List.append_assoc, List.append_assoc]
    exact List.Perm.append_left _ List.perm_append_comm
  rw [set_at y hx, List.flatMap_append, List.flatMap_cons]
  exact (h2.perm e).pack
theorem map_set' {f : α → β} {ds : List α} {ls : List β} {i : Nat} {y : α} {z : β} (h : List.map f ds = ls) (hy : f y = z) : List.map f (List.set ds i y) = List.set ls i z := by
  rw [List.map_set, h, hy]
end
section
variable {α : Type} {enc : α → List Value} {sz : Nat} {A : Option Addr} {c : Nat} {l : List α}
inductive SubS (sz : Nat) (A : Option Addr) (c : Nat) (l : List α) : Option Addr → Nat → List α → Prop
  | nil : SubS sz A c l none 0 []
  | refl : List.length l ≤ c → SubS sz A c l A c l
  | cut {A1 : Option Addr} {c1 k : Nat} {l1 : List α} : SubS sz A c l A1 c1 l1 → k ≤ List.length l1 → SubS sz A c l (cutA A1 k sz c1) (c1 - k) (List.drop k l1)
theorem SubS.le {A' : Option Addr} {c' : Nat} {l' : List α} (h : SubS sz A c l A' c' l') : List.length l' ≤ c' ∧ (c' ≤ c ∧ List.length l' ≤ List.length l) := by
  induction h with
  | nil => exact ⟨Nat.le_refl _, Nat.zero_le _, Nat.zero_le _⟩
  | refl h => exact ⟨h, Nat.le_refl _, Nat.le_refl _⟩
  | cut h hk ih => rw [List.length_drop]; omega
theorem SubS.rds {w : World} {A' : Option Addr} {c' : Nat} {l' : List α} (hz : ∀ x, (enc x).length = sz) (hp : 0 < sz) (h : SubS sz A c l A' c' l') (hr : Rds w sz A (List.length l) (List.flatMap enc l)) : Rds w sz A' (List.length l') (List.flatMap enc l') := by
  induction h with
  | nil => exact Rds.nil _ _ _
  | refl h => exact hr
  | cut h hk ih =>
    have := h.le
    rw [List.length_drop]
    exact Rds.fromE hz ih hk this.1 hp
theorem SubS.trans {A1 A2 : Option Addr} {c1 c2 : Nat} {l1 l2 : List α} (h1 : SubS sz A c l A1 c1 l1) (h2 : SubS sz A1 c1 l1 A2 c2 l2) : SubS sz A c l A2 c2 l2 := by
  induction h2 with
  | nil => exact .nil
  | refl _ => exact h1
  | cut _ hk ih => exact ih.cut hk
end
section
variable {P : Program} {n : Nat} {F G : List (Nat × Value)} {w : World} {Q : Exit → Act → World → Prop} {c : Code}
def Un (P : Program) (c : Code) (Q : Exit → Act → World → Prop) : Nat → Act → World → Prop
  | 0, _, _ => False
  | k + 1, a, w => c.wp P (Exit.then (fun a' w' => Un P c Q k a' w') Q) a w
theorem Un.loop : ∀ (m : Nat) (a : Act) (w : World), Un P c Q m a w → ∀ b k cs, ∃ e a' w', Q e a' w' ∧ Arrives P (lone (b.at a (.code c :: .inLoop c :: k)) cs w) b k cs e a' w'
  | 0, _, _, h, _, _, _ => h.elim
  | m + 1, a, w, h, b, k, cs => by
    obtain ⟨e, a1, w1, hq, harr⟩ := h b (.inLoop c :: k) cs
    cases e with
    | normal =>
      obtain ⟨e2, a2, w2, hq2, harr2⟩ := Un.loop m a1 w1 hq b k cs
      exact ⟨e2, a2, w2, hq2, .of_steps (Steps.trans harr (.one step_inLoop)) harr2⟩
    | exit id => exact ⟨_, a1, w1, hq, .pass (x := .inLoop c) rfl (fun _ _ => .inl (by simp)) harr⟩
    | goto l => exact ⟨_, a1, w1, hq, .pass (x := .inLoop c) rfl (fun _ _ => .inl (by simp)) harr⟩
    | ret => exact ⟨_, a1, w1, hq, .pass (x := .inLoop c) rfl (fun _ _ => .inl (by simp)) harr⟩
    | panic ch => exact ⟨_, a1, w1, hq, .pass (x := .inLoop c) rfl (fun _ _ => .inl (by simp)) harr⟩
    | outgrown => exact ⟨_, a1, w1, hq, .pass (x := .inLoop c) rfl (fun _ _ => .inl (by simp)) harr⟩
theorem Fin.again {k : Nat} (G : List (Nat × Value)) (hs : Sub G F) (h : Wp P c n G w (Exit.then (fun a w => Un P c Q k a w) Q)) : Fin (Exit.then (fun a w => Un P c Q (k + 1) a w) Q) .normal n F w := fun a ha => h a (ha.sub hs)
end
end Go.Proofs.Ytcjjblkgbfaapaa
