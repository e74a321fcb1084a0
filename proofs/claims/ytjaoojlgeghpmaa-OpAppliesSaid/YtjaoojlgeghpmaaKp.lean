/-
  Rows within rows that are written; slices that are cut again and again.
  Conditions: none beyond each law's own.
-/
import Derived.Test.YtjaoojlgeghpmaaKo
namespace Go.Proofs.Ytjaoojlgeghpmaa
set_option linter.unusedVariables false
set_option linter.unusedSimpArgs false
open Go.RowKit
section
variable {w0 w : World} {D : Nat → Prop} {L : List HP} {α β : Type}
theorem take_at {ds : List α} {i : Nat} {x : α} (hx : ds[i]? = some x) : ds = List.take i ds ++ (x :: List.drop (i + 1) ds) := by
  obtain ⟨hi, rfl⟩ := List.getElem?_eq_some_iff.1 hx
  rw [List.getElem_cons_drop, List.take_append_drop]
theorem set_at {ds : List α} {i : Nat} {x : α} (y : α) (hx : ds[i]? = some x) : List.set ds i y = List.take i ds ++ (y :: List.drop (i + 1) ds) := by
  obtain ⟨hi, rfl⟩ := List.getElem?_eq_some_iff.1 hx
  exact List.set_eq_take_append_cons_drop.trans (by rw [if_pos hi])
/-- One element's rows are taken out of all elements'. -/
theorem Own.sepOpen {f : α → List HP} {ds : List α} {i : Nat} {x : α} (hx : ds[i]? = some x) (H : Own w0 D w (sepL (List.flatMap f ds) :: L)) :
    Own w0 D w (f x ++ (sepL (List.flatMap f (List.take i ds) ++ List.flatMap f (List.drop (i + 1) ds)) :: L)) := by
  rw [take_at hx, List.flatMap_append, List.flatMap_cons] at H
  have h1 := H.flat
  have e : ((List.flatMap f (List.take i ds) ++ (f x ++ List.flatMap f (List.drop (i + 1) ds))) ++ L).Perm ((List.flatMap f (List.take i ds) ++ List.flatMap f (List.drop (i + 1) ds)) ++ (f x ++ L)) := by
    rw [← List.append_assoc, ← List.append_assoc]
    refine List.Perm.append_right L ?_
    rw [List.append_assoc, List.append_assoc]
    exact List.Perm.append_left _ List.perm_append_comm
  have h2 := (h1.perm e).pack
  exact h2.perm (by
    have : (sepL (List.flatMap f (List.take i ds) ++ List.flatMap f (List.drop (i + 1) ds)) :: (f x ++ L)).Perm (f x ++ (sepL (List.flatMap f (List.take i ds) ++ List.flatMap f (List.drop (i + 1) ds)) :: L)) := List.perm_middle.symm
    exact this)
theorem Own.sepClose {f : α → List HP} {ds : List α} {i : Nat} {x y : α} (hx : ds[i]? = some x)
    (H : Own w0 D w (f y ++ (sepL (List.flatMap f (List.take i ds) ++ List.flatMap f (List.drop (i + 1) ds)) :: L))) : Own w0 D w (sepL (List.flatMap f (List.set ds i y)) :: L) := by
  have h1 : Own w0 D w (sepL (List.flatMap f (List.take i ds) ++ List.flatMap f (List.drop (i + 1) ds)) :: (f y ++ L)) := H.perm List.perm_middle
  have h2 := h1.flat
  have e : ((List.flatMap f (List.take i ds) ++ List.flatMap f (List.drop (i + 1) ds)) ++ (f y ++ L)).Perm ((List.flatMap f (List.take i ds) ++ (f y ++ List.flatMap f (List.drop (i + 1) ds))) ++ L) := by
    rw [← List.append_assoc, ← List.append_assoc]
    refine List.Perm.append_right L ?_
    rw [List.append_assoc, List.append_assoc]
    exact List.Perm.append_left _ List.perm_append_comm
  rw [set_at y hx, List.flatMap_append, List.flatMap_cons]
  exact (h2.perm e).pack
theorem flat_same {f : α → List Value} {ds : List α} {i : Nat} {x y : α} (hx : ds[i]? = some x) (h : f y = f x) : List.flatMap f (List.set ds i y) = List.flatMap f ds := by
  rw [set_at y hx, List.flatMap_append, List.flatMap_cons, h]
  conv => rhs; rw [take_at hx, List.flatMap_append, List.flatMap_cons]
theorem map_set' {f : α → β} {ds : List α} {ls : List β} {i : Nat} {y : α} {z : β} (h : List.map f ds = ls) (hy : f y = z) : List.map f (List.set ds i y) = List.set ls i z := by
  rw [List.map_set, h, hy]
/-- the lengths of what lies within stay -/
theorem lens_set {g : β → Nat} {ls : List β} {i : Nat} {x y : β} (hx : ls[i]? = some x) (h : g y = g x) : List.map g (List.set ls i y) = List.map g ls := by
  rw [set_at y hx, List.map_append, List.map_cons, h]
  conv => rhs; rw [take_at hx, List.map_append, List.map_cons]
theorem lens_at {g : β → Nat} {l m : List β} {i : Nat} {x y : β} (h : List.map g l = List.map g m) (hx : l[i]? = some x) (hy : m[i]? = some y) : g x = g y := by
  have := congrArg (fun q => q[i]?) h
  simp only [List.getElem?_map, hx, hy, Option.map_some, Option.some.injEq] at this
  exact this
end
end Go.Proofs.Ytjaoojlgeghpmaa
