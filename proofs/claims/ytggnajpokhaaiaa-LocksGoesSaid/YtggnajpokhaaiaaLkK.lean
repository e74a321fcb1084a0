/-
  Rows of a table that hold slices: one taken out, one put in. Conditions: none beyond each law's own.
-/
import Derived.Test.YtggnajpokhaaiaaLb
namespace Go.Proofs.Ytggnajpokhaaiaa
set_option linter.unusedVariables false
section
variable {α : Type} {w0 w : World} {D : Nat → Prop} {L : List HP} {f : α → List HP}
theorem Own.dropL {L1 L2 : List HP} (H : Own w0 D w (L1 ++ L2)) : Own w0 D w L2 := H.to fun h hs => by
  obtain ⟨a, b, c, d, e, g, _⟩ := Sep.app.1 hs
  exact d.mono g
theorem Own.sepDel {ds : List α} {i j : Nat} (h : i ≤ j) (H : Own w0 D w (sepL (List.flatMap f ds) :: L)) : Own w0 D w (sepL (List.flatMap f (List.take i ds ++ List.drop j ds)) :: L) := by
  have e : ds = List.take i ds ++ (List.take (j - i) (List.drop i ds) ++ List.drop j ds) := by
    conv => lhs; rw [← List.take_append_drop i ds]
    congr 1
    conv => lhs; rw [← List.take_append_drop (j - i) (List.drop i ds)]
    rw [List.drop_drop, show i + (j - i) = j by omega]
  rw [e, List.flatMap_append, List.flatMap_append] at H
  have h1 := H.flat
  have p : ((List.flatMap f (List.take i ds) ++ (List.flatMap f (List.take (j - i) (List.drop i ds)) ++ List.flatMap f (List.drop j ds))) ++ L).Perm (List.flatMap f (List.take (j - i) (List.drop i ds)) ++ ((List.flatMap f (List.take i ds) ++ List.flatMap f (List.drop j ds)) ++ L)) := by
    rw [← List.append_assoc, ← List.append_assoc]
    refine List.Perm.append_right L ?_
    rw [← List.append_assoc]
    exact List.Perm.append_right _ List.perm_append_comm
  have h2 := (h1.perm p).dropL
  rw [List.flatMap_append]
  exact h2.pack
theorem Own.sepIns {ds : List α} {i : Nat} {y : α} (H : Own w0 D w (f y ++ (sepL (List.flatMap f ds) :: L))) : Own w0 D w (sepL (List.flatMap f (List.take i ds ++ (y :: List.drop i ds))) :: L) := by
  have h1 : Own w0 D w (sepL (List.flatMap f ds) :: (f y ++ L)) := H.perm List.perm_middle
  have h2 := h1.flat
  have e : (List.flatMap f ds ++ (f y ++ L)).Perm ((List.flatMap f (List.take i ds) ++ (f y ++ List.flatMap f (List.drop i ds))) ++ L) := by
    conv => lhs; rw [← List.take_append_drop i ds, List.flatMap_append]
    rw [← List.append_assoc]
    refine List.Perm.append_right L ?_
    rw [List.append_assoc]
    exact List.Perm.append_left _ List.perm_append_comm
  rw [List.flatMap_append, List.flatMap_cons]
  exact (h2.perm e).pack
theorem del_abs {β : Type} {g : α → β} {ds : List α} {ls : List β} {i j : Nat} (h : List.map g ds = ls) : List.map g (List.take i ds ++ List.drop j ds) = List.take i ls ++ List.drop j ls := by rw [List.map_append, List.map_take, List.map_drop, h]
theorem ins_abs {β : Type} {g : α → β} {ds : List α} {ls : List β} {i : Nat} {y : α} {z : β} (h : List.map g ds = ls) (hy : g y = z) : List.map g (List.take i ds ++ (y :: List.drop i ds)) = List.take i ls ++ (z :: List.drop i ls) := by rw [List.map_append, List.map_cons, List.map_take, List.map_drop, h, hy]
end
theorem hd_ins {l : List rowT} {i : Nat} {x : rowT} (h : Hd l) (hx : List.length x.xheld.ls ≤ 1000000) : Hd (List.take i l ++ (x :: List.drop i l)) := fun r hr => by
  rcases List.mem_append.1 hr with h1 | h1
  · exact h r (List.mem_of_mem_take h1)
  · rcases List.mem_cons.1 h1 with h2 | h2
    · rw [h2]; exact hx
    · exact h r (List.mem_of_mem_drop h2)
theorem del_told (d : List rowD) (i j : Int) (h : 0 ≤ i ∧ i ≤ j) : slices_Delete_locks_row_locks_row d i j = List.take (Int.toNat i) d ++ List.drop (Int.toNat j) d := by
  unfold slices_Delete_locks_row_locks_row
  by_cases c : i = j
  · rw [if_pos c, c, List.take_append_drop]
  · rw [if_neg c]
theorem ins_told (d : List rowD) (i : Int) (x : rowD) (h : 0 ≤ i ∧ i ≤ (List.length d : Int)) : slices_Insert_locks_row_locks_row d i x = List.take (Int.toNat i) d ++ (x :: List.drop (Int.toNat i) d) := by
  unfold slices_Insert_locks_row_locks_row
  by_cases c : ((Int.toNat i : Nat) : Int) = ((d.length : Nat) : Int)
  · rw [if_pos c, List.take_of_length_le (by omega), List.drop_eq_nil_of_le (by omega)]
  · rw [if_neg c]
theorem rows_del (w : World) (D : Nat → Prop) (A : Option Addr) (n c : Nat) (d : List rowD) (l : List rowT) (i j : Int) (H : Own w D w [row A n c (List.flatMap rowD.cells d) 72 6, sepL (List.flatMap rowD.own d)]) (hn : n = List.length d) (hd : List.map rowD.abs d = l) (hl : List.length d ≤ 1000000) (hh : 0 ≤ i ∧ i ≤ j ∧ j ≤ (List.length d : Int)) :
    Calls Try.prog 58 #[.slice A n c, .int .i64 i, .int .i64 j] w (Ret fun v w' => ∃ B b, v = .slice B (List.length (List.take (Int.toNat i) l ++ List.drop (Int.toNat j) l)) b ∧
      Own w D w' [row B (List.length (List.take (Int.toNat i) l ++ List.drop (Int.toNat j) l)) b (List.flatMap rowD.cells (List.take (Int.toNat i) d ++ List.drop (Int.toNat j) d)) 72 6, sepL (List.flatMap rowD.own (List.take (Int.toNat i) d ++ List.drop (Int.toNat j) d))]) := by
  obtain ⟨D1, H1, ro, bk, rr⟩ := Own.enter1 H
  refine (slices_Delete_locks_row_locks_row_ok w D1 A n c d i j _ H1 hn (by omega) hh (del_told d i j ⟨hh.1, hh.2.1⟩)).mono ?_
  rintro _ w' ⟨v, rfl, B, b, rfl, HQ, _⟩
  rw [abs_len (del_abs (i := Int.toNat i) (j := Int.toNat j) hd)] at HQ ⊢
  have H2 := bk _ _ HQ
  exact ⟨_, rfl, B, b, rfl, ((H2.perm (List.Perm.swap _ _ _)).sepDel (by omega)).perm (List.Perm.swap _ _ _)⟩
theorem rows_ins (w : World) (D : Nat → Prop) (A : Option Addr) (n c : Nat) (d : List rowD) (i : Int) (A2 : Option Addr) (y : rowD) (l : List rowT) (z : rowT) (H : Own w D w [row A n c (List.flatMap rowD.cells d) 72 6, rowz A2 1 (List.flatMap rowD.cells [y]) 72 6, sepL (List.flatMap rowD.own d), row y.xheld.A (List.length y.xheld.ls) y.xheld.c (List.flatMap LockD.cells y.xheld.ls) 34 3]) (hn : n = List.length d) (hd : List.map rowD.abs d = l) (hz : rowD.abs y = z) (hl : List.length d ≤ 1000000) (hh : 0 ≤ i ∧ i ≤ (List.length d : Int)) :
    Calls Try.prog 53 #[.slice A n c, .int .i64 i, .slice A2 1 1] w (Ret fun v w' => ∃ B b, v = .slice B (List.length (List.take (Int.toNat i) l ++ (z :: List.drop (Int.toNat i) l))) b ∧
      Own w D w' [row B (List.length (List.take (Int.toNat i) l ++ (z :: List.drop (Int.toNat i) l))) b (List.flatMap rowD.cells (List.take (Int.toNat i) d ++ (y :: List.drop (Int.toNat i) d))) 72 6, sepL (List.flatMap rowD.own (List.take (Int.toNat i) d ++ (y :: List.drop (Int.toNat i) d)))]) := by
  obtain ⟨D1, H1, ro, bk, rr⟩ := Own.enter2 H
  refine (slices_Insert_locks_row_locks_row_ok w D1 A n c d i A2 y _ H1 hn (by omega) ⟨hh.1, hh.2, by omega⟩ (ins_told d i y hh)).mono ?_
  rintro _ w' ⟨v, rfl, B, b, rfl, HQ, _⟩
  rw [abs_len (ins_abs (i := Int.toNat i) hd hz)] at HQ ⊢
  have H2 := bk _ _ HQ
  refine ⟨_, rfl, B, b, rfl, ?_⟩
  have H3 : Own w D w' (rowD.own y ++ (sepL (List.flatMap rowD.own d) :: [row B (List.length (List.take (Int.toNat i) l ++ (z :: List.drop (Int.toNat i) l))) b (List.flatMap rowD.cells (List.take (Int.toNat i) d ++ (y :: List.drop (Int.toNat i) d))) 72 6])) :=
    H2.perm (by
      refine (List.perm_append_comm (l₁ := [_]) (l₂ := [_, _])).trans ?_
      exact List.perm_append_comm (l₁ := [_]) (l₂ := [_]) |>.append_right [_])
  exact H3.sepIns.perm (List.Perm.swap _ _ _)
end Go.Proofs.Ytggnajpokhaaiaa
