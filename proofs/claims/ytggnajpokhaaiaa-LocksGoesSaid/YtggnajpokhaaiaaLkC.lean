/-
  What a table's clone wants: rows cloned as they are, one element more that is another one's. Conditions: none beyond each law's own.
-/
import Derived.Test.YtggnajpokhaaiaaLkS
import Derived.Test.YtggnajpokhaaiaaLf
import Derived.Test.YtggnajpokhaaiaaLkK
namespace Go.Proofs.Ytggnajpokhaaiaa
set_option linter.unusedVariables false
set_option maxRecDepth 100000 in
theorem live_true : w16_live = true := by decide +kernel
end Go.Proofs.Ytggnajpokhaaiaa
namespace Go.Proofs.Ytggnajpokhaaiaa
open Go.RowKit
set_option linter.unusedVariables false
set_option linter.unusedSectionVars false
set_option linter.unusedSimpArgs false
def slices_Clone_locks_row_locks_row (l0 : List rowD) : (List rowD) :=
 l0
set_option maxRecDepth 100000 in
theorem slices_Clone_locks_row_locks_row_ok (w : World) (D : Nat → Prop) (A0 : Option Addr) (n0 c0 : Nat) (l0 : List rowD) (r0 : List rowD) (H : Own w D w []) (hx0 : Ro w D fun w' => Rds w' 6 A0 n0 (List.flatMap rowD.cells l0)) (hn0 : n0 = l0.length) (hl0 : l0.length * 80 ≤ 211106232532992) (hr : slices_Clone_locks_row_locks_row l0 = r0) :
    Calls Try.prog 41 #[.slice A0 n0 c0] w (Ret fun v w' => ∃ (B0 : Option Addr) (b0 : Nat), v = .slice B0 r0.length b0 ∧ Own w D w' [row B0 r0.length b0 (List.flatMap rowD.cells r0) 72 6]) := by
 subst hn0
 refine Calls.body (args := [.slice A0 l0.length c0]) Try.func41 rfl rfl rfl ?_
 show Wp _ _ _ [(0, .slice A0 l0.length c0)] _ _
 refine sr (An rfl (Wp.seq (sr (Mz rfl (fw (.bool (Option.isNone A0)) (Yl.sliceNil Try.underlying57 rfl rfl) (nt ?_))))))
 rcases Bool.eq_false_or_eq_true (Option.isNone A0) with h21 | h21
 obtain rfl : l0 = [] := rds_none (enc := rowD.cells) (H.ro hx0) h21
 refine jT h21 (sr (An rfl (rt (tR (rs ?_)))))
 have H22 : Own w D w [row none 0 0 (List.flatMap rowD.cells ([])) 72 6] := H.free (row_nil 72 6)
 have H23 := H22.pk [0]
 obtain rfl : _ = ([]) := hr.symm.trans rfl
 exact ⟨none, 0, rfl, H23⟩
 refine jF h21 (sk (sr ?_))
 refine nrw [] 72 6 0 H ?_
 intro A24 w25 H26
 replace H26 : Own w D w25 [row A24 0 0 (List.flatMap rowD.cells ([])) 72 6] := H26
 refine Mz rfl ?_
 refine WL.do rfl (Do.appendW (k := 0) (m := l0.length) (El57) H26 rfl rfl (src_of Try.underlying57 (H26.ro hx0) (flat_one rowD.one l0)) rfl (by omega) (s := l0.length) (by omega) rfl ?_)
 intro A27 c28 w29 H30
 refine An rfl (rt (rs ?_))
 have H31 := H30.pk [0]
 obtain rfl : _ = l0 := hr.symm.trans rfl
 exact ⟨A27, c28, rfl, H31⟩
end Go.Proofs.Ytggnajpokhaaiaa
namespace Go.Proofs.Ytggnajpokhaaiaa
set_option linter.unusedVariables false
theorem clone_rows (w : World) (D : Nat → Prop) (A : Option Addr) (n c : Nat) (d : List rowD) (l : List rowT) (H : Own w D w []) (hx : Ro w D fun w' => Rds w' 6 A n (List.flatMap rowD.cells d)) (hd : List.map rowD.abs d = l) (hn : n = l.length) (hl : l.length ≤ 1000000) :
    Calls Try.prog 41 #[.slice A n c] w (Ret fun v w' => ∃ B b, v = .slice B (List.length l) b ∧ Own w D w' [row B (List.length l) b (List.flatMap rowD.cells d) 72 6]) := by
  have e : List.length d = List.length l := by rw [← hd, List.length_map]
  refine (slices_Clone_locks_row_locks_row_ok w D A n c d d H hx (by omega) (by omega) rfl).mono ?_
  rintro _ w' ⟨v, rfl, B, b, rfl, HQ⟩
  rw [e] at HQ ⊢
  exact ⟨_, rfl, B, b, rfl, HQ⟩
section
variable {α β : Type} {w0 w : World} {D : Nat → Prop} {L : List HP} {f : α → List HP}
theorem own_snoc {es : List α} {y : α} (H : Own w0 D w (f y ++ (sepL (List.flatMap f es) :: L))) : Own w0 D w (sepL (List.flatMap f (es ++ [y])) :: L) := by
  have h := H.sepIns (i := es.length)
  rw [List.take_length, List.drop_length] at h
  exact h
theorem set_mid9 {d : List α} {k : Nat} {es : List α} (y : α) (he : es.length = k) (hk : k < d.length) : List.set (es ++ List.drop k d) k y = (es ++ [y]) ++ List.drop (k + 1) d := by
  subst he
  rw [List.set_append_right _ _ (Nat.le_refl _), Nat.sub_self, List.drop_eq_getElem_cons hk, List.set_cons_zero, List.append_assoc]
  rfl
theorem at_mid9 {d es : List α} {k : Nat} {x : α} (he : es.length = k) (hx : d[k]? = some x) : (es ++ List.drop k d)[k]? = some x := by
  subst he
  rw [List.getElem?_append_right (Nat.le_refl _), Nat.sub_self, List.getElem?_drop, Nat.add_zero, hx]
theorem abs_snoc {f : α → β} {d es : List α} {k : Nat} {x y : α} (h : List.map f es = List.map f (List.take k d)) (hx : d[k]? = some x) (hy : f y = f x) : List.map f (es ++ [y]) = List.map f (List.take (k + 1) d) := by
  obtain ⟨hk, rfl⟩ := List.getElem?_eq_some_iff.1 hx
  rw [List.take_succ_eq_append_getElem hk, List.map_append, List.map_append, h, List.map_cons, List.map_nil, hy, List.map_cons, List.map_nil]
end
end Go.Proofs.Ytggnajpokhaaiaa
