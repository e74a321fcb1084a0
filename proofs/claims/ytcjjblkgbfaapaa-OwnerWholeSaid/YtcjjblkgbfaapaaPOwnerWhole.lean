/-
  PROVED HERE: for every input the law OwnerWhole of the package sumpterlaw17 returns true, and its arguments read behind the call as they did before.
  Conditions: none beyond the statement's own.
-/
import Derived.Test.YtcjjblkgbfaapaaRows
import Derived.Test.YtcjjblkgbfaapaaUWhole
import Derived.WalkKit
import Derived.ProofKit
import Derived.OpenShut
import Derived.ShutString
import Derived.ChangeOld
import Derived.Below
import Derived.Carry
import Derived.SizedLaws
import Derived.Lib.SmallJoins
namespace Go.Proofs.Ytcjjblkgbfaapaa.ownerWhole
open Go.ChangeShapes Go.WideShapes Go.ChangeAt Go.RowKit
set_option linter.unusedVariables false
theorem own : ownKnob Try.prog.godebug = none := by kernel_rfl
theorem laidOut : laidOutB Try.prog = true := by kernel_rfl
set_option maxRecDepth 100000 in
set_option maxHeartbeats 1000000 in
theorem lifted (os : Os) (started : os.Started) (H : Type) (enc : TypeId × Value → H) :
    ReturnsInHanded {} Try.checked os 6 .any (Rows.ownerWholeSpec.pre6 enc Try.prog Try.f6 Rows.ownerWholeRow.domain false) (Rows.ownerWholeSpec.post enc Try.prog Try.f6 false true false false) := by
  refine returnsInHanded_of_change_sized (C := Try.checked) own started (by kernel_rfl) Try.func6
    (ChangeSpec.witness6 (enc := enc) (C := Try.checked) false ⟨#[], #[.slice none 0 0, .slice none 0 0, .slice none 0 0], []⟩ 8 (by kernel_rfl) (by kernel_rfl) (by kernel_rfl) (by kernel_rfl)) ?_
  intro W base args ds gs before hval0 hW hcnd hsz0 _
  have hval : ∀ (j : Nat) t v, Try.f6.params[j]? = some t → args[j]? = some v → Value.okWide Try.prog W .any base t v := hval0
  have hW' := hW
  obtain ⟨p, q, hA0, hV, rfl, hfz, hnd⟩ := hW
  have hA : DataW.TrodAll enc Try.prog W 0 (fun _ => true) true Try.f6.params.toList args.toList ds p := hA0
  have hsz : (DataW.weightsEach Try.prog (Try.f6.params.toList ++ Rows.ownerWholeSpec.plain.varTypes Try.prog) (ds ++ gs)).all (· ≤ reachBytes) = true := hsz0
  rw [Try.params6] at hA hval hsz
  obtain ⟨v0, vs0, d0, ds0, p0, q0, hargs, rfl, rfl, h0, r0⟩ := trodAll_cons hA
  obtain ⟨v1, vs1, d1, ds1, p1, q1, rfl, rfl, rfl, h1, r1⟩ := trodAll_cons r0
  obtain ⟨v2, vs2, d2, ds2, p2, q2, rfl, rfl, rfl, h2, r2⟩ := trodAll_cons r1
  obtain ⟨rfl, rfl, rfl⟩ := trodAll_nil r2
  obtain rfl : args = #[v0, v1, v2] := by cases args; simp_all
  obtain ⟨rfl, rfl⟩ := trodVars_none hV
  have k0 := h0
  have lt0 : ∀ x ∈ p0, x.block < W.heap.size := by obtain ⟨m, hm⟩ := k0; exact DataW.trod_lt m _ _ _ hm
  have O0 : Opens Try.prog W 22 1 (Sv.enc (β := OwnerD)) (SvOk W 2 24 OwnerD.cells (OwnerD.Ok W)) := (opens_slice (bytes := 24) Try.underlying22 (by kernel_rfl) (by kernel_rfl) (by decide) (opens_OwnerD W))
  obtain ⟨o0, e0, y0, b0⟩ := O0.argSlice Try.underlying22 (hval 0 22 v0 rfl rfl) h0 (sized_at hsz (j := 0) rfl rfl)
  obtain rfl := (List.cons.inj (show [.slice o0.A (List.length o0.ls) o0.c] = [v0] from e0)).1
  have k1 := h1
  have lt1 : ∀ x ∈ p1, x.block < W.heap.size := by obtain ⟨m, hm⟩ := k1; exact DataW.trod_lt m _ _ _ hm
  have O1 : Opens Try.prog W 54 1 (Sv.enc (β := PairD)) (SvOk W 2 32 PairD.cells (PairD.Ok W)) := (opens_slice (bytes := 32) Try.underlying54 (by kernel_rfl) (by kernel_rfl) (by decide) (opens_PairD W))
  obtain ⟨o1, e1, y1, b1⟩ := O1.argSlice Try.underlying54 (hval 1 54 v1 rfl rfl) h1 (sized_at hsz (j := 1) rfl rfl)
  obtain rfl := (List.cons.inj (show [.slice o1.A (List.length o1.ls) o1.c] = [v1] from e1)).1
  have k2 := h2
  have lt2 : ∀ x ∈ p2, x.block < W.heap.size := by obtain ⟨m, hm⟩ := k2; exact DataW.trod_lt m _ _ _ hm
  have O2 : Opens Try.prog W 41 1 (Sv.enc (β := OpD)) (SvOk W 6 80 OpD.cells (OpD.Ok W)) := (opens_slice (bytes := 80) Try.underlying41 (by kernel_rfl) (by kernel_rfl) (by decide) (opens_OpD W))
  obtain ⟨o2, e2, y2, b2⟩ := O2.argSlice Try.underlying41 (hval 2 41 v2 rfl rfl) h2 (sized_at hsz (j := 2) rfl rfl)
  obtain rfl := (List.cons.inj (show [.slice o2.A (List.length o2.ls) o2.c] = [v2] from e2)).1
  clear hA0 hval0
  refine (W_OwnerWhole W o0 y0 o1 y1 o2 y2).mono fun e W' ⟨he, bel⟩ => ?_
  subst he
  exact ⟨_, rfl, _, _, _, [], _, [], hW', trodAll_mk1 (shut_bool Try.underlying4 _), (trodAll_cons_mk (Below.trod laidOut (by kernel_rfl) (of_decide_eq_true (by kernel_rfl)) k0 bel lt0) (trodAll_cons_mk (Below.trod laidOut (by kernel_rfl) (of_decide_eq_true (by kernel_rfl)) k1 bel lt1) (trodAll_cons_mk (Below.trod laidOut (by kernel_rfl) (of_decide_eq_true (by kernel_rfl)) k2 bel lt2) trodAll_mk0))), rfl, bel.frame _, fun h => by cases h⟩
theorem over : Rows.ownerWholeRow.holds Try.pinned (OpenSpec.ofChange Rows.ownerWholeSpec) :=
  OpenClaim.holds_of_wide 6 Try.f6 rfl rfl rfl rfl rfl rfl rfl ⟨rfl, rfl, rfl, rfl, rfl⟩ rfl rfl rfl rfl rfl (by kernel_rfl) Try.func6 (by kernel_rfl)
    (of_decide_eq_true (by kernel_rfl)) (by unfold Func.isWrapper; first | (rw [if_pos (by decide +kernel)]; kernel_rfl) | (rw [if_neg (by decide +kernel)]; exact ⟨rfl, rfl⟩))
    (fun os started H enc _ => lifted os started H enc)
theorem proved : Rows.OwnerWholeSaid := over
#print axioms proved
end Go.Proofs.Ytcjjblkgbfaapaa.ownerWhole
