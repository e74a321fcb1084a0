/-
  PROVED HERE: for every input the law CoordOnce of the package sumpterlaw21 returns true, and its arguments read behind the call as they did before.
  Conditions: none beyond the statement's own.
-/
import Derived.Test.YtbkagebjhbphaaaGreatRows
import Derived.WalkKit
import Derived.ProofKit
import Derived.OpenShut
import Derived.ShutString
import Derived.ChangeOld
import Derived.Below
import Derived.Carry
import Derived.SizedLaws
import Derived.Lib.SmallJoins
import Derived.Test.YtbkagebjhbphaaaGreatJf
namespace Go.Proofs.YtbkagebjhbphaaaGreat.coordOnce
open _root_.Go.Proofs.Tryz renaming checked->W8,f3->W9,prog->v8,underlying22->X0
set_option maxRecDepth 100000
open Go.ChangeShapes Go.WideShapes Go.ChangeAt Go.RowKit
set_option linter.unusedVariables false
theorem own:ownKnob v8.godebug=none:=by kernel_rfl
theorem laidOut:laidOutB v8=true:=by kernel_rfl
set_option maxHeartbeats 1000000 in
theorem lifted (os:Os) (started:os.Started) (H:Type) (enc:TypeId × Value->H):
    ReturnsInHanded {} W8 os 3 .any (Rows.coordOnceSpec.pre6 enc v8 W9 Rows.coordOnceRow.domain false) (Rows.coordOnceSpec.post enc v8 W9 false true false false):=by
  refine returnsInHanded_of_change_sized (C:=W8) own started e7 Tryz.func3
    (ChangeSpec.witness6 (enc:=enc) (C:=W8) false ⟨#[], #[.slice none 0 0], []⟩ 8 e7 e7 e7 e7) ?_
  intro W base args ds gs before hval0 hW hcnd a _
  have hval:∀ (j:Nat) t v,W9.params[j]? =some t->args[j]? =some v->Value.okWide v8 W .any base t v:=hval0
  have hW':=hW
  obtain⟨p,q,b,hV,rfl,hfz,hnd⟩:=hW
  have hA:DataW.TrodAll enc v8 W 0 (λ _=>true) true W9.params.toList args.toList ds p:=b
  have hsz:(DataW.weightsEach v8 (W9.params.toList++Rows.coordOnceSpec.plain.varTypes v8) (ds++gs)).all (· <=reachBytes)=true:=a
  rw [Tryz.params3] at hA hval hsz
  obtain⟨f,l,d0,n,o,y,hargs,rfl,rfl,i,r⟩:=trodAll_cons hA
  obtain⟨rfl,rfl,rfl⟩:=trodAll_nil r
  obtain rfl:args= #[f]:=by cases args; simp_all
  obtain⟨rfl,rfl⟩:=trodVars_none hV
  have k:=i
  have g:∀ x ∈ o,x.block < W.heap.size:=by obtain⟨m,hm⟩:=k; exact DataW.trod_lt m _ _ _ hm
  have s:lm v8 W 22 1 (IX (β:=fM)) (mI W 25 272 fM.cells (JB W)):=(qx (bytes:=272) X0 e7 e7 f4 (Bz W))
  obtain⟨d,u,w,z⟩:=s.argSlice X0 (hval 0 22 f rfl rfl) i (DU hsz (j:=0) rfl rfl)
  obtain rfl:=(List.cons.inj (show [.slice d.A (List.length d.ls) d.c]= [f] from u)).1
  clear b hval0
  refine(BC W d w).mono λ e W' ⟨he,bel⟩=> ?_
  subst he
  exact⟨_,rfl,_,_,_, [],_, [],hW',trodAll_mk1 (shut_bool Tryz.underlying4 _),(trodAll_cons_mk (Below.trod laidOut e7 (of_decide_eq_true e7) k bel g) trodAll_mk0),rfl,bel.frame _,λ h=>by cases h⟩
theorem over:Rows.coordOnceRow.holds Tryz.pinned (OpenSpec.ofChange Rows.coordOnceSpec):=
  OpenClaim.holds_of_wide 3 W9 rfl rfl rfl rfl rfl rfl rfl ⟨rfl,rfl,rfl,rfl,rfl⟩ rfl rfl rfl rfl rfl e7 Tryz.func3 e7
    (of_decide_eq_true e7) (by unfold Func.isWrapper; first | (rw [if_pos (by decide+kernel)]; kernel_rfl) | (rw [if_neg (by decide+kernel)]; exact⟨rfl,rfl⟩))
    (λ os started H enc _=>lifted os started H enc)
theorem proved:Rows.CoordOnceSaid:=over
#print axioms proved
end Go.Proofs.YtbkagebjhbphaaaGreat.coordOnce
