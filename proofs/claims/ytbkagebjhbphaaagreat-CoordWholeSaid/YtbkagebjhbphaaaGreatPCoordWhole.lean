/-
  PROVED HERE: for every input the law CoordWhole of the package sumpterlaw21 returns true, and its arguments read behind the call as they did before.
  Conditions: none beyond the statement's own.
-/
import Derived.Test.YtbkagebjhbphaaaGreatRows
import Derived.WalkKit
import Derived.ProofKit
import Derived.OpenShut
import Derived.ShutString
import Derived.ChangeOld
import Derived.Below
import Derived.Carry
import Derived.SizedLaws
import Derived.Lib.SmallJoins
import Derived.Test.YtbkagebjhbphaaaGreatJf
namespace Go.Proofs.YtbkagebjhbphaaaGreat.coordWhole
open _root_.Go.Proofs.Tryz renaming checked->V8,f6->V9,prog->v5,underlying39->F2
set_option maxRecDepth 100000
open Go.ChangeShapes Go.WideShapes Go.ChangeAt Go.RowKit
set_option linter.unusedVariables false
theorem own:ownKnob v5.godebug=none:=by kernel_rfl
theorem laidOut:laidOutB v5=true:=by kernel_rfl
set_option maxHeartbeats 1000000 in
theorem lifted (os:Os) (started:os.Started) (H:Type) (enc:TypeId × Value->H):
    ReturnsInHanded {} V8 os 6 .any (Rows.coordWholeSpec.pre6 enc v5 V9 Rows.coordWholeRow.domain false) (Rows.coordWholeSpec.post enc v5 V9 false true false false):=by
  refine returnsInHanded_of_change_sized (C:=V8) own started e7 Tryz.func6
    (ChangeSpec.witness6 (enc:=enc) (C:=V8) false ⟨#[], #[.agg #[.int .i64 0, .int .u64 0, .int .u64 0, .int .u64 0, .slice none 0 0, .slice none 0 0, .slice none 0 0], .slice none 0 0], []⟩ 8 e7 e7 e7 e7) ?_
  intro W base args ds gs before hval0 hW hcnd a _
  have hval:∀ (j:Nat) t v,V9.params[j]? =some t->args[j]? =some v->Value.okWide v5 W .any base t v:=hval0
  have hW':=hW
  obtain⟨p,q,b,hV,rfl,hfz,hnd⟩:=hW
  have hA:DataW.TrodAll enc v5 W 0 (λ _=>true) true V9.params.toList args.toList ds p:=b
  have hsz:(DataW.weightsEach v5 (V9.params.toList++Rows.coordWholeSpec.plain.varTypes v5) (ds++gs)).all (· <=reachBytes)=true:=a
  rw [Tryz.params6] at hA hval hsz
  obtain⟨k,s,L,u,w,M,hargs,rfl,rfl,l,y⟩:=trodAll_cons hA
  obtain⟨f,z,N,B,D,O,rfl,rfl,rfl,n,E⟩:=trodAll_cons y
  obtain⟨rfl,rfl,rfl⟩:=trodAll_nil E
  obtain rfl:args= #[k,f]:=by cases args; simp_all
  obtain⟨rfl,rfl⟩:=trodVars_none hV
  have o:=l
  have g:∀ x ∈ w,x.block < W.heap.size:=by obtain⟨m,hm⟩:=o; exact DataW.trod_lt m _ _ _ hm
  obtain⟨F,rfl,G,P⟩:=(Ah W).argStruct Tryz.underlying33 (hval 0 33 k rfl rfl) l (zQ hsz (j:=0) rfl rfl)
  have r:=n
  have i:∀ x ∈ D,x.block < W.heap.size:=by obtain⟨m,hm⟩:=r; exact DataW.trod_lt m _ _ _ hm
  have I:ky v5 W 39 1 (I9 (β:=aN)) (mo W 6 80 aN.cells (JF W)):=(nC (bytes:=80) F2 e7 e7 f2 (Dh W))
  obtain⟨d,J,K,Q⟩:=I.argSlice F2 (hval 1 39 f rfl rfl) n (zQ hsz (j:=1) rfl rfl)
  obtain rfl:=(List.cons.inj (show [.slice d.A (List.length d.ls) d.c]= [f] from J)).1
  clear b hval0
  refine(Bf W F G d K).mono λ e W' ⟨he,bel⟩=> ?_
  subst he
  exact⟨_,rfl,_,_,_, [],_, [],hW',trodAll_mk1 (shut_bool Tryz.underlying4 _),(trodAll_cons_mk (Below.trod laidOut e7 (of_decide_eq_true e7) o bel g) (trodAll_cons_mk (Below.trod laidOut e7 (of_decide_eq_true e7) r bel i) trodAll_mk0)),rfl,bel.frame _,λ h=>by cases h⟩
theorem over:Rows.coordWholeRow.holds Tryz.pinned (OpenSpec.ofChange Rows.coordWholeSpec):=
  OpenClaim.holds_of_wide 6 V9 rfl rfl rfl rfl rfl rfl rfl ⟨rfl,rfl,rfl,rfl,rfl⟩ rfl rfl rfl rfl rfl e7 Tryz.func6 e7
    (of_decide_eq_true e7) (by unfold Func.isWrapper; first | (rw [if_pos (by decide+kernel)]; kernel_rfl) | (rw [if_neg (by decide+kernel)]; exact⟨rfl,rfl⟩))
    (λ os started H enc _=>lifted os started H enc)
theorem proved:Rows.CoordWholeSaid:=over
#print axioms proved
end Go.Proofs.YtbkagebjhbphaaaGreat.coordWhole
