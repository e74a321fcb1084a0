/-
  PROVED HERE: for every input the law PartOnce of the package sumpterlaw20 returns true, and its arguments read behind the call as they did before.
  Conditions: none beyond the statement's own.
-/
import Derived.Test.YtndamapfnpihpaaGreatRows
import Derived.WalkKit
import Derived.ProofKit
import Derived.OpenShut
import Derived.ShutString
import Derived.ChangeOld
import Derived.Below
import Derived.Carry
import Derived.SizedLaws
import Derived.Lib.SmallJoins
import Derived.Test.YtndamapfnpihpaaGreatJf
namespace Go.Proofs.YtndamapfnpihpaaGreat.partOnce
open _root_.Go.Proofs.Tryz renaming checked->T2,f3->T3,prog->u2,underlying22->T4
set_option maxRecDepth 100000
open Go.ChangeShapes Go.WideShapes Go.ChangeAt Go.RowKit
set_option linter.unusedVariables false
theorem own:ownKnob u2.godebug=none:=by kernel_rfl
theorem laidOut:laidOutB u2=true:=by kernel_rfl
set_option maxHeartbeats 1000000 in
theorem lifted (os:Os) (started:os.Started) (H:Type) (enc:TypeId × Value->H):
    ReturnsInHanded {} T2 os 3 .any (Rows.partOnceSpec.pre6 enc u2 T3 Rows.partOnceRow.domain false) (Rows.partOnceSpec.post enc u2 T3 false true false false):=by
  refine returnsInHanded_of_change_sized (C:=T2) own started e9 Tryz.func3
    (ChangeSpec.witness6 (enc:=enc) (C:=T2) false ⟨#[], #[.slice none 0 0], []⟩ 8 e9 e9 e9 e9) ?_
  intro W base args ds gs before hval0 hW hcnd a _
  have hval:∀ (j:Nat) t v,T3.params[j]? =some t->args[j]? =some v->Value.okWide u2 W .any base t v:=hval0
  have hW':=hW
  obtain⟨p,q,b,hV,rfl,hfz,hnd⟩:=hW
  have hA:DataW.TrodAll enc u2 W 0 (λ _=>true) true T3.params.toList args.toList ds p:=b
  have hsz:(DataW.weightsEach u2 (T3.params.toList++Rows.partOnceSpec.plain.varTypes u2) (ds++gs)).all (· <=reachBytes)=true:=a
  rw [Tryz.params3] at hA hval hsz
  obtain⟨f,l,d0,n,o,y,hargs,rfl,rfl,i,r⟩:=trodAll_cons hA
  obtain⟨rfl,rfl,rfl⟩:=trodAll_nil r
  obtain rfl:args= #[f]:=by cases args; simp_all
  obtain⟨rfl,rfl⟩:=trodVars_none hV
  have k:=i
  have g:∀ x ∈ o,x.block < W.heap.size:=by obtain⟨m,hm⟩:=k; exact DataW.trod_lt m _ _ _ hm
  have s:kR u2 W 22 1 (Jv (β:=iV)) (mZ W 22 240 iV.cells (IQ W)):=(pO (bytes:=240) T4 e9 e9 f5 (Ba W))
  obtain⟨d,u,w,z⟩:=s.argSlice T4 (hval 0 22 f rfl rfl) i (DC hsz (j:=0) rfl rfl)
  obtain rfl:=(List.cons.inj (show [.slice d.A (List.length d.ls) d.c]= [f] from u)).1
  clear b hval0
  refine(Cm W d w).mono λ e W' ⟨he,bel⟩=> ?_
  subst he
  exact⟨_,rfl,_,_,_, [],_, [],hW',trodAll_mk1 (shut_bool Tryz.underlying4 _),(trodAll_cons_mk (Below.trod laidOut e9 (of_decide_eq_true e9) k bel g) trodAll_mk0),rfl,bel.frame _,λ h=>by cases h⟩
theorem over:Rows.partOnceRow.holds Tryz.pinned (OpenSpec.ofChange Rows.partOnceSpec):=
  OpenClaim.holds_of_wide 3 T3 rfl rfl rfl rfl rfl rfl rfl ⟨rfl,rfl,rfl,rfl,rfl⟩ rfl rfl rfl rfl rfl e9 Tryz.func3 e9
    (of_decide_eq_true e9) (by unfold Func.isWrapper; first | (rw [if_pos (by decide+kernel)]; kernel_rfl) | (rw [if_neg (by decide+kernel)]; exact⟨rfl,rfl⟩))
    (λ os started H enc _=>lifted os started H enc)
theorem proved:Rows.PartOnceSaid:=over
#print axioms proved
end Go.Proofs.YtndamapfnpihpaaGreat.partOnce
