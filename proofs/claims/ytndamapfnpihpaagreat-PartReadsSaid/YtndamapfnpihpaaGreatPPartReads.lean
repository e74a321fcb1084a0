/-
  PROVED HERE: for every input the law PartReads of the package sumpterlaw20 returns true, and its arguments read behind the call as they did before.
  Conditions: none beyond the statement's own.
-/
import Derived.Test.YtndamapfnpihpaaGreatRows
import Derived.WalkKit
import Derived.ProofKit
import Derived.OpenShut
import Derived.ShutString
import Derived.ChangeOld
import Derived.Below
import Derived.Carry
import Derived.SizedLaws
import Derived.Lib.SmallJoins
import Derived.Test.YtndamapfnpihpaaGreatJf
namespace Go.Proofs.YtndamapfnpihpaaGreat.partReads
open _root_.Go renaming World->ZQ,Value->ZX
open Value renaming bool->V,slice->W,string->Zz,pointer->Zq,agg->Zx,nilFunc->Zj
open Bool renaming true->Zk,false->J
open Option renaming none->Zv,some->Zw
open Decidable renaming decide->Zy
open Inhabited renaming default->ZZ
open List renaming length->X,toArray->Zc
open _root_.Go.Proofs.Tryz renaming checked->W7,f5->W8,prog->v1,underlying22->W9,underlying25->H0
set_option maxRecDepth 100000
open Go.ChangeShapes Go.WideShapes Go.ChangeAt Go.RowKit
set_option linter.unusedVariables false
theorem own:ownKnob v1.godebug=Zv:=by kernel_rfl
theorem laidOut:laidOutB v1=Zk:=by kernel_rfl
set_option maxHeartbeats 1000000 in
theorem lifted (os:Os) (started:os.Started) (H:Type) (enc:TypeId × ZX->H):
    ReturnsInHanded {} W7 os 5 .any (Rows.partReadsSpec.pre6 enc v1 W8 Rows.partReadsRow.domain J) (Rows.partReadsSpec.post enc v1 W8 J Zk J J):=by
  refine returnsInHanded_of_change_sized (C:=W7) own started f1 Tryz.func5
    (ChangeSpec.witness6 (enc:=enc) (C:=W7) J ⟨#[], #[W Zv 0 0, W Zv 0 0], []⟩ 8 f1 f1 f1 f1) ?_
  intro Z9 base args ds gs before hval0 hW hcnd a _
  have hval:∀ (j:Nat) t v,W8.params[j]? =Zw t->args[j]? =Zw v->Value.okWide v1 Z9 .any base t v:=hval0
  have hW':=hW
  obtain⟨p,q,b,hV,rfl,hfz,hnd⟩:=hW
  have hA:DataW.TrodAll enc v1 Z9 0 (λ _=>Zk) Zk W8.params.toList args.toList ds p:=b
  have hsz:(DataW.weightsEach v1 (W8.params.toList++Rows.partReadsSpec.plain.varTypes v1) (ds++gs)).all (· <=reachBytes)=Zk:=a
  rw [Tryz.params5] at hA hval hsz
  obtain⟨g,u,d0,w,y,Z5,hargs,rfl,rfl,n,z⟩:=trodAll_cons hA
  obtain⟨i,B,Z6,D,E,P,rfl,rfl,rfl,o,F⟩:=trodAll_cons z
  obtain⟨rfl,rfl,rfl⟩:=trodAll_nil F
  obtain rfl:args= #[g,i]:=by cases args; simp_all
  obtain⟨rfl,rfl⟩:=trodVars_none hV
  have r:=n
  have k:∀ x ∈ y,x.block < Z9.heap.size:=by obtain⟨m,hm⟩:=r; exact DataW.trod_lt m _ _ _ hm
  have G:lh v1 Z9 25 1 (LM (β:=ay)) (nA Z9 2 32 ay.J (K3 Z9)):=(pE (bytes:=32) H0 f1 f1 f6 (yK Z9))
  obtain⟨d,I,Z7,Q⟩:=G.argSlice H0 (hval 0 25 g Z Z) n (Bw hsz (j:=0) Z Z)
  obtain rfl:=(List.cons.inj (show [W d.A (X d.a) d.c]= [g] from I)).1
  have s:=o
  have l:∀ x ∈ E,x.block < Z9.heap.size:=by obtain⟨m,hm⟩:=s; exact DataW.trod_lt m _ _ _ hm
  have K:lh v1 Z9 22 1 (LM (β:=jk)) (nA Z9 22 240 jk.J (Lf Z9)):=(pE (bytes:=240) W9 f1 f1 f6 (CS Z9))
  obtain⟨f,L,M,R⟩:=K.argSlice W9 (hval 1 22 i Z Z) o (Bw hsz (j:=1) Z Z)
  obtain rfl:=(List.cons.inj (show [W f.A (X f.a) f.c]= [i] from L)).1
  clear b hval0
  refine(CU Z9 d Z7 f M).mono λ e W' ⟨he,bel⟩=> ?_
  subst he
  exact⟨_,Z,_,_,_, [],_, [],hW',trodAll_mk1 (shut_bool Tryz.underlying4 _),(trodAll_cons_mk (Below.trod laidOut f1 (of_decide_eq_true f1) r bel k) (trodAll_cons_mk (Below.trod laidOut f1 (of_decide_eq_true f1) s bel l) trodAll_mk0)),Z,bel.frame _,λ h=>by cases h⟩
theorem over:Rows.partReadsRow.holds Tryz.pinned (OpenSpec.ofChange Rows.partReadsSpec):=
  OpenClaim.holds_of_wide 5 W8 Z Z Z Z Z Z Z ⟨Z,Z,Z,Z,Z⟩ Z Z Z Z Z f1 Tryz.func5 f1
    (of_decide_eq_true f1) (by unfold Func.isWrapper; first | (rw [ZK (by decide+kernel)]; kernel_rfl) | (rw [ZV (by decide+kernel)]; exact⟨Z,Z⟩))
    (λ os started H enc _=>lifted os started H enc)
theorem proved:Rows.PartReadsSaid:=over
#print axioms proved
end Go.Proofs.YtndamapfnpihpaaGreat.partReads
