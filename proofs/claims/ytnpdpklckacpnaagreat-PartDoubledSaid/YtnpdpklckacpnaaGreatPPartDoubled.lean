/-
  PROVED HERE: for every input the law PartDoubled of the package sumpterlaw20 returns true, and its arguments read behind the call as they did before.
  Conditions: none beyond the statement's own.
-/
import Derived.Test.YtnpdpklckacpnaaGreatRows
import Derived.WalkKit
import Derived.ProofKit
import Derived.OpenShut
import Derived.ShutString
import Derived.ChangeOld
import Derived.Below
import Derived.Carry
import Derived.SizedLaws
import Derived.Lib.SmallJoins
import Derived.Test.YtnpdpklckacpnaaGreatJg
namespace Go.Proofs.YtnpdpklckacpnaaGreat.partDoubled
open _root_.Go renaming World->ZZ,Value->ZQ
open Value renaming bool->Y,slice->T,string->Z9,pointer->Zz,agg->Zq,nilFunc->Zx
open Bool renaming true->Zj,false->O
open Option renaming none->Zk,some->Zv
open Decidable renaming decide->Zw
open Inhabited renaming default->Zy
open List renaming length->X,toArray->Zb,drop->Ze,take->Zf,flatMap->Zg,map->Zh
open Int renaming toNat->Zc
open Bool renaming toNat->Zd
open _root_.Go.Proofs.Tryz renaming checked->Y6,f3->Y7,prog->y3,underlying22->F0,underlying23->Y8
set_option maxRecDepth 100000
open Go.ChangeShapes Go.WideShapes Go.ChangeAt Go.RowKit
set_option linter.unusedVariables false
theorem own:ownKnob y3.godebug=Zk:=by kernel_rfl
theorem laidOut:laidOutB y3=Zj:=by kernel_rfl
set_option maxHeartbeats 1000000 in
theorem lifted (os:Os) (started:os.Started) (H:Type) (enc:TypeId × ZQ->H):
    ReturnsInHanded {} Y6 os 3 .any (Rows.partDoubledSpec.pre6 enc y3 Y7 Rows.partDoubledRow.domain O) (Rows.partDoubledSpec.post enc y3 Y7 O Zj O O):=by
  refine returnsInHanded_of_change_sized (C:=Y6) own started f1 Tryz.func3
    (ChangeSpec.witness6 (enc:=enc) (C:=Y6) O ⟨#[], #[T Zk 0 0, T Zk 0 0], []⟩ 8 f1 f1 f1 f1) ?_
  intro Z8 base args ds gs before hval0 hW hcnd a _
  have hval:∀ (j:Nat) t v,Y7.params[j]? =Zv t->args[j]? =Zv v->Value.okWide y3 Z8 .any base t v:=hval0
  have hW':=hW
  obtain⟨p,q,b,hV,rfl,hfz,hnd⟩:=hW
  have hA:DataW.TrodAll enc y3 Z8 0 (λ _=>Zj) Zj Y7.params.toList args.toList ds p:=b
  have hsz:(DataW.weightsEach y3 (Y7.params.toList++Rows.partDoubledSpec.plain.varTypes y3) (ds++gs)).all (· <=reachBytes)=Zj:=a
  rw [Tryz.params3] at hA hval hsz
  obtain⟨g,u,d0,w,y,Z5,hargs,rfl,rfl,n,z⟩:=trodAll_cons hA
  obtain⟨i,B,Z6,D,E,P,rfl,rfl,rfl,o,F⟩:=trodAll_cons z
  obtain⟨rfl,rfl,rfl⟩:=trodAll_nil F
  obtain rfl:args= #[g,i]:=by cases args; simp_all
  obtain⟨rfl,rfl⟩:=trodVars_none hV
  have r:=n
  have k:∀ x ∈ y,x.block < Z8.heap.size:=by obtain⟨m,hm⟩:=r; exact DataW.trod_lt m _ _ _ hm
  have G:lJ y3 Z8 22 1 (Md (β:=aG)) (nK Z8 2 32 aG.L (Lr Z8)):=(pR (bytes:=32) F0 f1 f1 f7 (yI Z8))
  obtain⟨d,I,J,Q⟩:=G.argSlice F0 (hval 0 22 g Z Z) n (BO hsz (j:=0) Z Z)
  obtain rfl:=(List.cons.inj (show [T d.A (X d.a) d.c]= [g] from I)).1
  have s:=o
  have l:∀ x ∈ E,x.block < Z8.heap.size:=by obtain⟨m,hm⟩:=s; exact DataW.trod_lt m _ _ _ hm
  have K:lJ y3 Z8 23 1 (Md (β:=jJ)) (nK Z8 22 240 jJ.L (LG Z8)):=(pR (bytes:=240) Y8 f1 f1 f7 (Dj Z8))
  obtain⟨f,L,M,R⟩:=K.argSlice Y8 (hval 1 23 i Z Z) o (BO hsz (j:=1) Z Z)
  obtain rfl:=(List.cons.inj (show [T f.A (X f.a) f.c]= [i] from L)).1
  clear b hval0
  refine(Bz Z8 d J f M).mono λ e W' ⟨he,bel⟩=> ?_
  subst he
  exact⟨_,Z,_,_,_, [],_, [],hW',trodAll_mk1 (shut_bool Tryz.underlying4 _),(trodAll_cons_mk (Below.trod laidOut f1 (of_decide_eq_true f1) r bel k) (trodAll_cons_mk (Below.trod laidOut f1 (of_decide_eq_true f1) s bel l) trodAll_mk0)),Z,bel.frame _,λ h=>by cases h⟩
theorem over:Rows.partDoubledRow.holds Tryz.pinned (OpenSpec.ofChange Rows.partDoubledSpec):=
  OpenClaim.holds_of_wide 3 Y7 Z Z Z Z Z Z Z ⟨Z,Z,Z,Z,Z⟩ Z Z Z Z Z f1 Tryz.func3 f1
    (of_decide_eq_true f1) (by unfold Func.isWrapper; first | (rw [ZJ (by decide+kernel)]; kernel_rfl) | (rw [ZK (by decide+kernel)]; exact⟨Z,Z⟩))
    (λ os started H enc _=>lifted os started H enc)
theorem proved:Rows.PartDoubledSaid:=over
#print axioms proved
end Go.Proofs.YtnpdpklckacpnaaGreat.partDoubled
