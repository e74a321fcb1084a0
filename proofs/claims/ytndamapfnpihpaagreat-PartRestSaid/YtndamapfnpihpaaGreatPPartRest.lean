/-
  PROVED HERE: for every input the law PartRest of the package sumpterlaw20 returns true, and its arguments read behind the call as they did before.
  Conditions: none beyond the statement's own.
-/
import Derived.Test.YtndamapfnpihpaaGreatRows
import Derived.WalkKit
import Derived.ProofKit
import Derived.OpenShut
import Derived.ShutString
import Derived.ChangeOld
import Derived.Below
import Derived.Carry
import Derived.SizedLaws
import Derived.Lib.SmallJoins
import Derived.Test.YtndamapfnpihpaaGreatJf
namespace Go.Proofs.YtndamapfnpihpaaGreat.partRest
open _root_.Go.Proofs.Tryz renaming checked->V2,f4->V3,prog->u9,underlying22->V4,underlying4->H0,underlying58->V5
set_option maxRecDepth 100000
open Go.ChangeShapes Go.WideShapes Go.ChangeAt Go.RowKit
set_option linter.unusedVariables false
theorem own:ownKnob u9.godebug=none:=by kernel_rfl
theorem laidOut:laidOutB u9=true:=by kernel_rfl
set_option maxHeartbeats 1000000 in
theorem lifted (os:Os) (started:os.Started) (H:Type) (enc:TypeId × Value->H):
    ReturnsInHanded {} V2 os 4 .any (Rows.partRestSpec.pre6 enc u9 V3 Rows.partRestRow.domain false) (Rows.partRestSpec.post enc u9 V3 false true false false):=by
  refine returnsInHanded_of_change_sized (C:=V2) own started e9 Tryz.func4
    (ChangeSpec.witness6 (enc:=enc) (C:=V2) false ⟨#[], #[.slice none 0 0, .slice none 0 0], []⟩ 8 e9 e9 e9 e9) ?_
  intro W base args ds gs before hval0 hW hcnd a _
  have hval:∀ (j:Nat) t v,V3.params[j]? =some t->args[j]? =some v->Value.okWide u9 W .any base t v:=hval0
  have hW':=hW
  obtain⟨p,q,b,hV,rfl,hfz,hnd⟩:=hW
  have hA:DataW.TrodAll enc u9 W 0 (λ _=>true) true V3.params.toList args.toList ds p:=b
  have hsz:(DataW.weightsEach u9 (V3.params.toList++Rows.partRestSpec.plain.varTypes u9) (ds++gs)).all (· <=reachBytes)=true:=a
  rw [Tryz.params4] at hA hval hsz
  obtain⟨g,u,d0,w,y,N,hargs,rfl,rfl,n,z⟩:=trodAll_cons hA
  obtain⟨i,B,O,D,E,P,rfl,rfl,rfl,o,F⟩:=trodAll_cons z
  obtain⟨rfl,rfl,rfl⟩:=trodAll_nil F
  obtain rfl:args= #[g,i]:=by cases args; simp_all
  obtain⟨rfl,rfl⟩:=trodVars_none hV
  have r:=n
  have k:∀ x ∈ y,x.block < W.heap.size:=by obtain⟨m,hm⟩:=r; exact DataW.trod_lt m _ _ _ hm
  have G:kQ u9 W 22 1 (J5 (β:=jb)) (mM W 22 240 jb.cells (JH W)):=(oI (bytes:=240) V4 e9 e9 f5 (BN W))
  obtain⟨d,I,J,Q⟩:=G.argSlice V4 (hval 0 22 g rfl rfl) n (Ao hsz (j:=0) rfl rfl)
  obtain rfl:=(List.cons.inj (show [.slice d.A (List.length d.ls) d.c]= [g] from I)).1
  have s:=o
  have l:∀ x ∈ E,x.block < W.heap.size:=by obtain⟨m,hm⟩:=s; exact DataW.trod_lt m _ _ _ hm
  have K:kQ u9 W 58 1 (J5 (β:=Bool)) (mM W 1 1 eL (λ _=>True)):=(oI (bytes:=1) V5 e9 e9 f5 (sO H0 e9))
  obtain⟨f,L,M,R⟩:=K.argSlice V5 (hval 1 58 i rfl rfl) o (Ao hsz (j:=1) rfl rfl)
  obtain rfl:=(List.cons.inj (show [.slice f.A (List.length f.ls) f.c]= [i] from L)).1
  clear b hval0
  refine(C9 W d J f M).mono λ e W' ⟨he,bel⟩=> ?_
  subst he
  exact⟨_,rfl,_,_,_, [],_, [],hW',trodAll_mk1 (shut_bool H0 _),(trodAll_cons_mk (Below.trod laidOut e9 (of_decide_eq_true e9) r bel k) (trodAll_cons_mk (Below.trod laidOut e9 (of_decide_eq_true e9) s bel l) trodAll_mk0)),rfl,bel.frame _,λ h=>by cases h⟩
theorem over:Rows.partRestRow.holds Tryz.pinned (OpenSpec.ofChange Rows.partRestSpec):=
  OpenClaim.holds_of_wide 4 V3 rfl rfl rfl rfl rfl rfl rfl ⟨rfl,rfl,rfl,rfl,rfl⟩ rfl rfl rfl rfl rfl e9 Tryz.func4 e9
    (of_decide_eq_true e9) (by unfold Func.isWrapper; first | (rw [if_pos (by decide+kernel)]; kernel_rfl) | (rw [if_neg (by decide+kernel)]; exact⟨rfl,rfl⟩))
    (λ os started H enc _=>lifted os started H enc)
theorem proved:Rows.PartRestSaid:=over
#print axioms proved
end Go.Proofs.YtndamapfnpihpaaGreat.partRest
