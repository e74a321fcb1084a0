/-
  PROVED HERE: for every input the law WireReads of the package sumpterlaw18 returns true, and its arguments read behind the call as they did before.
  Conditions: none beyond the statement's own.
-/
import Derived.Test.YtccjclalngabhaaGreatRows
import Derived.Test.YtccjclalngabhaaGreatVReads
import Derived.WalkKit
import Derived.ProofKit
import Derived.OpenShut
import Derived.ShutString
import Derived.ChangeOld
import Derived.Below
import Derived.Carry
import Derived.SizedLaws
import Derived.Lib.SmallJoins
namespace Go.Proofs.YtccjclalngabhaaGreat.wireReads
set_option maxRecDepth 100000
open Go.ChangeShapes Go.WideShapes Go.ChangeAt Go.RowKit
set_option linter.unusedVariables false
theorem own:ownKnob Tryz.prog.godebug=none:=by kernel_rfl
theorem laidOut:laidOutB Tryz.prog=true:=by kernel_rfl
set_option maxHeartbeats 1000000 in
theorem lifted (os:Os) (started:os.Started) (H:Type) (enc:TypeId × Value→H):
    ReturnsInHanded {} Tryz.checked os 4 .any (Rows.wireReadsSpec.pre6 enc Tryz.prog Tryz.f4 Rows.wireReadsRow.domain false) (Rows.wireReadsSpec.post enc Tryz.prog Tryz.f4 false true false false):=by
  refine returnsInHanded_of_change_sized (C:=Tryz.checked) own started (by kernel_rfl) Tryz.func4
    (ChangeSpec.witness6 (enc:=enc) (C:=Tryz.checked) false ⟨#[], #[.slice none 0 0], []⟩ 8 (by kernel_rfl) (by kernel_rfl) (by kernel_rfl) (by kernel_rfl)) ?_
  intro W base args ds gs before hval0 hW hcnd hsz0 _
  have hval:∀ (j:Nat) t v,Tryz.f4.params[j]? =some t→args[j]? =some v→Value.okWide Tryz.prog W .any base t v:=hval0
  have hW':=hW
  obtain⟨p,q,a,hV,rfl,hfz,hnd⟩:=hW
  have hA:DataW.TrodAll enc Tryz.prog W 0 (fun _=>true) true Tryz.f4.params.toList args.toList ds p:=a
  have hsz:(DataW.weightsEach Tryz.prog (Tryz.f4.params.toList++Rows.wireReadsSpec.plain.varTypes Tryz.prog) (ds++gs)).all (· ≤reachBytes)=true:=hsz0
  rw [Tryz.params4] at hA hval hsz
  obtain⟨d,k,w,l,n,y,hargs,rfl,rfl,g,o⟩:=trodAll_cons hA
  obtain⟨rfl,rfl,rfl⟩:=trodAll_nil o
  obtain rfl:args= #[d]:=by cases args; simp_all
  obtain⟨rfl,rfl⟩:=trodVars_none hV
  have i:=g
  have f:∀ x ∈ n,x.block < W.heap.size:=by obtain⟨m,hm⟩:=i; exact DataW.trod_lt m _ _ _ hm
  have r:kI Tryz.prog W 31 1 (AO (β:=UInt8)) (nO W 1 1 eB (fun _=>True)):=(sK (bytes:=1) Tryz.underlying31 (by kernel_rfl) (by kernel_rfl) (by decide) (uZ Tryz.underlying5 (by kernel_rfl)))
  obtain⟨b,s,u,z⟩:=r.argSlice Tryz.underlying31 (hval 0 31 d rfl rfl) g (ve hsz (j:=0) rfl rfl)
  obtain rfl:=(List.cons.inj (show [.slice b.A (List.length b.ls) b.c]= [d] from s)).1
  clear a hval0
  refine(sZ W b u).mono fun e W' ⟨he,bel⟩=> ?_
  subst he
  exact⟨_,rfl,_,_,_, [],_, [],hW',trodAll_mk1 (shut_bool Tryz.underlying4 _),(trodAll_cons_mk (Below.trod laidOut (by kernel_rfl) (of_decide_eq_true (by kernel_rfl)) i bel f) trodAll_mk0),rfl,bel.frame _,fun h=>by cases h⟩
theorem over:Rows.wireReadsRow.holds Tryz.pinned (OpenSpec.ofChange Rows.wireReadsSpec):=
  OpenClaim.holds_of_wide 4 Tryz.f4 rfl rfl rfl rfl rfl rfl rfl ⟨rfl,rfl,rfl,rfl,rfl⟩ rfl rfl rfl rfl rfl (by kernel_rfl) Tryz.func4 (by kernel_rfl)
    (of_decide_eq_true (by kernel_rfl)) (by unfold Func.isWrapper; first | (rw [if_pos (by decide+kernel)]; kernel_rfl) | (rw [if_neg (by decide+kernel)]; exact⟨rfl,rfl⟩))
    (fun os started H enc _=>lifted os started H enc)
theorem proved:Rows.WireReadsSaid:=over
#print axioms proved
end Go.Proofs.YtccjclalngabhaaGreat.wireReads
