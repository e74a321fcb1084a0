/-
  PROVED HERE: for every input the law RecordWrites of the package sumpterlaw19 returns true, and its arguments read behind the call as they did before.
  Conditions: none beyond the statement's own.
-/
import Derived.Test.YtcnkpjheifkgnaaGreatRows
import Derived.Test.YtcnkpjheifkgnaaGreatVLW
import Derived.WalkKit
import Derived.ProofKit
import Derived.OpenShut
import Derived.ShutString
import Derived.ChangeOld
import Derived.Below
import Derived.Carry
import Derived.SizedLaws
import Derived.Lib.SmallJoins
namespace Go.Proofs.YtcnkpjheifkgnaaGreat.recordWrites
set_option maxRecDepth 100000
open Go.ChangeShapes Go.WideShapes Go.ChangeAt Go.RowKit
set_option linter.unusedVariables false
theorem own:ownKnob Tryz.prog.godebug=none:=by kernel_rfl
theorem laidOut:laidOutB Tryz.prog=true:=by kernel_rfl
set_option maxHeartbeats 1000000 in
theorem lifted (os:Os) (started:os.Started) (H:Type) (enc:TypeId × Value→H):
    ReturnsInHanded {} Tryz.checked os 3 .any (Rows.recordWritesSpec.pre6 enc Tryz.prog Tryz.f3 Rows.recordWritesRow.domain false) (Rows.recordWritesSpec.post enc Tryz.prog Tryz.f3 false true false false):=by
  refine returnsInHanded_of_change_sized (C:=Tryz.checked) own started (by kernel_rfl) Tryz.func3
    (ChangeSpec.witness6 (enc:=enc) (C:=Tryz.checked) false ⟨#[], #[.agg #[.int .i64 0, .int .u64 0, .int .u64 0, .int .u64 0, .int .u64 0, .slice none 0 0, .slice none 0 0, .slice none 0 0, .int .u64 0, .int .u64 0, .string ⟨List.toArray ([])⟩, .string ⟨List.toArray ([])⟩, .int .u64 0, .int .u64 0, .int .u64 0, .string ⟨List.toArray ([])⟩, .string ⟨List.toArray ([])⟩], .agg #[.int .i64 0, .int .u64 0, .int .u64 0, .int .u64 0, .slice none 0 0, .slice none 0 0, .slice none 0 0]], []⟩ 8 (by kernel_rfl) (by kernel_rfl) (by kernel_rfl) (by kernel_rfl)) ?_
  intro W base args ds gs before hval0 hW hcnd hsz0 _
  have hval:∀ (j:Nat) t v,Tryz.f3.params[j]? =some t→args[j]? =some v→Value.okWide Tryz.prog W .any base t v:=hval0
  have hW':=hW
  obtain⟨p,q,a,hV,rfl,hfz,hnd⟩:=hW
  have hA:DataW.TrodAll enc Tryz.prog W 0 (fun _=>true) true Tryz.f3.params.toList args.toList ds p:=a
  have hsz:(DataW.weightsEach Tryz.prog (Tryz.f3.params.toList++Rows.recordWritesSpec.plain.varTypes Tryz.prog) (ds++gs)).all (· ≤reachBytes)=true:=hsz0
  rw [Tryz.params3] at hA hval hsz
  obtain⟨d,n,E,o,r,F,hargs,rfl,rfl,f,s⟩:=trodAll_cons hA
  obtain⟨g,u,G,w,p1,I,rfl,rfl,rfl,i,y⟩:=trodAll_cons s
  obtain⟨rfl,rfl,rfl⟩:=trodAll_nil y
  obtain rfl:args= #[d,g]:=by cases args; simp_all
  obtain⟨rfl,rfl⟩:=trodVars_none hV
  have k:=f
  have b:∀ x ∈ r,x.block < W.heap.size:=by obtain⟨m,hm⟩:=k; exact DataW.trod_lt m _ _ _ hm
  obtain⟨z,rfl,A,J⟩:=(uk W).argStruct Tryz.underlying31 (hval 0 31 d rfl rfl) f (ui hsz (j:=0) rfl rfl)
  have l:=i
  have c:∀ x ∈ p1,x.block < W.heap.size:=by obtain⟨m,hm⟩:=l; exact DataW.trod_lt m _ _ _ hm
  obtain⟨B,rfl,D,K⟩:=(ul W).argStruct Tryz.underlying35 (hval 1 35 g rfl rfl) i (ui hsz (j:=1) rfl rfl)
  clear a hval0
  refine(sZ W z A B D).mono fun e W' ⟨he,bel⟩=> ?_
  subst he
  exact⟨_,rfl,_,_,_, [],_, [],hW',trodAll_mk1 (shut_bool Tryz.underlying4 _),(trodAll_cons_mk (Below.trod laidOut (by kernel_rfl) (of_decide_eq_true (by kernel_rfl)) k bel b) (trodAll_cons_mk (Below.trod laidOut (by kernel_rfl) (of_decide_eq_true (by kernel_rfl)) l bel c) trodAll_mk0)),rfl,bel.frame _,fun h=>by cases h⟩
theorem over:Rows.recordWritesRow.holds Tryz.pinned (OpenSpec.ofChange Rows.recordWritesSpec):=
  OpenClaim.holds_of_wide 3 Tryz.f3 rfl rfl rfl rfl rfl rfl rfl ⟨rfl,rfl,rfl,rfl,rfl⟩ rfl rfl rfl rfl rfl (by kernel_rfl) Tryz.func3 (by kernel_rfl)
    (of_decide_eq_true (by kernel_rfl)) (by unfold Func.isWrapper; first | (rw [if_pos (by decide+kernel)]; kernel_rfl) | (rw [if_neg (by decide+kernel)]; exact⟨rfl,rfl⟩))
    (fun os started H enc _=>lifted os started H enc)
theorem proved:Rows.RecordWritesSaid:=over
#print axioms proved
end Go.Proofs.YtcnkpjheifkgnaaGreat.recordWrites
