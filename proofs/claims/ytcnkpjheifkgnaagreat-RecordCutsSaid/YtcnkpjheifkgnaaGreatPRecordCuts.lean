/-
  PROVED HERE: for every input the law RecordCuts of the package sumpterlaw19 returns true, and its arguments read behind the call as they did before.
  Conditions: none beyond the statement's own.
-/
import Derived.Test.YtcnkpjheifkgnaaGreatRows
import Derived.Test.YtcnkpjheifkgnaaGreatVLC
import Derived.WalkKit
import Derived.ProofKit
import Derived.OpenShut
import Derived.ShutString
import Derived.ChangeOld
import Derived.Below
import Derived.Carry
import Derived.SizedLaws
import Derived.Lib.SmallJoins
namespace Go.Proofs.YtcnkpjheifkgnaaGreat.recordCuts
set_option maxRecDepth 100000
open Go.ChangeShapes Go.WideShapes Go.ChangeAt Go.RowKit
set_option linter.unusedVariables false
theorem own:ownKnob Tryz.prog.godebug=none:=by kernel_rfl
theorem laidOut:laidOutB Tryz.prog=true:=by kernel_rfl
set_option maxHeartbeats 1000000 in
theorem lifted (os:Os) (started:os.Started) (H:Type) (enc:TypeId × Value→H):
    ReturnsInHanded {} Tryz.checked os 5 .any (Rows.recordCutsSpec.pre6 enc Tryz.prog Tryz.f5 Rows.recordCutsRow.domain false) (Rows.recordCutsSpec.post enc Tryz.prog Tryz.f5 false true false false):=by
  refine returnsInHanded_of_change_sized (C:=Tryz.checked) own started (by kernel_rfl) Tryz.func5
    (ChangeSpec.witness6 (enc:=enc) (C:=Tryz.checked) false ⟨#[], #[.agg #[.int .i64 0, .int .u64 0, .int .u64 0, .int .u64 0, .int .u64 0, .slice none 0 0, .slice none 0 0, .slice none 0 0, .int .u64 0, .int .u64 0, .string ⟨List.toArray ([])⟩, .string ⟨List.toArray ([])⟩, .int .u64 0, .int .u64 0, .int .u64 0, .string ⟨List.toArray ([])⟩, .string ⟨List.toArray ([])⟩], .agg #[.int .i64 0, .int .u64 0, .int .u64 0, .int .u64 0, .slice none 0 0, .slice none 0 0, .slice none 0 0], .int .i64 0, .int .u8 0], []⟩ 8 (by kernel_rfl) (by kernel_rfl) (by kernel_rfl) (by kernel_rfl)) ?_
  intro W base args ds gs before hval0 hW hcnd hsz0 _
  have hval:∀ (j:Nat) t v,Tryz.f5.params[j]? =some t→args[j]? =some v→Value.okWide Tryz.prog W .any base t v:=hval0
  have hW':=hW
  obtain⟨p,q,a,hV,rfl,hfz,hnd⟩:=hW
  have hA:DataW.TrodAll enc Tryz.prog W 0 (fun _=>true) true Tryz.f5.params.toList args.toList ds p:=a
  have hsz:(DataW.weightsEach Tryz.prog (Tryz.f5.params.toList++Rows.recordCutsSpec.plain.varTypes Tryz.prog) (ds++gs)).all (· ≤reachBytes)=true:=hsz0
  rw [Tryz.params5] at hA hval hsz
  obtain⟨l,F,d0,G,I,q0,hargs,rfl,rfl,o,J⟩:=trodAll_cons hA
  obtain⟨r,K,d1,L,p1,q1,rfl,rfl,rfl,s,M⟩:=trodAll_cons J
  obtain⟨b,N,d2,O,P,q2,rfl,rfl,rfl,u,Q⟩:=trodAll_cons M
  obtain⟨c,R,d3,S,T,q3,rfl,rfl,rfl,w,U⟩:=trodAll_cons Q
  obtain⟨rfl,rfl,rfl⟩:=trodAll_nil U
  obtain rfl:args= #[l,r,b,c]:=by cases args; simp_all
  obtain⟨rfl,rfl⟩:=trodVars_none hV
  have y:=o
  have d:∀ x ∈ I,x.block < W.heap.size:=by obtain⟨m,hm⟩:=y; exact DataW.trod_lt m _ _ _ hm
  obtain⟨V,rfl,X,b0⟩:=(qH W).argStruct Tryz.underlying31 (hval 0 31 l rfl rfl) o (mW hsz (j:=0) rfl rfl)
  have z:=s
  have f:∀ x ∈ p1,x.block < W.heap.size:=by obtain⟨m,hm⟩:=z; exact DataW.trod_lt m _ _ _ hm
  obtain⟨Y,rfl,Z,b1⟩:=(qI W).argStruct Tryz.underlying35 (hval 1 35 r rfl rfl) s (mW hsz (j:=1) rfl rfl)
  have A:=u
  have g:∀ x ∈ P,x.block < W.heap.size:=by obtain⟨m,hm⟩:=A; exact DataW.trod_lt m _ _ _ hm
  have O2:gq Tryz.prog W 3 1 (eI .i64) (fun n=>(-9223372036854775808)≤n∧n≤9223372036854775807):=(jE (k:= .i64) (lo:= -9223372036854775808) (hi:=9223372036854775807) Tryz.underlying3 (by kernel_rfl) (by decide) (by decide))
  obtain⟨B,e2,y2,b2⟩:=O2.argInt Tryz.underlying3 (hval 2 3 b rfl rfl) u (mW hsz (j:=2) rfl rfl)
  obtain rfl:=(List.cons.inj (show [.int .i64 B]= [b] from e2)).1
  have D:=w
  have i:∀ x ∈ T,x.block < W.heap.size:=by obtain⟨m,hm⟩:=D; exact DataW.trod_lt m _ _ _ hm
  have O3:gq Tryz.prog W 5 1 (eN .u8) (fun n=>n≤255):=(fP (k:= .u8) (hi:=255) Tryz.underlying5 (by kernel_rfl) (by decide) (by decide))
  obtain⟨E,e3,y3,b3⟩:=O3.argInt Tryz.underlying5 (hval 3 5 c rfl rfl) w (mW hsz (j:=3) rfl rfl)
  obtain rfl:=(List.cons.inj (show [.int .u8 ((E:Nat):Int)]= [c] from e3)).1
  clear a hval0
  refine(qQ W V X Y Z B y2 E y3).mono fun e W' ⟨he,bel⟩=> ?_
  subst he
  exact⟨_,rfl,_,_,_, [],_, [],hW',trodAll_mk1 (shut_bool Tryz.underlying4 _),(trodAll_cons_mk (Below.trod laidOut (by kernel_rfl) (of_decide_eq_true (by kernel_rfl)) y bel d) (trodAll_cons_mk (Below.trod laidOut (by kernel_rfl) (of_decide_eq_true (by kernel_rfl)) z bel f) (trodAll_cons_mk (Below.trod laidOut (by kernel_rfl) (of_decide_eq_true (by kernel_rfl)) A bel g) (trodAll_cons_mk (Below.trod laidOut (by kernel_rfl) (of_decide_eq_true (by kernel_rfl)) D bel i) trodAll_mk0)))),rfl,bel.frame _,fun h=>by cases h⟩
theorem over:Rows.recordCutsRow.holds Tryz.pinned (OpenSpec.ofChange Rows.recordCutsSpec):=
  OpenClaim.holds_of_wide 5 Tryz.f5 rfl rfl rfl rfl rfl rfl rfl ⟨rfl,rfl,rfl,rfl,rfl⟩ rfl rfl rfl rfl rfl (by kernel_rfl) Tryz.func5 (by kernel_rfl)
    (of_decide_eq_true (by kernel_rfl)) (by unfold Func.isWrapper; first | (rw [if_pos (by decide+kernel)]; kernel_rfl) | (rw [if_neg (by decide+kernel)]; exact⟨rfl,rfl⟩))
    (fun os started H enc _=>lifted os started H enc)
theorem proved:Rows.RecordCutsSaid:=over
#print axioms proved
end Go.Proofs.YtcnkpjheifkgnaaGreat.recordCuts
