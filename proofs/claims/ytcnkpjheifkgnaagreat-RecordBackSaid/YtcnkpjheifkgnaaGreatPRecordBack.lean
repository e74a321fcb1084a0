/-
  PROVED HERE: for every input the law RecordBack of the package sumpterlaw19 returns true, and its arguments read behind the call as they did before.
  Conditions: none beyond the statement's own.
-/
import Derived.Test.YtcnkpjheifkgnaaGreatRows
import Derived.Test.YtcnkpjheifkgnaaGreatVLB
import Derived.WalkKit
import Derived.ProofKit
import Derived.OpenShut
import Derived.ShutString
import Derived.ChangeOld
import Derived.Below
import Derived.Carry
import Derived.SizedLaws
import Derived.Lib.SmallJoins
namespace Go.Proofs.YtcnkpjheifkgnaaGreat.recordBack
set_option maxRecDepth 100000
open Go.ChangeShapes Go.WideShapes Go.ChangeAt Go.RowKit
set_option linter.unusedVariables false
theorem own:ownKnob Tryz.prog.godebug=none:=by kernel_rfl
theorem laidOut:laidOutB Tryz.prog=true:=by kernel_rfl
set_option maxHeartbeats 1000000 in
theorem lifted (os:Os) (started:os.Started) (H:Type) (enc:TypeId × Value→H):
    ReturnsInHanded {} Tryz.checked os 4 .any (Rows.recordBackSpec.pre6 enc Tryz.prog Tryz.f4 Rows.recordBackRow.domain false) (Rows.recordBackSpec.post enc Tryz.prog Tryz.f4 false true false false):=by
  refine returnsInHanded_of_change_sized (C:=Tryz.checked) own started (by kernel_rfl) Tryz.func4
    (ChangeSpec.witness6 (enc:=enc) (C:=Tryz.checked) false ⟨#[], #[.agg #[.int .i64 0, .int .u64 0, .int .u64 0, .int .u64 0, .int .u64 0, .slice none 0 0, .slice none 0 0, .slice none 0 0, .int .u64 0, .int .u64 0, .string ⟨List.toArray ([])⟩, .string ⟨List.toArray ([])⟩, .int .u64 0, .int .u64 0, .int .u64 0, .string ⟨List.toArray ([])⟩, .string ⟨List.toArray ([])⟩], .agg #[.int .i64 0, .int .u64 0, .int .u64 0, .int .u64 0, .slice none 0 0, .slice none 0 0, .slice none 0 0], .slice none 0 0], []⟩ 8 (by kernel_rfl) (by kernel_rfl) (by kernel_rfl) (by kernel_rfl)) ?_
  intro W base args ds gs before hval0 hW hcnd hsz0 _
  have hval:∀ (j:Nat) t v,Tryz.f4.params[j]? =some t→args[j]? =some v→Value.okWide Tryz.prog W .any base t v:=hval0
  have hW':=hW
  obtain⟨p,q,a,hV,rfl,hfz,hnd⟩:=hW
  have hA:DataW.TrodAll enc Tryz.prog W 0 (fun _=>true) true Tryz.f4.params.toList args.toList ds p:=a
  have hsz:(DataW.weightsEach Tryz.prog (Tryz.f4.params.toList++Rows.recordBackSpec.plain.varTypes Tryz.prog) (ds++gs)).all (· ≤reachBytes)=true:=hsz0
  rw [Tryz.params4] at hA hval hsz
  obtain⟨k,y,T,z,B,U,hargs,rfl,rfl,l,D⟩:=trodAll_cons hA
  obtain⟨n,E,V,F,p1,X,rfl,rfl,rfl,o,G⟩:=trodAll_cons D
  obtain⟨d,I,Y,J,K,Z,rfl,rfl,rfl,r,L⟩:=trodAll_cons G
  obtain⟨rfl,rfl,rfl⟩:=trodAll_nil L
  obtain rfl:args= #[k,n,d]:=by cases args; simp_all
  obtain⟨rfl,rfl⟩:=trodVars_none hV
  have s:=l
  have f:∀ x ∈ B,x.block < W.heap.size:=by obtain⟨m,hm⟩:=s; exact DataW.trod_lt m _ _ _ hm
  obtain⟨M,rfl,N,b0⟩:=(rD W).argStruct Tryz.underlying31 (hval 0 31 k rfl rfl) l (pM hsz (j:=0) rfl rfl)
  have u:=o
  have g:∀ x ∈ p1,x.block < W.heap.size:=by obtain⟨m,hm⟩:=u; exact DataW.trod_lt m _ _ _ hm
  obtain⟨O,rfl,P,b1⟩:=(rE W).argStruct Tryz.underlying35 (hval 1 35 n rfl rfl) o (pM hsz (j:=1) rfl rfl)
  have w:=r
  have i:∀ x ∈ K,x.block < W.heap.size:=by obtain⟨m,hm⟩:=w; exact DataW.trod_lt m _ _ _ hm
  have Q:gY Tryz.prog W 37 1 (Bj (β:=UInt8)) (kY W 1 1 eB (fun _=>True)):=(iX (bytes:=1) Tryz.underlying37 (by kernel_rfl) (by kernel_rfl) (by decide) (ui Tryz.underlying5 (by kernel_rfl)))
  obtain⟨b,R,S,b2⟩:=Q.argSlice Tryz.underlying37 (hval 2 37 d rfl rfl) r (pM hsz (j:=2) rfl rfl)
  obtain rfl:=(List.cons.inj (show [.slice b.A (List.length b.ls) b.c]= [d] from R)).1
  clear a hval0
  refine(rR W M N O P b S).mono fun e W' ⟨he,bel⟩=> ?_
  subst he
  exact⟨_,rfl,_,_,_, [],_, [],hW',trodAll_mk1 (shut_bool Tryz.underlying4 _),(trodAll_cons_mk (Below.trod laidOut (by kernel_rfl) (of_decide_eq_true (by kernel_rfl)) s bel f) (trodAll_cons_mk (Below.trod laidOut (by kernel_rfl) (of_decide_eq_true (by kernel_rfl)) u bel g) (trodAll_cons_mk (Below.trod laidOut (by kernel_rfl) (of_decide_eq_true (by kernel_rfl)) w bel i) trodAll_mk0))),rfl,bel.frame _,fun h=>by cases h⟩
theorem over:Rows.recordBackRow.holds Tryz.pinned (OpenSpec.ofChange Rows.recordBackSpec):=
  OpenClaim.holds_of_wide 4 Tryz.f4 rfl rfl rfl rfl rfl rfl rfl ⟨rfl,rfl,rfl,rfl,rfl⟩ rfl rfl rfl rfl rfl (by kernel_rfl) Tryz.func4 (by kernel_rfl)
    (of_decide_eq_true (by kernel_rfl)) (by unfold Func.isWrapper; first | (rw [if_pos (by decide+kernel)]; kernel_rfl) | (rw [if_neg (by decide+kernel)]; exact⟨rfl,rfl⟩))
    (fun os started H enc _=>lifted os started H enc)
theorem proved:Rows.RecordBackSaid:=over
#print axioms proved
end Go.Proofs.YtcnkpjheifkgnaaGreat.recordBack
