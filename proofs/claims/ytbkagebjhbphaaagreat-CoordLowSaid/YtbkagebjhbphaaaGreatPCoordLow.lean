/-
  PROVED HERE: for every input the law CoordLow of the package sumpterlaw21 returns true, and its arguments read behind the call as they did before.
  Conditions: none beyond the statement's own.
-/
import Derived.Test.YtbkagebjhbphaaaGreatRows
import Derived.Test.YtbkagebjhbphaaaGreatVLow
import Derived.WalkKit
import Derived.ProofKit
import Derived.OpenShut
import Derived.ShutString
import Derived.ChangeOld
import Derived.Below
import Derived.Carry
import Derived.SizedLaws
import Derived.Lib.SmallJoins
namespace Go.Proofs.YtbkagebjhbphaaaGreat.coordLow
set_option maxRecDepth 100000
open Go.ChangeShapes Go.WideShapes Go.ChangeAt Go.RowKit
set_option linter.unusedVariables false
theorem own:ownKnob Tryz.prog.godebug=none:=by kernel_rfl
theorem laidOut:laidOutB Tryz.prog=true:=by kernel_rfl
set_option maxHeartbeats 1000000 in
theorem lifted (os:Os) (started:os.Started) (H:Type) (enc:TypeId × Value→H):
    ReturnsInHanded {} Tryz.checked os 4 .any (Rows.coordLowSpec.pre6 enc Tryz.prog Tryz.f4 Rows.coordLowRow.domain false) (Rows.coordLowSpec.post enc Tryz.prog Tryz.f4 false true false false):=by
  refine returnsInHanded_of_change_sized (C:=Tryz.checked) own started (by kernel_rfl) Tryz.func4
    (ChangeSpec.witness6 (enc:=enc) (C:=Tryz.checked) false ⟨#[], #[.slice none 0 0], []⟩ 8 (by kernel_rfl) (by kernel_rfl) (by kernel_rfl) (by kernel_rfl)) ?_
  intro W base args ds gs before hval0 hW hcnd a _
  have hval:∀ (j:Nat) t v,Tryz.f4.params[j]? =some t→args[j]? =some v→Value.okWide Tryz.prog W .any base t v:=hval0
  have hW':=hW
  obtain⟨p,q,b,hV,rfl,hfz,hnd⟩:=hW
  have hA:DataW.TrodAll enc Tryz.prog W 0 (fun _=>true) true Tryz.f4.params.toList args.toList ds p:=b
  have hsz:(DataW.weightsEach Tryz.prog (Tryz.f4.params.toList++Rows.coordLowSpec.plain.varTypes Tryz.prog) (ds++gs)).all (· ≤reachBytes)=true:=a
  rw [Tryz.params4] at hA hval hsz
  obtain⟨f,l,y,n,o,z,hargs,rfl,rfl,i,r⟩:=trodAll_cons hA
  obtain⟨rfl,rfl,rfl⟩:=trodAll_nil r
  obtain rfl:args= #[f]:=by cases args; simp_all
  obtain⟨rfl,rfl⟩:=trodVars_none hV
  have k:=i
  have g:∀ x ∈ o,x.block < W.heap.size:=by obtain⟨m,hm⟩:=k; exact DataW.trod_lt m _ _ _ hm
  have s:kK Tryz.prog W 22 1 (FJ (β:=fZ)) (lU W 25 272 fZ.cells (Gp W)):=(oZ (bytes:=272) Tryz.underlying22 (by kernel_rfl) (by kernel_rfl) (by decide) (zO W))
  obtain⟨d,u,w,B⟩:=s.argSlice Tryz.underlying22 (hval 0 22 f rfl rfl) i (Cb hsz (j:=0) rfl rfl)
  obtain rfl:=(List.cons.inj (show [.slice d.A (List.length d.ls) d.c]= [f] from u)).1
  clear b hval0
  refine(Bc W d w).mono fun e W' ⟨he,bel⟩=> ?_
  subst he
  exact⟨_,rfl,_,_,_, [],_, [],hW',trodAll_mk1 (shut_bool Tryz.underlying4 _),(trodAll_cons_mk (Below.trod laidOut (by kernel_rfl) (of_decide_eq_true (by kernel_rfl)) k bel g) trodAll_mk0),rfl,bel.frame _,fun h=>by cases h⟩
theorem over:Rows.coordLowRow.holds Tryz.pinned (OpenSpec.ofChange Rows.coordLowSpec):=
  OpenClaim.holds_of_wide 4 Tryz.f4 rfl rfl rfl rfl rfl rfl rfl ⟨rfl,rfl,rfl,rfl,rfl⟩ rfl rfl rfl rfl rfl (by kernel_rfl) Tryz.func4 (by kernel_rfl)
    (of_decide_eq_true (by kernel_rfl)) (by unfold Func.isWrapper; first | (rw [if_pos (by decide+kernel)]; kernel_rfl) | (rw [if_neg (by decide+kernel)]; exact⟨rfl,rfl⟩))
    (fun os started H enc _=>lifted os started H enc)
theorem proved:Rows.CoordLowSaid:=over
#print axioms proved
end Go.Proofs.YtbkagebjhbphaaaGreat.coordLow
