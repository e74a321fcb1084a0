/-
  PROVED HERE: for every input the law CoordAgain of the package sumpterlaw21 returns true, and its arguments read behind the call as they did before.
  Conditions: none beyond the statement's own.
-/
import Derived.Test.YtbkagebjhbphaaaGreatRows
import Derived.Test.YtbkagebjhbphaaaGreatVAgain
import Derived.WalkKit
import Derived.ProofKit
import Derived.OpenShut
import Derived.ShutString
import Derived.ChangeOld
import Derived.Below
import Derived.Carry
import Derived.SizedLaws
import Derived.Lib.SmallJoins
namespace Go.Proofs.YtbkagebjhbphaaaGreat.coordAgain
open _root_.Go.Proofs.Tryz renaming checked→U6,f5→U7,prog→y4,underlying22→U8
set_option maxRecDepth 100000
open Go.ChangeShapes Go.WideShapes Go.ChangeAt Go.RowKit
set_option linter.unusedVariables false
theorem own:ownKnob y4.godebug=none:=by kernel_rfl
theorem laidOut:laidOutB y4=true:=by kernel_rfl
set_option maxHeartbeats 1000000 in
theorem lifted (os:Os) (started:os.Started) (H:Type) (enc:TypeId × Value→H):
    ReturnsInHanded {} U6 os 5 .any (Rows.coordAgainSpec.pre6 enc y4 U7 Rows.coordAgainRow.domain false) (Rows.coordAgainSpec.post enc y4 U7 false true false false):=by
  refine returnsInHanded_of_change_sized (C:=U6) own started e7 Tryz.func5
    (ChangeSpec.witness6 (enc:=enc) (C:=U6) false ⟨#[], #[.slice none 0 0], []⟩ 8 e7 e7 e7 e7) ?_
  intro W base args ds gs before hval0 hW hcnd a _
  have hval:∀ (j:Nat) t v,U7.params[j]? =some t→args[j]? =some v→Value.okWide y4 W .any base t v:=hval0
  have hW':=hW
  obtain⟨p,q,b,hV,rfl,hfz,hnd⟩:=hW
  have hA:DataW.TrodAll enc y4 W 0 (fun _=>true) true U7.params.toList args.toList ds p:=b
  have hsz:(DataW.weightsEach y4 (U7.params.toList++Rows.coordAgainSpec.plain.varTypes y4) (ds++gs)).all (· ≤reachBytes)=true:=a
  rw [Tryz.params5] at hA hval hsz
  obtain⟨f,l,d0,n,o,y,hargs,rfl,rfl,i,r⟩:=trodAll_cons hA
  obtain⟨rfl,rfl,rfl⟩:=trodAll_nil r
  obtain rfl:args= #[f]:=by cases args; simp_all
  obtain⟨rfl,rfl⟩:=trodVars_none hV
  have k:=i
  have g:∀ x ∈ o,x.block < W.heap.size:=by obtain⟨m,hm⟩:=k; exact DataW.trod_lt m _ _ _ hm
  have s:kQ y4 W 22 1 (GD (β:=fU)) (lZ W 25 272 fU.cells (HY W)):=(pI (bytes:=272) U8 e7 e7 f3 (AA W))
  obtain⟨d,u,w,z⟩:=s.argSlice U8 (hval 0 22 f rfl rfl) i (CS hsz (j:=0) rfl rfl)
  obtain rfl:=(List.cons.inj (show [.slice d.A (List.length d.ls) d.c]= [f] from u)).1
  clear b hval0
  refine(Au W d w).mono fun e W' ⟨he,bel⟩=> ?_
  subst he
  exact⟨_,rfl,_,_,_, [],_, [],hW',trodAll_mk1 (shut_bool Tryz.underlying4 _),(trodAll_cons_mk (Below.trod laidOut e7 (of_decide_eq_true e7) k bel g) trodAll_mk0),rfl,bel.frame _,fun h=>by cases h⟩
theorem over:Rows.coordAgainRow.holds Tryz.pinned (OpenSpec.ofChange Rows.coordAgainSpec):=
  OpenClaim.holds_of_wide 5 U7 rfl rfl rfl rfl rfl rfl rfl ⟨rfl,rfl,rfl,rfl,rfl⟩ rfl rfl rfl rfl rfl e7 Tryz.func5 e7
    (of_decide_eq_true e7) (by unfold Func.isWrapper; first | (rw [if_pos (by decide+kernel)]; kernel_rfl) | (rw [if_neg (by decide+kernel)]; exact⟨rfl,rfl⟩))
    (fun os started H enc _=>lifted os started H enc)
theorem proved:Rows.CoordAgainSaid:=over
#print axioms proved
end Go.Proofs.YtbkagebjhbphaaaGreat.coordAgain
