/-
  The chapter's examples; a state is the same as itself.
  Conditions: none.
-/
import Derived.Test.YtcnkpjheifkgnaaGreatRcX
import Derived.Test.YtcnkpjheifkgnaaGreatRl
namespace Go.Proofs.YtcnkpjheifkgnaaGreat
set_option linter.unusedVariables false
set_option linter.unusedSimpArgs false
theorem nd {p:Prop} [Decidable p] (h:p):decide (¬ p)=false:=decide_eq_false (fun n=>n h)
def s1:bQ:=bQ.mk 1 0 0 0 0 (Ll.mk ([(aL.mk ([]) 1)])) (Ll.mk ([])) (Ll.mk ([])) 0 0 (bF.mk ([]) ([])) (gp.mk 0 0 0 (bF.mk ([]) ([])))
def c1:bI:=bI.mk 2 1 0 0 (Ll.mk ([(aL.mk ([]) 1)])) (Ll.mk ([])) (Ll.mk ([]))
theorem wK:dz s1=0:=by decide+kernel
theorem wL:dA c1=0:=by decide+kernel
theorem Bg: [83]++rC s1= [83,1,0,0,0,0,1,0,1,0,0,0,0,0,0,0,0,0,0,0]:=by decide+kernel
theorem Bh: [67]++sF c1= [67,2,1,0,0,1,0,1,0,0]:=by decide+kernel
theorem Bi:rZ s1:=by simp [rZ,s1]
theorem Bj:r9 c1:=by simp [r9,c1]
theorem vZ:oI=true:=by
  unfold oI
  rw [show bQ.mk 1 0 0 0 0 (Ll.mk ([(aL.mk ([]) 1)])) (Ll.mk ([])) (Ll.mk ([])) 0 0 (bF.mk ([]) ([])) (gp.mk 0 0 0 (bF.mk ([]) ([])))=s1 from rfl,show bI.mk 2 1 0 0 (Ll.mk ([(aL.mk ([]) 1)])) (Ll.mk ([])) (Ll.mk ([]))=c1 from rfl,xW,xX,if_pos wK,if_pos wL,aN,aN]
  have ps:=Be wK Bi
  have pc:=Bf wL Bj
  dsimp only
  rw [A8 s1 ps.1 wK (by have:=ps.2; omega),aN,A9 c1 pc.1 wL (by have:=pc.2; omega),aN,aN]
  have hd:=Ba (rC s1) (by have:=ps.2; omega)
  dsimp only
  rw [hd,if_pos Bg,if_pos rfl,if_pos Bh,if_pos rfl]
  rfl
end Go.Proofs.YtcnkpjheifkgnaaGreat
