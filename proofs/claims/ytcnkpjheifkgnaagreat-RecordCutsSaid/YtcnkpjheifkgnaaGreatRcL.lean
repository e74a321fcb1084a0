/-
  The chapter's examples; a state is the same as itself.
  Conditions: none.
-/
import Derived.Test.YtcnkpjheifkgnaaGreatRcX
import Derived.Test.YtcnkpjheifkgnaaGreatRl
namespace Go.Proofs.YtcnkpjheifkgnaaGreat
set_option linter.unusedVariables false
set_option linter.unusedSimpArgs false
theorem nd {p:Prop} [Decidable p] (h:p):decide (¬ p)=false:=decide_eq_false (fun n=>n h)
def s1:bP:=bP.mk 1 0 0 0 0 (Ll.mk ([(aC.mk ([]) 1)])) (Ll.mk ([])) (Ll.mk ([])) 0 0 (bE.mk ([]) ([])) (eU.mk 0 0 0 (bE.mk ([]) ([])))
def c1:bL:=bL.mk 2 1 0 0 (Ll.mk ([(aC.mk ([]) 1)])) (Ll.mk ([])) (Ll.mk ([]))
theorem tQ:bi s1=0:=by decide+kernel
theorem tT:bn c1=0:=by decide+kernel
theorem xz: [83]++jv s1= [83,1,0,0,0,0,1,0,1,0,0,0,0,0,0,0,0,0,0,0]:=by decide+kernel
theorem xA: [67]++jD c1= [67,2,1,0,0,1,0,1,0,0]:=by decide+kernel
theorem xB:o8 s1:=by simp [o8,s1]
theorem xC:o9 c1:=by simp [o9,c1]
theorem sO:lY=true:=by
  unfold lY
  rw [show bP.mk 1 0 0 0 0 (Ll.mk ([(aC.mk ([]) 1)])) (Ll.mk ([])) (Ll.mk ([])) 0 0 (bE.mk ([]) ([])) (eU.mk 0 0 0 (bE.mk ([]) ([])))=s1 from rfl,show bL.mk 2 1 0 0 (Ll.mk ([(aC.mk ([]) 1)])) (Ll.mk ([])) (Ll.mk ([]))=c1 from rfl,uE,uF,if_pos tQ,if_pos tT,aF,aF]
  have ps:=vM tQ xB
  have pc:=vQ tT xC
  dsimp only
  rw [xg s1 ps.1 tQ (by have:=ps.2; omega),aF,xh c1 pc.1 tT (by have:=pc.2; omega),aF,aF]
  have hd:=xk (jv s1) (by have:=ps.2; omega)
  dsimp only
  rw [hd,if_pos xz,if_pos rfl,if_pos xA,if_pos rfl]
  rfl
end Go.Proofs.YtcnkpjheifkgnaaGreat
