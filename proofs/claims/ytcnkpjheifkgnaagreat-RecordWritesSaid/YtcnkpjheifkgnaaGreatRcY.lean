/-
  States' bytes: the program's are the document's.
  Conditions: none.
-/
import Derived.Test.YtcnkpjheifkgnaaGreatRu
import Derived.Test.YtcnkpjheifkgnaaGreatRcL
namespace Go.Proofs.YtcnkpjheifkgnaaGreat
set_option linter.unusedVariables false
set_option linter.unusedSimpArgs false
theorem yf:∀ (q:List Nat) (l:List UInt8),kE q l=l++List.flatMap bE q
  | [],l=>(List.append_nil l).symm
  | x::q,l=>by simp only [kE,aN,yf q,List.flatMap_cons,mI,List.append_assoc]
theorem nz (l:List UInt8) (q:List Nat):dC l q=l++List.flatMap bE q:=by unfold dC; rw [aN,yf]
theorem qM (l s:List UInt8):eX l s=l++dG s:=by unfold eX; rw [aN,yw]
theorem BN:pI true= [1]:=by decide+kernel
theorem BO:pI false= [0]:=by decide+kernel
theorem zl (l:List UInt8) (b:Bool):pV l b=l++pI b:=by
  cases b
  · rw [BO]; rfl
  · rw [BN]; rfl
theorem wh:∀ (q:List aL) (l:List UInt8),iZ q l=l++List.flatMap pJ q
  | [],l=>(List.append_nil l).symm
  | x::q,l=>by simp only [iZ,aN,qM,nz,wh q,List.flatMap_cons,List.flatMap_nil,List.append_nil,pJ,iB,List.append_assoc]
theorem yg (l:List UInt8) (q:List aL):lu l q=l++lB pJ q:=by
  unfold lu lB; simp only [aN,nz,wh,List.flatMap_cons,List.flatMap_nil,List.append_nil,List.append_assoc]
theorem yh:∀ (q:List bH) (l:List UInt8),kC q l=l++List.flatMap qI q
  | [],l=>(List.append_nil l).symm
  | x::q,l=>by simp only [kC,aN,qM,yh q,List.flatMap_cons,qI,List.append_assoc]
theorem yj:∀ (q:List cK) (l:List UInt8),kD q l=l++List.flatMap qa q
  | [],l=>(List.append_nil l).symm
  | x::q,l=>by simp only [kD,aN,zl,qM, ← mI,yh,yj q,List.flatMap_cons,qa,lB,List.append_assoc]
theorem zS (l:List UInt8) (q:List cK):om l q=l++lB qa q:=by
  unfold om lB; simp only [aN,yj, ← mI,List.append_assoc]
theorem zm:∀ (q:List bq) (l:List UInt8),dP q l=l++List.flatMap rA q
  | [],l=>(List.append_nil l).symm
  | x::q,l=>by simp only [dP,aN,qM,nz,zm q,List.flatMap_cons,List.flatMap_nil,List.append_nil,rA,iB,List.append_assoc]
theorem zn (p:bQ):∀ (q:List eZ) (l:List UInt8),dQ p q l=l++List.flatMap qJ q
  | [],l=>(List.append_nil l).symm
  | x::q,l=>by simp only [dQ,aN,nz,zm,zn p q,List.flatMap_cons,List.flatMap_nil,List.append_nil,qJ,lB,List.append_assoc]
theorem zT (p:bQ):jQ p=ik p:=by
  rw [xW]
  unfold jQ
  rw [aN,ut]
  split
  · simp only [aN,nz,qM,yg,zn,rC,lB,uC,vW,iB,List.flatMap_cons,List.flatMap_nil,List.append_nil,List.append_assoc]
  · rfl
theorem zo:∀ (q:List Int) (l:List UInt8),dR q l=l++List.flatMap iB q
  | [],l=>(List.append_nil l).symm
  | x::q,l=>by simp only [dR,aN,nz,zo q,List.flatMap_cons,List.flatMap_nil,List.append_nil,iB,List.append_assoc]
theorem zq (p:bI):∀ (q:List bK) (l:List UInt8),dS p q l=l++List.flatMap qK q
  | [],l=>(List.append_nil l).symm
  | x::q,l=>by simp only [dS,aN,nz,zo,zq p q,List.flatMap_cons,List.flatMap_nil,List.append_nil,qK,lB,iB,List.append_assoc]
theorem zt:∀ (q:List eD) (l:List UInt8),dU q l=l++List.flatMap qL q
  | [],l=>(List.append_nil l).symm
  | x::q,l=>by simp only [dU,aN,nz,zS,zt q,List.flatMap_cons,List.flatMap_nil,List.append_nil,qL,iB,List.append_assoc]
theorem zU (p:bI):jR p=il p:=by
  rw [xX]
  unfold jR
  rw [aN,uw]
  split
  · simp only [aN,nz,yg,zq,zt,sF,lB,iB,List.flatMap_cons,List.flatMap_nil,List.append_nil,List.append_assoc]
  · rfl
end Go.Proofs.YtcnkpjheifkgnaaGreat
