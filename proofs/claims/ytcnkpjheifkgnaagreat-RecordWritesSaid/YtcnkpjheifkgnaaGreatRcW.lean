/-
  What is read and written of shards' and the coordinator's states: one another's turn.
  Conditions: none beyond each one's own.
-/
import Derived.Test.YtcnkpjheifkgnaaGreatRcV
import Derived.Test.YtcnkpjheifkgnaaGreatRc
import Derived.Test.YtcnkpjheifkgnaaGreatRf
namespace Go.Proofs.YtcnkpjheifkgnaaGreat
set_option linter.unusedVariables false
set_option linter.unusedSimpArgs false
theorem wI {i:Int} (h:0≤i∧i≤255):((Int.toNat (IntKind.u64.wrap i):Nat):Int)=i∧Int.toNat (IntKind.u64.wrap i)≤255:=by
  have:IntKind.u64.wrap i=i:=by simp only [IntKind.wrap,IntKind.signed,IntKind.bits]; simp; omega
  rw [this]; omega
def iB (i:Int):List UInt8:=bE (Int.toNat (IntKind.u64.wrap i))
def iP (i:Int):Prop:=0≤i∧i≤255
def nP (n:Nat):Prop:=n≤18446744073709551615
def tP (s:List UInt8):Prop:=List.length s≤255
theorem ma:kS bv bE nP:=nH (cN (Nat.le_refl _)) id id (fun _=>rfl) (fun _=>rfl) (fun _=>rfl)
theorem rz:kS dI dG tP:=nH cT id id (fun _=>rfl) (fun _=>rfl) (fun _=>rfl)
theorem qH:kS dZ iB iP:=by
  have hr:∀ r,dZ r=((((aQ r 255).1:Nat):Int),(aQ r 255).2):=fun _=>rfl
  refine⟨fun x t h=> ?_,fun r h=> ?_,fun x q s hx he hs=> ?_,fun e h=> ?_⟩
  · rw [hr]; unfold iB; rw [fN (by decide) _ t (wI h).2,(wI h).1]
  · rw [hr] at h ⊢
    obtain⟨a,b,c⟩:=gN h
    refine⟨a, ?_⟩
    show r.ae.ls=iB (((aQ r 255).1:Nat):Int)++_
    have d:=(wI (i:=(((aQ r 255).1:Nat):Int)) (by omega)).1
    unfold iB
    rw [show Int.toNat (IntKind.u64.wrap (((aQ r 255).1:Nat):Int))=(aQ r 255).1 by omega]
    exact b
  · rw [hr]; unfold iB at he; rw [hN 255 _ (by have:=(wI hx).2; omega) q s he hs]
  · rw [hr,dN 255 h]
def pI (b:Bool):List UInt8:=bE (if b=true then 1 else 0)
def sV (r:ReaderT):Bool × ReaderT:=(decide ((((aQ r 1).1:Nat):Int)=1),(aQ r 1).2)
theorem BB:kS sV pI (fun _=>True):=by
  refine⟨fun x t h=> ?_,fun r h=> ?_,fun x q s hx he hs=> ?_,fun e h=> ?_⟩
  · unfold sV pI; rw [fN (by decide) _ t (by split <;> omega)]; cases x <;> rfl
  · unfold sV at h ⊢
    obtain⟨a,b,d⟩:=gN h
    refine⟨a, ?_⟩
    show r.ae.ls=pI (decide ((((aQ r 1).1:Nat):Int)=1))++_
    have e:pI (decide ((((aQ r 1).1:Nat):Int)=1))=bE (aQ r 1).1:=by
      unfold pI
      by_cases c:(((aQ r 1).1:Nat):Int)=1
      · rw [if_pos (decide_eq_true c),show (aQ r 1).1=1 by omega]
      · rw [if_neg (by simp only [c,decide_false]; decide),show (aQ r 1).1=0 by omega]
    rw [e]
    exact b
  · unfold sV pI at *; rw [hN 1 _ (by split <;> omega) q s he hs]
  · unfold sV; rw [dN 1 h]
def uC (x:bF):List UInt8:=dG x.aK++dG x.aO
def xE (x:bF):Prop:=tP x.aK∧tP x.aO
theorem zY:kS je uC xE:=nH (iw rz rz) (fun p=>bF.mk p.1 p.2) (fun x=>(x.aK,x.aO)) (fun _=>rfl) (fun _=>rfl) (fun _=>by simp only [je,aN,cp])
def pJ (x:aL):List UInt8:=dG x.aK++iB x.bV
def vU (x:aL):Prop:=tP x.aK∧iP x.bV
theorem BC:kS j3 pJ vU:=nH (iw rz qH) (fun p=>aL.mk p.1 p.2) (fun x=>(x.aK,x.bV)) (fun _=>rfl) (fun _=>rfl) (fun _=>by simp only [j3,aN,cp])
def rA (o:bq):List UInt8:=iB o.aI++(dG o.aV++(dG o.aC++(dG o.aK++(dG o.aO++iB o.bn))))
def xG (o:bq):Prop:=iP o.aI∧tP o.aV∧tP o.aC∧tP o.aK∧tP o.aO∧iP o.bn
theorem BD:kS lq rA xG:=nH (iw qH (iw rz (iw rz (iw rz (iw rz qH))))) (fun p=>bq.mk p.1 p.2.1 p.2.2.1 p.2.2.2.1 p.2.2.2.2.1 p.2.2.2.2.2) (fun o=>(o.aI,o.aV,o.aC,o.aK,o.aO,o.bn)) (fun _=>rfl) (fun _=>rfl) (fun _=>by simp only [lq,aN,cp])
def qI (q:bH):List UInt8:=dG q.aV++dG q.aC
def yS (q:bH):Prop:=tP q.aV∧tP q.aC
theorem BF:kS kG qI yS:=nH (iw rz rz) (fun p=>bH.mk p.1 p.2) (fun x=>(x.aV,x.aC)) (fun _=>rfl) (fun _=>rfl) (fun _=>by simp only [kG,aN,cp])
def lB {α:Type} (wr:α→List UInt8) (l:List α):List UInt8:=bE (List.length l)++List.flatMap wr l
def lP {α:Type} (P:α→Prop) (l:List α):Prop:=List.length l≤255∧∀ x ∈ l,P x
theorem zZ (p1:Int):∀ (n:Nat) (l:List bq) (k:Nat) (b:List UInt8) (e:Int),fo p1 n l k b e=tG lq p1 n l k b e
  | 0,_,_,_,_=>rfl
  | n+1,l,k,b,e=>by unfold fo tG; simp only [zZ p1 n]
theorem z8 (p1:Int):∀ (n:Nat) (l:List Int) (k:Nat) (b:List UInt8) (e:Int),gm p1 n l k b e=tG dZ p1 n l k b e
  | 0,_,_,_,_=>rfl
  | n+1,l,k,b,e=>by unfold gm tG; simp only [z8 p1 n]
theorem Aa (p1:Int):∀ (n:Nat) (l:List bH) (k:Nat) (b:List UInt8) (e:Int),eO p1 n l k b e=tG kG p1 n l k b e
  | 0,_,_,_,_=>rfl
  | n+1,l,k,b,e=>by unfold eO tG; simp only [Aa p1 n]
theorem Ab (p1:Int):∀ (n:Nat) (l:List cK) (k:Nat) (b:List UInt8) (e:Int),dX p1 n l k b e=tG jO p1 n l k b e
  | 0,_,_,_,_=>rfl
  | n+1,l,k,b,e=>by unfold dX tG; simp only [Ab p1 n]
theorem Ac (p1:Int):∀ (n:Nat) (l:List aL) (k:Nat) (b:List UInt8) (e:Int),d9 p1 n l k b e=tG j3 p1 n l k b e
  | 0,_,_,_,_=>rfl
  | n+1,l,k,b,e=>by unfold d9 tG; simp only [Ac p1 n]
theorem Ae (p1:Int):∀ (n:Nat) (l:List eZ) (k:Nat) (b:List UInt8) (e:Int),eP p1 n l k b e=tG kH p1 n l k b e
  | 0,_,_,_,_=>rfl
  | n+1,l,k,b,e=>by unfold eP tG; simp only [Ae p1 n]
theorem Af (p1:Int):∀ (n:Nat) (l:List Nat) (k:Nat) (b:List UInt8) (e:Int),fq p1 n l k b e=tG bv p1 n l k b e
  | 0,_,_,_,_=>rfl
  | n+1,l,k,b,e=>by unfold fq tG; simp only [Af p1 n]
theorem Ah (p1:Int):∀ (n:Nat) (l:List bK) (k:Nat) (b:List UInt8) (e:Int),dD p1 n l k b e=tG jw p1 n l k b e
  | 0,_,_,_,_=>rfl
  | n+1,l,k,b,e=>by unfold dD tG; simp only [Ah p1 n]
theorem Ai (p1:Int):∀ (n:Nat) (l:List eD) (k:Nat) (b:List UInt8) (e:Int),eQ p1 n l k b e=tG kI p1 n l k b e
  | 0,_,_,_,_=>rfl
  | n+1,l,k,b,e=>by unfold eQ tG; simp only [Ai p1 n]
theorem AO:kS (fun r=>ko r 255) (lB rA) (lP xG):=cL BD fun r=>by unfold ko kL; simp only [zZ]; rfl
theorem AP:kS (fun r=>kZ r 255) (lB iB) (lP iP):=cL qH fun r=>by unfold kZ lG; simp only [z8]; rfl
theorem AQ:kS (fun r=>jK r 255) (lB qI) (lP yS):=cL BF fun r=>by unfold jK kr; simp only [Aa]; rfl
theorem yT:kS (fun r=>gD r 255) (lB pJ) (lP vU):=cL BC fun r=>by unfold gD jV; simp only [Ac]; rfl
theorem AR:kS (fun r=>jI r 255) (lB bE) (lP nP):=cL ma fun r=>by unfold jI kM; simp only [Af]; rfl
def qJ (x:eZ):List UInt8:=bE x.av++lB rA x.ay.ls
def vV (x:eZ):Prop:=nP x.av∧lP xG x.ay.ls
theorem BG:kS kH qJ vV:=nH (iw ma AO) (fun p=>eZ.mk p.1 (Ll.mk p.2)) (fun x=>(x.av,x.ay.ls)) (fun _=>rfl) (fun _=>rfl) (fun _=>by simp only [kH,aN,cp])
theorem AU:kS (fun r=>jg r 255) (lB qJ) (lP vV):=cL BG fun r=>by unfold jg ku; simp only [Ae]; rfl
def qK (x:bK):List UInt8:=bE x.av++(iB x.ak++(bE x.aj++(bE x.bJ++lB iB x.aa.ls)))
def xH (x:bK):Prop:=nP x.av∧iP x.ak∧nP x.aj∧nP x.bJ∧lP iP x.aa.ls
theorem BH:kS jw qK xH:=nH (iw ma (iw qH (iw ma (iw ma AP)))) (fun p=>bK.mk p.1 p.2.1 p.2.2.1 p.2.2.2.1 (Ll.mk p.2.2.2.2)) (fun x=>(x.av,x.ak,x.aj,x.bJ,x.aa.ls)) (fun _=>rfl) (fun _=>rfl) (fun _=>by simp only [jw,aN,cp])
theorem AV:kS (fun r=>iy r 255) (lB qK) (lP xH):=cL BH fun r=>by unfold iy jC; simp only [Ah]; rfl
def qa (x:cK):List UInt8:=pI x.eT++(dG x.aC++lB qI x.aA.ls)
def xI (x:cK):Prop:=True∧tP x.aC∧lP yS x.aA.ls
theorem BI:kS jO qa xI:=nH (iw BB (iw rz AQ)) (fun p=>cK.mk p.1 p.2.1 (Ll.mk p.2.2)) (fun x=>(x.eT,x.aC,x.aA.ls)) (fun _=>rfl) (fun _=>rfl) (fun _=>by simp only [jO,aN,cp,sV])
theorem AX:kS (fun r=>jo r 255) (lB qa) (lP xI):=cL BI fun r=>by unfold jo jM; simp only [Ab]; rfl
def qL (x:eD):List UInt8:=iB x.ak++(bE x.aj++(bE x.bJ++lB qa x.au.ls))
def xJ (x:eD):Prop:=iP x.ak∧nP x.aj∧nP x.bJ∧lP xI x.au.ls
theorem BJ:kS kI qL xJ:=nH (iw qH (iw ma (iw ma AX))) (fun p=>eD.mk p.1 p.2.1 p.2.2.1 (Ll.mk p.2.2.2)) (fun x=>(x.ak,x.aj,x.bJ,x.au.ls)) (fun _=>rfl) (fun _=>rfl) (fun _=>by simp only [kI,aN,cp])
theorem AY:kS (fun r=>jh r 255) (lB qL) (lP xJ):=cL BJ fun r=>by unfold jh kv; simp only [Ai]; rfl
def vW (x:gp):List UInt8:=bE x.aZ++(bE x.bB++(bE x.cz++uC x.aP))
def Aj (x:gp):Prop:=nP x.aZ∧nP x.bB∧nP x.cz∧xE x.aP
theorem BK:kS j4 vW Aj:=nH (iw ma (iw ma (iw ma zY))) (fun p=>gp.mk p.1 p.2.1 p.2.2.1 p.2.2.2) (fun x=>(x.aZ,x.bB,x.cz,x.aP)) (fun _=>rfl) (fun _=>rfl) (fun _=>by simp only [j4,aN,cp])
def rC (p:bQ):List UInt8:=iB p.cO++(bE p.aj++(bE p.aR++(bE p.aH++(bE p.aZ++(lB pJ p.ai.ls++(lB qJ p.az.ls++(lB bE p.ah.ls++(bE p.iq++(bE p.bS++(uC p.bf++vW p.aS))))))))))
def yU (p:bQ):Prop:=iP p.cO∧nP p.aj∧nP p.aR∧nP p.aH∧nP p.aZ∧lP vU p.ai.ls∧lP vV p.az.ls∧lP nP p.ah.ls∧nP p.iq∧nP p.bS∧xE p.bf∧Aj p.aS
def rdSh (r:ReaderT):bQ × ReaderT:=
  bnd (dZ r) fun d=>bnd (bv d.2) fun e=>bnd (bv e.2) fun f=>bnd (bv f.2) fun g=>bnd (bv g.2) fun h=>bnd (gD h.2 255) fun i=>bnd (jg i.2 255) fun j=>bnd (jI j.2 255) fun k=>bnd (bv k.2) fun l=>bnd (bv l.2) fun a=>bnd (je a.2) fun b=>bnd (j4 b.2) fun c=>
    (bQ.mk d.1 e.1 f.1 g.1 h.1 (Ll.mk i.1) (Ll.mk j.1) (Ll.mk k.1) l.1 a.1 b.1 c.1,c.2)
theorem BL:kS rdSh rC yU:=nH (iw qH (iw ma (iw ma (iw ma (iw ma (iw yT (iw AU (iw AR (iw ma (iw ma (iw zY BK)))))))))))
  (fun p=>bQ.mk p.1 p.2.1 p.2.2.1 p.2.2.2.1 p.2.2.2.2.1 (Ll.mk p.2.2.2.2.2.1) (Ll.mk p.2.2.2.2.2.2.1) (Ll.mk p.2.2.2.2.2.2.2.1) p.2.2.2.2.2.2.2.2.1 p.2.2.2.2.2.2.2.2.2.1 p.2.2.2.2.2.2.2.2.2.2.1 p.2.2.2.2.2.2.2.2.2.2.2)
  (fun p=>(p.cO,p.aj,p.aR,p.aH,p.aZ,p.ai.ls,p.az.ls,p.ah.ls,p.iq,p.bS,p.bf,p.aS)) (fun _=>rfl) (fun _=>rfl) (fun _=>by simp only [rdSh,aN,cp])
def sF (p:bI):List UInt8:=iB p.aa++(bE p.aj++(bE p.aR++(bE p.aH++(lB pJ p.ai.ls++(lB qK p.af.ls++lB qL p.aB.ls)))))
def yV (p:bI):Prop:=iP p.aa∧nP p.aj∧nP p.aR∧nP p.aH∧lP vU p.ai.ls∧lP xH p.af.ls∧lP xJ p.aB.ls
def vC (r:ReaderT):bI × ReaderT:=
  bnd (dZ r) fun a=>bnd (bv a.2) fun b=>bnd (bv b.2) fun c=>bnd (bv c.2) fun d=>bnd (gD d.2 255) fun e=>bnd (iy e.2 255) fun f=>bnd (jh f.2 255) fun g=>
    (bI.mk a.1 b.1 c.1 d.1 (Ll.mk e.1) (Ll.mk f.1) (Ll.mk g.1),g.2)
theorem Ak:kS vC sF yV:=nH (iw qH (iw ma (iw ma (iw ma (iw yT (iw AV AY))))))
  (fun p=>bI.mk p.1 p.2.1 p.2.2.1 p.2.2.2.1 (Ll.mk p.2.2.2.2.1) (Ll.mk p.2.2.2.2.2.1) (Ll.mk p.2.2.2.2.2.2))
  (fun p=>(p.aa,p.aj,p.aR,p.aH,p.ai.ls,p.af.ls,p.aB.ls)) (fun _=>rfl) (fun _=>rfl) (fun _=>by simp only [vC,aN,cp])
theorem w_num (l:List UInt8) (n:Nat):aJ (aW.mk (Ll.mk l)) n=aW.mk (Ll.mk (l++bE n)):=rfl
theorem oH (l s:List UInt8):bO (aW.mk (Ll.mk l)) s=aW.mk (Ll.mk (l++dG s)):=rfl
theorem uT (l:List UInt8) (x:aL):jv (aW.mk (Ll.mk l)) x=aW.mk (Ll.mk (l++pJ x)):=by
  unfold jv pJ iB; simp only [aN,w_num,oH,List.append_assoc]
theorem AZ (l:List UInt8) (x:bq):lF (aW.mk (Ll.mk l)) x=aW.mk (Ll.mk (l++rA x)):=by
  unfold lF rA iB; simp only [aN,w_num,oH,List.append_assoc]
theorem vX (l:List UInt8) (x:bH):jH (aW.mk (Ll.mk l)) x=aW.mk (Ll.mk (l++qI x)):=by
  unfold jH qI; simp only [aN,w_num,oH,List.append_assoc]
theorem xK:∀ (q:List bH) (l:List UInt8),fA q l=l++List.flatMap qI q
  | [],l=>(List.append_nil l).symm
  | x::q,l=>by simp only [fA,aN,vX,xK q,List.flatMap_cons,List.append_assoc]
theorem xL:∀ (q:List bH) (l:List UInt8),fB q l=l++List.flatMap qI q
  | [],l=>(List.append_nil l).symm
  | x::q,l=>by simp only [fB,aN,vX,xL q,List.flatMap_cons,List.append_assoc]
theorem wJ (l:List UInt8) (x:cK):kF (aW.mk (Ll.mk l)) x=aW.mk (Ll.mk (l++qa x)):=by
  unfold kF qa pI lB
  by_cases h:x.eT=true
  · simp only [if_pos h,aN,w_num,oH,xK,List.append_assoc]
  · simp only [if_neg h,aN,w_num,oH,xL,List.append_assoc]
theorem xM:∀ (q:List bq) (l:List UInt8),fI q l=l++List.flatMap rA q
  | [],l=>(List.append_nil l).symm
  | x::q,l=>by simp only [fI,aN,AZ,xM q,List.flatMap_cons,List.append_assoc]
theorem yX (l:List UInt8) (x:eZ):kW (aW.mk (Ll.mk l)) x=aW.mk (Ll.mk (l++qJ x)):=by
  unfold kW qJ lB; simp only [aN,w_num,xM,List.append_assoc]
theorem xN:∀ (q:List Int) (l:List UInt8),eU q l=l++List.flatMap iB q
  | [],l=>(List.append_nil l).symm
  | x::q,l=>by simp only [eU,aN,w_num,xN q,List.flatMap_cons,iB,List.append_assoc]
theorem vD (l:List UInt8) (x:bK):jU (aW.mk (Ll.mk l)) x=aW.mk (Ll.mk (l++qK x)):=by
  unfold jU qK lB; simp only [aN,w_num,xN,iB,List.append_assoc]
theorem xO:∀ (q:List cK) (l:List UInt8),fJ q l=l++List.flatMap qa q
  | [],l=>(List.append_nil l).symm
  | x::q,l=>by simp only [fJ,aN,wJ,xO q,List.flatMap_cons,List.append_assoc]
theorem yY (l:List UInt8) (x:eD):kX (aW.mk (Ll.mk l)) x=aW.mk (Ll.mk (l++qL x)):=by
  unfold kX qL lB; simp only [aN,w_num,xO,iB,List.append_assoc]
theorem xP (p:bQ):∀ (q:List aL) (l:List UInt8),fK p q l=l++List.flatMap pJ q
  | [],l=>(List.append_nil l).symm
  | x::q,l=>by simp only [fK,aN,uT,xP p q,List.flatMap_cons,List.append_assoc]
theorem xQ (p:bQ):∀ (q:List eZ) (l:List UInt8),fM p q l=l++List.flatMap qJ q
  | [],l=>(List.append_nil l).symm
  | x::q,l=>by simp only [fM,aN,yX,xQ p q,List.flatMap_cons,List.append_assoc]
theorem xR (p:bQ):∀ (q:List Nat) (l:List UInt8),fP p q l=l++List.flatMap bE q
  | [],l=>(List.append_nil l).symm
  | x::q,l=>by simp only [fP,aN,w_num,xR p q,List.flatMap_cons,List.append_assoc]
theorem xS (p:bI):∀ (q:List aL) (l:List UInt8),fQ p q l=l++List.flatMap pJ q
  | [],l=>(List.append_nil l).symm
  | x::q,l=>by simp only [fQ,aN,uT,xS p q,List.flatMap_cons,List.append_assoc]
theorem xU (p:bI):∀ (q:List bK) (l:List UInt8),fU p q l=l++List.flatMap qK q
  | [],l=>(List.append_nil l).symm
  | x::q,l=>by simp only [fU,aN,vD,xU p q,List.flatMap_cons,List.append_assoc]
theorem xV:∀ (q:List eD) (l:List UInt8),fV q l=l++List.flatMap qL q
  | [],l=>(List.append_nil l).symm
  | x::q,l=>by simp only [fV,aN,yY,xV q,List.flatMap_cons,List.append_assoc]
theorem xW (p:bQ):ik p=if dz p=0 then([83]++rC p,0) else([],dz p):=by
  unfold ik
  rw [aN]
  split
  · simp only [aN,w_num,oH,xP,xQ,xR,rC,lB,uC,vW,iB,List.append_assoc]
  · rfl
theorem xX (p:bI):il p=if dA p=0 then([67]++sF p,0) else([],dA p):=by
  unfold il
  rw [aN]
  split
  · simp only [aN,w_num,oH,xS,xU,xV,sF,lB,iB,List.append_assoc]
  · rfl
def ZS:bQ:=bQ.mk 0 0 0 0 0 (Ll.mk ([])) (Ll.mk ([])) (Ll.mk ([])) 0 0 (bF.mk ([]) ([])) (gp.mk 0 0 0 (bF.mk ([]) ([])))
def ZC:bI:=bI.mk 0 0 0 0 (Ll.mk ([])) (Ll.mk ([])) (Ll.mk ([]))
def vY (x:bQ × ReaderT):bQ × Int:=if(gZ x.2).aG=0 then(if dz x.1=0 then(x.1,0) else(ZS,dz x.1)) else(ZS,(gZ x.2).aG)
def tC (x:bI × ReaderT):bI × Int:=if(gZ x.2).aG=0 then(if dA x.1=0 then(x.1,0) else(ZC,dA x.1)) else(ZC,(gZ x.2).aG)
theorem yx {α:Type} (a:α) (f:α→bQ × ReaderT):vY (bnd a f)=bnd a (fun y=>vY (f y)):=rfl
theorem yz {α:Type} (a:α) (f:α→bI × ReaderT):tC (bnd a f)=bnd a (fun y=>tC (f y)):=rfl
theorem yZ (a:bQ) (b:ReaderT):vY (a,b)=bnd (gZ b) fun e=>bnd (jN e) fun z=>if z=0 then(bnd (dz a) fun c=>if c=0 then(a,0) else(ZS,c)) else(ZS,z):=rfl
theorem za (a:bI) (b:ReaderT):tC (a,b)=bnd (gZ b) fun e=>bnd (jN e) fun z=>if z=0 then(bnd (dA a) fun c=>if c=0 then(a,0) else(ZC,c)) else(ZC,z):=rfl
theorem zN (l:List UInt8):iH l=vY (rdSh (jc l 83)):=by
  unfold iH rdSh
  rw [aN (jc l 83)]
  simp only [yx,yZ,ZS]
theorem xY (l:List UInt8):gB l=tC (vC (jc l 67)):=by
  unfold gB vC
  rw [aN (jc l 67)]
  simp only [yz,za,ZC]
theorem zb (m:UInt8) (t:List UInt8) (hl:List.length t < 8192):jc ([m]++t) m=Rr t 0:=by
  unfold jc
  rw [aN,if_neg (by simp only [List.length_append,List.length_cons,List.length_nil]; omega)]
  show bnd (gF (Rr ([m]++t) 0)) _=_
  rw [fO,aN]
  exact if_pos rfl
theorem A7 (c m:UInt8) (t:List UInt8) (hl:List.length t < 8192) (hc: ¬ c=m):jc ([c]++t) m=Rr [] 11:=by
  unfold jc
  rw [aN,if_neg (by simp only [List.length_append,List.length_cons,List.length_nil]; omega)]
  show bnd (gF (Rr ([c]++t) 0)) _=_
  rw [fO,aN]
  refine(if_neg ?_).trans ?_
  · intro h
    have h':c.toNat=m.toNat:=by
      have:((c.toNat:Nat):Int)=((m.toNat:Nat):Int):=h
      omega
    exact hc (UInt8.toNat_inj.1 h')
  · exact vz 11
theorem zO (p:bI) {e:Int} (h: ¬ e=0):tC (p,Rr [] e)=(ZC,e):=by unfold tC; exact if_neg h
theorem zP {x:bI × ReaderT} {e:Int} (h: ¬ e=0) (hx:x.2=Rr [] e):(tC x).2=e:=by
  obtain⟨a,b⟩:=x
  have hb:b=Rr [] e:=hx
  subst hb
  rw [zO a h]
theorem A8 (p:bQ) (h:yU p) (hc:dz p=0) (hl:List.length (rC p) < 8192):iH ([83]++rC p)=(p,0):=by
  rw [zN,zb 83 _ hl]
  have:=BL.f p [] h
  rw [List.append_nil] at this
  rw [this]
  unfold vY
  show (if(0:Int)=0 then _ else _)=_
  rw [if_pos rfl,if_pos hc]
theorem A9 (p:bI) (h:yV p) (hc:dA p=0) (hl:List.length (sF p) < 8192):gB ([67]++sF p)=(p,0):=by
  rw [xY,zb 67 _ hl]
  have:=Ak.f p [] h
  rw [List.append_nil] at this
  rw [this]
  unfold tC
  show (if(0:Int)=0 then _ else _)=_
  rw [if_pos rfl,if_pos hc]
theorem Ba (t:List UInt8) (hl:List.length t < 8192):(gB ([83]++t)).2=11:=by
  rw [xY,A7 83 67 t hl (by decide)]
  exact zP (by decide) (Ak.d 11 (by decide))
end Go.Proofs.YtcnkpjheifkgnaaGreat
