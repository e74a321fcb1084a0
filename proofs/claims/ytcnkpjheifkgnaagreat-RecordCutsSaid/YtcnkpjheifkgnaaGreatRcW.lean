/-
  What is read and written of shards' and the coordinator's states: one another's turn.
  Conditions: none beyond each one's own.
-/
import Derived.Test.YtcnkpjheifkgnaaGreatRcV
import Derived.Test.YtcnkpjheifkgnaaGreatRc
import Derived.Test.YtcnkpjheifkgnaaGreatRf
namespace Go.Proofs.YtcnkpjheifkgnaaGreat
set_option linter.unusedVariables false
set_option linter.unusedSimpArgs false
theorem wI {i:Int} (h:0≤i∧i≤255):((Int.toNat (IntKind.u64.wrap i):Nat):Int)=i∧Int.toNat (IntKind.u64.wrap i)≤255:=by
  have:IntKind.u64.wrap i=i:=by simp only [IntKind.wrap,IntKind.signed,IntKind.bits]; simp; omega
  rw [this]; omega
def iB (i:Int):List UInt8:=aX (Int.toNat (IntKind.u64.wrap i))
def iP (i:Int):Prop:=0≤i∧i≤255
def nP (n:Nat):Prop:=n≤18446744073709551615
def tP (s:List UInt8):Prop:=List.length s≤255
theorem jU:je aQ aX nP:=lh (cN (Nat.le_refl _)) id id (fun _=>rfl) (fun _=>rfl) (fun _=>rfl)
theorem oG:je bZ di tP:=lh cT id id (fun _=>rfl) (fun _=>rfl) (fun _=>rfl)
theorem nU:je dh iB iP:=by
  have hr:∀ r,dh r=((((aD r 255).1:Nat):Int),(aD r 255).2):=fun _=>rfl
  refine⟨fun x t h=> ?_,fun r h=> ?_,fun x q s hx he hs=> ?_,fun e h=> ?_⟩
  · rw [hr]; unfold iB; rw [fN (by decide) _ t (wI h).2,(wI h).1]
  · rw [hr] at h ⊢
    obtain⟨a,b,c⟩:=gN h
    refine⟨a, ?_⟩
    show r.aa.ls=iB (((aD r 255).1:Nat):Int)++_
    have d:=(wI (i:=(((aD r 255).1:Nat):Int)) (by omega)).1
    unfold iB
    rw [show Int.toNat (IntKind.u64.wrap (((aD r 255).1:Nat):Int))=(aD r 255).1 by omega]
    exact b
  · rw [hr]; unfold iB at he; rw [hN 255 _ (by have:=(wI hx).2; omega) q s he hs]
  · rw [hr,dN 255 h]
def oH (b:Bool):List UInt8:=aX (if b=true then 1 else 0)
def qc (r:ReaderT):Bool × ReaderT:=(decide ((((aD r 1).1:Nat):Int)=1),(aD r 1).2)
theorem xI:je qc oH (fun _=>True):=by
  refine⟨fun x t h=> ?_,fun r h=> ?_,fun x q s hx he hs=> ?_,fun e h=> ?_⟩
  · unfold qc oH; rw [fN (by decide) _ t (by split <;> omega)]; cases x <;> rfl
  · unfold qc at h ⊢
    obtain⟨a,b,d⟩:=gN h
    refine⟨a, ?_⟩
    show r.aa.ls=oH (decide ((((aD r 1).1:Nat):Int)=1))++_
    have e:oH (decide ((((aD r 1).1:Nat):Int)=1))=aX (aD r 1).1:=by
      unfold oH
      by_cases c:(((aD r 1).1:Nat):Int)=1
      · rw [if_pos (decide_eq_true c),show (aD r 1).1=1 by omega]
      · rw [if_neg (by simp only [c,decide_false]; decide),show (aD r 1).1=0 by omega]
    rw [e]
    exact b
  · unfold qc oH at *; rw [hN 1 _ (by split <;> omega) q s he hs]
  · unfold qc; rw [dN 1 h]
def ru (x:bE):List UInt8:=di x.aJ++di x.aO
def ug (x:bE):Prop:=tP x.aJ∧tP x.aO
theorem wm:je gy ru ug:=lh (fI oG oG) (fun p=>bE.mk p.1 p.2) (fun x=>(x.aJ,x.aO)) (fun _=>rfl) (fun _=>rfl) (fun _=>by simp only [gy,aF,cp])
def oI (x:aC):List UInt8:=di x.aJ++iB x.gm
def sH (x:aC):Prop:=tP x.aJ∧iP x.gm
theorem xJ:je iH oI sH:=lh (fI oG nU) (fun p=>aC.mk p.1 p.2) (fun x=>(x.aJ,x.gm)) (fun _=>rfl) (fun _=>rfl) (fun _=>by simp only [iH,aF,cp])
def qh (o:aW):List UInt8:=iB o.aT++(di o.aY++(di o.aB++(di o.aJ++(di o.aO++iB o.bD))))
def uh (o:aW):Prop:=iP o.aT∧tP o.aY∧tP o.aB∧tP o.aJ∧tP o.aO∧iP o.bD
theorem xK:je jq qh uh:=lh (fI nU (fI oG (fI oG (fI oG (fI oG nU))))) (fun p=>aW.mk p.1 p.2.1 p.2.2.1 p.2.2.2.1 p.2.2.2.2.1 p.2.2.2.2.2) (fun o=>(o.aT,o.aY,o.aB,o.aJ,o.aO,o.bD)) (fun _=>rfl) (fun _=>rfl) (fun _=>by simp only [jq,aF,cp])
def pu (q:bB):List UInt8:=di q.aY++di q.aB
def vB (q:bB):Prop:=tP q.aY∧tP q.aB
theorem xL:je iW pu vB:=lh (fI oG oG) (fun p=>bB.mk p.1 p.2) (fun x=>(x.aY,x.aB)) (fun _=>rfl) (fun _=>rfl) (fun _=>by simp only [iW,aF,cp])
def lB {α:Type} (wr:α→List UInt8) (l:List α):List UInt8:=aX (List.length l)++List.flatMap wr l
def lP {α:Type} (P:α→Prop) (l:List α):Prop:=List.length l≤255∧∀ x ∈ l,P x
theorem wo (p1:Int):∀ (n:Nat) (l:List aW) (k:Nat) (b:List UInt8) (e:Int),dO p1 n l k b e=tG jq p1 n l k b e
  | 0,_,_,_,_=>rfl
  | n+1,l,k,b,e=>by unfold dO tG; simp only [wo p1 n]
theorem wu (p1:Int):∀ (n:Nat) (l:List Int) (k:Nat) (b:List UInt8) (e:Int),eQ p1 n l k b e=tG dh p1 n l k b e
  | 0,_,_,_,_=>rfl
  | n+1,l,k,b,e=>by unfold eQ tG; simp only [wu p1 n]
theorem ww (p1:Int):∀ (n:Nat) (l:List bB) (k:Nat) (b:List UInt8) (e:Int),dz p1 n l k b e=tG iW p1 n l k b e
  | 0,_,_,_,_=>rfl
  | n+1,l,k,b,e=>by unfold dz tG; simp only [ww p1 n]
theorem wy (p1:Int):∀ (n:Nat) (l:List df) (k:Nat) (b:List UInt8) (e:Int),cO p1 n l k b e=tG iy p1 n l k b e
  | 0,_,_,_,_=>rfl
  | n+1,l,k,b,e=>by unfold cO tG; simp only [wy p1 n]
theorem wz (p1:Int):∀ (n:Nat) (l:List aC) (k:Nat) (b:List UInt8) (e:Int),dm p1 n l k b e=tG iH p1 n l k b e
  | 0,_,_,_,_=>rfl
  | n+1,l,k,b,e=>by unfold dm tG; simp only [wz p1 n]
theorem wB (p1:Int):∀ (n:Nat) (l:List fo) (k:Nat) (b:List UInt8) (e:Int),dA p1 n l k b e=tG iX p1 n l k b e
  | 0,_,_,_,_=>rfl
  | n+1,l,k,b,e=>by unfold dA tG; simp only [wB p1 n]
theorem wC (p1:Int):∀ (n:Nat) (l:List Nat) (k:Nat) (b:List UInt8) (e:Int),dP p1 n l k b e=tG aQ p1 n l k b e
  | 0,_,_,_,_=>rfl
  | n+1,l,k,b,e=>by unfold dP tG; simp only [wC p1 n]
theorem wD (p1:Int):∀ (n:Nat) (l:List bJ) (k:Nat) (b:List UInt8) (e:Int),bX p1 n l k b e=tG gK p1 n l k b e
  | 0,_,_,_,_=>rfl
  | n+1,l,k,b,e=>by unfold bX tG; simp only [wD p1 n]
theorem wE (p1:Int):∀ (n:Nat) (l:List dX) (k:Nat) (b:List UInt8) (e:Int),dB p1 n l k b e=tG iY p1 n l k b e
  | 0,_,_,_,_=>rfl
  | n+1,l,k,b,e=>by unfold dB tG; simp only [wE p1 n]
theorem wS:je (fun r=>iJ r 255) (lB qh) (lP uh):=cL xK fun r=>by unfold iJ ja; simp only [wo]; rfl
theorem wT:je (fun r=>jl r 255) (lB iB) (lP iP):=cL nU fun r=>by unfold jl jB; simp only [wu]; rfl
theorem wU:je (fun r=>ik r 255) (lB pu) (lP vB):=cL xL fun r=>by unfold ik iK; simp only [ww]; rfl
theorem vC:je (fun r=>eX r 255) (lB oI) (lP sH):=cL xJ fun r=>by unfold eX iD; simp only [wz]; rfl
theorem wV:je (fun r=>ib r 255) (lB aX) (lP nP):=cL jU fun r=>by unfold ib jb; simp only [wC]; rfl
def pz (x:fo):List UInt8:=aX x.aV++lB qh x.aI.ls
def sI (x:fo):Prop:=nP x.aV∧lP uh x.aI.ls
theorem xM:je iX pz sI:=lh (fI jU wS) (fun p=>fo.mk p.1 (Ll.mk p.2)) (fun x=>(x.aV,x.aI.ls)) (fun _=>rfl) (fun _=>rfl) (fun _=>by simp only [iX,aF,cp])
theorem wW:je (fun r=>gz r 255) (lB pz) (lP sI):=cL xM fun r=>by unfold gz iL; simp only [wB]; rfl
def pE (x:bJ):List UInt8:=aX x.aV++(iB x.aG++(aX x.az++(aX x.bU++lB iB x.af.ls)))
def ui (x:bJ):Prop:=nP x.aV∧iP x.aG∧nP x.az∧nP x.bU∧lP iP x.af.ls
theorem xN:je gK pE ui:=lh (fI jU (fI nU (fI jU (fI jU wT)))) (fun p=>bJ.mk p.1 p.2.1 p.2.2.1 p.2.2.2.1 (Ll.mk p.2.2.2.2)) (fun x=>(x.aV,x.aG,x.az,x.bU,x.af.ls)) (fun _=>rfl) (fun _=>rfl) (fun _=>by simp only [gK,aF,cp])
theorem wX:je (fun r=>fM r 255) (lB pE) (lP ui):=cL xN fun r=>by unfold fM gQ; simp only [wD]; rfl
def pF (x:df):List UInt8:=oH x.dZ++(di x.aB++lB pu x.ay.ls)
def uj (x:df):Prop:=True∧tP x.aB∧lP vB x.ay.ls
theorem xO:je iy pF uj:=lh (fI xI (fI oG wU)) (fun p=>df.mk p.1 p.2.1 (Ll.mk p.2.2)) (fun x=>(x.dZ,x.aB,x.ay.ls)) (fun _=>rfl) (fun _=>rfl) (fun _=>by simp only [iy,aF,cp,qc])
theorem wY:je (fun r=>gG r 255) (lB pF) (lP uj):=cL xO fun r=>by unfold gG iq; simp only [wy]; rfl
def pG (x:dX):List UInt8:=iB x.aG++(aX x.az++(aX x.bU++lB pF x.ah.ls))
def uk (x:dX):Prop:=iP x.aG∧nP x.az∧nP x.bU∧lP uj x.ah.ls
theorem xP:je iY pG uk:=lh (fI nU (fI jU (fI jU wY))) (fun p=>dX.mk p.1 p.2.1 p.2.2.1 (Ll.mk p.2.2.2)) (fun x=>(x.aG,x.az,x.bU,x.ah.ls)) (fun _=>rfl) (fun _=>rfl) (fun _=>by simp only [iY,aF,cp])
theorem wZ:je (fun r=>gB r 255) (lB pG) (lP uk):=cL xP fun r=>by unfold gB iM; simp only [wE]; rfl
def ul (x:eU):List UInt8:=aX x.bA++(aX x.bG++(aX x.dR++ru x.aR))
def wF (x:eU):Prop:=nP x.bA∧nP x.bG∧nP x.dR∧ug x.aR
theorem xQ:je iI ul wF:=lh (fI jU (fI jU (fI jU wm))) (fun p=>eU.mk p.1 p.2.1 p.2.2.1 p.2.2.2) (fun x=>(x.bA,x.bG,x.dR,x.aR)) (fun _=>rfl) (fun _=>rfl) (fun _=>by simp only [iI,aF,cp])
def jv (p:bP):List UInt8:=iB p.iZ++(aX p.az++(aX p.bC++(aX p.aS++(aX p.bA++(lB oI p.ag.ls++(lB pz p.aH.ls++(lB aX p.ax.ls++(aX p.iQ++(aX p.dM++(ru p.bz++ul p.bg))))))))))
def sJ (p:bP):Prop:=iP p.iZ∧nP p.az∧nP p.bC∧nP p.aS∧nP p.bA∧lP sH p.ag.ls∧lP sI p.aH.ls∧lP nP p.ax.ls∧nP p.iQ∧nP p.dM∧ug p.bz∧wF p.bg
def rdSh (r:ReaderT):bP × ReaderT:=
  bnd (dh r) fun d=>bnd (aQ d.2) fun e=>bnd (aQ e.2) fun f=>bnd (aQ f.2) fun g=>bnd (aQ g.2) fun h=>bnd (eX h.2 255) fun i=>bnd (gz i.2 255) fun j=>bnd (ib j.2 255) fun k=>bnd (aQ k.2) fun l=>bnd (aQ l.2) fun a=>bnd (gy a.2) fun b=>bnd (iI b.2) fun c=>
    (bP.mk d.1 e.1 f.1 g.1 h.1 (Ll.mk i.1) (Ll.mk j.1) (Ll.mk k.1) l.1 a.1 b.1 c.1,c.2)
theorem um:je rdSh jv sJ:=lh (fI nU (fI jU (fI jU (fI jU (fI jU (fI vC (fI wW (fI wV (fI jU (fI jU (fI wm xQ)))))))))))
  (fun p=>bP.mk p.1 p.2.1 p.2.2.1 p.2.2.2.1 p.2.2.2.2.1 (Ll.mk p.2.2.2.2.2.1) (Ll.mk p.2.2.2.2.2.2.1) (Ll.mk p.2.2.2.2.2.2.2.1) p.2.2.2.2.2.2.2.2.1 p.2.2.2.2.2.2.2.2.2.1 p.2.2.2.2.2.2.2.2.2.2.1 p.2.2.2.2.2.2.2.2.2.2.2)
  (fun p=>(p.iZ,p.az,p.bC,p.aS,p.bA,p.ag.ls,p.aH.ls,p.ax.ls,p.iQ,p.dM,p.bz,p.bg)) (fun _=>rfl) (fun _=>rfl) (fun _=>by simp only [rdSh,aF,cp])
def jD (p:bL):List UInt8:=iB p.af++(aX p.az++(aX p.bC++(aX p.aS++(lB oI p.ag.ls++(lB pE p.ak.ls++lB pG p.aP.ls)))))
def sK (p:bL):Prop:=iP p.af∧nP p.az∧nP p.bC∧nP p.aS∧lP sH p.ag.ls∧lP ui p.ak.ls∧lP uk p.aP.ls
def rR (r:ReaderT):bL × ReaderT:=
  bnd (dh r) fun a=>bnd (aQ a.2) fun b=>bnd (aQ b.2) fun c=>bnd (aQ c.2) fun d=>bnd (eX d.2 255) fun e=>bnd (fM e.2 255) fun f=>bnd (gB f.2 255) fun g=>
    (bL.mk a.1 b.1 c.1 d.1 (Ll.mk e.1) (Ll.mk f.1) (Ll.mk g.1),g.2)
theorem sM:je rR jD sK:=lh (fI nU (fI jU (fI jU (fI jU (fI vC (fI wX wZ))))))
  (fun p=>bL.mk p.1 p.2.1 p.2.2.1 p.2.2.2.1 (Ll.mk p.2.2.2.2.1) (Ll.mk p.2.2.2.2.2.1) (Ll.mk p.2.2.2.2.2.2))
  (fun p=>(p.af,p.az,p.bC,p.aS,p.ag.ls,p.ak.ls,p.aP.ls)) (fun _=>rfl) (fun _=>rfl) (fun _=>by simp only [rR,aF,cp])
theorem w_num (l:List UInt8) (n:Nat):av (aK.mk (Ll.mk l)) n=aK.mk (Ll.mk (l++aX n)):=rfl
theorem lX (l s:List UInt8):bv (aK.mk (Ll.mk l)) s=aK.mk (Ll.mk (l++di s)):=rfl
theorem ry (l:List UInt8) (x:aC):gJ (aK.mk (Ll.mk l)) x=aK.mk (Ll.mk (l++oI x)):=by
  unfold gJ oI iB; simp only [aF,w_num,lX,List.append_assoc]
theorem xc (l:List UInt8) (x:aW):jA (aK.mk (Ll.mk l)) x=aK.mk (Ll.mk (l++qh x)):=by
  unfold jA qh iB; simp only [aF,w_num,lX,List.append_assoc]
theorem sN (l:List UInt8) (x:bB):gZ (aK.mk (Ll.mk l)) x=aK.mk (Ll.mk (l++pu x)):=by
  unfold gZ pu; simp only [aF,w_num,lX,List.append_assoc]
theorem uo:∀ (q:List bB) (l:List UInt8),dS q l=l++List.flatMap pu q
  | [],l=>(List.append_nil l).symm
  | x::q,l=>by simp only [dS,aF,sN,uo q,List.flatMap_cons,List.append_assoc]
theorem uq:∀ (q:List bB) (l:List UInt8),dU q l=l++List.flatMap pu q
  | [],l=>(List.append_nil l).symm
  | x::q,l=>by simp only [dU,aF,sN,uq q,List.flatMap_cons,List.append_assoc]
theorem tO (l:List UInt8) (x:df):iV (aK.mk (Ll.mk l)) x=aK.mk (Ll.mk (l++pF x)):=by
  unfold iV pF oH lB
  by_cases h:x.dZ=true
  · simp only [if_pos h,aF,w_num,lX,uo,List.append_assoc]
  · simp only [if_neg h,aF,w_num,lX,uq,List.append_assoc]
theorem ut:∀ (q:List aW) (l:List UInt8),ek q l=l++List.flatMap qh q
  | [],l=>(List.append_nil l).symm
  | x::q,l=>by simp only [ek,aF,xc,ut q,List.flatMap_cons,List.append_assoc]
theorem vD (l:List UInt8) (x:fo):jh (aK.mk (Ll.mk l)) x=aK.mk (Ll.mk (l++pz x)):=by
  unfold jh pz lB; simp only [aF,w_num,ut,List.append_assoc]
theorem uu:∀ (q:List Int) (l:List UInt8),dH q l=l++List.flatMap iB q
  | [],l=>(List.append_nil l).symm
  | x::q,l=>by simp only [dH,aF,w_num,uu q,List.flatMap_cons,iB,List.append_assoc]
theorem rT (l:List UInt8) (x:bJ):iC (aK.mk (Ll.mk l)) x=aK.mk (Ll.mk (l++pE x)):=by
  unfold iC pE lB; simp only [aF,w_num,uu,iB,List.append_assoc]
theorem uw:∀ (q:List df) (l:List UInt8),eu q l=l++List.flatMap pF q
  | [],l=>(List.append_nil l).symm
  | x::q,l=>by simp only [eu,aF,tO,uw q,List.flatMap_cons,List.append_assoc]
theorem vE (l:List UInt8) (x:dX):ji (aK.mk (Ll.mk l)) x=aK.mk (Ll.mk (l++pG x)):=by
  unfold ji pG lB; simp only [aF,w_num,uw,iB,List.append_assoc]
theorem uy (p:bP):∀ (q:List aC) (l:List UInt8),eD p q l=l++List.flatMap oI q
  | [],l=>(List.append_nil l).symm
  | x::q,l=>by simp only [eD,aF,ry,uy p q,List.flatMap_cons,List.append_assoc]
theorem uz (p:bP):∀ (q:List fo) (l:List UInt8),eF p q l=l++List.flatMap pz q
  | [],l=>(List.append_nil l).symm
  | x::q,l=>by simp only [eF,aF,vD,uz p q,List.flatMap_cons,List.append_assoc]
theorem uA (p:bP):∀ (q:List Nat) (l:List UInt8),eG p q l=l++List.flatMap aX q
  | [],l=>(List.append_nil l).symm
  | x::q,l=>by simp only [eG,aF,w_num,uA p q,List.flatMap_cons,List.append_assoc]
theorem uB (p:bL):∀ (q:List aC) (l:List UInt8),eH p q l=l++List.flatMap oI q
  | [],l=>(List.append_nil l).symm
  | x::q,l=>by simp only [eH,aF,ry,uB p q,List.flatMap_cons,List.append_assoc]
theorem uC (p:bL):∀ (q:List bJ) (l:List UInt8),eO p q l=l++List.flatMap pE q
  | [],l=>(List.append_nil l).symm
  | x::q,l=>by simp only [eO,aF,rT,uC p q,List.flatMap_cons,List.append_assoc]
theorem uD:∀ (q:List dX) (l:List UInt8),eP q l=l++List.flatMap pG q
  | [],l=>(List.append_nil l).symm
  | x::q,l=>by simp only [eP,aF,vE,uD q,List.flatMap_cons,List.append_assoc]
theorem uE (p:bP):fV p=if bi p=0 then([83]++jv p,0) else([],bi p):=by
  unfold fV
  rw [aF]
  split
  · simp only [aF,w_num,lX,uy,uz,uA,jv,lB,ru,ul,iB,List.append_assoc]
  · rfl
theorem uF (p:bL):fZ p=if bn p=0 then([67]++jD p,0) else([],bn p):=by
  unfold fZ
  rw [aF]
  split
  · simp only [aF,w_num,lX,uB,uC,uD,jD,lB,iB,List.append_assoc]
  · rfl
def ZS:bP:=bP.mk 0 0 0 0 0 (Ll.mk ([])) (Ll.mk ([])) (Ll.mk ([])) 0 0 (bE.mk ([]) ([])) (eU.mk 0 0 0 (bE.mk ([]) ([])))
def ZC:bL:=bL.mk 0 0 0 0 (Ll.mk ([])) (Ll.mk ([])) (Ll.mk ([]))
def pI (x:bP × ReaderT):bP × Int:=if(dD x.2).ai=0 then(if bi x.1=0 then(x.1,0) else(ZS,bi x.1)) else(ZS,(dD x.2).ai)
def pJ (x:bL × ReaderT):bL × Int:=if(dD x.2).ai=0 then(if bn x.1=0 then(x.1,0) else(ZC,bn x.1)) else(ZC,(dD x.2).ai)
theorem uP {α:Type} (a:α) (f:α→bP × ReaderT):pI (bnd a f)=bnd a (fun y=>pI (f y)):=rfl
theorem uQ {α:Type} (a:α) (f:α→bL × ReaderT):pJ (bnd a f)=bnd a (fun y=>pJ (f y)):=rfl
theorem vF (a:bP) (b:ReaderT):pI (a,b)=bnd (dD b) fun e=>bnd (iw e) fun z=>if z=0 then(bnd (bi a) fun c=>if c=0 then(a,0) else(ZS,c)) else(ZS,z):=rfl
theorem vG (a:bL) (b:ReaderT):pJ (a,b)=bnd (dD b) fun e=>bnd (iw e) fun z=>if z=0 then(bnd (bn a) fun c=>if c=0 then(a,0) else(ZC,c)) else(ZC,z):=rfl
theorem rU (l:List UInt8):bQ l=pI (rdSh (fK l 83)):=by
  unfold bQ rdSh
  rw [aF (fK l 83)]
  simp only [uP,vF,ZS]
theorem qA (l:List UInt8):bW l=pJ (rR (fK l 67)):=by
  unfold bW rR
  rw [aF (fK l 67)]
  simp only [uQ,vG,ZC]
theorem vH (c:UInt8) (t:List UInt8):dD (Rr (c::t) 0)=Rr [] 11:=by
  unfold dD
  rw [if_pos (by show ((List.length (c::t):Nat):Int) > 0; simp only [List.length_cons]; omega),aF,qz]
theorem qd (m:UInt8) (t:List UInt8) (hl:List.length t < 8192):fK ([m]++t) m=Rr t 0:=by
  unfold fK
  rw [aF,if_neg (by simp only [List.length_append,List.length_cons,List.length_nil]; omega)]
  show bnd (dW (Rr ([m]++t) 0)) _=_
  rw [fO,aF]
  exact if_pos rfl
theorem xe (c m:UInt8) (t:List UInt8) (hl:List.length t < 8192) (hc: ¬ c=m):fK ([c]++t) m=Rr [] 11:=by
  unfold fK
  rw [aF,if_neg (by simp only [List.length_append,List.length_cons,List.length_nil]; omega)]
  show bnd (dW (Rr ([c]++t) 0)) _=_
  rw [fO,aF]
  refine(if_neg ?_).trans ?_
  · intro h
    have h':c.toNat=m.toNat:=by
      have:((c.toNat:Nat):Int)=((m.toNat:Nat):Int):=h
      omega
    exact hc (UInt8.toNat_inj.1 h')
  · exact qz 11
theorem vI (m:UInt8) (hm: ¬ m=0):fK [] m=Rr [] 10:=by
  unfold fK
  rw [aF,if_neg (by decide)]
  show bnd (dW (Rr [] 0)) _=_
  have:dW (Rr [] 0)=(0,Rr [] 10):=rfl
  rw [this,aF]
  refine(if_neg ?_).trans ?_
  · intro h
    have h':(0:UInt8).toNat=m.toNat:=by
      have:(((0:UInt8).toNat:Nat):Int)=((m.toNat:Nat):Int):=h
      omega
    exact hm (UInt8.toNat_inj.1 h').symm
  · exact rP (by decide) 11
theorem vT (p:bP) {e:Int} (h: ¬ e=0):pI (p,Rr [] e)=(ZS,e):=by unfold pI; exact if_neg h
theorem vU (p:bL) {e:Int} (h: ¬ e=0):pJ (p,Rr [] e)=(ZC,e):=by unfold pJ; exact if_neg h
theorem uG {x:bP × ReaderT} {e:Int} (h: ¬ e=0) (hx:x.2=Rr [] e):(pI x).2=e:=by
  obtain⟨a,b⟩:=x
  have hb:b=Rr [] e:=hx
  subst hb
  rw [vT a h]
theorem rV {x:bL × ReaderT} {e:Int} (h: ¬ e=0) (hx:x.2=Rr [] e):(pJ x).2=e:=by
  obtain⟨a,b⟩:=x
  have hb:b=Rr [] e:=hx
  subst hb
  rw [vU a h]
theorem xg (p:bP) (h:sJ p) (hc:bi p=0) (hl:List.length (jv p) < 8192):bQ ([83]++jv p)=(p,0):=by
  rw [rU,qd 83 _ hl]
  have:=um.f p [] h
  rw [List.append_nil] at this
  rw [this]
  unfold pI
  show (if(0:Int)=0 then _ else _)=_
  rw [if_pos rfl,if_pos hc]
theorem xh (p:bL) (h:sK p) (hc:bn p=0) (hl:List.length (jD p) < 8192):bW ([67]++jD p)=(p,0):=by
  rw [qA,qd 67 _ hl]
  have:=sM.f p [] h
  rw [List.append_nil] at this
  rw [this]
  unfold pJ
  show (if(0:Int)=0 then _ else _)=_
  rw [if_pos rfl,if_pos hc]
theorem xk (t:List UInt8) (hl:List.length t < 8192):(bW ([83]++t)).2=11:=by
  rw [qA,xe 83 67 t hl (by decide)]
  exact rV (by decide) (sM.d 11 (by decide))
theorem xm (p:bP) (h:sJ p) (hl:List.length (jv p) < 8192) (k:Nat) (hk:k < List.length ([83]++jv p)):(bQ (List.take k ([83]++jv p))).2=10:=by
  rw [rU]
  cases k with
  | zero=>
    rw [List.take_zero,vI 83 (by decide)]
    have hh:=um.d 10 (by decide)
    exact uG (by decide) hh
  | succ k=>
    have hk':k < List.length (jv p):=by simp only [List.length_append,List.length_cons,List.length_nil] at hk; omega
    have e:List.take (k+1) ([83]++jv p)= [83]++List.take k (jv p):=by simp only [List.cons_append,List.nil_append,List.take_succ_cons]
    rw [e,qd 83 _ (by rw [List.length_take]; omega)]
    have hd:List.drop k (jv p)≠ []:=by intro hq; have:=congrArg List.length hq; rw [List.length_drop,List.length_nil] at this; omega
    have he:jv p=List.take k (jv p)++List.drop k (jv p):=(List.take_append_drop k (jv p)).symm
    generalize List.take k (jv p)=a at he ⊢
    generalize List.drop k (jv p)=b at he hd
    exact uG (by decide) (um.h p a b h he hd)
theorem xn (p:bL) (h:sK p) (hl:List.length (jD p) < 8192) (k:Nat) (hk:k < List.length ([67]++jD p)):(bW (List.take k ([67]++jD p))).2=10:=by
  rw [qA]
  cases k with
  | zero=>
    rw [List.take_zero,vI 67 (by decide)]
    have hh:=sM.d 10 (by decide)
    exact rV (by decide) hh
  | succ k=>
    have hk':k < List.length (jD p):=by simp only [List.length_append,List.length_cons,List.length_nil] at hk; omega
    have e:List.take (k+1) ([67]++jD p)= [67]++List.take k (jD p):=by simp only [List.cons_append,List.nil_append,List.take_succ_cons]
    rw [e,qd 67 _ (by rw [List.length_take]; omega)]
    have hd:List.drop k (jD p)≠ []:=by intro hq; have:=congrArg List.length hq; rw [List.length_drop,List.length_nil] at this; omega
    have he:jD p=List.take k (jD p)++List.drop k (jD p):=(List.take_append_drop k (jD p)).symm
    generalize List.take k (jD p)=a at he ⊢
    generalize List.drop k (jD p)=b at he hd
    exact rV (by decide) (sM.h p a b h he hd)
theorem xq (p:bP) (h:sJ p) (hl:List.length (jv p) < 8191) (c:UInt8):(bQ (([83]++jv p)++ [c])).2=11:=by
  rw [rU,List.append_assoc,qd 83 _ (by simp only [List.length_append,List.length_cons,List.length_nil]; omega),um.f p [c] h]
  unfold pI
  show (if(dD (Rr [c] 0)).ai=0 then _ else(ZS,(dD (Rr [c] 0)).ai)).2=_
  rw [vH]
  rfl
theorem xu (p:bL) (h:sK p) (hl:List.length (jD p) < 8191) (c:UInt8):(bW (([67]++jD p)++ [c])).2=11:=by
  rw [qA,List.append_assoc,qd 67 _ (by simp only [List.length_append,List.length_cons,List.length_nil]; omega),sM.f p [c] h]
  unfold pJ
  show (if(dD (Rr [c] 0)).ai=0 then _ else(ZC,(dD (Rr [c] 0)).ai)).2=_
  rw [vH]
  rfl
end Go.Proofs.YtcnkpjheifkgnaaGreat
