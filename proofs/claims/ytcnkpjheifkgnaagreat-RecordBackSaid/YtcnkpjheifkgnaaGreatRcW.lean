/-
  What is read and written of shards' and the coordinator's states: one another's turn.
  Conditions: none beyond each one's own.
-/
import Derived.Test.YtcnkpjheifkgnaaGreatRcV
import Derived.Test.YtcnkpjheifkgnaaGreatRc
import Derived.Test.YtcnkpjheifkgnaaGreatRf
namespace Go.Proofs.YtcnkpjheifkgnaaGreat
set_option linter.unusedVariables false
set_option linter.unusedSimpArgs false
theorem wI {i:Int} (h:0≤i∧i≤255):((Int.toNat (IntKind.u64.wrap i):Nat):Int)=i∧Int.toNat (IntKind.u64.wrap i)≤255:=by
  have:IntKind.u64.wrap i=i:=by simp only [IntKind.wrap,IntKind.signed,IntKind.bits]; simp; omega
  rw [this]; omega
def iB (i:Int):List UInt8:=bq (Int.toNat (IntKind.u64.wrap i))
def iP (i:Int):Prop:=0≤i∧i≤255
def nP (n:Nat):Prop:=n≤18446744073709551615
def tP (s:List UInt8):Prop:=List.length s≤255
theorem ky:jD aU bq nP:=lS (cN (Nat.le_refl _)) id id (fun _=>rfl) (fun _=>rfl) (fun _=>rfl)
theorem pF:jD cZ dB tP:=lS cT id id (fun _=>rfl) (fun _=>rfl) (fun _=>rfl)
theorem oM:jD dA iB iP:=by
  have hr:∀ r,dA r=((((aI r 255).1:Nat):Int),(aI r 255).2):=fun _=>rfl
  refine⟨fun x t h=> ?_,fun r h=> ?_,fun x q s hx he hs=> ?_,fun e h=> ?_⟩
  · rw [hr]; unfold iB; rw [fN (by decide) _ t (wI h).2,(wI h).1]
  · rw [hr] at h ⊢
    obtain⟨a,b,c⟩:=gN h
    refine⟨a, ?_⟩
    show r.aa.ls=iB (((aI r 255).1:Nat):Int)++_
    have d:=(wI (i:=(((aI r 255).1:Nat):Int)) (by omega)).1
    unfold iB
    rw [show Int.toNat (IntKind.u64.wrap (((aI r 255).1:Nat):Int))=(aI r 255).1 by omega]
    exact b
  · rw [hr]; unfold iB at he; rw [hN 255 _ (by have:=(wI hx).2; omega) q s he hs]
  · rw [hr,dN 255 h]
def pG (b:Bool):List UInt8:=bq (if b=true then 1 else 0)
def qO (r:ReaderT):Bool × ReaderT:=(decide ((((aI r 1).1:Nat):Int)=1),(aI r 1).2)
theorem yQ:jD qO pG (fun _=>True):=by
  refine⟨fun x t h=> ?_,fun r h=> ?_,fun x q s hx he hs=> ?_,fun e h=> ?_⟩
  · unfold qO pG; rw [fN (by decide) _ t (by split <;> omega)]; cases x <;> rfl
  · unfold qO at h ⊢
    obtain⟨a,b,d⟩:=gN h
    refine⟨a, ?_⟩
    show r.aa.ls=pG (decide ((((aI r 1).1:Nat):Int)=1))++_
    have e:pG (decide ((((aI r 1).1:Nat):Int)=1))=bq (aI r 1).1:=by
      unfold pG
      by_cases c:(((aI r 1).1:Nat):Int)=1
      · rw [if_pos (decide_eq_true c),show (aI r 1).1=1 by omega]
      · rw [if_neg (by simp only [c,decide_false]; decide),show (aI r 1).1=0 by omega]
    rw [e]
    exact b
  · unfold qO pG at *; rw [hN 1 _ (by split <;> omega) q s he hs]
  · unfold qO; rw [dN 1 h]
def sj (x:bI):List UInt8:=dB x.aJ++dB x.aN
def uI (x:bI):Prop:=tP x.aJ∧tP x.aN
theorem xM:jD ic sj uI:=lS (gH pF pF) (fun p=>bI.mk p.1 p.2) (fun x=>(x.aJ,x.aN)) (fun _=>rfl) (fun _=>rfl) (fun _=>by simp only [ic,aF,cp])
def pI (x:aH):List UInt8:=dB x.aJ++iB x.fI
def tT (x:aH):Prop:=tP x.aJ∧iP x.fI
theorem yR:jD ji pI tT:=lS (gH pF oM) (fun p=>aH.mk p.1 p.2) (fun x=>(x.aJ,x.fI)) (fun _=>rfl) (fun _=>rfl) (fun _=>by simp only [ji,aF,cp])
def qV (o:aW):List UInt8:=iB o.aV++(dB o.aX++(dB o.aB++(dB o.aJ++(dB o.aN++iB o.bF))))
def uJ (o:aW):Prop:=iP o.aV∧tP o.aX∧tP o.aB∧tP o.aJ∧tP o.aN∧iP o.bF
theorem yS:jD jL qV uJ:=lS (gH oM (gH pF (gH pF (gH pF (gH pF oM))))) (fun p=>aW.mk p.1 p.2.1 p.2.2.1 p.2.2.2.1 p.2.2.2.2.1 p.2.2.2.2.2) (fun o=>(o.aV,o.aX,o.aB,o.aJ,o.aN,o.bF)) (fun _=>rfl) (fun _=>rfl) (fun _=>by simp only [jL,aF,cp])
def qj (q:bu):List UInt8:=dB q.aX++dB q.aB
def wy (q:bu):Prop:=tP q.aX∧tP q.aB
theorem yT:jD jv qj wy:=lS (gH pF pF) (fun p=>bu.mk p.1 p.2) (fun x=>(x.aX,x.aB)) (fun _=>rfl) (fun _=>rfl) (fun _=>by simp only [jv,aF,cp])
def lB {α:Type} (wr:α→List UInt8) (l:List α):List UInt8:=bq (List.length l)++List.flatMap wr l
def lP {α:Type} (P:α→Prop) (l:List α):Prop:=List.length l≤255∧∀ x ∈ l,P x
theorem xN (p1:Int):∀ (n:Nat) (l:List aW) (k:Nat) (b:List UInt8) (e:Int),dX p1 n l k b e=tG jL p1 n l k b e
  | 0,_,_,_,_=>rfl
  | n+1,l,k,b,e=>by unfold dX tG; simp only [xN p1 n]
theorem xO (p1:Int):∀ (n:Nat) (l:List Int) (k:Nat) (b:List UInt8) (e:Int),fG p1 n l k b e=tG dA p1 n l k b e
  | 0,_,_,_,_=>rfl
  | n+1,l,k,b,e=>by unfold fG tG; simp only [xO p1 n]
theorem xP (p1:Int):∀ (n:Nat) (l:List bu) (k:Nat) (b:List UInt8) (e:Int),dJ p1 n l k b e=tG jv p1 n l k b e
  | 0,_,_,_,_=>rfl
  | n+1,l,k,b,e=>by unfold dJ tG; simp only [xP p1 n]
theorem xQ (p1:Int):∀ (n:Nat) (l:List bX) (k:Nat) (b:List UInt8) (e:Int),dz p1 n l k b e=tG iT p1 n l k b e
  | 0,_,_,_,_=>rfl
  | n+1,l,k,b,e=>by unfold dz tG; simp only [xQ p1 n]
theorem xR (p1:Int):∀ (n:Nat) (l:List aH) (k:Nat) (b:List UInt8) (e:Int),dD p1 n l k b e=tG ji p1 n l k b e
  | 0,_,_,_,_=>rfl
  | n+1,l,k,b,e=>by unfold dD tG; simp only [xR p1 n]
theorem wz (p1:Int):∀ (n:Nat) (l:List fK) (k:Nat) (b:List UInt8) (e:Int),dK p1 n l k b e=tG iU p1 n l k b e
  | 0,_,_,_,_=>rfl
  | n+1,l,k,b,e=>by unfold dK tG; simp only [wz p1 n]
theorem wB (p1:Int):∀ (n:Nat) (l:List Nat) (k:Nat) (b:List UInt8) (e:Int),dY p1 n l k b e=tG aU p1 n l k b e
  | 0,_,_,_,_=>rfl
  | n+1,l,k,b,e=>by unfold dY tG; simp only [wB p1 n]
theorem wC (p1:Int):∀ (n:Nat) (l:List bO) (k:Nat) (b:List UInt8) (e:Int),cB p1 n l k b e=tG gK p1 n l k b e
  | 0,_,_,_,_=>rfl
  | n+1,l,k,b,e=>by unfold cB tG; simp only [wC p1 n]
theorem wD (p1:Int):∀ (n:Nat) (l:List eD) (k:Nat) (b:List UInt8) (e:Int),dL p1 n l k b e=tG iE p1 n l k b e
  | 0,_,_,_,_=>rfl
  | n+1,l,k,b,e=>by unfold dL tG; simp only [wD p1 n]
theorem yl:jD (fun r=>jk r 255) (lB qV) (lP uJ):=cL yS fun r=>by unfold jk jy; simp only [xN]; rfl
theorem ym:jD (fun r=>jI r 255) (lB iB) (lP iP):=cL oM fun r=>by unfold jI jQ; simp only [xO]; rfl
theorem yn:jD (fun r=>iM r 255) (lB qj) (lP wy):=cL yT fun r=>by unfold iM jl; simp only [xP]; rfl
theorem wE:jD (fun r=>fJ r 255) (lB pI) (lP tT):=cL yR fun r=>by unfold fJ ja; simp only [xR]; rfl
theorem yu:jD (fun r=>gG r 255) (lB bq) (lP nP):=cL ky fun r=>by unfold gG iV; simp only [wB]; rfl
def ql (x:fK):List UInt8:=bq x.aS++lB qV x.aL.ls
def tV (x:fK):Prop:=nP x.aS∧lP uJ x.aL.ls
theorem yU:jD iU ql tV:=lS (gH ky yl) (fun p=>fK.mk p.1 (Ll.mk p.2)) (fun x=>(x.aS,x.aL.ls)) (fun _=>rfl) (fun _=>rfl) (fun _=>by simp only [iU,aF,cp])
theorem yw:jD (fun r=>fU r 255) (lB ql) (lP tV):=cL yU fun r=>by unfold fU iF; simp only [wz]; rfl
def qm (x:bO):List UInt8:=bq x.aS++(iB x.aC++(bq x.au++(bq x.bB++lB iB x.af.ls)))
def uK (x:bO):Prop:=nP x.aS∧iP x.aC∧nP x.au∧nP x.bB∧lP iP x.af.ls
theorem yV:jD gK qm uK:=lS (gH ky (gH oM (gH ky (gH ky ym)))) (fun p=>bO.mk p.1 p.2.1 p.2.2.1 p.2.2.2.1 (Ll.mk p.2.2.2.2)) (fun x=>(x.aS,x.aC,x.au,x.bB,x.af.ls)) (fun _=>rfl) (fun _=>rfl) (fun _=>by simp only [gK,aF,cp])
theorem yx:jD (fun r=>eQ r 255) (lB qm) (lP uK):=cL yV fun r=>by unfold eQ gV; simp only [wC]; rfl
def qo (x:bX):List UInt8:=pG x.dm++(dB x.aB++lB qj x.ax.ls)
def uL (x:bX):Prop:=True∧tP x.aB∧lP wy x.ax.ls
theorem yX:jD iT qo uL:=lS (gH yQ (gH pF yn)) (fun p=>bX.mk p.1 p.2.1 (Ll.mk p.2.2)) (fun x=>(x.dm,x.aB,x.ax.ls)) (fun _=>rfl) (fun _=>rfl) (fun _=>by simp only [iT,aF,cp,qO])
theorem yz:jD (fun r=>il r 255) (lB qo) (lP uL):=cL yX fun r=>by unfold il iQ; simp only [xQ]; rfl
def qp (x:eD):List UInt8:=iB x.aC++(bq x.au++(bq x.bB++lB qo x.ah.ls))
def uM (x:eD):Prop:=iP x.aC∧nP x.au∧nP x.bB∧lP uL x.ah.ls
theorem yY:jD iE qp uM:=lS (gH oM (gH ky (gH ky yz))) (fun p=>eD.mk p.1 p.2.1 p.2.2.1 (Ll.mk p.2.2.2)) (fun x=>(x.aC,x.au,x.bB,x.ah.ls)) (fun _=>rfl) (fun _=>rfl) (fun _=>by simp only [iE,aF,cp])
theorem yA:jD (fun r=>fV r 255) (lB qp) (lP uM):=cL yY fun r=>by unfold fV iG; simp only [wD]; rfl
def uN (x:eU):List UInt8:=bq x.bg++(bq x.bv++(bq x.cz++sj x.aO))
def xS (x:eU):Prop:=nP x.bg∧nP x.bv∧nP x.cz∧uI x.aO
theorem yZ:jD gJ uN xS:=lS (gH ky (gH ky (gH ky xM))) (fun p=>eU.mk p.1 p.2.1 p.2.2.1 p.2.2.2) (fun x=>(x.bg,x.bv,x.cz,x.aO)) (fun _=>rfl) (fun _=>rfl) (fun _=>by simp only [gJ,aF,cp])
def ma (p:bP):List UInt8:=iB p.iw++(bq p.au++(bq p.aY++(bq p.aK++(bq p.bg++(lB pI p.ag.ls++(lB ql p.aD.ls++(lB bq p.aj.ls++(bq p.gU++(bq p.cu++(sj p.aZ++uN p.aT))))))))))
def wF (p:bP):Prop:=iP p.iw∧nP p.au∧nP p.aY∧nP p.aK∧nP p.bg∧lP tT p.ag.ls∧lP tV p.aD.ls∧lP nP p.aj.ls∧nP p.gU∧nP p.cu∧uI p.aZ∧xS p.aT
def rdSh (r:ReaderT):bP × ReaderT:=
  bnd (dA r) fun d=>bnd (aU d.2) fun e=>bnd (aU e.2) fun f=>bnd (aU f.2) fun g=>bnd (aU g.2) fun h=>bnd (fJ h.2 255) fun i=>bnd (fU i.2 255) fun j=>bnd (gG j.2 255) fun k=>bnd (aU k.2) fun l=>bnd (aU l.2) fun a=>bnd (ic a.2) fun b=>bnd (gJ b.2) fun c=>
    (bP.mk d.1 e.1 f.1 g.1 h.1 (Ll.mk i.1) (Ll.mk j.1) (Ll.mk k.1) l.1 a.1 b.1 c.1,c.2)
theorem xU:jD rdSh ma wF:=lS (gH oM (gH ky (gH ky (gH ky (gH ky (gH wE (gH yw (gH yu (gH ky (gH ky (gH xM yZ)))))))))))
  (fun p=>bP.mk p.1 p.2.1 p.2.2.1 p.2.2.2.1 p.2.2.2.2.1 (Ll.mk p.2.2.2.2.2.1) (Ll.mk p.2.2.2.2.2.2.1) (Ll.mk p.2.2.2.2.2.2.2.1) p.2.2.2.2.2.2.2.2.1 p.2.2.2.2.2.2.2.2.2.1 p.2.2.2.2.2.2.2.2.2.2.1 p.2.2.2.2.2.2.2.2.2.2.2)
  (fun p=>(p.iw,p.au,p.aY,p.aK,p.bg,p.ag.ls,p.aD.ls,p.aj.ls,p.gU,p.cu,p.aZ,p.aT)) (fun _=>rfl) (fun _=>rfl) (fun _=>by simp only [rdSh,aF,cp])
def mO (p:bK):List UInt8:=iB p.af++(bq p.au++(bq p.aY++(bq p.aK++(lB pI p.ag.ls++(lB qm p.ai.ls++lB qp p.aG.ls)))))
def wG (p:bK):Prop:=iP p.af∧nP p.au∧nP p.aY∧nP p.aK∧lP tT p.ag.ls∧lP uK p.ai.ls∧lP uM p.aG.ls
def nU (r:ReaderT):bK × ReaderT:=
  bnd (dA r) fun a=>bnd (aU a.2) fun b=>bnd (aU b.2) fun c=>bnd (aU c.2) fun d=>bnd (fJ d.2 255) fun e=>bnd (eQ e.2 255) fun f=>bnd (fV f.2 255) fun g=>
    (bK.mk a.1 b.1 c.1 d.1 (Ll.mk e.1) (Ll.mk f.1) (Ll.mk g.1),g.2)
theorem wH:jD nU mO wG:=lS (gH oM (gH ky (gH ky (gH ky (gH wE (gH yx yA))))))
  (fun p=>bK.mk p.1 p.2.1 p.2.2.1 p.2.2.2.1 (Ll.mk p.2.2.2.2.1) (Ll.mk p.2.2.2.2.2.1) (Ll.mk p.2.2.2.2.2.2))
  (fun p=>(p.af,p.au,p.aY,p.aK,p.ag.ls,p.ai.ls,p.aG.ls)) (fun _=>rfl) (fun _=>rfl) (fun _=>by simp only [nU,aF,cp])
theorem w_num (l:List UInt8) (n:Nat):aA (aQ.mk (Ll.mk l)) n=aQ.mk (Ll.mk (l++bq n)):=rfl
theorem mP (l s:List UInt8):bD (aQ.mk (Ll.mk l)) s=aQ.mk (Ll.mk (l++dB s)):=rfl
theorem su (l:List UInt8) (x:aH):iy (aQ.mk (Ll.mk l)) x=aQ.mk (Ll.mk (l++pI x)):=by
  unfold iy pI iB; simp only [aF,w_num,mP,List.append_assoc]
theorem yB (l:List UInt8) (x:aW):jP (aQ.mk (Ll.mk l)) x=aQ.mk (Ll.mk (l++qV x)):=by
  unfold jP qV iB; simp only [aF,w_num,mP,List.append_assoc]
theorem tX (l:List UInt8) (x:bu):iJ (aQ.mk (Ll.mk l)) x=aQ.mk (Ll.mk (l++qj x)):=by
  unfold iJ qj; simp only [aF,w_num,mP,List.append_assoc]
theorem uO:∀ (q:List bu) (l:List UInt8),ek q l=l++List.flatMap qj q
  | [],l=>(List.append_nil l).symm
  | x::q,l=>by simp only [ek,aF,tX,uO q,List.flatMap_cons,List.append_assoc]
theorem uP:∀ (q:List bu) (l:List UInt8),eu q l=l++List.flatMap qj q
  | [],l=>(List.append_nil l).symm
  | x::q,l=>by simp only [eu,aF,tX,uP q,List.flatMap_cons,List.append_assoc]
theorem uz (l:List UInt8) (x:bX):jr (aQ.mk (Ll.mk l)) x=aQ.mk (Ll.mk (l++qo x)):=by
  unfold jr qo pG lB
  by_cases h:x.dm=true
  · simp only [if_pos h,aF,w_num,mP,uO,List.append_assoc]
  · simp only [if_neg h,aF,w_num,mP,uP,List.append_assoc]
theorem uQ:∀ (q:List aW) (l:List UInt8),fe q l=l++List.flatMap qV q
  | [],l=>(List.append_nil l).symm
  | x::q,l=>by simp only [fe,aF,yB,uQ q,List.flatMap_cons,List.append_assoc]
theorem wJ (l:List UInt8) (x:fK):jE (aQ.mk (Ll.mk l)) x=aQ.mk (Ll.mk (l++ql x)):=by
  unfold jE ql lB; simp only [aF,w_num,uQ,List.append_assoc]
theorem uR:∀ (q:List Int) (l:List UInt8),dQ q l=l++List.flatMap iB q
  | [],l=>(List.append_nil l).symm
  | x::q,l=>by simp only [dQ,aF,w_num,uR q,List.flatMap_cons,iB,List.append_assoc]
theorem sQ (l:List UInt8) (x:bO):iZ (aQ.mk (Ll.mk l)) x=aQ.mk (Ll.mk (l++qm x)):=by
  unfold iZ qm lB; simp only [aF,w_num,uR,iB,List.append_assoc]
theorem uS:∀ (q:List bX) (l:List UInt8),fo q l=l++List.flatMap qo q
  | [],l=>(List.append_nil l).symm
  | x::q,l=>by simp only [fo,aF,uz,uS q,List.flatMap_cons,List.append_assoc]
theorem wK (l:List UInt8) (x:eD):jG (aQ.mk (Ll.mk l)) x=aQ.mk (Ll.mk (l++qp x)):=by
  unfold jG qp lB; simp only [aF,w_num,uS,iB,List.append_assoc]
theorem uT (p:bP):∀ (q:List aH) (l:List UInt8),fq p q l=l++List.flatMap pI q
  | [],l=>(List.append_nil l).symm
  | x::q,l=>by simp only [fq,aF,su,uT p q,List.flatMap_cons,List.append_assoc]
theorem uU (p:bP):∀ (q:List fK) (l:List UInt8),fu p q l=l++List.flatMap ql q
  | [],l=>(List.append_nil l).symm
  | x::q,l=>by simp only [fu,aF,wJ,uU p q,List.flatMap_cons,List.append_assoc]
theorem uV (p:bP):∀ (q:List Nat) (l:List UInt8),fA p q l=l++List.flatMap bq q
  | [],l=>(List.append_nil l).symm
  | x::q,l=>by simp only [fA,aF,w_num,uV p q,List.flatMap_cons,List.append_assoc]
theorem uW (p:bK):∀ (q:List aH) (l:List UInt8),fB p q l=l++List.flatMap pI q
  | [],l=>(List.append_nil l).symm
  | x::q,l=>by simp only [fB,aF,su,uW p q,List.flatMap_cons,List.append_assoc]
theorem uX (p:bK):∀ (q:List bO) (l:List UInt8),fC p q l=l++List.flatMap qm q
  | [],l=>(List.append_nil l).symm
  | x::q,l=>by simp only [fC,aF,sQ,uX p q,List.flatMap_cons,List.append_assoc]
theorem uY:∀ (q:List eD) (l:List UInt8),fD q l=l++List.flatMap qp q
  | [],l=>(List.append_nil l).symm
  | x::q,l=>by simp only [fD,aF,wK,uY q,List.flatMap_cons,List.append_assoc]
theorem sS (p:bP):gm p=if bG p=0 then([83]++ma p,0) else([],bG p):=by
  unfold gm
  rw [aF]
  split
  · simp only [aF,w_num,mP,uT,uU,uV,ma,lB,sj,uN,iB,List.append_assoc]
  · rfl
theorem sU (p:bK):gp p=if bH p=0 then([67]++mO p,0) else([],bH p):=by
  unfold gp
  rw [aF]
  split
  · simp only [aF,w_num,mP,uW,uX,uY,mO,lB,iB,List.append_assoc]
  · rfl
def ZS:bP:=bP.mk 0 0 0 0 0 (Ll.mk ([])) (Ll.mk ([])) (Ll.mk ([])) 0 0 (bI.mk ([]) ([])) (eU.mk 0 0 0 (bI.mk ([]) ([])))
def ZC:bK:=bK.mk 0 0 0 0 (Ll.mk ([])) (Ll.mk ([])) (Ll.mk ([]))
def qw (x:bP × ReaderT):bP × Int:=if(eG x.2).av=0 then(if bG x.1=0 then(x.1,0) else(ZS,bG x.1)) else(ZS,(eG x.2).av)
def nY (x:bK × ReaderT):bK × Int:=if(eG x.2).av=0 then(if bH x.1=0 then(x.1,0) else(ZC,bH x.1)) else(ZC,(eG x.2).av)
theorem vG {α:Type} (a:α) (f:α→bP × ReaderT):qw (bnd a f)=bnd a (fun y=>qw (f y)):=rfl
theorem vH {α:Type} (a:α) (f:α→bK × ReaderT):nY (bnd a f)=bnd a (fun y=>nY (f y)):=rfl
theorem wL (a:bP) (b:ReaderT):qw (a,b)=bnd (eG b) fun e=>bnd (iR e) fun z=>if z=0 then(bnd (bG a) fun c=>if c=0 then(a,0) else(ZS,c)) else(ZS,z):=rfl
theorem wM (a:bK) (b:ReaderT):nY (a,b)=bnd (eG b) fun e=>bnd (iR e) fun z=>if z=0 then(bnd (bH a) fun c=>if c=0 then(a,0) else(ZC,c)) else(ZC,z):=rfl
theorem sV (l:List UInt8):bL l=qw (rdSh (dG l 83)):=by
  unfold bL rdSh
  rw [aF (dG l 83)]
  simp only [vG,wL,ZS]
theorem rq (l:List UInt8):bE l=nY (nU (dG l 67)):=by
  unfold bE nU
  rw [aF (dG l 67)]
  simp only [vH,wM,ZC]
theorem wN {r:ReaderT} (h:(eG r).av=0):r.av=0∧r.aa.ls= []:=by
  unfold eG at h
  by_cases c:((List.length r.aa.ls:Nat):Int) > 0
  · rw [if_pos c,aF] at h
    exact absurd h (oZ (by decide))
  · rw [if_neg c] at h
    exact⟨h,List.eq_nil_of_length_eq_zero (by omega)⟩
theorem uA (m:UInt8) (t:List UInt8) (hl:List.length t < 8192):dG ([m]++t) m=Rr t 0:=by
  unfold dG
  rw [aF,if_neg (by simp only [List.length_append,List.length_cons,List.length_nil]; omega)]
  show bnd (dZ (Rr ([m]++t) 0)) _=_
  rw [fO,aF]
  exact if_pos rfl
theorem wO (c m:UInt8) (t:List UInt8) (hl:List.length t < 8192) (hc: ¬ c=m):dG ([c]++t) m=Rr [] 11:=by
  unfold dG
  rw [aF,if_neg (by simp only [List.length_append,List.length_cons,List.length_nil]; omega)]
  show bnd (dZ (Rr ([c]++t) 0)) _=_
  rw [fO,aF]
  refine(if_neg ?_).trans ?_
  · intro h
    have h':c.toNat=m.toNat:=by
      have:((c.toNat:Nat):Int)=((m.toNat:Nat):Int):=h
      omega
    exact hc (UInt8.toNat_inj.1 h')
  · exact sN 11
theorem yC (m:UInt8) (hm: ¬ m=0):dG [] m=Rr [] 10:=by
  unfold dG
  rw [aF,if_neg (by decide)]
  show bnd (dZ (Rr [] 0)) _=_
  have:dZ (Rr [] 0)=(0,Rr [] 10):=rfl
  rw [this,aF]
  refine(if_neg ?_).trans ?_
  · intro h
    have h':(0:UInt8).toNat=m.toNat:=by
      have:(((0:UInt8).toNat:Nat):Int)=((m.toNat:Nat):Int):=h
      omega
    exact hm (UInt8.toNat_inj.1 h').symm
  · exact sO (by decide) 11
theorem wP {l:List UInt8} {m:UInt8} (hm: ¬ m=0) (h:(dG l m).av=0):l= [m]++(dG l m).aa.ls∧List.length l≤8192:=by
  by_cases hl:((List.length l:Nat):Int) > 8192
  · exfalso
    unfold dG at h
    rw [aF,if_pos hl] at h
    have e:bC (mq l) 2=Rr [] 2:=rfl
    rw [e,aF] at h
    have e:dZ (Rr [] 2)=(0,Rr [] 2):=rfl
    rw [e,aF] at h
    split at h
    · exact absurd h (by decide)
    · rw [aF] at h; exact absurd h (oZ (by decide))
  · match l,h,hl with
    | [],h,_=>rw [yC m hm] at h; exact absurd h (by decide)
    | c::t,h,hl=>
      simp only [List.length_cons] at hl
      by_cases hc:c=m
      · subst hc
        have:=uA c t (by omega)
        refine⟨?_,by simp only [List.length_cons]; omega⟩
        show c::t= [c]++(dG ([c]++t) c).aa.ls
        rw [this]; rfl
      · have:=wO c m t (by omega) hc
        have h':(dG ([c]++t) m).av=0:=h
        rw [this] at h'
        exact absurd h' (by decide)
theorem xB (p:bK) {e:Int} (h: ¬ e=0):nY (p,Rr [] e)=(ZC,e):=by unfold nY; exact if_neg h
theorem xC {x:bK × ReaderT} {e:Int} (h: ¬ e=0) (hx:x.2=Rr [] e):(nY x).2=e:=by
  obtain⟨a,b⟩:=x
  have hb:b=Rr [] e:=hx
  subst hb
  rw [xB a h]
theorem wQ (p:bP) (h:wF p) (hc:bG p=0) (hl:List.length (ma p) < 8192):bL ([83]++ma p)=(p,0):=by
  rw [sV,uA 83 _ hl]
  have:=xU.f p [] h
  rw [List.append_nil] at this
  rw [this]
  unfold qw
  show (if(0:Int)=0 then _ else _)=_
  rw [if_pos rfl,if_pos hc]
theorem wR (p:bK) (h:wG p) (hc:bH p=0) (hl:List.length (mO p) < 8192):bE ([67]++mO p)=(p,0):=by
  rw [rq,uA 67 _ hl]
  have:=wH.f p [] h
  rw [List.append_nil] at this
  rw [this]
  unfold nY
  show (if(0:Int)=0 then _ else _)=_
  rw [if_pos rfl,if_pos hc]
theorem yD {l:List UInt8} (h:(bL l).2=0):bG (bL l).1=0∧l= [83]++ma (bL l).1∧List.length l≤8192:=by
  rw [sV] at h ⊢
  unfold qw at h ⊢
  by_cases e:(eG (rdSh (dG l 83)).2).av=0
  · rw [if_pos e] at h ⊢
    by_cases c:bG (rdSh (dG l 83)).1=0
    · rw [if_pos c] at h ⊢
      obtain⟨d,f⟩:=wN e
      obtain⟨i,a⟩:=xU.g _ d
      obtain⟨b,j⟩:=wP (by decide) i
      refine⟨c, ?_,j⟩
      rw [f,List.append_nil] at a
      rw [a] at b
      exact b
    · rw [if_neg c] at h; exact absurd h c
  · rw [if_neg e] at h; dsimp only at h; exact absurd h e
theorem yE {l:List UInt8} (h:(bE l).2=0):bH (bE l).1=0∧l= [67]++mO (bE l).1∧List.length l≤8192:=by
  rw [rq] at h ⊢
  unfold nY at h ⊢
  by_cases e:(eG (nU (dG l 67)).2).av=0
  · rw [if_pos e] at h ⊢
    by_cases c:bH (nU (dG l 67)).1=0
    · rw [if_pos c] at h ⊢
      obtain⟨d,f⟩:=wN e
      obtain⟨i,a⟩:=wH.g _ d
      obtain⟨b,j⟩:=wP (by decide) i
      refine⟨c, ?_,j⟩
      rw [f,List.append_nil] at a
      rw [a] at b
      exact b
    · rw [if_neg c] at h; exact absurd h c
  · rw [if_neg e] at h; dsimp only at h; exact absurd h e
theorem wS (t:List UInt8) (hl:List.length t < 8192):(bE ([83]++t)).2=11:=by
  rw [rq,wO 83 67 t hl (by decide)]
  exact xC (by decide) (wH.d 11 (by decide))
end Go.Proofs.YtcnkpjheifkgnaaGreat
