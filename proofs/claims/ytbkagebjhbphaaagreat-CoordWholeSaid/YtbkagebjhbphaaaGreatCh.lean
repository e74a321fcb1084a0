/-
 coord: a vote.
-/
import Derived.Test.YtbkagebjhbphaaaGreatCc
import Derived.Test.YtbkagebjhbphaaaGreatCg
namespace Go.Proofs.YtbkagebjhbphaaaGreat
open Int renaming toNat→C6
open List renaming flatMap→q4,getD→B8,length→s0,length_append→o2,length_cons→s1,length_drop→o1,length_map→s3,length_nil→E7,length_replicate→H0,length_set→G4,length_take→o0,map→s5,mem_flatMap→Q6,mem_of_getElem?→D1,set→I3
open Ll renaming mk→E0
open Sum renaming inl→B7
open Sv renaming mk→G3
open _root_.Go.Proofs.Tryz renaming isAgg104→Q9,isAgg3→C2,prog→v5
set_option maxRecDepth 100000
open Go.RowKit
set_option linter.unusedVariables false
set_option linter.unusedSectionVars false
set_option linter.unusedSimpArgs false
def eH (a:bW):List fu→Nat→Unit ⊕ Int
  | [],b=>B7 ()
  | c::d,b=>if c.bE=a.aI then Sum.inr ((b:Nat):Int) else eH a d (b+1)
def ic (l0:List fu) (a:bW):Int:=
 lp (eH a l0 0) fun _=>(-1)
theorem nZ (w D E W X U l0 m) (a:bW) (d f g h n j l V) (H:Own w D w [blk m (gK a d f g h j l) 42]) (G:s5 bO.abs U=l0) (C:Ro w D fun w'=>aY w' 3 E W (q4 bO.cells U)) (I:∀ x ∈ U,Ro w D (fun w'=>aY w' 6 x.aB.A x.aB.ls.length (q4 aN.cells x.aB.ls))∧(x.aB.ls.length≤x.aB.c∧x.aB.ls.length≤9223372036854775807)∧Ro w D (fun w'=>aY w' 1 x.aI.A x.aI.ls.length (q4 (eI .i64) x.aI.ls))∧(x.aI.ls.length≤x.aI.c∧x.aI.ls.length≤9223372036854775807)) (Y:W=l0.length) (az:l0.length≤9223372036854775807) (J:Ro w D fun w'=>aY w' 6 d a.aB.ls.length (q4 aN.cells a.aB.ls)) (K:a.aB.ls.length≤f∧a.aB.ls.length≤9223372036854775807) (r:s5 af.abs n=a.ah.ls) (L:Ro w D fun w'=>aY w' 3 g a.ah.ls.length (q4 af.cells n)) (M:a.ah.ls.length≤h∧a.ah.ls.length≤9223372036854775807) (N:∀ x ∈ n,Ro w D (fun w'=>aY w' 2 x.aj.A x.aj.ls.length (q4 aH.cells x.aj.ls))∧(x.aj.ls.length≤x.aj.c∧x.aj.ls.length≤9223372036854775807)) (O:Ro w D fun w'=>aY w' 2 j a.ag.ls.length (q4 aM.cells a.ag.ls)) (P:a.ag.ls.length≤l∧a.ag.ls.length≤9223372036854775807) (hr:ic l0 a=V):
    Calls v5 91 #[.slice E W X, .func (.func 92) #[] #[vP m 0]] w (dA fun v w'=>v=vI V∧Own w D w' [blk m (gK a d f g h j l) 42]∧(-1≤V∧V < ((l0.length:Nat):Int))):=by
 subst Y
 have au:=aA G
 have F:=aA r
 refine cb Tryz.func91 ?_
 refine sr (An rfl (Ik (sr (Mz rfl (Kz (vJ l0.length) (Mn rfl (bo ?_)))))))
 have Z:=H.pf []
 obtain⟨aa,s⟩:=lF fun (b:Nat) w'=>Own w D w' [blk m (gK a d f g h j l) 42]∧b≤l0.length∧eH a l0 0=eH a (List.drop b l0) b
 refine Wp.loop (fun i:Nat=> [(4,vI 0),(8,vJ i),(7,vJ l0.length),(0, .slice E l0.length X),(1, .func (.func 92) #[] #[vP m 0])]) aa (fun i=>l0.length - i) 0 ⟨rfl,rfl,rfl,rfl,rfl,trivial⟩ (s.2 ⟨Z,e6,rfl⟩) ?_
 rintro b aB Q
 obtain⟨t,av,u⟩:=s.1 Q
 refine sr (Kz (.bool (decide (((b:Nat):Int) < ((l0.length:Nat):Int)))) (nt (Ik ?_)))
 by_cases R:((b:Nat):Int) < ((l0.length:Nat):Int)
 obtain⟨p,o⟩:=dh (ls:=U) (i:=b) bO.len f2 (t.ro C) e9
 have S:=eY G o
 have ax:=(I _ (D1 o)).2.1
 have ay:=(I _ (D1 o)).2.2.2
 have B:=drop_at S
 refine jT (dT R) (sk (Ik (bo (sr (Mz rfl (Ar rfl (Mz rfl (Mz rfl (Mz rfl (fw (.pointer (some ⟨ab E,ao E+b *3,none⟩)) (Iz (uR) rfl rfl ((t.ro C).addr (i:=b) e6) e6) (fw (.agg (bO.cells p).toArray) (IB rfl (IJ (cs:=(bO.cells p)) Tryz.isAgg172 Tryz.sizeOf172 ((t.ro C).elem bO.len o f2))) ?_)))))))))))
 refine WL.do rfl (IY Tryz.call92 rfl rfl ?_ (fun _ _ k=>k))
 refine cb Tryz.func92 ?_
 refine sr ?_
 refine dn (bO.cells p) 172 t ?_
 intro ae aC y
 refine Ar rfl (Kz (vP ae 0) (Lz (vI p.bE) y 0 C2 (Kz (vP m 1) (Lz (vI a.aI) y 1 C2 (Kz (.bool (decide (p.bE=a.aI))) (An rfl (rt (rs (nt ?_)))))))))
 by_cases z:p.bE=a.aI
 refine jT (dT z) (Ik ?_)
 have ag:=y.pk [1]
 refine Il (Mz rfl (An rfl (rt (bR (tR (tR (bR (tR (rs ?_)))))))))
 have ah:=ag.pf []
 obtain rfl:_=((b:Nat):Int):=hr.symm.trans (gL (et (u) (et (congrArg (fun q=>eH a q b) B) (ip z))))
 exact⟨rfl,ah,e6⟩
 refine jF (dF z) (IU (bN (Iq ?_)))
 have ai:=y.pk [1]
 refine Il (fw (vJ (b+1)) (Ir (e:=IntKind.i64.wrap (((b:Nat):Int)+1)) yk f0) (Mz rfl (WL.nil ?_)))
 have aj:=ai.pf []
 exact II (b+1) ⟨rfl,rfl,rfl,rfl,rfl,trivial⟩ (s.2 ⟨aj,e6,et (u) (et (congrArg (fun q=>eH a q b) B) (iN z))⟩) (by show l0.length - (b+1) < l0.length - b; omega)
 refine jF (dF R) (Wp.exit (IC ?_))
 have T:eH a l0 0=B7 ():=et (u) (et (congrArg (fun q=>eH a q b) (dZ (ls:=l0) (i:=b) e6)) rfl)
 refine IC (IK (Iq (sr (An rfl (rt (rs ?_))))))
 have ak:=t.pf []
 obtain rfl:_=(-1):=hr.symm.trans (mF T)
 exact⟨rfl,ak,e6⟩
def il (d:Bool):List Bool→Nat→Unit ⊕ Int
  | [],a=>B7 ()
  | b::c,a=>if d=b then Sum.inr ((a:Nat):Int) else il d c (a+1)
def nI (l0:List Bool) (a:Bool):Int:=
 lp (il a l0 0) fun _=>(-1)
theorem sM (w D n t u l0 b s) (H:Own w D w []) (m:Ro w D fun w'=>aY w' 1 n t (q4 eL l0)) (x:t=l0.length) (F:l0.length≤9223372036854775807) (hr:nI l0 b=s):
    Calls v5 128 #[.slice n t u, .bool b] w (dA fun v w'=>v=vI s∧Own w D w' []∧(-1≤s∧s < ((l0.length:Nat):Int))):=by
 subst x
 refine cb Tryz.func128 ?_
 refine sr (An rfl (Ik (sr (Mz rfl (Kz (vJ l0.length) (Mn rfl (bo ?_)))))))
 have y:=H.pk []
 obtain⟨z,d⟩:=lF fun (a:Nat) w'=>Own w D w' []∧a≤l0.length∧il b l0 0=il b (List.drop a l0) a
 refine Wp.loop (fun i:Nat=> [(4,vI 0),(8,vJ i),(7,vJ l0.length),(0, .slice n l0.length u),(1, .bool b)]) z (fun i=>l0.length - i) 0 ⟨rfl,rfl,rfl,rfl,rfl,trivial⟩ (d.2 ⟨y,e6,rfl⟩) ?_
 rintro a G o
 obtain⟨c,E,f⟩:=d.1 o
 refine sr (Kz (.bool (decide (((a:Nat):Int) < ((l0.length:Nat):Int)))) (nt (Ik ?_)))
 by_cases p:((a:Nat):Int) < ((l0.length:Nat):Int)
 obtain⟨g,j⟩:=dh (ls:=l0) (i:=a) pV f2 (c.ro m) e9
 have l:=drop_at j
 refine jT (decide_eq_true p) (sk (Ik (bo (sr (Mz rfl (Ar rfl (Mz rfl (Mz rfl (Mz rfl (fw (.pointer (some ⟨ab n,ao n+a *1,none⟩)) (Iz (zA) rfl rfl ((c.ro m).addr (i:=a) e6) e6) (fw (.bool g) (IB rfl (bJ.one Tryz.isAgg4 (((c.ro m).elem pV j f2).at_ (k:=0) rfl))) (fw (.bool (decide (b=g))) (IM (e:=(b==g)) yk (by first | exact Bool.beq_eq_decide_eq _ _ | (by_cases q:b=g <;> simp [q]))) (nt ?_)))))))))))))
 by_cases h:b=g
 refine jT (dT h) (sr (Mz rfl (An rfl (rt (bR (tR (tR (bR (tR (rs ?_))))))))))
 have A:=c.pk []
 obtain rfl:_=((a:Nat):Int):=hr.symm.trans (gL (et (f) (et (congrArg (fun q=>il b q a) l) (ip h))))
 exact⟨rfl,A,e6⟩
 refine jF (dF h) (IU (bN (Iq (Il (fw (vJ (a+1)) (Ir (e:=IntKind.i64.wrap (((a:Nat):Int)+1)) yk f0) (Mz rfl (WL.nil ?_)))))))
 have B:=c.pk []
 exact II (a+1) ⟨rfl,rfl,rfl,rfl,rfl,trivial⟩ (d.2 ⟨B,e6,et (f) (et (congrArg (fun q=>il b q a) l) (iN h))⟩) (by show l0.length - (a+1) < l0.length - a; omega)
 refine jF (dF p) (Wp.exit (IC ?_))
 have r:il b l0 0=B7 ():=et (f) (et (congrArg (fun q=>il b q a) (dZ (ls:=l0) (i:=a) e6)) rfl)
 refine IC (IK (Iq (sr (An rfl (rt (rs ?_))))))
 have C:=c.pk []
 obtain rfl:_=(-1):=hr.symm.trans (mF r)
 exact⟨rfl,C,e6⟩
def mI (l0:List Bool) (b:Bool):Bool:=
 bnd (nI l0 b) fun a=>decide (a ≥ 0)
theorem rq (w D i j o l0 h p) (H:Own w D w []) (k:Ro w D fun w'=>aY w' 1 i j (q4 eL l0)) (l:j=l0.length) (s:l0.length≤9223372036854775807) (hr:mI l0 h=p):
    Calls v5 93 #[.slice i j o, .bool h] w (dA fun v w'=>v= .bool p∧Own w D w' []):=by
 subst l
 refine cb Tryz.func93 ?_
 refine sr (Ar rfl (Mz rfl (Mz rfl ?_)))
 obtain⟨a,b⟩:∃ q,nI l0 h=q:=⟨_,rfl⟩
 obtain⟨t,d,e,f,r⟩:=Iu H
 refine cl Tryz.call128 (sM _ _ i l0.length o l0 h a d (e _ k) rfl e6 b) ?_
 rintro _ u ⟨rfl,g,c⟩
 have m:=f _ _ g
 replace c: -1≤a∧a < ((l0.length:Nat):Int):=c
 refine Kz (.bool (decide (a ≥ 0))) (An rfl (rt (rs ?_)))
 have n:=m.pk []
 obtain rfl:_=decide (a ≥ 0):=hr.symm.trans (ae b)
 exact⟨rfl,n⟩
def lq (i:bU) (k:bW) (a:aD):bU × aD:=
 bnd (dN a.aC.ls k.aX) fun g=>if g.2=true then bnd (B8 a.aC.ls (C6 g.1) default) fun e=>bnd (ic e.aO.ls k) fun f=>if f < 0 then(i,a) else bnd (B8 e.bL.ls (C6 f) default) fun l=>if l=true then(i,a) else if k.dK=3 then bnd (B8 e.aO.ls (C6 f) default) fun m=>if((k.ah.ls.length:Nat):Int)=((m.aB.ls.length:Nat):Int) then bnd (iT k.ah.ls) fun h=>bnd (mI (I3 e.bL.ls (C6 f) true) false) fun j=>if j=true then(i,aD.mk a.aa a.bT (E0 (I3 a.aC.ls (C6 g.1) (ed.mk e.bI e.bf e.bi e.fE (E0 e.cB.ls) (E0 e.aO.ls) (E0 (I3 e.bL.ls (C6 f) true)) (E0 (I3 e.ai.ls (C6 f) (E0 h))) e.iI))) a.bM a.bD a.bA a.bC a.bB a.dO a.dG a.dH a.dD a.dE) else bnd (lC i g.1 (aD.mk a.aa a.bT (E0 (I3 a.aC.ls (C6 g.1) (ed.mk e.bI e.bf e.bi e.fE (E0 e.cB.ls) (E0 e.aO.ls) (E0 (I3 e.bL.ls (C6 f) true)) (E0 (I3 e.ai.ls (C6 f) (E0 h))) e.iI))) a.bM a.bD a.bA a.bC a.bB a.dO a.dG a.dH a.dD a.dE)) fun b=>(b.1,aD.mk (bZ.mk b.2.aa.au b.2.aa.ax b.2.aa.bG b.2.aa.aF (E0 a.aa.ag.ls) (E0 b.2.aa.ak.ls) (E0 b.2.aa.aK.ls)) b.2.bT (E0 b.2.aC.ls) b.2.bM b.2.bD b.2.bA b.2.bC b.2.bB b.2.dO b.2.dG b.2.dH b.2.dD b.2.dE) else bnd (iy i g.1 a) fun c=>(c.1,aD.mk (bZ.mk c.2.aa.au c.2.aa.ax c.2.aa.bG c.2.aa.aF (E0 a.aa.ag.ls) (E0 a.aa.ak.ls) (E0 a.aa.aK.ls)) c.2.bT (E0 c.2.aC.ls) c.2.bM c.2.bD c.2.bA c.2.bC c.2.bB c.2.dO c.2.dG c.2.dH c.2.dD c.2.dE) else bnd (iy i g.1 a) fun d=>(d.1,aD.mk (bZ.mk d.2.aa.au d.2.aa.ax d.2.aa.bG d.2.aa.aF (E0 a.aa.ag.ls) (E0 a.aa.ak.ls) (E0 a.aa.aK.ls)) d.2.bT (E0 d.2.aC.ls) d.2.bM d.2.bD d.2.bA d.2.bC d.2.bB d.2.dO d.2.dG d.2.dH d.2.dD d.2.dE) else(i,a)
set_option maxHeartbeats 4000000 in
theorem wh (w D g0) (p0:bU) (ag ah aa) (W:bW) (cZ fJ bI bF fK bu bL df fM bM X) (b:aD) (aG aI r s z t u B d m l K L C M N E O P F Q R G S T I) (r0:bU) (r1:aD) (H:Own w D w (blk g0 [.pointer (some ⟨X,0,none⟩), .slice ag p0.bF.ls.length ah] 98::row ag p0.bF.ls.length ah (q4 bz.cells aa) 42 21::sepL (q4 bz.own aa)::mX X b aG b.aa.ag.ls.length aI r s z t u B d m l K L C M N E O P F Q R G S T I [])) (aK:s5 bz.abs aa=p0.bF.ls) (gD:fJ=W.aB.ls.length) (gF:Ro w D fun w'=>aY w' 6 cZ W.aB.ls.length (q4 aN.cells W.aB.ls)) (ng:W.aB.ls.length≤bI∧W.aB.ls.length≤9223372036854775807) (bX:s5 af.abs bL=W.ah.ls) (gG:fK=W.ah.ls.length) (dB:Ro w D fun w'=>aY w' 3 bF W.ah.ls.length (q4 af.cells bL)) (ni:W.ah.ls.length≤bu∧W.ah.ls.length≤9223372036854775807) (bG:∀ x ∈ bL,Ro w D (fun w'=>aY w' 2 x.aj.A x.aj.ls.length (q4 aH.cells x.aj.ls))∧(x.aj.ls.length≤x.aj.c∧x.aj.ls.length≤9223372036854775807)) (gH:fM=W.ag.ls.length) (gI:Ro w D fun w'=>aY w' 2 df W.ag.ls.length (q4 aM.cells W.ag.ls)) (nk:W.ag.ls.length≤bM∧W.ag.ls.length≤9223372036854775807) (ai:s5 ay.abs z=b.aa.ak.ls) (aj:s5 aS.abs B=b.aa.aK.ls) (U:s5 bK.abs l=b.aC.ls) (ak:s5 af.abs C=b.bM.ai.ls) (au:s5 af.abs E=b.bD.ai.ls) (av:s5 af.abs F=b.bA.ai.ls) (ax:s5 af.abs G=b.bC.ai.ls) (aB:s5 af.abs I=b.bB.ai.ls) (rF:b.aa.ag.ls.length≤1000∧b.aa.ak.ls.length≤1000∧b.aa.aK.ls.length≤1000∧b.aC.ls.length≤1000∧p0.bF.ls.length≤100000) (rG:Ak b.aC.ls) (rH:W.aB.ls.length≤24∧W.ag.ls.length≤1000∧W.ah.ls.length≤1000∧jR W.aU) (rJ:mV W.ah.ls) (hr:lq p0 W b=(r0,r1)):
    Calls v5 57 #[vP g0 0, .agg (iA W.av W.aI W.eO W.aP W.dK W.fA W.aU W.ax W.aX W.eQ W.bG W.aF W.eG W.cZ W.xN W.fe W.cu.aJ W.cu.aR cZ fJ bI bF fK bu df fM bM).toArray] w (dA fun v w'=> ∃ dC dD bY gJ gL dE gM gN dG gP gQ dH gT gU dI gV gW dJ gX gY dK gZ ib dL ig ik dM,v= .tuple #[]∧Own w D w' (blk g0 [vP X 0, .slice dC r0.bF.ls.length dD] 98::row dC r0.bF.ls.length dD (q4 bz.cells bY) 42 21::sepL (q4 bz.own bY)::mX X r1 aG b.aa.ag.ls.length aI gJ gL dE gM gN dG gP gQ dH gT gU dI gV gW dJ gX gY dK gZ ib dL ig ik dM [])∧(s5 bz.abs bY=r0.bF.ls)∧(s5 ay.abs dE=r1.aa.ak.ls)∧(s5 aS.abs dG=r1.aa.aK.ls)∧(s5 bK.abs dH=r1.aC.ls)∧(s5 af.abs dI=r1.bM.ai.ls)∧(s5 af.abs dJ=r1.bD.ai.ls)∧(s5 af.abs dK=r1.bA.ai.ls)∧(s5 af.abs dL=r1.bC.ai.ls)∧(s5 af.abs dM=r1.bB.ai.ls)):=by
 subst gD gG gH
 have mY:=aA aK
 have mZ:=aA bX
 have iV:=aA ai
 have iW:=aA aj
 have iX:=aA U
 have iY:=aA ak
 have iZ:=aA au
 have jb:=aA av
 have jc:=aA ax
 have jd:=aA aB
 have nu:=H.rowC (i:=1) rfl
 have je:=H.rowC (i:=4) rfl
 have jf:=H.rowC (i:=6) rfl
 have jg:=H.rowC (i:=8) rfl
 have jh:=H.rowC (i:=10) rfl
 have ji:=H.rowC (i:=12) rfl
 have jk:=H.rowC (i:=14) rfl
 have jm:=H.rowC (i:=16) rfl
 have jo:=H.rowC (i:=18) rfl
 refine cb Tryz.func57 ?_
 refine sr ?_
 refine dn (gK W cZ bI bF bu df bM) 42 H ?_
 intro dw rM ny
 refine nt (Ik ?_)
 refine Db [] (IE IQ) ny ?_
 intro rO bE
 refine qv 0 rfl rfl (qp g0 0 1 rfl (qp g0 0 2 rfl (ql 3 rfl 1 Tryz.isAgg24 rfl rfl rfl (qp dw 8 4 rfl (ql 5 rfl 0 Tryz.isAgg28 rfl rfl rfl ?_)))))
 refine GX.do 6 rfl e7 (IP Tryz.call62 rfl ?_ (fun _ _ k=>k))
 refine cb Tryz.func62 ?_
 refine sr (Az rfl (Ar rfl (Mz rfl (Kz (vP X 0) (Kz (vP X 8) (Lz (.slice d b.aC.ls.length m) bE 4 Tryz.isAgg79 (Mz rfl ?_)))))))
 obtain⟨⟨h,bN⟩,aV⟩:∃ q:Int × Bool,dN b.aC.ls W.aX=q:=⟨_,rfl⟩
 obtain⟨rP,jq,qh,jr,aQ⟩:=Iu bE
 refine cl Tryz.call102 (jN _ _ d b.aC.ls.length m l b.aC.ls W.aX h bN jq U (aQ _ 9 _ rfl aW) (fun x9 h9=>⟨aQ _ 10 _ rfl (az (Q6.2 ⟨x9,h9,b1⟩) aW),bq (φ:=fun _=>_) bE (i:=10) rfl (az (Q6.2 ⟨x9,h9,b1⟩) bn),aQ _ 10 _ rfl (az (Q6.2 ⟨x9,h9, .tail _ b1⟩) aW),bq (φ:=fun _=>_) bE (i:=10) rfl (az (Q6.2 ⟨x9,h9, .tail _ b1⟩) bn),(fun y1 k1=>⟨aQ _ 10 _ rfl (az (Q6.2 ⟨x9,h9, .tail _ b4⟩) (az (Q6.2 ⟨y1,k1,b1⟩) aW)),bq (φ:=fun _=>_) bE (i:=10) rfl (az (Q6.2 ⟨x9,h9, .tail _ b4⟩) (az (Q6.2 ⟨y1,k1,b1⟩) bn)),aQ _ 10 _ rfl (az (Q6.2 ⟨x9,h9, .tail _ b4⟩) (az (Q6.2 ⟨y1,k1, .tail _ b1⟩) aW)),bq (φ:=fun _=>_) bE (i:=10) rfl (az (Q6.2 ⟨x9,h9, .tail _ b4⟩) (az (Q6.2 ⟨y1,k1, .tail _ b1⟩) bn))⟩),aQ _ 10 _ rfl (az (Q6.2 ⟨x9,h9, .tail _ b2⟩) aW),bq (φ:=fun _=>_) bE (i:=10) rfl (az (Q6.2 ⟨x9,h9, .tail _ b2⟩) bn),aQ _ 10 _ rfl (az (Q6.2 ⟨x9,h9, .tail _ b3⟩) aW),bq (φ:=fun _=>_) bE (i:=10) rfl (az (Q6.2 ⟨x9,h9, .tail _ b3⟩) bn),(fun y1 k1=>⟨aQ _ 10 _ rfl (az (Q6.2 ⟨x9,h9, .tail _ b5⟩) (az (Q6.2 ⟨y1,k1,b1⟩) aW)),bq (φ:=fun _=>_) bE (i:=10) rfl (az (Q6.2 ⟨x9,h9, .tail _ b5⟩) (az (Q6.2 ⟨y1,k1,b1⟩) bn)),(fun y2 k2=>⟨aQ _ 10 _ rfl (az (Q6.2 ⟨x9,h9, .tail _ b5⟩) (az (Q6.2 ⟨y1,k1, .tail _ b1⟩) (az (Q6.2 ⟨y2,k2,b1⟩) aW))),bq (φ:=fun _=>_) bE (i:=10) rfl (az (Q6.2 ⟨x9,h9, .tail _ b5⟩) (az (Q6.2 ⟨y1,k1, .tail _ b1⟩) (az (Q6.2 ⟨y2,k2,b1⟩) bn)))⟩)⟩)⟩) rfl e6 aV) ?_
 rintro _ rQ ⟨rfl,jv,fO,fQ⟩
 have bv:=jr _ _ jv
 replace fO:0≤h∧h≤((b.aC.ls.length:Nat):Int):=fO
 replace fQ:Bool.toNat bN=0∨h < ((b.aC.ls.length:Nat):Int):=fQ
 refine Kz (vI h) (Kz (.bool bN) (Az rfl (An rfl (rt (Fin.res (lH rfl rfl rfl) ?_)))))
 refine⟨.inr ⟨_,bv⟩, ?_⟩
 refine qv 7 rfl rfl (qk (vI h) 8 rfl (qk (.bool bN) 9 rfl (qa 10 rfl rfl (qa 11 rfl rfl (qn (Iq (Ik (sr (Mz rfl (Kz (.bool (!bN)) (nt ?_)))))))))))
 rcases Ls (bN) with bg | bg
 have h39t:Bool.toNat bN=1:=by rw [bg]; rfl
 refine jF (cn bg) (sk (sr (Mz rfl (Kz (vP g0 0) (Kz (vP g0 0) (Lz (vP X 0) bv 1 Tryz.isAgg24 (Kz (vP X 0) (Kz (vP X 8) (Lz (.slice d b.aC.ls.length m) bv 4 Tryz.isAgg79 (fw (vJ (C6 h)) (Ir (e:=h) (IA rfl) e6) ?_))))))))))
 obtain⟨a,j⟩:=dh (ls:=l) (i:=C6 h) bK.len f2 (bv.rds (i:=9) rfl) e9
 have bA:=eY U j
 have qj:a.cB.ls.length≤a.cB.c∧a.cB.ls.length≤9223372036854775807:=bq bv (i:=10) rfl (φ:=fun _=>_) (az (Q6.2 ⟨a,D1 j,b1⟩) bn)
 have qm:a.aO.ls.length≤a.aO.c∧a.aO.ls.length≤9223372036854775807:=bq bv (i:=10) rfl (φ:=fun _=>_) (az (Q6.2 ⟨a,D1 j, .tail _ b1⟩) bn)
 have qo:a.bL.ls.length≤a.bL.c∧a.bL.ls.length≤9223372036854775807:=bq bv (i:=10) rfl (φ:=fun _=>_) (az (Q6.2 ⟨a,D1 j, .tail _ b2⟩) bn)
 have qw:a.ai.ls.length≤a.ai.c∧a.ai.ls.length≤9223372036854775807:=bq bv (i:=10) rfl (φ:=fun _=>_) (az (Q6.2 ⟨a,D1 j, .tail _ b3⟩) bn)
 have aL:Tok (bK.abs a):=Cv g5 bA
 have qx:1≤a.bf∧a.bf≤4:=aL.D7
 have qy:a.bL.ls.length=a.aO.ls.length:=by have q9:=aL.yes; simp only [bK.abs,s3] at q9; exact q9
 have qz:a.ai.ls.length=a.aO.ls.length:=by have q9:=aL.res; simp only [bK.abs,s3] at q9; exact q9
 have qA:a.aO.ls.length≤5:=by have q9:=aL.len; simp only [bK.abs,s3] at q9; exact q9
 have qB:a.cB.ls.length≤24:=aL.ops.1
 refine fw (.pointer (some ⟨ab d,ao d+(C6 h) *9,none⟩)) (Iz (qF) rfl rfl ((bv.rds (i:=9) rfl).addr (i:=C6 h) e6) e6) (Ar rfl ?_)
 have nz:=bv.pf [10]
 have dx:=J6 (f:=bK.own) (i:=C6 h) (row a.cB.A a.cB.ls.length a.cB.c (q4 aN.cells a.cB.ls) 72 6) (row a.aO.A a.aO.ls.length a.aO.c (q4 bO.cells a.aO.ls) 172 3) (row a.bL.A a.bL.ls.length a.bL.c (q4 eL a.bL.ls) 4 1) (row a.ai.A a.ai.ls.length a.ai.c (q4 (I9 (β:=af)) a.ai.ls) 40 1) (sepL (q4 bO.own a.aO.ls)) (sepL (q4 bP.own a.ai.ls)) rfl j nz
 have qC:=dx.rowC (i:=0) rfl
 have qD:=dx.rowC (i:=1) rfl
 have qE:a.aO.ls.length=s0 (s5 bO.abs a.aO.ls):=aA (rfl:s5 bO.abs a.aO.ls=s5 bO.abs a.aO.ls)
 have qG:=dx.rowC (i:=2) rfl
 have qH:=dx.rowC (i:=3) rfl
 have qI:a.ai.ls.length=s0 (s5 bP.abs a.ai.ls):=aA (rfl:s5 bP.abs a.ai.ls=s5 bP.abs a.ai.ls)
 refine Mz rfl (Kz (.pointer (some ⟨ab d,ao d+(C6 h) *9,none⟩)) (Kz (.pointer (some ⟨ab d,ao d+(C6 h) *9+5,none⟩)) (fw (.slice a.aO.A a.aO.ls.length a.aO.c) (IB rfl (bJ.one Tryz.isAgg103 (((dx.rds (i:=16) rfl).elem bK.len j f2).at_ (k:=5) rfl))) (Kz (.func (.func 92) #[] #[vP dw 0]) ?_))))
 have il:=dx.pf [7]
 have qJ:a.aO.ls.length=s0 (s5 bO.abs a.aO.ls):=f1
 obtain⟨g,bB⟩:∃ q,ic (s5 bO.abs a.aO.ls) W=q:=⟨_,rfl⟩
 obtain⟨rR,jw,di,jy,dO⟩:=IZ il
 refine cl Tryz.call91 (nZ _ _ a.aO.A a.aO.ls.length a.aO.c a.aO.ls (s5 bO.abs a.aO.ls) dw W cZ bI bF bu bL df bM g jw (rfl:s5 bO.abs a.aO.ls=s5 bO.abs a.aO.ls) (dO _ 1 _ rfl aW) (fun x9 h9=>⟨dO _ 4 _ rfl (az (Q6.2 ⟨x9,h9,b1⟩) aW),bq (φ:=fun _=>_) il (i:=5) rfl (az (Q6.2 ⟨x9,h9,b1⟩) bn),dO _ 4 _ rfl (az (Q6.2 ⟨x9,h9, .tail _ b1⟩) aW),bq (φ:=fun _=>_) il (i:=5) rfl (az (Q6.2 ⟨x9,h9, .tail _ b1⟩) bn)⟩) f1 g3 (di _ gF) (show W.aB.ls.length≤bI∧W.aB.ls.length≤9223372036854775807 from by omega) bX (di _ dB) (show W.ah.ls.length≤bu∧W.ah.ls.length≤9223372036854775807 from by omega) (fun x9 h9=>⟨di _ (bG x9 h9).1,(bG x9 h9).2⟩) (di _ gI) (show W.ag.ls.length≤bM∧W.ag.ls.length≤9223372036854775807 from by omega) bB) ?_
 rintro _ rT ⟨rfl,jA,fU⟩
 have cu:=jy _ _ jA
 replace fU: -1≤g∧g < ((s0 (s5 bO.abs a.aO.ls):Nat):Int):=fU
 refine An rfl (Ik (sr (Mz rfl (Kz (.bool (decide (g < 0))) (Mz rfl ?_)))))
 by_cases aJ:g < 0
 refine Sz (dT aJ) (Sz (dT aJ) (Sz (dT aJ) (Sz (dT aJ) (Sz (dT aJ) (Sz (dT aJ) (Sz (dT aJ) (fw (.bool true) (Iw rfl (dT aJ) rfl) (nt (jt (rt (tR (Fin.res (res0 rfl) ?_))))))))))))
 have nA:=cu.pf [1,2,3,4,5,6,7]
 have dP:=qX (f:=bK.own) j nA
 have qK:a.cB.ls.length≤a.cB.c∧a.cB.ls.length≤9223372036854775807:=bq dP (i:=0) rfl (φ:=fun _=>_) (az (Q6.2 ⟨a,D1 j,b1⟩) bn)
 have qL:a.aO.ls.length≤a.aO.c∧a.aO.ls.length≤9223372036854775807:=bq dP (i:=0) rfl (φ:=fun _=>_) (az (Q6.2 ⟨a,D1 j, .tail _ b1⟩) bn)
 have qM:a.bL.ls.length≤a.bL.c∧a.bL.ls.length≤9223372036854775807:=bq dP (i:=0) rfl (φ:=fun _=>_) (az (Q6.2 ⟨a,D1 j, .tail _ b2⟩) bn)
 have qO:a.ai.ls.length≤a.ai.c∧a.ai.ls.length≤9223372036854775807:=bq dP (i:=0) rfl (φ:=fun _=>_) (az (Q6.2 ⟨a,D1 j, .tail _ b3⟩) bn)
 have nC:=dP.px [2,3,4,5,6,7,8,9,10] [1] []
 obtain⟨rfl,rfl⟩:=fD (hr.symm.trans (show _=(p0,b) from et (ae aV) (et (ip bg) (et (ae (aT bA)) (et (ae bB) (ip aJ))))))
 exact⟨ag,ah,aa,r,s,z,t,u,B,d,m,l,K,L,C,M,N,E,O,P,F,Q,R,G,S,T,I,rfl,nC,aK,ai,aj,U,ak,au,av,ax,aB⟩
 refine gw (.pointer (some ⟨ab d,ao d+(C6 h) *9,none⟩)) (dF aJ) (IA rfl) (Gz (.pointer (some ⟨ab d,ao d+(C6 h) *9,none⟩)) (dF aJ) (Gz (.pointer (some ⟨ab d,ao d+(C6 h) *9+6,none⟩)) (dF aJ) (gw (.slice a.bL.A a.bL.ls.length a.bL.c) (dF aJ) (IB rfl (bJ.one Q9 (((cu.rds (i:=16) rfl).elem bK.len j f2).at_ (k:=6) rfl))) (gw (vJ (C6 g)) (dF aJ) (Ir (e:=g) (IA rfl) e6) ?_))))
 obtain⟨iq,aX⟩:=dh (ls:=a.bL.ls) (i:=C6 g) pV f2 (cu.rds (i:=3) rfl) e9
 refine gw (.pointer (some ⟨ab a.bL.A,ao a.bL.A+(C6 g) *1,none⟩)) (dF aJ) (Iz (zA) rfl rfl ((cu.rds (i:=3) rfl).addr (i:=C6 g) e6) e6) (gw (.bool iq) (dF aJ) (IB rfl (bJ.one Tryz.isAgg4 (((cu.rds (i:=3) rfl).elem pV aX f2).at_ (k:=0) rfl))) (fw (.bool iq) (Io rfl (dF aJ) rfl) (nt ?_)))
 rcases Ls (iq) with bQ | bQ
 refine jT bQ (rt (tR (Fin.res (res0 rfl) ?_)))
 have nD:=cu.pf [1,2,3,4,5,6,7]
 have dQ:=qX (f:=bK.own) j nD
 have qP:a.cB.ls.length≤a.cB.c∧a.cB.ls.length≤9223372036854775807:=bq dQ (i:=0) rfl (φ:=fun _=>_) (az (Q6.2 ⟨a,D1 j,b1⟩) bn)
 have qQ:a.aO.ls.length≤a.aO.c∧a.aO.ls.length≤9223372036854775807:=bq dQ (i:=0) rfl (φ:=fun _=>_) (az (Q6.2 ⟨a,D1 j, .tail _ b1⟩) bn)
 have qR:a.bL.ls.length≤a.bL.c∧a.bL.ls.length≤9223372036854775807:=bq dQ (i:=0) rfl (φ:=fun _=>_) (az (Q6.2 ⟨a,D1 j, .tail _ b2⟩) bn)
 have qU:a.ai.ls.length≤a.ai.c∧a.ai.ls.length≤9223372036854775807:=bq dQ (i:=0) rfl (φ:=fun _=>_) (az (Q6.2 ⟨a,D1 j, .tail _ b3⟩) bn)
 have nE:=dQ.px [2,3,4,5,6,7,8,9,10] [1] []
 obtain⟨rfl,rfl⟩:=fD (hr.symm.trans (show _=(p0,b) from et (ae aV) (et (ip bg) (et (ae (aT bA)) (et (ae bB) (et (iN aJ) (et (ae (aT aX)) (ip bQ))))))))
 exact⟨ag,ah,aa,r,s,z,t,u,B,d,m,l,K,L,C,M,N,E,O,P,F,Q,R,G,S,T,I,rfl,nE,aK,ai,aj,U,ak,au,av,ax,aB⟩
 refine jF bQ (sk (Ik (Ik ?_)))
 refine oV 27 [] (IE (IE IQ)) cu ?_
 intro rU iw
 refine qp dw 4 0 rfl (ql 1 rfl 0 C2 rfl rfl rfl (qt (v:= .bool (decide (¬ (W.dK=3)))) 2 rfl (fun _ _=>IM (e:= !(decide (W.dK=3))) yk decide_not.symm) (qv 3 rfl rfl ?_)))
 by_cases V:W.dK=3
 refine Iy (v:=vP dw 19) (rs:= []) 4 rfl rfl rfl (dF (Lr V)) e7 (fun _ _=>yk) (Iy (v:= .slice bF W.ah.ls.length bu) (rs:= []) 5 rfl rfl rfl (dF (Lr V)) e7 (fun _ ⟨_,H9⟩=>IB rfl (bJ.one Tryz.isAgg40 (I1 (H9.cls (i:=0) rfl) rfl))) (Iy (v:=vJ W.ah.ls.length) (rs:= []) 6 rfl rfl rfl (dF (Lr V)) e7 (fun _ _=>yk) (Iy (v:= .pointer (some ⟨ab d,ao d+(C6 h) *9,none⟩)) (rs:= []) 7 rfl rfl rfl (dF (Lr V)) e7 (fun _ _=>IA rfl) (Iy (v:= .pointer (some ⟨ab d,ao d+(C6 h) *9,none⟩)) (rs:= []) 8 rfl rfl rfl (dF (Lr V)) e7 (fun _ _=>yk) (Iy (v:= .pointer (some ⟨ab d,ao d+(C6 h) *9+5,none⟩)) (rs:= []) 9 rfl rfl rfl (dF (Lr V)) e7 (fun _ _=>yk) (Iy (v:= .slice a.aO.A a.aO.ls.length a.aO.c) (rs:= []) 10 rfl rfl rfl (dF (Lr V)) e7 (fun _ ⟨_,H9⟩=>IB rfl (bJ.one Tryz.isAgg103 (((H9.rds (i:=16) rfl).elem bK.len j f2).at_ (k:=5) rfl))) (Iy (v:=vJ (C6 g)) (rs:= []) 11 rfl rfl rfl (dF (Lr V)) e7 (fun _ _=>Ir (e:=g) (IA rfl) e6) ?_)))))))
 obtain⟨bR,fV⟩:=iG (ls:=a.aO.ls) (i:=C6 g) e9
 have dR:=eY (rfl:s5 bO.abs a.aO.ls=s5 bO.abs a.aO.ls) fV
 refine Iy (v:= .pointer (some ⟨ab a.aO.A,ao a.aO.A+(C6 g) *3,none⟩)) (rs:= []) 12 rfl rfl rfl (dF (Lr V)) e7 (fun _ ⟨_,H9⟩=>Iz (uR) rfl rfl ((H9.rds (i:=2) rfl).addr (i:=C6 g) e6) e6) (Iy (v:= .pointer (some ⟨ab a.aO.A,ao a.aO.A+(C6 g) *3+1,none⟩)) (rs:= []) 13 rfl rfl rfl (dF (Lr V)) e7 (fun _ _=>yk) (Iy (v:= .slice bR.aB.A bR.aB.ls.length bR.aB.c) (rs:= []) 14 rfl rfl rfl (dF (Lr V)) e7 (fun _ ⟨_,H9⟩=>IB rfl (bJ.one Tryz.isAgg39 (((H9.rds (i:=2) rfl).elem bO.len fV f2).at_ (k:=1) rfl))) (Iy (v:=vJ bR.aB.ls.length) (rs:= []) 15 rfl rfl rfl (dF (Lr V)) e7 (fun _ _=>yk) (Iy (v:= .bool (decide (¬ (((W.ah.ls.length:Nat):Int)=((bR.aB.ls.length:Nat):Int))))) (rs:= []) 16 rfl rfl rfl (dF (Lr V)) e7 (fun _ _=>IM (e:= !(decide (((W.ah.ls.length:Nat):Int)=((bR.aB.ls.length:Nat):Int)))) yk decide_not.symm) (qt (v:= .bool (decide (¬ (((W.ah.ls.length:Nat):Int)=((bR.aB.ls.length:Nat):Int))))) 17 rfl (fun _ _=>Io rfl (dF (Lr V)) rfl) (qn (Iq ?_)))))))
 by_cases dS:((W.ah.ls.length:Nat):Int)=((bR.aB.ls.length:Nat):Int)
 refine jF (dF (Lr dS)) (sk (Ik ?_))
 refine oV 27 [14,16] (IE IQ) iw ?_
 intro rV jB
 refine qv 0 rfl rfl (qk (.pointer (some ⟨ab d,ao d+(C6 h) *9,none⟩)) 1 rfl (qk (.pointer (some ⟨ab d,ao d+(C6 h) *9+6,none⟩)) 2 rfl (qt (v:= .slice a.bL.A a.bL.ls.length a.bL.c) 3 rfl (fun _ ⟨_,H9⟩=>IB rfl (bJ.one Q9 (((H9.rds (i:=16) rfl).elem bK.len j f2).at_ (k:=6) rfl))) (qt (v:=vJ (C6 g)) 4 rfl (fun _ _=>Ir (e:=g) (IA rfl) e6) (qv 5 rfl rfl (qk (.pointer (some ⟨ab d,ao d+(C6 h) *9,none⟩)) 6 rfl (qk (.pointer (some ⟨ab d,ao d+(C6 h) *9+7,none⟩)) 7 rfl (qt (v:= .slice a.ai.A a.ai.ls.length a.ai.c) 8 rfl (fun _ ⟨_,H9⟩=>IB rfl (bJ.one Tryz.isAgg105 (((H9.rds (i:=16) rfl).elem bK.len j f2).at_ (k:=7) rfl))) (I4 (v:=vJ (C6 g)) 9 rfl e7 (fun _=>Ir (e:=g) (IA rfl) e6) (qp dw 19 10 rfl (ql 11 rfl 0 Tryz.isAgg40 rfl rfl rfl ?_)))))))))))
 obtain⟨Y,bH⟩:∃ q,iT W.ah.ls=q:=⟨_,rfl⟩
 obtain⟨qV,iB,dU,iC,nG⟩:=Iu jB
 refine qd 12 rfl (IP Tryz.call48 rfl (l8 _ _ bF W.ah.ls.length bu bL W.ah.ls Y iB bX (dU _ dB) (fun x9 h9=>⟨dU _ (bG x9 h9).1,(bG x9 h9).2⟩) rfl e6 (by first | assumption | exact d9 f5 | (intro x hx; exact absurd hx List.not_mem_nil)) bH) ?_)
 rintro _ qW ⟨n,p,J,rfl,iD,aO⟩
 have fZ:=iC _ _ iD
 have nH:=aA aO
 have nI:=fZ.rowC (i:=0) rfl
 have nJ:mV Y:=by rw [← bH]; show mV W.ah.ls; assumption
 have gm:=fZ.pb [0,1]
 refine⟨.inr ⟨_,gm⟩, ?_⟩
 refine qt (v:= .pointer (some ⟨ab a.bL.A,ao a.bL.A+(C6 g) *1,none⟩)) 13 rfl (fun _ ⟨_,H9⟩=>Iz (zA) rfl rfl ((H9.rds (i:=3) rfl).addr (i:=C6 g) e6) e6) ?_
 have jC:=gm.pf [3]
 refine qe 14 rfl (Do.storeRow (vs:= [.bool true]) (o:=(C6 g) *1+0) (q:=ao a.bL.A+(C6 g) *1) jC rfl e6 rfl Tryz.sizeOf4 rfl rfl (Lj rfl) (ja pV aX (Lj rfl)) (jJ (y:=true) pV rfl (Lj rfl) aX) ?_)
 intro qY gp
 refine⟨.inl e7, ?_⟩
 obtain⟨bC,bD⟩:=iG (ls:=a.ai.ls) (i:=C6 g) e9
 have nK:=eY (rfl:s5 bP.abs a.ai.ls=s5 bP.abs a.ai.ls) bD
 refine I4 (v:= .pointer (some ⟨ab a.ai.A,ao a.ai.A+(C6 g) *1,none⟩)) 15 rfl e7 (fun _=>Iz (wE) rfl rfl ((gp.rds (i:=4) rfl).addr (i:=C6 g) e6) e6) ?_
 have jD:=gp.pf [6]
 have jE:=J5 (f:=bP.own) (i:=C6 g) (row bC.A bC.ls.length bC.c (q4 af.cells bC.ls) 149 3) (sepL (q4 af.own bC.ls)) rfl bD jD
 have jG:=jE.px [] [0,1] []
 have jH:=jG.pf [27,28]
 have jI:=Jc (aA aO).symm jH
 have jK:=Je (f:=bP.own) (y:=(G3 n p J)) bD jI
 have jL:=jK.pf [5]
 refine qe 16 rfl (Do.storeRow (vs:= [.slice n Y.length p]) (o:=(C6 g) *1+0) (q:=ao a.ai.A+(C6 g) *1) jL rfl e6 rfl Tryz.sizeOf40 rfl rfl (Lj rfl) (ja rC bD (Lj rfl)) (jJ (x:=bC) (f:=0) (vs:= [.slice n Y.length p]) (y:=(G3 n p J)) rC (show put ((I9 (β:=af)) bC) 0 ([.slice n Y.length p]:List Value)=(I9 (β:=af)) (G3 n p J) from congrArg (fun z9=>([.slice n z9 p]:List Value)) (aA aO).symm) (Lj rfl) bD) ?_)
 intro qZ jM
 have nL:s0 (I3 a.ai.ls (C6 g) (G3 n p J))=s0 (I3 (s5 bP.abs a.ai.ls) (C6 g) (E0 Y)):=aA (jl (rfl:s5 bP.abs a.ai.ls=s5 bP.abs a.ai.ls) (congrArg E0 aO))
 have nM:s0 (I3 (s5 bP.abs a.ai.ls) (C6 g) (E0 Y))=s0 (s5 bP.abs a.ai.ls):=G4
 refine⟨.inl e7, ?_⟩
 refine qn (Iq (Ik ?_))
 have gq:=jM.px [] [3] []
 refine Il (Mz rfl (Kz (.pointer (some ⟨ab d,ao d+(C6 h) *9,none⟩)) (Kz (.pointer (some ⟨ab d,ao d+(C6 h) *9+6,none⟩)) (fw (.slice a.bL.A a.bL.ls.length a.bL.c) (IB rfl (bJ.one Q9 (((gq.rds (i:=15) rfl).elem bK.len j f2).at_ (k:=6) rfl))) ?_))))
 have nN:a.bL.ls.length=s0 (I3 a.bL.ls (C6 g) true):=f1
 obtain⟨dV,cz⟩:∃ q,mI (I3 a.bL.ls (C6 g) true) false=q:=⟨_,rfl⟩
 obtain⟨rf,iE,nO,iF,iH⟩:=Iu gq
 refine cl Tryz.call93 (rq _ _ a.bL.A a.bL.ls.length a.bL.c (I3 a.bL.ls (C6 g) true) false dV iE (iH _ 2 _ rfl aW) f1 g3 cz) ?_
 rintro _ dm ⟨rfl,iI⟩
 have gu:=iF _ _ iI
 refine Kz (.bool (!dV)) (nt ?_)
 rcases Ls (dV) with bS | bS
 refine jF (cn bS) (IU (IL (res0 rfl) ?_))
 have jO:=gu.pf [2]
 have jP:=IX (y:=row a.bL.A (s0 (I3 a.bL.ls (C6 g) true)) a.bL.c (q4 eL (I3 a.bL.ls (C6 g) true)) 4 1) (congrArg (fun z9=>row a.bL.A z9 a.bL.c (q4 eL (I3 a.bL.ls (C6 g) true)) 4 1) (by simp only [G4]:a.bL.ls.length=s0 (I3 a.bL.ls (C6 g) true))) jO
 have jQ:=jP.pf [1]
 have jS:=IX (y:=row a.ai.A (s0 (I3 a.ai.ls (C6 g) (G3 n p J))) a.ai.c (q4 (I9 (β:=af)) (I3 a.ai.ls (C6 g) (G3 n p J))) 40 1) (congrArg (fun z9=>row a.ai.A z9 a.ai.c (q4 (I9 (β:=af)) (I3 a.ai.ls (C6 g) (G3 n p J))) 40 1) (by simp only [G4]:a.ai.ls.length=s0 (I3 a.ai.ls (C6 g) (G3 n p J)))) jQ
 have jU:=jS.pf [3,4,1,0,5]
 have jV:=Je (f:=bK.own) (y:=(bK.mk a.bI a.bf a.bi a.fE a.cB a.aO (G3 a.bL.A a.bL.c (I3 a.bL.ls (C6 g) true)) (G3 a.ai.A a.ai.c (I3 a.ai.ls (C6 g) (G3 n p J))) a.iI)) j jU
 have jW:Own w D dm [sepL (q4 bK.own (I3 l (C6 h) (bK.mk a.bI a.bf a.bi a.fE a.cB a.aO (G3 a.bL.A a.bL.c (I3 a.bL.ls (C6 g) true)) (G3 a.ai.A a.ai.c (I3 a.ai.ls (C6 g) (G3 n p J))) a.iI))),blk g0 [vP X 0, .slice ag p0.bF.ls.length ah] 98,row ag p0.bF.ls.length ah (q4 bz.cells aa) 42 21,sepL (q4 bz.own aa),mK X b aG b.aa.ag.ls.length aI r s t u d m K L M N O P Q R S T,row r b.aa.ak.ls.length s (q4 ay.cells z) 60 5,sepL (q4 ay.own z),row t b.aa.aK.ls.length u (q4 aS.cells B) 56 4,sepL (q4 aS.own B),row d b.aC.ls.length m (q4 bK.cells (I3 l (C6 h) (bK.mk a.bI a.bf a.bi a.fE a.cB a.aO (G3 a.bL.A a.bL.c (I3 a.bL.ls (C6 g) true)) (G3 a.ai.A a.ai.c (I3 a.ai.ls (C6 g) (G3 n p J))) a.iI))) 107 9,row K b.bM.ai.ls.length L (q4 af.cells C) 149 3,sepL (q4 af.own C),row M b.bD.ai.ls.length N (q4 af.cells E) 149 3,sepL (q4 af.own E),row O b.bA.ai.ls.length P (q4 af.cells F) 149 3,sepL (q4 af.own F),row Q b.bC.ai.ls.length R (q4 af.cells G) 149 3,sepL (q4 af.own G),row S b.bB.ai.ls.length T (q4 af.cells I) 149 3,sepL (q4 af.own I)]:=by rw [yT (f:=bK.cells) (y:=(bK.mk a.bI a.bf a.bi a.fE a.cB a.aO (G3 a.bL.A a.bL.c (I3 a.bL.ls (C6 g) true)) (G3 a.ai.A a.ai.c (I3 a.ai.ls (C6 g) (G3 n p J))) a.iI)) j (by simp only [bK.cells,G4])]; exact jV
 have nP:s0 (I3 l (C6 h) (bK.mk a.bI a.bf a.bi a.fE a.cB a.aO (G3 a.bL.A a.bL.c (I3 a.bL.ls (C6 g) true)) (G3 a.ai.A a.ai.c (I3 a.ai.ls (C6 g) (G3 n p J))) a.iI))=s0 (I3 b.aC.ls (C6 h) (ed.mk a.bI a.bf a.bi a.fE (E0 a.cB.ls) (E0 (s5 bO.abs a.aO.ls)) (E0 (I3 a.bL.ls (C6 g) true)) (E0 (I3 (s5 bP.abs a.ai.ls) (C6 g) (E0 Y))) a.iI)):=aA (jl U (congrArg (fun z0=>(ed.mk a.bI a.bf a.bi a.fE (E0 a.cB.ls) (E0 (s5 bO.abs a.aO.ls)) (E0 (I3 a.bL.ls (C6 g) true)) (E0 z0) a.iI)) (jl (rfl:s5 bP.abs a.ai.ls=s5 bP.abs a.ai.ls) (congrArg E0 aO))))
 have nQ:s0 (I3 b.aC.ls (C6 h) (ed.mk a.bI a.bf a.bi a.fE (E0 a.cB.ls) (E0 (s5 bO.abs a.aO.ls)) (E0 (I3 a.bL.ls (C6 g) true)) (E0 (I3 (s5 bP.abs a.ai.ls) (C6 g) (E0 Y))) a.iI))=b.aC.ls.length:=G4
 have cB:b.aC.ls.length=s0 (I3 b.aC.ls (C6 h) (ed.mk a.bI a.bf a.bi a.fE (E0 a.cB.ls) (E0 (s5 bO.abs a.aO.ls)) (E0 (I3 a.bL.ls (C6 g) true)) (E0 (I3 (s5 bP.abs a.ai.ls) (C6 g) (E0 Y))) a.iI)):=by first | omega | (simp only [G4]; done) | (simp only [G4,o2,s1,E7,o0,o1,H0]; omega)
 have jX:Own w D dm [sepL (q4 bK.own (I3 l (C6 h) (bK.mk a.bI a.bf a.bi a.fE a.cB a.aO (G3 a.bL.A a.bL.c (I3 a.bL.ls (C6 g) true)) (G3 a.ai.A a.ai.c (I3 a.ai.ls (C6 g) (G3 n p J))) a.iI))),blk g0 [vP X 0, .slice ag p0.bF.ls.length ah] 98,row ag p0.bF.ls.length ah (q4 bz.cells aa) 42 21,sepL (q4 bz.own aa),blk X [vI b.aa.au,vU b.aa.ax,vU b.aa.bG,vU b.aa.aF, .slice aG b.aa.ag.ls.length aI, .slice r b.aa.ak.ls.length s, .slice t b.aa.aK.ls.length u,vU b.bT, .slice d (s0 (I3 b.aC.ls (C6 h) (ed.mk a.bI a.bf a.bi a.fE (E0 a.cB.ls) (E0 (s5 bO.abs a.aO.ls)) (E0 (I3 a.bL.ls (C6 g) true)) (E0 (I3 (s5 bP.abs a.ai.ls) (C6 g) (E0 Y))) a.iI))) m, .bool b.bM.dB,vU b.bM.bi,vI b.bM.dP, .slice K b.bM.ai.ls.length L, .bool b.bD.dB,vU b.bD.bi,vI b.bD.dP, .slice M b.bD.ai.ls.length N, .bool b.bA.dB,vU b.bA.bi,vI b.bA.dP, .slice O b.bA.ai.ls.length P, .bool b.bC.dB,vU b.bC.bi,vI b.bC.dP, .slice Q b.bC.ai.ls.length R, .bool b.bB.dB,vU b.bB.bi,vI b.bB.dP, .slice S b.bB.ai.ls.length T,vU b.dO,vU b.dG,vU b.dH,vU b.dD,vU b.dE, .pointer none] 86,row r b.aa.ak.ls.length s (q4 ay.cells z) 60 5,sepL (q4 ay.own z),row t b.aa.aK.ls.length u (q4 aS.cells B) 56 4,sepL (q4 aS.own B),row d (s0 (I3 b.aC.ls (C6 h) (ed.mk a.bI a.bf a.bi a.fE (E0 a.cB.ls) (E0 (s5 bO.abs a.aO.ls)) (E0 (I3 a.bL.ls (C6 g) true)) (E0 (I3 (s5 bP.abs a.ai.ls) (C6 g) (E0 Y))) a.iI))) m (q4 bK.cells (I3 l (C6 h) (bK.mk a.bI a.bf a.bi a.fE a.cB a.aO (G3 a.bL.A a.bL.c (I3 a.bL.ls (C6 g) true)) (G3 a.ai.A a.ai.c (I3 a.ai.ls (C6 g) (G3 n p J))) a.iI))) 107 9,row K b.bM.ai.ls.length L (q4 af.cells C) 149 3,sepL (q4 af.own C),row M b.bD.ai.ls.length N (q4 af.cells E) 149 3,sepL (q4 af.own E),row O b.bA.ai.ls.length P (q4 af.cells F) 149 3,sepL (q4 af.own F),row Q b.bC.ai.ls.length R (q4 af.cells G) 149 3,sepL (q4 af.own G),row S b.bB.ai.ls.length T (q4 af.cells I) 149 3,sepL (q4 af.own I)]:=by rw [← cB]; exact jW
 have jY:=jX.pf [1,2,3,4,5,6,7,8,9]
 obtain⟨rfl,rfl⟩:=fD (hr.symm.trans (show _=(p0,aD.mk b.aa b.bT (E0 (I3 b.aC.ls (C6 h) (ed.mk a.bI a.bf a.bi a.fE (E0 a.cB.ls) (E0 (s5 bO.abs a.aO.ls)) (E0 (I3 a.bL.ls (C6 g) true)) (E0 (I3 (s5 bP.abs a.ai.ls) (C6 g) (E0 Y))) a.iI))) b.bM b.bD b.bA b.bC b.bB b.dO b.dG b.dH b.dD b.dE) from et (ae aV) (et (ip bg) (et (ae (aT bA)) (et (ae bB) (et (iN aJ) (et (ae (aT aX)) (et (fP bQ) (et (ip V) (et (ae (aT dR)) (et (ip dS) (et (ae bH) (et (ae cz) (ip bS))))))))))))))
 exact⟨ag,ah,aa,r,s,z,t,u,B,d,m,(I3 l (C6 h) (bK.mk a.bI a.bf a.bi a.fE a.cB a.aO (G3 a.bL.A a.bL.c (I3 a.bL.ls (C6 g) true)) (G3 a.ai.A a.ai.c (I3 a.ai.ls (C6 g) (G3 n p J))) a.iI)),K,L,C,M,N,E,O,P,F,Q,R,G,S,T,I,(by first | rfl | (rw [← cB]; done) | (rw [← cB]; rfl)),jY,aK,ai,aj,(jl U (congrArg (fun z0=>(ed.mk a.bI a.bf a.bi a.fE (E0 a.cB.ls) (E0 (s5 bO.abs a.aO.ls)) (E0 (I3 a.bL.ls (C6 g) true)) (E0 z0) a.iI)) (jl (rfl:s5 bP.abs a.ai.ls=s5 bP.abs a.ai.ls) (congrArg E0 aO)))),ak,au,av,ax,aB⟩
 refine jT (cn bS) (Il ?_)
 have jZ:=gu.pf [2]
 have j3:=IX (y:=row a.bL.A (s0 (I3 a.bL.ls (C6 g) true)) a.bL.c (q4 eL (I3 a.bL.ls (C6 g) true)) 4 1) (congrArg (fun z9=>row a.bL.A z9 a.bL.c (q4 eL (I3 a.bL.ls (C6 g) true)) 4 1) (by simp only [G4]:a.bL.ls.length=s0 (I3 a.bL.ls (C6 g) true))) jZ
 have j4:=j3.pf [1]
 have j5:=IX (y:=row a.ai.A (s0 (I3 a.ai.ls (C6 g) (G3 n p J))) a.ai.c (q4 (I9 (β:=af)) (I3 a.ai.ls (C6 g) (G3 n p J))) 40 1) (congrArg (fun z9=>row a.ai.A z9 a.ai.c (q4 (I9 (β:=af)) (I3 a.ai.ls (C6 g) (G3 n p J))) 40 1) (by simp only [G4]:a.ai.ls.length=s0 (I3 a.ai.ls (C6 g) (G3 n p J)))) j4
 have j6:=j5.pf [3,4,1,0,5]
 have kg:=Je (f:=bK.own) (y:=(bK.mk a.bI a.bf a.bi a.fE a.cB a.aO (G3 a.bL.A a.bL.c (I3 a.bL.ls (C6 g) true)) (G3 a.ai.A a.ai.c (I3 a.ai.ls (C6 g) (G3 n p J))) a.iI)) j j6
 have ko:Own w D dm [sepL (q4 bK.own (I3 l (C6 h) (bK.mk a.bI a.bf a.bi a.fE a.cB a.aO (G3 a.bL.A a.bL.c (I3 a.bL.ls (C6 g) true)) (G3 a.ai.A a.ai.c (I3 a.ai.ls (C6 g) (G3 n p J))) a.iI))),blk g0 [vP X 0, .slice ag p0.bF.ls.length ah] 98,row ag p0.bF.ls.length ah (q4 bz.cells aa) 42 21,sepL (q4 bz.own aa),mK X b aG b.aa.ag.ls.length aI r s t u d m K L M N O P Q R S T,row r b.aa.ak.ls.length s (q4 ay.cells z) 60 5,sepL (q4 ay.own z),row t b.aa.aK.ls.length u (q4 aS.cells B) 56 4,sepL (q4 aS.own B),row d b.aC.ls.length m (q4 bK.cells (I3 l (C6 h) (bK.mk a.bI a.bf a.bi a.fE a.cB a.aO (G3 a.bL.A a.bL.c (I3 a.bL.ls (C6 g) true)) (G3 a.ai.A a.ai.c (I3 a.ai.ls (C6 g) (G3 n p J))) a.iI))) 107 9,row K b.bM.ai.ls.length L (q4 af.cells C) 149 3,sepL (q4 af.own C),row M b.bD.ai.ls.length N (q4 af.cells E) 149 3,sepL (q4 af.own E),row O b.bA.ai.ls.length P (q4 af.cells F) 149 3,sepL (q4 af.own F),row Q b.bC.ai.ls.length R (q4 af.cells G) 149 3,sepL (q4 af.own G),row S b.bB.ai.ls.length T (q4 af.cells I) 149 3,sepL (q4 af.own I)]:=by rw [yT (f:=bK.cells) (y:=(bK.mk a.bI a.bf a.bi a.fE a.cB a.aO (G3 a.bL.A a.bL.c (I3 a.bL.ls (C6 g) true)) (G3 a.ai.A a.ai.c (I3 a.ai.ls (C6 g) (G3 n p J))) a.iI)) j (by simp only [bK.cells,G4])]; exact kg
 have nR:s0 (I3 l (C6 h) (bK.mk a.bI a.bf a.bi a.fE a.cB a.aO (G3 a.bL.A a.bL.c (I3 a.bL.ls (C6 g) true)) (G3 a.ai.A a.ai.c (I3 a.ai.ls (C6 g) (G3 n p J))) a.iI))=s0 (I3 b.aC.ls (C6 h) (ed.mk a.bI a.bf a.bi a.fE (E0 a.cB.ls) (E0 (s5 bO.abs a.aO.ls)) (E0 (I3 a.bL.ls (C6 g) true)) (E0 (I3 (s5 bP.abs a.ai.ls) (C6 g) (E0 Y))) a.iI)):=aA (jl U (congrArg (fun z0=>(ed.mk a.bI a.bf a.bi a.fE (E0 a.cB.ls) (E0 (s5 bO.abs a.aO.ls)) (E0 (I3 a.bL.ls (C6 g) true)) (E0 z0) a.iI)) (jl (rfl:s5 bP.abs a.ai.ls=s5 bP.abs a.ai.ls) (congrArg E0 aO))))
 have nS:s0 (I3 b.aC.ls (C6 h) (ed.mk a.bI a.bf a.bi a.fE (E0 a.cB.ls) (E0 (s5 bO.abs a.aO.ls)) (E0 (I3 a.bL.ls (C6 g) true)) (E0 (I3 (s5 bP.abs a.ai.ls) (C6 g) (E0 Y))) a.iI))=b.aC.ls.length:=G4
 refine Mz rfl (Mz rfl ?_)
 have cK:b.aC.ls.length=s0 (I3 b.aC.ls (C6 h) (ed.mk a.bI a.bf a.bi a.fE (E0 a.cB.ls) (E0 (s5 bO.abs a.aO.ls)) (E0 (I3 a.bL.ls (C6 g) true)) (E0 (I3 (s5 bP.abs a.ai.ls) (C6 g) (E0 Y))) a.iI)):=by first | omega | (simp only [G4]; done) | (simp only [G4,o2,s1,E7,o0,o1,H0]; omega)
 have kr:Own w D dm [sepL (q4 bK.own (I3 l (C6 h) (bK.mk a.bI a.bf a.bi a.fE a.cB a.aO (G3 a.bL.A a.bL.c (I3 a.bL.ls (C6 g) true)) (G3 a.ai.A a.ai.c (I3 a.ai.ls (C6 g) (G3 n p J))) a.iI))),blk g0 [vP X 0, .slice ag p0.bF.ls.length ah] 98,row ag p0.bF.ls.length ah (q4 bz.cells aa) 42 21,sepL (q4 bz.own aa),blk X [vI b.aa.au,vU b.aa.ax,vU b.aa.bG,vU b.aa.aF, .slice aG b.aa.ag.ls.length aI, .slice r b.aa.ak.ls.length s, .slice t b.aa.aK.ls.length u,vU b.bT, .slice d (s0 (I3 b.aC.ls (C6 h) (ed.mk a.bI a.bf a.bi a.fE (E0 a.cB.ls) (E0 (s5 bO.abs a.aO.ls)) (E0 (I3 a.bL.ls (C6 g) true)) (E0 (I3 (s5 bP.abs a.ai.ls) (C6 g) (E0 Y))) a.iI))) m, .bool b.bM.dB,vU b.bM.bi,vI b.bM.dP, .slice K b.bM.ai.ls.length L, .bool b.bD.dB,vU b.bD.bi,vI b.bD.dP, .slice M b.bD.ai.ls.length N, .bool b.bA.dB,vU b.bA.bi,vI b.bA.dP, .slice O b.bA.ai.ls.length P, .bool b.bC.dB,vU b.bC.bi,vI b.bC.dP, .slice Q b.bC.ai.ls.length R, .bool b.bB.dB,vU b.bB.bi,vI b.bB.dP, .slice S b.bB.ai.ls.length T,vU b.dO,vU b.dG,vU b.dH,vU b.dD,vU b.dE, .pointer none] 86,row r b.aa.ak.ls.length s (q4 ay.cells z) 60 5,sepL (q4 ay.own z),row t b.aa.aK.ls.length u (q4 aS.cells B) 56 4,sepL (q4 aS.own B),row d (s0 (I3 b.aC.ls (C6 h) (ed.mk a.bI a.bf a.bi a.fE (E0 a.cB.ls) (E0 (s5 bO.abs a.aO.ls)) (E0 (I3 a.bL.ls (C6 g) true)) (E0 (I3 (s5 bP.abs a.ai.ls) (C6 g) (E0 Y))) a.iI))) m (q4 bK.cells (I3 l (C6 h) (bK.mk a.bI a.bf a.bi a.fE a.cB a.aO (G3 a.bL.A a.bL.c (I3 a.bL.ls (C6 g) true)) (G3 a.ai.A a.ai.c (I3 a.ai.ls (C6 g) (G3 n p J))) a.iI))) 107 9,row K b.bM.ai.ls.length L (q4 af.cells C) 149 3,sepL (q4 af.own C),row M b.bD.ai.ls.length N (q4 af.cells E) 149 3,sepL (q4 af.own E),row O b.bA.ai.ls.length P (q4 af.cells F) 149 3,sepL (q4 af.own F),row Q b.bC.ai.ls.length R (q4 af.cells G) 149 3,sepL (q4 af.own G),row S b.bB.ai.ls.length T (q4 af.cells I) 149 3,sepL (q4 af.own I)]:=by rw [← cK]; exact ko
 have ku:=kr.pf [1,2,3,4,5,6,7,8,9]
 obtain⟨⟨gy,Z⟩,dW⟩:∃ q:bU × aD,lC p0 h (aD.mk b.aa b.bT (E0 (I3 b.aC.ls (C6 h) (ed.mk a.bI a.bf a.bi a.fE (E0 a.cB.ls) (E0 (s5 bO.abs a.aO.ls)) (E0 (I3 a.bL.ls (C6 g) true)) (E0 (I3 (s5 bP.abs a.ai.ls) (C6 g) (E0 Y))) a.iI))) b.bM b.bD b.bA b.bC b.bB b.dO b.dG b.dH b.dD b.dE)=q:=⟨_,rfl⟩
 obtain⟨ru,iJ,nT,iK,nU⟩:=JU ku
 refine cl Tryz.call94 (uW _ _ g0 p0 ag ah aa h X (aD.mk b.aa b.bT (E0 (I3 b.aC.ls (C6 h) (ed.mk a.bI a.bf a.bi a.fE (E0 a.cB.ls) (E0 (s5 bO.abs a.aO.ls)) (E0 (I3 a.bL.ls (C6 g) true)) (E0 (I3 (s5 bP.abs a.ai.ls) (C6 g) (E0 Y))) a.iI))) b.bM b.bD b.bA b.bC b.bB b.dO b.dG b.dH b.dD b.dE) aG aI r s z t u B d m (I3 l (C6 h) (bK.mk a.bI a.bf a.bi a.fE a.cB a.aO (G3 a.bL.A a.bL.c (I3 a.bL.ls (C6 g) true)) (G3 a.ai.A a.ai.c (I3 a.ai.ls (C6 g) (G3 n p J))) a.iI)) K L C M N E O P F Q R G S T I gy Z iJ aK ai aj (jl U (congrArg (fun z0=>(ed.mk a.bI a.bf a.bi a.fE (E0 a.cB.ls) (E0 (s5 bO.abs a.aO.ls)) (E0 (I3 a.bL.ls (C6 g) true)) (E0 z0) a.iI)) (jl (rfl:s5 bP.abs a.ai.ls=s5 bP.abs a.ai.ls) (congrArg E0 aO)))) ak au av ax aB e8 (by first | assumption | exact Mk.act f5 | exact qN g5 (q8 (x:=bK.abs a) aL f5) | exact qN g5 (wJ (x:=bK.abs a) aL _)) e8 dW) ?_
 rintro _ ry ⟨kv,kw,ky,kz,kC,kD,kE,kF,kG,kH,kI,kJ,kK,kL,kM,kN,kP,kQ,kR,kS,kT,kU,kV,kW,kX,kY,kZ,rfl,iL,dX,dY,dZ,ek,eu,eB,eD,eF,eG⟩
 have aP:=iK _ _ iL
 have nV:=aA dX
 have nW:=aA dY
 have nX:=aA dZ
 have nY:=aA ek
 have og:=aA eu
 have oh:=aA eB
 have ol:=aA eD
 have om:=aA eF
 have oo:=aA eG
 have oq:=aP.rowC (i:=1) rfl
 have ou:=aP.rowC (i:=4) rfl
 have ow:=aP.rowC (i:=6) rfl
 have oz:=aP.rowC (i:=8) rfl
 have oC:=aP.rowC (i:=10) rfl
 have oD:=aP.rowC (i:=12) rfl
 have oF:=aP.rowC (i:=14) rfl
 have oG:=aP.rowC (i:=16) rfl
 have oH:=aP.rowC (i:=18) rfl
 refine WL.nil (IL (res0 rfl) ?_)
 have lc:=aP.pf []
 obtain⟨rfl,rfl⟩:=fD (hr.symm.trans (show _=(gy,aD.mk (bZ.mk Z.aa.au Z.aa.ax Z.aa.bG Z.aa.aF (E0 b.aa.ag.ls) (E0 Z.aa.ak.ls) (E0 Z.aa.aK.ls)) Z.bT (E0 Z.aC.ls) Z.bM Z.bD Z.bA Z.bC Z.bB Z.dO Z.dG Z.dH Z.dD Z.dE) from et (ae aV) (et (ip bg) (et (ae (aT bA)) (et (ae bB) (et (iN aJ) (et (ae (aT aX)) (et (fP bQ) (et (ip V) (et (ae (aT dR)) (et (ip dS) (et (ae bH) (et (ae cz) (et (fP bS) (ae dW)))))))))))))))
 exact⟨kv,kw,ky,kz,kC,kD,kE,kF,kG,kH,kI,kJ,kK,kL,kM,kN,kP,kQ,kR,kS,kT,kU,kV,kW,kX,kY,kZ,(by first | rfl | (rw [← cK]; done) | (rw [← cK]; rfl)),lc,dX,dY,dZ,ek,eu,eB,eD,eF,eG⟩
 refine jT (dT dS) (sr ?_)
 have lg:=iw.pf [1,2,3,4,5,6,7]
 have bT:=qX (f:=bK.own) j lg
 have oI:a.cB.ls.length≤a.cB.c∧a.cB.ls.length≤9223372036854775807:=bq bT (i:=0) rfl (φ:=fun _=>_) (az (Q6.2 ⟨a,D1 j,b1⟩) bn)
 have oJ:a.aO.ls.length≤a.aO.c∧a.aO.ls.length≤9223372036854775807:=bq bT (i:=0) rfl (φ:=fun _=>_) (az (Q6.2 ⟨a,D1 j, .tail _ b1⟩) bn)
 have oK:a.bL.ls.length≤a.bL.c∧a.bL.ls.length≤9223372036854775807:=bq bT (i:=0) rfl (φ:=fun _=>_) (az (Q6.2 ⟨a,D1 j, .tail _ b2⟩) bn)
 have oL:a.ai.ls.length≤a.ai.c∧a.ai.ls.length≤9223372036854775807:=bq bT (i:=0) rfl (φ:=fun _=>_) (az (Q6.2 ⟨a,D1 j, .tail _ b3⟩) bn)
 refine Mz rfl (Mz rfl ?_)
 have lh:=bT.px [2,3,4,5,10] [] [1,6,7,8,9]
 obtain⟨⟨gz,aC⟩,eH⟩:∃ q:bU × aD,iy p0 h b=q:=⟨_,rfl⟩
 obtain⟨rz,iM,oM,iO,oN⟩:=JH lh
 refine cl Tryz.call63 (oQ _ _ g0 p0 ag ah aa h X b aG aI r s t u d m l K L C M N E O P F Q R G S T I gz aC iM aK U ak au av ax aB e8 (by first | assumption | exact Mk.act f5 | exact qN g5 (q8 (x:=bK.abs a) aL f5) | exact qN g5 (wJ (x:=bK.abs a) aL _)) e8 eH) ?_
 rintro _ rA ⟨ll,lm,lu,lv,lw,lD,lF,lG,lI,lJ,lK,lL,lM,lN,lQ,lS,lT,lU,lV,lW,lX,rfl,iP,eO,eP,eQ,eT,eU,eX,eZ⟩
 have aZ:=iO _ _ iP
 have oO:=aA eO
 have oP:=aA eP
 have oU:=aA eQ
 have oW:=aA eT
 have oZ:=aA eU
 have o5:=aA eX
 have o6:=aA eZ
 have o7:=aZ.rowC (i:=1) rfl
 have o8:=aZ.rowC (i:=4) rfl
 have o9:=aZ.rowC (i:=6) rfl
 have pg:=aZ.rowC (i:=8) rfl
 have pq:=aZ.rowC (i:=10) rfl
 have pu:=aZ.rowC (i:=12) rfl
 have pz:=aZ.rowC (i:=14) rfl
 refine nt (rt (tR (Fin.res (res0 rfl) ?_)))
 have lY:=aZ.px [0,1,2,3,17,18,19,20] [16] []
 obtain⟨rfl,rfl⟩:=fD (hr.symm.trans (show _=(gz,aD.mk (bZ.mk aC.aa.au aC.aa.ax aC.aa.bG aC.aa.aF (E0 b.aa.ag.ls) (E0 b.aa.ak.ls) (E0 b.aa.aK.ls)) aC.bT (E0 aC.aC.ls) aC.bM aC.bD aC.bA aC.bC aC.bB aC.dO aC.dG aC.dH aC.dD aC.dE) from et (ae aV) (et (ip bg) (et (ae (aT bA)) (et (ae bB) (et (iN aJ) (et (ae (aT aX)) (et (fP bQ) (et (ip V) (et (ae (aT dR)) (et (iN dS) (ae eH))))))))))))
 exact⟨ll,lm,lu,r,s,z,t,u,B,lv,lw,lD,lF,lG,lI,lJ,lK,lL,lM,lN,lQ,lS,lT,lU,lV,lW,lX,rfl,lY,eO,ai,aj,eP,eQ,eT,eU,eX,eZ⟩
 refine Ip (rs:= []) 4 rfl rfl rfl (dT V) e7 (Ip (rs:= []) 5 rfl rfl rfl (dT V) e7 (Ip (rs:= []) 6 rfl rfl rfl (dT V) e7 (Ip (rs:= []) 7 rfl rfl rfl (dT V) e7 (Ip (rs:= []) 8 rfl rfl rfl (dT V) e7 (Ip (rs:= []) 9 rfl rfl rfl (dT V) e7 (Ip (rs:= []) 10 rfl rfl rfl (dT V) e7 (Ip (rs:= []) 11 rfl rfl rfl (dT V) e7 (Ip (rs:= []) 12 rfl rfl rfl (dT V) e7 (Ip (rs:= []) 13 rfl rfl rfl (dT V) e7 (Ip (rs:= []) 14 rfl rfl rfl (dT V) e7 (Ip (rs:= []) 15 rfl rfl rfl (dT V) e7 (Ip (rs:= []) 16 rfl rfl rfl (dT V) e7 (qt (v:= .bool true) 17 rfl (fun _ _=>Iw rfl (dT V) rfl) (qn (Iq (jt (sr ?_)))))))))))))))))
 have lZ:=iw.pf [1,2,3,4,5,6,7]
 have bV:=qX (f:=bK.own) j lZ
 have pE:a.cB.ls.length≤a.cB.c∧a.cB.ls.length≤9223372036854775807:=bq bV (i:=0) rfl (φ:=fun _=>_) (az (Q6.2 ⟨a,D1 j,b1⟩) bn)
 have pF:a.aO.ls.length≤a.aO.c∧a.aO.ls.length≤9223372036854775807:=bq bV (i:=0) rfl (φ:=fun _=>_) (az (Q6.2 ⟨a,D1 j, .tail _ b1⟩) bn)
 have pG:a.bL.ls.length≤a.bL.c∧a.bL.ls.length≤9223372036854775807:=bq bV (i:=0) rfl (φ:=fun _=>_) (az (Q6.2 ⟨a,D1 j, .tail _ b2⟩) bn)
 have pI:a.ai.ls.length≤a.ai.c∧a.ai.ls.length≤9223372036854775807:=bq bV (i:=0) rfl (φ:=fun _=>_) (az (Q6.2 ⟨a,D1 j, .tail _ b3⟩) bn)
 refine Mz rfl (Mz rfl ?_)
 have l5:=bV.px [2,3,4,5,10] [] [1,6,7,8,9]
 obtain⟨⟨gB,aF⟩,fe⟩:∃ q:bU × aD,iy p0 h b=q:=⟨_,rfl⟩
 obtain⟨rD,iQ,pJ,iR,pK⟩:=JH l5
 refine cl Tryz.call63 (oQ _ _ g0 p0 ag ah aa h X b aG aI r s t u d m l K L C M N E O P F Q R G S T I gB aF iQ aK U ak au av ax aB e8 (by first | assumption | exact Mk.act f5 | exact qN g5 (q8 (x:=bK.abs a) aL f5) | exact qN g5 (wJ (x:=bK.abs a) aL _)) e8 fe) ?_
 rintro _ rE ⟨l6,l7,l9,ma,mf,mg,mh,mi,mo,mq,mr,mD,mE,mF,mG,mH,mJ,mM,mO,mP,mQ,rfl,iU,fo,fq,fu,fA,fB,fC,fE⟩
 have bf:=iR _ _ iU
 have pM:=aA fo
 have pO:=aA fq
 have pQ:=aA fu
 have pR:=aA fA
 have pU:=aA fB
 have pW:=aA fC
 have pX:=aA fE
 have pY:=bf.rowC (i:=1) rfl
 have p8:=bf.rowC (i:=4) rfl
 have p9:=bf.rowC (i:=6) rfl
 have qb:=bf.rowC (i:=8) rfl
 have qc:=bf.rowC (i:=10) rfl
 have qf:=bf.rowC (i:=12) rfl
 have qg:=bf.rowC (i:=14) rfl
 refine nt (rt (tR (Fin.res (res0 rfl) ?_)))
 have mR:=bf.px [0,1,2,3,17,18,19,20] [16] []
 obtain⟨rfl,rfl⟩:=fD (hr.symm.trans (show _=(gB,aD.mk (bZ.mk aF.aa.au aF.aa.ax aF.aa.bG aF.aa.aF (E0 b.aa.ag.ls) (E0 b.aa.ak.ls) (E0 b.aa.aK.ls)) aF.bT (E0 aF.aC.ls) aF.bM aF.bD aF.bA aF.bC aF.bB aF.dO aF.dG aF.dH aF.dD aF.dE) from et (ae aV) (et (ip bg) (et (ae (aT bA)) (et (ae bB) (et (iN aJ) (et (ae (aT aX)) (et (fP bQ) (et (iN V) (ae fe))))))))))
 exact⟨l6,l7,l9,r,s,z,t,u,B,ma,mf,mg,mh,mi,mo,mq,mr,mD,mE,mF,mG,mH,mJ,mM,mO,mP,mQ,rfl,mR,fo,ai,aj,fq,fu,fA,fB,fC,fE⟩
 have h39t:Bool.toNat bN=0:=by rw [bg]; rfl
 refine jT (cn bg) (rt (tR (Fin.res (res0 rfl) ?_)))
 have mU:=bv.px [] [0] []
 obtain⟨rfl,rfl⟩:=fD (hr.symm.trans (show _=(p0,b) from et (ae aV) (fP bg)))
 exact⟨ag,ah,aa,r,s,z,t,u,B,d,m,l,K,L,C,M,N,E,O,P,F,Q,R,G,S,T,I,rfl,mU,aK,ai,aj,U,ak,au,av,ax,aB⟩
end Go.Proofs.YtbkagebjhbphaaaGreat
