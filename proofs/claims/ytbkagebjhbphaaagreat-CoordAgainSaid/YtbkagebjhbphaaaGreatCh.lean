/-
 coord: a vote.
-/
import Derived.Test.YtbkagebjhbphaaaGreatCc
import Derived.Test.YtbkagebjhbphaaaGreatCg
namespace Go.Proofs.YtbkagebjhbphaaaGreat
open Int renaming toNat→D2
open List renaming flatMap→q6,getD→C2,length→s2,length_append→p5,length_cons→s3,length_drop→p4,length_map→s6,length_nil→G0,length_replicate→H6,length_set→H5,length_take→p3,map→s8,mem_flatMap→P2,mem_of_getElem?→E0,set→u5
open Ll renaming mk→E4
open Sum renaming inl→C1
open Sv renaming mk→H3
open _root_.Go.Proofs.Tryz renaming isAgg104→P5,isAgg3→C6,prog→y4
set_option maxRecDepth 100000
open Go.RowKit
set_option linter.unusedVariables false
set_option linter.unusedSectionVars false
set_option linter.unusedSimpArgs false
def eY (a:bM):List gq→Nat→Unit ⊕ Int
  | [],b=>C1 ()
  | c::d,b=>if c.dV=a.aH then Sum.inr ((b:Nat):Int) else eY a d (b+1)
def eQ (l0:List gq) (a:bM):Int:=
 lp (eY a l0 0) fun _=>(-1)
theorem nQ (w D E V W d0 l0 m) (a:bM) (d f g h n j l U) (H:Own w D w [blk m (gT a d f g h j l) 42]) (G:s8 bD.abs d0=l0) (C:Ro w D fun w'=>bA w' 3 E V (q6 bD.cells d0)) (I:∀ x ∈ d0,Ro w D (fun w'=>bA w' 6 x.aF.A x.aF.ls.length (q6 bv.cells x.aF.ls))∧(x.aF.ls.length≤x.aF.c∧x.aF.ls.length≤9223372036854775807)∧Ro w D (fun w'=>bA w' 1 x.aH.A x.aH.ls.length (q6 (eI .i64) x.aH.ls))∧(x.aH.ls.length≤x.aH.c∧x.aH.ls.length≤9223372036854775807)) (X:V=l0.length) (ay:l0.length≤9223372036854775807) (J:Ro w D fun w'=>bA w' 6 d a.aF.ls.length (q6 bv.cells a.aF.ls)) (K:a.aF.ls.length≤f∧a.aF.ls.length≤9223372036854775807) (r:s8 ae.abs n=a.ah.ls) (L:Ro w D fun w'=>bA w' 3 g a.ah.ls.length (q6 ae.cells n)) (M:a.ah.ls.length≤h∧a.ah.ls.length≤9223372036854775807) (N:∀ x ∈ n,Ro w D (fun w'=>bA w' 2 x.aj.A x.aj.ls.length (q6 aI.cells x.aj.ls))∧(x.aj.ls.length≤x.aj.c∧x.aj.ls.length≤9223372036854775807)) (O:Ro w D fun w'=>bA w' 2 j a.ag.ls.length (q6 aW.cells a.ag.ls)) (P:a.ag.ls.length≤l∧a.ag.ls.length≤9223372036854775807) (hr:eQ l0 a=U):
    Calls y4 91 #[.slice E V W, .func (.func 92) #[] #[vP m 0]] w (dR fun v w'=>v=vI U∧Own w D w' [blk m (gT a d f g h j l) 42]∧(-1≤U∧U < ((l0.length:Nat):Int))):=by
 subst X
 have ak:=az G
 have F:=az r
 refine cb Tryz.func91 ?_
 refine sr (An rfl (FW (sr (Mz rfl (Kz (vJ l0.length) (Mn rfl (bo ?_)))))))
 have Y:=H.pf []
 obtain⟨Z,s⟩:=mZ fun (b:Nat) w'=>Own w D w' [blk m (gT a d f g h j l) 42]∧b≤l0.length∧eY a l0 0=eY a (List.drop b l0) b
 refine Wp.loop (fun i:Nat=> [(4,vI 0),(8,vJ i),(7,vJ l0.length),(0, .slice E l0.length W),(1, .func (.func 92) #[] #[vP m 0])]) Z (fun i=>l0.length - i) 0 ⟨rfl,rfl,rfl,rfl,rfl,trivial⟩ (s.2 ⟨Y,e6,rfl⟩) ?_
 rintro b aA Q
 obtain⟨t,au,u⟩:=s.1 Q
 refine sr (Kz (.bool (decide (((b:Nat):Int) < ((l0.length:Nat):Int)))) (nt (FW ?_)))
 by_cases R:((b:Nat):Int) < ((l0.length:Nat):Int)
 obtain⟨p,o⟩:=dK (ls:=d0) (i:=b) bD.len f3 (t.ro C) e9
 have S:=fo G o
 have av:=(I _ (E0 o)).2.1
 have ax:=(I _ (E0 o)).2.2.2
 have B:=drop_at S
 refine jT (dT R) (sk (FW (bo (sr (Mz rfl (Ar rfl (Mz rfl (Mz rfl (Mz rfl (fw (.pointer (some ⟨ab E,ao E+b *3,none⟩)) (F4 (tK) rfl rfl ((t.ro C).addr (i:=b) e6) e6) (fw (.agg (bD.cells p).toArray) (F7 rfl (Gf (cs:=(bD.cells p)) Tryz.isAgg172 Tryz.sizeOf172 ((t.ro C).elem bD.len o f3))) ?_)))))))))))
 refine WL.do rfl (Gr Tryz.call92 rfl rfl ?_ (fun _ _ k=>k))
 refine cb Tryz.func92 ?_
 refine sr ?_
 refine dM (bD.cells p) 172 t ?_
 intro aa aB y
 refine Ar rfl (Kz (vP aa 0) (Lz (vI p.dV) y 0 C6 (Kz (vP m 1) (Lz (vI a.aH) y 1 C6 (Kz (.bool (decide (p.dV=a.aH))) (An rfl (rt (rs (nt ?_)))))))))
 by_cases z:p.dV=a.aH
 refine jT (dT z) (FW ?_)
 have af:=y.pk [1]
 refine FV (Mz rfl (An rfl (rt (bR (tR (tR (bR (tR (rs ?_)))))))))
 have ag:=af.pf []
 obtain rfl:_=((b:Nat):Int):=hr.symm.trans (jq (et (u) (et (congrArg (fun q=>eY a q b) B) (ip z))))
 exact⟨rfl,ag,e6⟩
 refine jF (dF z) (Gn (bN (FY ?_)))
 have ah:=y.pk [1]
 refine FV (fw (vJ (b+1)) (FX (e:=IntKind.i64.wrap (((b:Nat):Int)+1)) yk f1) (Mz rfl (WL.nil ?_)))
 have ai:=ah.pf []
 exact Gc (b+1) ⟨rfl,rfl,rfl,rfl,rfl,trivial⟩ (s.2 ⟨ai,e6,et (u) (et (congrArg (fun q=>eY a q b) B) (iN z))⟩) (by show l0.length - (b+1) < l0.length - b; omega)
 refine jF (dF R) (Wp.exit (F6 ?_))
 have T:eY a l0 0=C1 ():=et (u) (et (congrArg (fun q=>eY a q b) (eZ (ls:=l0) (i:=b) e6)) rfl)
 refine F6 (Gi (FY (sr (An rfl (rt (rs ?_))))))
 have aj:=t.pf []
 obtain rfl:_=(-1):=hr.symm.trans (nU T)
 exact⟨rfl,aj,e6⟩
def iw (d:Bool):List Bool→Nat→Unit ⊕ Int
  | [],a=>C1 ()
  | b::c,a=>if d=b then Sum.inr ((a:Nat):Int) else iw d c (a+1)
def ny (l0:List Bool) (a:Bool):Int:=
 lp (iw a l0 0) fun _=>(-1)
theorem sF (w D n t u l0 b s) (H:Own w D w []) (m:Ro w D fun w'=>bA w' 1 n t (q6 eL l0)) (x:t=l0.length) (F:l0.length≤9223372036854775807) (hr:ny l0 b=s):
    Calls y4 128 #[.slice n t u, .bool b] w (dR fun v w'=>v=vI s∧Own w D w' []∧(-1≤s∧s < ((l0.length:Nat):Int))):=by
 subst x
 refine cb Tryz.func128 ?_
 refine sr (An rfl (FW (sr (Mz rfl (Kz (vJ l0.length) (Mn rfl (bo ?_)))))))
 have y:=H.pk []
 obtain⟨z,d⟩:=mZ fun (a:Nat) w'=>Own w D w' []∧a≤l0.length∧iw b l0 0=iw b (List.drop a l0) a
 refine Wp.loop (fun i:Nat=> [(4,vI 0),(8,vJ i),(7,vJ l0.length),(0, .slice n l0.length u),(1, .bool b)]) z (fun i=>l0.length - i) 0 ⟨rfl,rfl,rfl,rfl,rfl,trivial⟩ (d.2 ⟨y,e6,rfl⟩) ?_
 rintro a G o
 obtain⟨c,E,f⟩:=d.1 o
 refine sr (Kz (.bool (decide (((a:Nat):Int) < ((l0.length:Nat):Int)))) (nt (FW ?_)))
 by_cases p:((a:Nat):Int) < ((l0.length:Nat):Int)
 obtain⟨g,j⟩:=dK (ls:=l0) (i:=a) ow f3 (c.ro m) e9
 have l:=drop_at j
 refine jT (decide_eq_true p) (sk (FW (bo (sr (Mz rfl (Ar rfl (Mz rfl (Mz rfl (Mz rfl (fw (.pointer (some ⟨ab n,ao n+a *1,none⟩)) (F4 (xC) rfl rfl ((c.ro m).addr (i:=a) e6) e6) (fw (.bool g) (F7 rfl (bX.one Tryz.isAgg4 (((c.ro m).elem ow j f3).at_ (k:=0) rfl))) (fw (.bool (decide (b=g))) (Gm (e:=(b==g)) yk (by first | exact Bool.beq_eq_decide_eq _ _ | (by_cases q:b=g <;> simp [q]))) (nt ?_)))))))))))))
 by_cases h:b=g
 refine jT (dT h) (sr (Mz rfl (An rfl (rt (bR (tR (tR (bR (tR (rs ?_))))))))))
 have A:=c.pk []
 obtain rfl:_=((a:Nat):Int):=hr.symm.trans (jq (et (f) (et (congrArg (fun q=>iw b q a) l) (ip h))))
 exact⟨rfl,A,e6⟩
 refine jF (dF h) (Gn (bN (FY (FV (fw (vJ (a+1)) (FX (e:=IntKind.i64.wrap (((a:Nat):Int)+1)) yk f1) (Mz rfl (WL.nil ?_)))))))
 have B:=c.pk []
 exact Gc (a+1) ⟨rfl,rfl,rfl,rfl,rfl,trivial⟩ (d.2 ⟨B,e6,et (f) (et (congrArg (fun q=>iw b q a) l) (iN h))⟩) (by show l0.length - (a+1) < l0.length - a; omega)
 refine jF (dF p) (Wp.exit (F6 ?_))
 have r:iw b l0 0=C1 ():=et (f) (et (congrArg (fun q=>iw b q a) (eZ (ls:=l0) (i:=a) e6)) rfl)
 refine F6 (Gi (FY (sr (An rfl (rt (rs ?_))))))
 have C:=c.pk []
 obtain rfl:_=(-1):=hr.symm.trans (nU r)
 exact⟨rfl,C,e6⟩
def mg (l0:List Bool) (b:Bool):Bool:=
 bnd (ny l0 b) fun a=>decide (a ≥ 0)
theorem qX (w D i j o l0 h p) (H:Own w D w []) (k:Ro w D fun w'=>bA w' 1 i j (q6 eL l0)) (l:j=l0.length) (s:l0.length≤9223372036854775807) (hr:mg l0 h=p):
    Calls y4 93 #[.slice i j o, .bool h] w (dR fun v w'=>v= .bool p∧Own w D w' []):=by
 subst l
 refine cb Tryz.func93 ?_
 refine sr (Ar rfl (Mz rfl (Mz rfl ?_)))
 obtain⟨a,b⟩:∃ q,ny l0 h=q:=⟨_,rfl⟩
 obtain⟨t,d,e,f,r⟩:=F3 H
 refine cl Tryz.call128 (sF _ _ i l0.length o l0 h a d (e _ k) rfl e6 b) ?_
 rintro _ u ⟨rfl,g,c⟩
 have m:=f _ _ g
 replace c: -1≤a∧a < ((l0.length:Nat):Int):=c
 refine Kz (.bool (decide (a ≥ 0))) (An rfl (rt (rs ?_)))
 have n:=m.pk []
 obtain rfl:_=decide (a ≥ 0):=hr.symm.trans (ai b)
 exact⟨rfl,n⟩
def jN (i:bE) (k:bM) (a:aB):bE × aB:=
 bnd (cu a.au.ls k.aU) fun g=>if g.2=true then bnd (C2 a.au.ls (D2 g.1) default) fun e=>bnd (eQ e.aD.ls k) fun f=>if f < 0 then(i,a) else bnd (C2 e.bB.ls (D2 f) default) fun l=>if l=true then(i,a) else if k.cZ=3 then bnd (C2 e.aD.ls (D2 f) default) fun m=>if((k.ah.ls.length:Nat):Int)=((m.aF.ls.length:Nat):Int) then bnd (iO k.ah.ls) fun h=>bnd (mg (u5 e.bB.ls (D2 f) true) false) fun j=>if j=true then(i,aB.mk a.aa a.bP (E4 (u5 a.au.ls (D2 g.1) (dD.mk e.aR e.aK e.aM e.cz (E4 e.bO.ls) (E4 e.aD.ls) (E4 (u5 e.bB.ls (D2 f) true)) (E4 (u5 e.af.ls (D2 f) (E4 h))) e.dO))) a.bH a.bf a.bi a.bn a.aZ a.dI a.dz a.dB a.dA a.dC) else bnd (jA i g.1 (aB.mk a.aa a.bP (E4 (u5 a.au.ls (D2 g.1) (dD.mk e.aR e.aK e.aM e.cz (E4 e.bO.ls) (E4 e.aD.ls) (E4 (u5 e.bB.ls (D2 f) true)) (E4 (u5 e.af.ls (D2 f) (E4 h))) e.dO))) a.bH a.bf a.bi a.bn a.aZ a.dI a.dz a.dB a.dA a.dC)) fun b=>(b.1,aB.mk (di.mk b.2.aa.av b.2.aa.ay b.2.aa.aX b.2.aa.aL (E4 a.aa.ag.ls) (E4 b.2.aa.ak.ls) (E4 b.2.aa.aJ.ls)) b.2.bP (E4 b.2.au.ls) b.2.bH b.2.bf b.2.bi b.2.bn b.2.aZ b.2.dI b.2.dz b.2.dB b.2.dA b.2.dC) else bnd (eH i g.1 a) fun c=>(c.1,aB.mk (di.mk c.2.aa.av c.2.aa.ay c.2.aa.aX c.2.aa.aL (E4 a.aa.ag.ls) (E4 a.aa.ak.ls) (E4 a.aa.aJ.ls)) c.2.bP (E4 c.2.au.ls) c.2.bH c.2.bf c.2.bi c.2.bn c.2.aZ c.2.dI c.2.dz c.2.dB c.2.dA c.2.dC) else bnd (eH i g.1 a) fun d=>(d.1,aB.mk (di.mk d.2.aa.av d.2.aa.ay d.2.aa.aX d.2.aa.aL (E4 a.aa.ag.ls) (E4 a.aa.ak.ls) (E4 a.aa.aJ.ls)) d.2.bP (E4 d.2.au.ls) d.2.bH d.2.bf d.2.bi d.2.bn d.2.aZ d.2.dI d.2.dz d.2.dB d.2.dA d.2.dC) else(i,a)
set_option maxHeartbeats 4000000 in
theorem vR (w D g0) (p0:bE) (af ag aa) (W:bM) (cZ fK bN bI fM bi bO df fO bP X) (b:aB) (aG aH r s z t u B d m l K L C M N E O P F Q R G S T I) (r0:bE) (r1:aB) (H:Own w D w (blk g0 [.pointer (some ⟨X,0,none⟩), .slice af p0.bq.ls.length ag] 98::row af p0.bq.ls.length ag (q6 bC.cells aa) 42 21::sepL (q6 bC.own aa)::mX X b aG b.aa.ag.ls.length aH r s z t u B d m l K L C M N E O P F Q R G S T I [])) (aK:s8 bC.abs aa=p0.bq.ls) (gH:fK=W.aF.ls.length) (gI:Ro w D fun w'=>bA w' 6 cZ W.aF.ls.length (q6 bv.cells W.aF.ls)) (nu:W.aF.ls.length≤bN∧W.aF.ls.length≤9223372036854775807) (bW:s8 ae.abs bO=W.ah.ls) (gJ:fM=W.ah.ls.length) (dz:Ro w D fun w'=>bA w' 3 bI W.ah.ls.length (q6 ae.cells bO)) (ny:W.ah.ls.length≤bi∧W.ah.ls.length≤9223372036854775807) (bJ:∀ x ∈ bO,Ro w D (fun w'=>bA w' 2 x.aj.A x.aj.ls.length (q6 aI.cells x.aj.ls))∧(x.aj.ls.length≤x.aj.c∧x.aj.ls.length≤9223372036854775807)) (gK:fO=W.ag.ls.length) (gL:Ro w D fun w'=>bA w' 2 df W.ag.ls.length (q6 aW.cells W.ag.ls)) (nz:W.ag.ls.length≤bP∧W.ag.ls.length≤9223372036854775807) (ah:s8 aA.abs z=b.aa.ak.ls) (aj:s8 aT.abs B=b.aa.aJ.ls) (U:s8 bz.abs l=b.au.ls) (ak:s8 ae.abs C=b.bH.af.ls) (au:s8 ae.abs E=b.bf.af.ls) (av:s8 ae.abs F=b.bi.af.ls) (ay:s8 ae.abs G=b.bn.af.ls) (aC:s8 ae.abs I=b.aZ.af.ls) (rH:b.aa.ag.ls.length≤1000∧b.aa.ak.ls.length≤1000∧b.aa.aJ.ls.length≤1000∧b.au.ls.length≤1000∧p0.bq.ls.length≤100000) (rJ:Ak b.au.ls) (rM:W.aF.ls.length≤24∧W.ag.ls.length≤1000∧W.ah.ls.length≤1000∧jZ W.aO) (rO:mU W.ah.ls) (hr:jN p0 W b=(r0,r1)):
    Calls y4 57 #[vP g0 0, .agg (gD W.aG W.aH W.eP W.aN W.cZ W.eu W.aO W.ay W.aU W.dW W.aX W.aL W.dH W.bZ W.xN W.d9 W.bT.bG W.bT.bU cZ fK bN bI fM bi df fO bP).toArray] w (dR fun v w'=> ∃ dA dB bY gM gN dC gP gQ dG gU gV dH gW gX dI gY gZ dJ ib ic dL ig ik dN il iq dO,v= .tuple #[]∧Own w D w' (blk g0 [vP X 0, .slice dA r0.bq.ls.length dB] 98::row dA r0.bq.ls.length dB (q6 bC.cells bY) 42 21::sepL (q6 bC.own bY)::mX X r1 aG b.aa.ag.ls.length aH gM gN dC gP gQ dG gU gV dH gW gX dI gY gZ dJ ib ic dL ig ik dN il iq dO [])∧(s8 bC.abs bY=r0.bq.ls)∧(s8 aA.abs dC=r1.aa.ak.ls)∧(s8 aT.abs dG=r1.aa.aJ.ls)∧(s8 bz.abs dH=r1.au.ls)∧(s8 ae.abs dI=r1.bH.af.ls)∧(s8 ae.abs dJ=r1.bf.af.ls)∧(s8 ae.abs dL=r1.bi.af.ls)∧(s8 ae.abs dN=r1.bn.af.ls)∧(s8 ae.abs dO=r1.aZ.af.ls)):=by
 subst gH gJ gK
 have ni:=az aK
 have nk:=az bW
 have iX:=az ah
 have iY:=az aj
 have iZ:=az U
 have ja:=az ak
 have jb:=az au
 have jc:=az av
 have jd:=az ay
 have je:=az aC
 have nA:=H.rowC (i:=1) rfl
 have jf:=H.rowC (i:=4) rfl
 have jg:=H.rowC (i:=6) rfl
 have jh:=H.rowC (i:=8) rfl
 have ji:=H.rowC (i:=10) rfl
 have jk:=H.rowC (i:=12) rfl
 have jl:=H.rowC (i:=14) rfl
 have jm:=H.rowC (i:=16) rfl
 have jq:=H.rowC (i:=18) rfl
 refine cb Tryz.func57 ?_
 refine sr ?_
 refine dM (gT W cZ bN bI bi df bP) 42 H ?_
 intro dn rP nC
 refine nt (FW ?_)
 refine xz [] (Gb Gj) nC ?_
 intro rQ bH
 refine qv 0 rfl rfl (qp g0 0 1 rfl (qp g0 0 2 rfl (ql 3 rfl 1 Tryz.isAgg24 rfl rfl rfl (qp dn 8 4 rfl (ql 5 rfl 0 Tryz.isAgg28 rfl rfl rfl ?_)))))
 refine GX.do 6 rfl e7 (Gg Tryz.call62 rfl ?_ (fun _ _ k=>k))
 refine cb Tryz.func62 ?_
 refine sr (Az rfl (Ar rfl (Mz rfl (Kz (vP X 0) (Kz (vP X 8) (Lz (.slice d b.au.ls.length m) bH 4 Tryz.isAgg79 (Mz rfl ?_)))))))
 obtain⟨⟨h,bQ⟩,aS⟩:∃ q:Int × Bool,cu b.au.ls W.aU=q:=⟨_,rfl⟩
 obtain⟨rR,jr,qw,jv,aO⟩:=F3 bH
 refine cl Tryz.call102 (iF _ _ d b.au.ls.length m l b.au.ls W.aU h bQ jr U (aO _ 9 _ rfl aP) (fun x9 h9=>⟨aO _ 10 _ rfl (ax (P2.2 ⟨x9,h9,b1⟩) aP),aY (φ:=fun _=>_) bH (i:=10) rfl (ax (P2.2 ⟨x9,h9,b1⟩) aV),aO _ 10 _ rfl (ax (P2.2 ⟨x9,h9, .tail _ b1⟩) aP),aY (φ:=fun _=>_) bH (i:=10) rfl (ax (P2.2 ⟨x9,h9, .tail _ b1⟩) aV),(fun y1 k1=>⟨aO _ 10 _ rfl (ax (P2.2 ⟨x9,h9, .tail _ b4⟩) (ax (P2.2 ⟨y1,k1,b1⟩) aP)),aY (φ:=fun _=>_) bH (i:=10) rfl (ax (P2.2 ⟨x9,h9, .tail _ b4⟩) (ax (P2.2 ⟨y1,k1,b1⟩) aV)),aO _ 10 _ rfl (ax (P2.2 ⟨x9,h9, .tail _ b4⟩) (ax (P2.2 ⟨y1,k1, .tail _ b1⟩) aP)),aY (φ:=fun _=>_) bH (i:=10) rfl (ax (P2.2 ⟨x9,h9, .tail _ b4⟩) (ax (P2.2 ⟨y1,k1, .tail _ b1⟩) aV))⟩),aO _ 10 _ rfl (ax (P2.2 ⟨x9,h9, .tail _ b2⟩) aP),aY (φ:=fun _=>_) bH (i:=10) rfl (ax (P2.2 ⟨x9,h9, .tail _ b2⟩) aV),aO _ 10 _ rfl (ax (P2.2 ⟨x9,h9, .tail _ b3⟩) aP),aY (φ:=fun _=>_) bH (i:=10) rfl (ax (P2.2 ⟨x9,h9, .tail _ b3⟩) aV),(fun y1 k1=>⟨aO _ 10 _ rfl (ax (P2.2 ⟨x9,h9, .tail _ b5⟩) (ax (P2.2 ⟨y1,k1,b1⟩) aP)),aY (φ:=fun _=>_) bH (i:=10) rfl (ax (P2.2 ⟨x9,h9, .tail _ b5⟩) (ax (P2.2 ⟨y1,k1,b1⟩) aV)),(fun y2 k2=>⟨aO _ 10 _ rfl (ax (P2.2 ⟨x9,h9, .tail _ b5⟩) (ax (P2.2 ⟨y1,k1, .tail _ b1⟩) (ax (P2.2 ⟨y2,k2,b1⟩) aP))),aY (φ:=fun _=>_) bH (i:=10) rfl (ax (P2.2 ⟨x9,h9, .tail _ b5⟩) (ax (P2.2 ⟨y1,k1, .tail _ b1⟩) (ax (P2.2 ⟨y2,k2,b1⟩) aV)))⟩)⟩)⟩) rfl e6 aS) ?_
 rintro _ rT ⟨rfl,jw,fP,fQ⟩
 have bn:=jv _ _ jw
 replace fP:0≤h∧h≤((b.au.ls.length:Nat):Int):=fP
 replace fQ:Bool.toNat bQ=0∨h < ((b.au.ls.length:Nat):Int):=fQ
 refine Kz (vI h) (Kz (.bool bQ) (Az rfl (An rfl (rt (Fin.res (lY rfl rfl rfl) ?_)))))
 refine⟨.inr ⟨_,bn⟩, ?_⟩
 refine qv 7 rfl rfl (qk (vI h) 8 rfl (qk (.bool bQ) 9 rfl (qa 10 rfl rfl (qa 11 rfl rfl (qn (FY (FW (sr (Mz rfl (Kz (.bool (!bQ)) (nt ?_)))))))))))
 rcases JS (bQ) with bf | bf
 have h39t:Bool.toNat bQ=1:=by rw [bf]; rfl
 refine jF (cn bf) (sk (sr (Mz rfl (Kz (vP g0 0) (Kz (vP g0 0) (Lz (vP X 0) bn 1 Tryz.isAgg24 (Kz (vP X 0) (Kz (vP X 8) (Lz (.slice d b.au.ls.length m) bn 4 Tryz.isAgg79 (fw (vJ (D2 h)) (FX (e:=h) (F9 rfl) e6) ?_))))))))))
 obtain⟨a,j⟩:=dK (ls:=l) (i:=D2 h) bz.len f3 (bn.rds (i:=9) rfl) e9
 have bq:=fo U j
 have qy:a.bO.ls.length≤a.bO.c∧a.bO.ls.length≤9223372036854775807:=aY bn (i:=10) rfl (φ:=fun _=>_) (ax (P2.2 ⟨a,E0 j,b1⟩) aV)
 have qz:a.aD.ls.length≤a.aD.c∧a.aD.ls.length≤9223372036854775807:=aY bn (i:=10) rfl (φ:=fun _=>_) (ax (P2.2 ⟨a,E0 j, .tail _ b1⟩) aV)
 have qA:a.bB.ls.length≤a.bB.c∧a.bB.ls.length≤9223372036854775807:=aY bn (i:=10) rfl (φ:=fun _=>_) (ax (P2.2 ⟨a,E0 j, .tail _ b2⟩) aV)
 have qB:a.af.ls.length≤a.af.c∧a.af.ls.length≤9223372036854775807:=aY bn (i:=10) rfl (φ:=fun _=>_) (ax (P2.2 ⟨a,E0 j, .tail _ b3⟩) aV)
 have aL:Tok (bz.abs a):=xP f8 bq
 have qC:1≤a.aK∧a.aK≤4:=aL.Av
 have qD:a.bB.ls.length=a.aD.ls.length:=by have q9:=aL.yes; simp only [bz.abs,s6] at q9; exact q9
 have qE:a.af.ls.length=a.aD.ls.length:=by have q9:=aL.res; simp only [bz.abs,s6] at q9; exact q9
 have qF:a.aD.ls.length≤5:=by have q9:=aL.len; simp only [bz.abs,s6] at q9; exact q9
 have qG:a.bO.ls.length≤24:=aL.ops.1
 refine fw (.pointer (some ⟨ab d,ao d+(D2 h) *9,none⟩)) (F4 (pu) rfl rfl ((bn.rds (i:=9) rfl).addr (i:=D2 h) e6) e6) (Ar rfl ?_)
 have nD:=bn.pf [10]
 have dw:=Iz (f:=bz.own) (i:=D2 h) (row a.bO.A a.bO.ls.length a.bO.c (q6 bv.cells a.bO.ls) 72 6) (row a.aD.A a.aD.ls.length a.aD.c (q6 bD.cells a.aD.ls) 172 3) (row a.bB.A a.bB.ls.length a.bB.c (q6 eL a.bB.ls) 4 1) (row a.af.A a.af.ls.length a.af.c (q6 (GD (β:=ae)) a.af.ls) 40 1) (sepL (q6 bD.own a.aD.ls)) (sepL (q6 bK.own a.af.ls)) rfl j nD
 have qH:=dw.rowC (i:=0) rfl
 have qI:=dw.rowC (i:=1) rfl
 have qJ:a.aD.ls.length=s2 (s8 bD.abs a.aD.ls):=az (rfl:s8 bD.abs a.aD.ls=s8 bD.abs a.aD.ls)
 have qK:=dw.rowC (i:=2) rfl
 have qL:=dw.rowC (i:=3) rfl
 have qM:a.af.ls.length=s2 (s8 bK.abs a.af.ls):=az (rfl:s8 bK.abs a.af.ls=s8 bK.abs a.af.ls)
 refine Mz rfl (Kz (.pointer (some ⟨ab d,ao d+(D2 h) *9,none⟩)) (Kz (.pointer (some ⟨ab d,ao d+(D2 h) *9+5,none⟩)) (fw (.slice a.aD.A a.aD.ls.length a.aD.c) (F7 rfl (bX.one Tryz.isAgg103 (((dw.rds (i:=16) rfl).elem bz.len j f3).at_ (k:=5) rfl))) (Kz (.func (.func 92) #[] #[vP dn 0]) ?_))))
 have iw:=dw.pf [7]
 have qN:a.aD.ls.length=s2 (s8 bD.abs a.aD.ls):=f0
 obtain⟨g,bu⟩:∃ q,eQ (s8 bD.abs a.aD.ls) W=q:=⟨_,rfl⟩
 obtain⟨rU,jy,dh,jB,dP⟩:=Gq iw
 refine cl Tryz.call91 (nQ _ _ a.aD.A a.aD.ls.length a.aD.c a.aD.ls (s8 bD.abs a.aD.ls) dn W cZ bN bI bi bO df bP g jy (rfl:s8 bD.abs a.aD.ls=s8 bD.abs a.aD.ls) (dP _ 1 _ rfl aP) (fun x9 h9=>⟨dP _ 4 _ rfl (ax (P2.2 ⟨x9,h9,b1⟩) aP),aY (φ:=fun _=>_) iw (i:=5) rfl (ax (P2.2 ⟨x9,h9,b1⟩) aV),dP _ 4 _ rfl (ax (P2.2 ⟨x9,h9, .tail _ b1⟩) aP),aY (φ:=fun _=>_) iw (i:=5) rfl (ax (P2.2 ⟨x9,h9, .tail _ b1⟩) aV)⟩) f0 g4 (dh _ gI) (show W.aF.ls.length≤bN∧W.aF.ls.length≤9223372036854775807 from by omega) bW (dh _ dz) (show W.ah.ls.length≤bi∧W.ah.ls.length≤9223372036854775807 from by omega) (fun x9 h9=>⟨dh _ (bJ x9 h9).1,(bJ x9 h9).2⟩) (dh _ gL) (show W.ag.ls.length≤bP∧W.ag.ls.length≤9223372036854775807 from by omega) bu) ?_
 rintro _ rV ⟨rfl,jC,fU⟩
 have bZ:=jB _ _ jC
 replace fU: -1≤g∧g < ((s2 (s8 bD.abs a.aD.ls):Nat):Int):=fU
 refine An rfl (FW (sr (Mz rfl (Kz (.bool (decide (g < 0))) (Mz rfl ?_)))))
 by_cases aJ:g < 0
 refine Sz (dT aJ) (Sz (dT aJ) (Sz (dT aJ) (Sz (dT aJ) (Sz (dT aJ) (Sz (dT aJ) (Sz (dT aJ) (fw (.bool true) (Gd rfl (dT aJ) rfl) (nt (jt (rt (tR (Fin.res (res0 rfl) ?_))))))))))))
 have nE:=bZ.pf [1,2,3,4,5,6,7]
 have dQ:=qQ (f:=bz.own) j nE
 have qO:a.bO.ls.length≤a.bO.c∧a.bO.ls.length≤9223372036854775807:=aY dQ (i:=0) rfl (φ:=fun _=>_) (ax (P2.2 ⟨a,E0 j,b1⟩) aV)
 have qP:a.aD.ls.length≤a.aD.c∧a.aD.ls.length≤9223372036854775807:=aY dQ (i:=0) rfl (φ:=fun _=>_) (ax (P2.2 ⟨a,E0 j, .tail _ b1⟩) aV)
 have qR:a.bB.ls.length≤a.bB.c∧a.bB.ls.length≤9223372036854775807:=aY dQ (i:=0) rfl (φ:=fun _=>_) (ax (P2.2 ⟨a,E0 j, .tail _ b2⟩) aV)
 have qU:a.af.ls.length≤a.af.c∧a.af.ls.length≤9223372036854775807:=aY dQ (i:=0) rfl (φ:=fun _=>_) (ax (P2.2 ⟨a,E0 j, .tail _ b3⟩) aV)
 have nG:=dQ.px [2,3,4,5,6,7,8,9,10] [1] []
 obtain⟨rfl,rfl⟩:=gm (hr.symm.trans (show _=(p0,b) from et (ai aS) (et (ip bf) (et (ai (bF bq)) (et (ai bu) (ip aJ))))))
 exact⟨af,ag,aa,r,s,z,t,u,B,d,m,l,K,L,C,M,N,E,O,P,F,Q,R,G,S,T,I,rfl,nG,aK,ah,aj,U,ak,au,av,ay,aC⟩
 refine gw (.pointer (some ⟨ab d,ao d+(D2 h) *9,none⟩)) (dF aJ) (F9 rfl) (Gz (.pointer (some ⟨ab d,ao d+(D2 h) *9,none⟩)) (dF aJ) (Gz (.pointer (some ⟨ab d,ao d+(D2 h) *9+6,none⟩)) (dF aJ) (gw (.slice a.bB.A a.bB.ls.length a.bB.c) (dF aJ) (F7 rfl (bX.one P5 (((bZ.rds (i:=16) rfl).elem bz.len j f3).at_ (k:=6) rfl))) (gw (vJ (D2 g)) (dF aJ) (FX (e:=g) (F9 rfl) e6) ?_))))
 obtain⟨iy,aU⟩:=dK (ls:=a.bB.ls) (i:=D2 g) ow f3 (bZ.rds (i:=3) rfl) e9
 refine gw (.pointer (some ⟨ab a.bB.A,ao a.bB.A+(D2 g) *1,none⟩)) (dF aJ) (F4 (xC) rfl rfl ((bZ.rds (i:=3) rfl).addr (i:=D2 g) e6) e6) (gw (.bool iy) (dF aJ) (F7 rfl (bX.one Tryz.isAgg4 (((bZ.rds (i:=3) rfl).elem ow aU f3).at_ (k:=0) rfl))) (fw (.bool iy) (FZ rfl (dF aJ) rfl) (nt ?_)))
 rcases JS (iy) with bR | bR
 refine jT bR (rt (tR (Fin.res (res0 rfl) ?_)))
 have nH:=bZ.pf [1,2,3,4,5,6,7]
 have dS:=qQ (f:=bz.own) j nH
 have qV:a.bO.ls.length≤a.bO.c∧a.bO.ls.length≤9223372036854775807:=aY dS (i:=0) rfl (φ:=fun _=>_) (ax (P2.2 ⟨a,E0 j,b1⟩) aV)
 have qW:a.aD.ls.length≤a.aD.c∧a.aD.ls.length≤9223372036854775807:=aY dS (i:=0) rfl (φ:=fun _=>_) (ax (P2.2 ⟨a,E0 j, .tail _ b1⟩) aV)
 have qY:a.bB.ls.length≤a.bB.c∧a.bB.ls.length≤9223372036854775807:=aY dS (i:=0) rfl (φ:=fun _=>_) (ax (P2.2 ⟨a,E0 j, .tail _ b2⟩) aV)
 have qZ:a.af.ls.length≤a.af.c∧a.af.ls.length≤9223372036854775807:=aY dS (i:=0) rfl (φ:=fun _=>_) (ax (P2.2 ⟨a,E0 j, .tail _ b3⟩) aV)
 have nI:=dS.px [2,3,4,5,6,7,8,9,10] [1] []
 obtain⟨rfl,rfl⟩:=gm (hr.symm.trans (show _=(p0,b) from et (ai aS) (et (ip bf) (et (ai (bF bq)) (et (ai bu) (et (iN aJ) (et (ai (bF aU)) (ip bR))))))))
 exact⟨af,ag,aa,r,s,z,t,u,B,d,m,l,K,L,C,M,N,E,O,P,F,Q,R,G,S,T,I,rfl,nI,aK,ah,aj,U,ak,au,av,ay,aC⟩
 refine jF bR (sk (FW (FW ?_)))
 refine oL 27 [] (Gb (Gb Gj)) bZ ?_
 intro rW iA
 refine qp dn 4 0 rfl (ql 1 rfl 0 C6 rfl rfl rfl (qt (v:= .bool (decide (¬ (W.cZ=3)))) 2 rfl (fun _ _=>Gm (e:= !(decide (W.cZ=3))) yk decide_not.symm) (qv 3 rfl rfl ?_)))
 by_cases V:W.cZ=3
 refine F8 (v:=vP dn 19) (rs:= []) 4 rfl rfl rfl (dF (JR V)) e7 (fun _ _=>yk) (F8 (v:= .slice bI W.ah.ls.length bi) (rs:= []) 5 rfl rfl rfl (dF (JR V)) e7 (fun _ ⟨_,H9⟩=>F7 rfl (bX.one Tryz.isAgg40 (jL.of (H9.cls (i:=0) rfl) rfl))) (F8 (v:=vJ W.ah.ls.length) (rs:= []) 6 rfl rfl rfl (dF (JR V)) e7 (fun _ _=>yk) (F8 (v:= .pointer (some ⟨ab d,ao d+(D2 h) *9,none⟩)) (rs:= []) 7 rfl rfl rfl (dF (JR V)) e7 (fun _ _=>F9 rfl) (F8 (v:= .pointer (some ⟨ab d,ao d+(D2 h) *9,none⟩)) (rs:= []) 8 rfl rfl rfl (dF (JR V)) e7 (fun _ _=>yk) (F8 (v:= .pointer (some ⟨ab d,ao d+(D2 h) *9+5,none⟩)) (rs:= []) 9 rfl rfl rfl (dF (JR V)) e7 (fun _ _=>yk) (F8 (v:= .slice a.aD.A a.aD.ls.length a.aD.c) (rs:= []) 10 rfl rfl rfl (dF (JR V)) e7 (fun _ ⟨_,H9⟩=>F7 rfl (bX.one Tryz.isAgg103 (((H9.rds (i:=16) rfl).elem bz.len j f3).at_ (k:=5) rfl))) (F8 (v:=vJ (D2 g)) (rs:= []) 11 rfl rfl rfl (dF (JR V)) e7 (fun _ _=>FX (e:=g) (F9 rfl) e6) ?_)))))))
 obtain⟨bS,fV⟩:=jo (ls:=a.aD.ls) (i:=D2 g) e9
 have dU:=fo (rfl:s8 bD.abs a.aD.ls=s8 bD.abs a.aD.ls) fV
 refine F8 (v:= .pointer (some ⟨ab a.aD.A,ao a.aD.A+(D2 g) *3,none⟩)) (rs:= []) 12 rfl rfl rfl (dF (JR V)) e7 (fun _ ⟨_,H9⟩=>F4 (tK) rfl rfl ((H9.rds (i:=2) rfl).addr (i:=D2 g) e6) e6) (F8 (v:= .pointer (some ⟨ab a.aD.A,ao a.aD.A+(D2 g) *3+1,none⟩)) (rs:= []) 13 rfl rfl rfl (dF (JR V)) e7 (fun _ _=>yk) (F8 (v:= .slice bS.aF.A bS.aF.ls.length bS.aF.c) (rs:= []) 14 rfl rfl rfl (dF (JR V)) e7 (fun _ ⟨_,H9⟩=>F7 rfl (bX.one Tryz.isAgg39 (((H9.rds (i:=2) rfl).elem bD.len fV f3).at_ (k:=1) rfl))) (F8 (v:=vJ bS.aF.ls.length) (rs:= []) 15 rfl rfl rfl (dF (JR V)) e7 (fun _ _=>yk) (F8 (v:= .bool (decide (¬ (((W.ah.ls.length:Nat):Int)=((bS.aF.ls.length:Nat):Int))))) (rs:= []) 16 rfl rfl rfl (dF (JR V)) e7 (fun _ _=>Gm (e:= !(decide (((W.ah.ls.length:Nat):Int)=((bS.aF.ls.length:Nat):Int)))) yk decide_not.symm) (qt (v:= .bool (decide (¬ (((W.ah.ls.length:Nat):Int)=((bS.aF.ls.length:Nat):Int))))) 17 rfl (fun _ _=>FZ rfl (dF (JR V)) rfl) (qn (FY ?_)))))))
 by_cases dV:((W.ah.ls.length:Nat):Int)=((bS.aF.ls.length:Nat):Int)
 refine jF (dF (JR dV)) (sk (FW ?_))
 refine oL 27 [14,16] (Gb Gj) iA ?_
 intro rX jD
 refine qv 0 rfl rfl (qk (.pointer (some ⟨ab d,ao d+(D2 h) *9,none⟩)) 1 rfl (qk (.pointer (some ⟨ab d,ao d+(D2 h) *9+6,none⟩)) 2 rfl (qt (v:= .slice a.bB.A a.bB.ls.length a.bB.c) 3 rfl (fun _ ⟨_,H9⟩=>F7 rfl (bX.one P5 (((H9.rds (i:=16) rfl).elem bz.len j f3).at_ (k:=6) rfl))) (qt (v:=vJ (D2 g)) 4 rfl (fun _ _=>FX (e:=g) (F9 rfl) e6) (qv 5 rfl rfl (qk (.pointer (some ⟨ab d,ao d+(D2 h) *9,none⟩)) 6 rfl (qk (.pointer (some ⟨ab d,ao d+(D2 h) *9+7,none⟩)) 7 rfl (qt (v:= .slice a.af.A a.af.ls.length a.af.c) 8 rfl (fun _ ⟨_,H9⟩=>F7 rfl (bX.one Tryz.isAgg105 (((H9.rds (i:=16) rfl).elem bz.len j f3).at_ (k:=7) rfl))) (Gu (v:=vJ (D2 g)) 9 rfl e7 (fun _=>FX (e:=g) (F9 rfl) e6) (qp dn 19 10 rfl (ql 11 rfl 0 Tryz.isAgg40 rfl rfl rfl ?_)))))))))))
 obtain⟨Y,bL⟩:∃ q,iO W.ah.ls=q:=⟨_,rfl⟩
 obtain⟨q8,iC,dW,iD,nJ⟩:=F3 jD
 refine qd 12 rfl (Gg Tryz.call48 rfl (lV _ _ bI W.ah.ls.length bi bO W.ah.ls Y iC bW (dW _ dz) (fun x9 h9=>⟨dW _ (bJ x9 h9).1,(bJ x9 h9).2⟩) rfl e6 (by first | assumption | exact dE f4 | (intro x hx; exact absurd hx List.not_mem_nil)) bL) ?_)
 rintro _ rq ⟨n,p,J,rfl,iE,aM⟩
 have fZ:=iD _ _ iE
 have nK:=az aM
 have nL:=fZ.rowC (i:=0) rfl
 have nM:mU Y:=by rw [← bL]; show mU W.ah.ls; assumption
 have gp:=fZ.pb [0,1]
 refine⟨.inr ⟨_,gp⟩, ?_⟩
 refine qt (v:= .pointer (some ⟨ab a.bB.A,ao a.bB.A+(D2 g) *1,none⟩)) 13 rfl (fun _ ⟨_,H9⟩=>F4 (xC) rfl rfl ((H9.rds (i:=3) rfl).addr (i:=D2 g) e6) e6) ?_
 have jG:=gp.pf [3]
 refine qe 14 rfl (Do.storeRow (vs:= [.bool true]) (o:=(D2 g) *1+0) (q:=ao a.bB.A+(D2 g) *1) jG rfl e6 rfl Tryz.sizeOf4 rfl rfl (JO rfl) (iK ow aU (JO rfl)) (jE (y:=true) ow rfl (JO rfl) aU) ?_)
 intro ru gq
 refine⟨.inl e7, ?_⟩
 obtain⟨bB,bG⟩:=jo (ls:=a.af.ls) (i:=D2 g) e9
 have nN:=fo (rfl:s8 bK.abs a.af.ls=s8 bK.abs a.af.ls) bG
 refine Gu (v:= .pointer (some ⟨ab a.af.A,ao a.af.A+(D2 g) *1,none⟩)) 15 rfl e7 (fun _=>F4 (wu) rfl rfl ((gq.rds (i:=4) rfl).addr (i:=D2 g) e6) e6) ?_
 have jH:=gq.pf [6]
 have jI:=Iy (f:=bK.own) (i:=D2 g) (row bB.A bB.ls.length bB.c (q6 ae.cells bB.ls) 149 3) (sepL (q6 ae.own bB.ls)) rfl bG jH
 have jJ:=jI.px [] [0,1] []
 have jK:=jJ.pf [27,28]
 have jM:=GI (az aM).symm jK
 have jO:=GL (f:=bK.own) (y:=(H3 n p J)) bG jM
 have jP:=jO.pf [5]
 refine qe 16 rfl (Do.storeRow (vs:= [.slice n Y.length p]) (o:=(D2 g) *1+0) (q:=ao a.af.A+(D2 g) *1) jP rfl e6 rfl Tryz.sizeOf40 rfl rfl (JO rfl) (iK rf bG (JO rfl)) (jE (x:=bB) (f:=0) (vs:= [.slice n Y.length p]) (y:=(H3 n p J)) rf (show put ((GD (β:=ae)) bB) 0 ([.slice n Y.length p]:List Value)=(GD (β:=ae)) (H3 n p J) from congrArg (fun z9=>([.slice n z9 p]:List Value)) (az aM).symm) (JO rfl) bG) ?_)
 intro ry jQ
 have nO:s2 (u5 a.af.ls (D2 g) (H3 n p J))=s2 (u5 (s8 bK.abs a.af.ls) (D2 g) (E4 Y)):=az (iB (rfl:s8 bK.abs a.af.ls=s8 bK.abs a.af.ls) (congrArg E4 aM))
 have nP:s2 (u5 (s8 bK.abs a.af.ls) (D2 g) (E4 Y))=s2 (s8 bK.abs a.af.ls):=H5
 refine⟨.inl e7, ?_⟩
 refine qn (FY (FW ?_))
 have gu:=jQ.px [] [3] []
 refine FV (Mz rfl (Kz (.pointer (some ⟨ab d,ao d+(D2 h) *9,none⟩)) (Kz (.pointer (some ⟨ab d,ao d+(D2 h) *9+6,none⟩)) (fw (.slice a.bB.A a.bB.ls.length a.bB.c) (F7 rfl (bX.one P5 (((gu.rds (i:=15) rfl).elem bz.len j f3).at_ (k:=6) rfl))) ?_))))
 have nR:a.bB.ls.length=s2 (u5 a.bB.ls (D2 g) true):=f0
 obtain⟨dX,cz⟩:∃ q,mg (u5 a.bB.ls (D2 g) true) false=q:=⟨_,rfl⟩
 obtain⟨rz,iG,nS,iH,iI⟩:=F3 gu
 refine cl Tryz.call93 (qX _ _ a.bB.A a.bB.ls.length a.bB.c (u5 a.bB.ls (D2 g) true) false dX iG (iI _ 2 _ rfl aP) f0 g4 cz) ?_
 rintro _ dm ⟨rfl,iJ⟩
 have gy:=iH _ _ iJ
 refine Kz (.bool (!dX)) (nt ?_)
 rcases JS (dX) with bT | bT
 refine jF (cn bT) (Gn (Gh (res0 rfl) ?_))
 have jR:=gy.pf [2]
 have jS:=Gs (y:=row a.bB.A (s2 (u5 a.bB.ls (D2 g) true)) a.bB.c (q6 eL (u5 a.bB.ls (D2 g) true)) 4 1) (congrArg (fun z9=>row a.bB.A z9 a.bB.c (q6 eL (u5 a.bB.ls (D2 g) true)) 4 1) (by simp only [H5]:a.bB.ls.length=s2 (u5 a.bB.ls (D2 g) true))) jR
 have jU:=jS.pf [1]
 have jV:=Gs (y:=row a.af.A (s2 (u5 a.af.ls (D2 g) (H3 n p J))) a.af.c (q6 (GD (β:=ae)) (u5 a.af.ls (D2 g) (H3 n p J))) 40 1) (congrArg (fun z9=>row a.af.A z9 a.af.c (q6 (GD (β:=ae)) (u5 a.af.ls (D2 g) (H3 n p J))) 40 1) (by simp only [H5]:a.af.ls.length=s2 (u5 a.af.ls (D2 g) (H3 n p J)))) jU
 have jW:=jV.pf [3,4,1,0,5]
 have jX:=GL (f:=bz.own) (y:=(bz.mk a.aR a.aK a.aM a.cz a.bO a.aD (H3 a.bB.A a.bB.c (u5 a.bB.ls (D2 g) true)) (H3 a.af.A a.af.c (u5 a.af.ls (D2 g) (H3 n p J))) a.dO)) j jW
 have jY:Own w D dm [sepL (q6 bz.own (u5 l (D2 h) (bz.mk a.aR a.aK a.aM a.cz a.bO a.aD (H3 a.bB.A a.bB.c (u5 a.bB.ls (D2 g) true)) (H3 a.af.A a.af.c (u5 a.af.ls (D2 g) (H3 n p J))) a.dO))),blk g0 [vP X 0, .slice af p0.bq.ls.length ag] 98,row af p0.bq.ls.length ag (q6 bC.cells aa) 42 21,sepL (q6 bC.own aa),mK X b aG b.aa.ag.ls.length aH r s t u d m K L M N O P Q R S T,row r b.aa.ak.ls.length s (q6 aA.cells z) 60 5,sepL (q6 aA.own z),row t b.aa.aJ.ls.length u (q6 aT.cells B) 56 4,sepL (q6 aT.own B),row d b.au.ls.length m (q6 bz.cells (u5 l (D2 h) (bz.mk a.aR a.aK a.aM a.cz a.bO a.aD (H3 a.bB.A a.bB.c (u5 a.bB.ls (D2 g) true)) (H3 a.af.A a.af.c (u5 a.af.ls (D2 g) (H3 n p J))) a.dO))) 107 9,row K b.bH.af.ls.length L (q6 ae.cells C) 149 3,sepL (q6 ae.own C),row M b.bf.af.ls.length N (q6 ae.cells E) 149 3,sepL (q6 ae.own E),row O b.bi.af.ls.length P (q6 ae.cells F) 149 3,sepL (q6 ae.own F),row Q b.bn.af.ls.length R (q6 ae.cells G) 149 3,sepL (q6 ae.own G),row S b.aZ.af.ls.length T (q6 ae.cells I) 149 3,sepL (q6 ae.own I)]:=by rw [yJ (f:=bz.cells) (y:=(bz.mk a.aR a.aK a.aM a.cz a.bO a.aD (H3 a.bB.A a.bB.c (u5 a.bB.ls (D2 g) true)) (H3 a.af.A a.af.c (u5 a.af.ls (D2 g) (H3 n p J))) a.dO)) j (by simp only [bz.cells,H5])]; exact jX
 have nT:s2 (u5 l (D2 h) (bz.mk a.aR a.aK a.aM a.cz a.bO a.aD (H3 a.bB.A a.bB.c (u5 a.bB.ls (D2 g) true)) (H3 a.af.A a.af.c (u5 a.af.ls (D2 g) (H3 n p J))) a.dO))=s2 (u5 b.au.ls (D2 h) (dD.mk a.aR a.aK a.aM a.cz (E4 a.bO.ls) (E4 (s8 bD.abs a.aD.ls)) (E4 (u5 a.bB.ls (D2 g) true)) (E4 (u5 (s8 bK.abs a.af.ls) (D2 g) (E4 Y))) a.dO)):=az (iB U (congrArg (fun z0=>(dD.mk a.aR a.aK a.aM a.cz (E4 a.bO.ls) (E4 (s8 bD.abs a.aD.ls)) (E4 (u5 a.bB.ls (D2 g) true)) (E4 z0) a.dO)) (iB (rfl:s8 bK.abs a.af.ls=s8 bK.abs a.af.ls) (congrArg E4 aM))))
 have nU:s2 (u5 b.au.ls (D2 h) (dD.mk a.aR a.aK a.aM a.cz (E4 a.bO.ls) (E4 (s8 bD.abs a.aD.ls)) (E4 (u5 a.bB.ls (D2 g) true)) (E4 (u5 (s8 bK.abs a.af.ls) (D2 g) (E4 Y))) a.dO))=b.au.ls.length:=H5
 have cB:b.au.ls.length=s2 (u5 b.au.ls (D2 h) (dD.mk a.aR a.aK a.aM a.cz (E4 a.bO.ls) (E4 (s8 bD.abs a.aD.ls)) (E4 (u5 a.bB.ls (D2 g) true)) (E4 (u5 (s8 bK.abs a.af.ls) (D2 g) (E4 Y))) a.dO)):=by first | omega | (simp only [H5]; done) | (simp only [H5,p5,s3,G0,p3,p4,H6]; omega)
 have j3:Own w D dm [sepL (q6 bz.own (u5 l (D2 h) (bz.mk a.aR a.aK a.aM a.cz a.bO a.aD (H3 a.bB.A a.bB.c (u5 a.bB.ls (D2 g) true)) (H3 a.af.A a.af.c (u5 a.af.ls (D2 g) (H3 n p J))) a.dO))),blk g0 [vP X 0, .slice af p0.bq.ls.length ag] 98,row af p0.bq.ls.length ag (q6 bC.cells aa) 42 21,sepL (q6 bC.own aa),blk X [vI b.aa.av,vU b.aa.ay,vU b.aa.aX,vU b.aa.aL, .slice aG b.aa.ag.ls.length aH, .slice r b.aa.ak.ls.length s, .slice t b.aa.aJ.ls.length u,vU b.bP, .slice d (s2 (u5 b.au.ls (D2 h) (dD.mk a.aR a.aK a.aM a.cz (E4 a.bO.ls) (E4 (s8 bD.abs a.aD.ls)) (E4 (u5 a.bB.ls (D2 g) true)) (E4 (u5 (s8 bK.abs a.af.ls) (D2 g) (E4 Y))) a.dO))) m, .bool b.bH.cB,vU b.bH.aM,vI b.bH.dw, .slice K b.bH.af.ls.length L, .bool b.bf.cB,vU b.bf.aM,vI b.bf.dw, .slice M b.bf.af.ls.length N, .bool b.bi.cB,vU b.bi.aM,vI b.bi.dw, .slice O b.bi.af.ls.length P, .bool b.bn.cB,vU b.bn.aM,vI b.bn.dw, .slice Q b.bn.af.ls.length R, .bool b.aZ.cB,vU b.aZ.aM,vI b.aZ.dw, .slice S b.aZ.af.ls.length T,vU b.dI,vU b.dz,vU b.dB,vU b.dA,vU b.dC, .pointer none] 86,row r b.aa.ak.ls.length s (q6 aA.cells z) 60 5,sepL (q6 aA.own z),row t b.aa.aJ.ls.length u (q6 aT.cells B) 56 4,sepL (q6 aT.own B),row d (s2 (u5 b.au.ls (D2 h) (dD.mk a.aR a.aK a.aM a.cz (E4 a.bO.ls) (E4 (s8 bD.abs a.aD.ls)) (E4 (u5 a.bB.ls (D2 g) true)) (E4 (u5 (s8 bK.abs a.af.ls) (D2 g) (E4 Y))) a.dO))) m (q6 bz.cells (u5 l (D2 h) (bz.mk a.aR a.aK a.aM a.cz a.bO a.aD (H3 a.bB.A a.bB.c (u5 a.bB.ls (D2 g) true)) (H3 a.af.A a.af.c (u5 a.af.ls (D2 g) (H3 n p J))) a.dO))) 107 9,row K b.bH.af.ls.length L (q6 ae.cells C) 149 3,sepL (q6 ae.own C),row M b.bf.af.ls.length N (q6 ae.cells E) 149 3,sepL (q6 ae.own E),row O b.bi.af.ls.length P (q6 ae.cells F) 149 3,sepL (q6 ae.own F),row Q b.bn.af.ls.length R (q6 ae.cells G) 149 3,sepL (q6 ae.own G),row S b.aZ.af.ls.length T (q6 ae.cells I) 149 3,sepL (q6 ae.own I)]:=by rw [← cB]; exact jY
 have j4:=j3.pf [1,2,3,4,5,6,7,8,9]
 obtain⟨rfl,rfl⟩:=gm (hr.symm.trans (show _=(p0,aB.mk b.aa b.bP (E4 (u5 b.au.ls (D2 h) (dD.mk a.aR a.aK a.aM a.cz (E4 a.bO.ls) (E4 (s8 bD.abs a.aD.ls)) (E4 (u5 a.bB.ls (D2 g) true)) (E4 (u5 (s8 bK.abs a.af.ls) (D2 g) (E4 Y))) a.dO))) b.bH b.bf b.bi b.bn b.aZ b.dI b.dz b.dB b.dA b.dC) from et (ai aS) (et (ip bf) (et (ai (bF bq)) (et (ai bu) (et (iN aJ) (et (ai (bF aU)) (et (gB bR) (et (ip V) (et (ai (bF dU)) (et (ip dV) (et (ai bL) (et (ai cz) (ip bT))))))))))))))
 exact⟨af,ag,aa,r,s,z,t,u,B,d,m,(u5 l (D2 h) (bz.mk a.aR a.aK a.aM a.cz a.bO a.aD (H3 a.bB.A a.bB.c (u5 a.bB.ls (D2 g) true)) (H3 a.af.A a.af.c (u5 a.af.ls (D2 g) (H3 n p J))) a.dO)),K,L,C,M,N,E,O,P,F,Q,R,G,S,T,I,(by first | rfl | (rw [← cB]; done) | (rw [← cB]; rfl)),j4,aK,ah,aj,(iB U (congrArg (fun z0=>(dD.mk a.aR a.aK a.aM a.cz (E4 a.bO.ls) (E4 (s8 bD.abs a.aD.ls)) (E4 (u5 a.bB.ls (D2 g) true)) (E4 z0) a.dO)) (iB (rfl:s8 bK.abs a.af.ls=s8 bK.abs a.af.ls) (congrArg E4 aM)))),ak,au,av,ay,aC⟩
 refine jT (cn bT) (FV ?_)
 have j5:=gy.pf [2]
 have j6:=Gs (y:=row a.bB.A (s2 (u5 a.bB.ls (D2 g) true)) a.bB.c (q6 eL (u5 a.bB.ls (D2 g) true)) 4 1) (congrArg (fun z9=>row a.bB.A z9 a.bB.c (q6 eL (u5 a.bB.ls (D2 g) true)) 4 1) (by simp only [H5]:a.bB.ls.length=s2 (u5 a.bB.ls (D2 g) true))) j5
 have kg:=j6.pf [1]
 have ko:=Gs (y:=row a.af.A (s2 (u5 a.af.ls (D2 g) (H3 n p J))) a.af.c (q6 (GD (β:=ae)) (u5 a.af.ls (D2 g) (H3 n p J))) 40 1) (congrArg (fun z9=>row a.af.A z9 a.af.c (q6 (GD (β:=ae)) (u5 a.af.ls (D2 g) (H3 n p J))) 40 1) (by simp only [H5]:a.af.ls.length=s2 (u5 a.af.ls (D2 g) (H3 n p J)))) kg
 have kr:=ko.pf [3,4,1,0,5]
 have ku:=GL (f:=bz.own) (y:=(bz.mk a.aR a.aK a.aM a.cz a.bO a.aD (H3 a.bB.A a.bB.c (u5 a.bB.ls (D2 g) true)) (H3 a.af.A a.af.c (u5 a.af.ls (D2 g) (H3 n p J))) a.dO)) j kr
 have kv:Own w D dm [sepL (q6 bz.own (u5 l (D2 h) (bz.mk a.aR a.aK a.aM a.cz a.bO a.aD (H3 a.bB.A a.bB.c (u5 a.bB.ls (D2 g) true)) (H3 a.af.A a.af.c (u5 a.af.ls (D2 g) (H3 n p J))) a.dO))),blk g0 [vP X 0, .slice af p0.bq.ls.length ag] 98,row af p0.bq.ls.length ag (q6 bC.cells aa) 42 21,sepL (q6 bC.own aa),mK X b aG b.aa.ag.ls.length aH r s t u d m K L M N O P Q R S T,row r b.aa.ak.ls.length s (q6 aA.cells z) 60 5,sepL (q6 aA.own z),row t b.aa.aJ.ls.length u (q6 aT.cells B) 56 4,sepL (q6 aT.own B),row d b.au.ls.length m (q6 bz.cells (u5 l (D2 h) (bz.mk a.aR a.aK a.aM a.cz a.bO a.aD (H3 a.bB.A a.bB.c (u5 a.bB.ls (D2 g) true)) (H3 a.af.A a.af.c (u5 a.af.ls (D2 g) (H3 n p J))) a.dO))) 107 9,row K b.bH.af.ls.length L (q6 ae.cells C) 149 3,sepL (q6 ae.own C),row M b.bf.af.ls.length N (q6 ae.cells E) 149 3,sepL (q6 ae.own E),row O b.bi.af.ls.length P (q6 ae.cells F) 149 3,sepL (q6 ae.own F),row Q b.bn.af.ls.length R (q6 ae.cells G) 149 3,sepL (q6 ae.own G),row S b.aZ.af.ls.length T (q6 ae.cells I) 149 3,sepL (q6 ae.own I)]:=by rw [yJ (f:=bz.cells) (y:=(bz.mk a.aR a.aK a.aM a.cz a.bO a.aD (H3 a.bB.A a.bB.c (u5 a.bB.ls (D2 g) true)) (H3 a.af.A a.af.c (u5 a.af.ls (D2 g) (H3 n p J))) a.dO)) j (by simp only [bz.cells,H5])]; exact ku
 have nV:s2 (u5 l (D2 h) (bz.mk a.aR a.aK a.aM a.cz a.bO a.aD (H3 a.bB.A a.bB.c (u5 a.bB.ls (D2 g) true)) (H3 a.af.A a.af.c (u5 a.af.ls (D2 g) (H3 n p J))) a.dO))=s2 (u5 b.au.ls (D2 h) (dD.mk a.aR a.aK a.aM a.cz (E4 a.bO.ls) (E4 (s8 bD.abs a.aD.ls)) (E4 (u5 a.bB.ls (D2 g) true)) (E4 (u5 (s8 bK.abs a.af.ls) (D2 g) (E4 Y))) a.dO)):=az (iB U (congrArg (fun z0=>(dD.mk a.aR a.aK a.aM a.cz (E4 a.bO.ls) (E4 (s8 bD.abs a.aD.ls)) (E4 (u5 a.bB.ls (D2 g) true)) (E4 z0) a.dO)) (iB (rfl:s8 bK.abs a.af.ls=s8 bK.abs a.af.ls) (congrArg E4 aM))))
 have nW:s2 (u5 b.au.ls (D2 h) (dD.mk a.aR a.aK a.aM a.cz (E4 a.bO.ls) (E4 (s8 bD.abs a.aD.ls)) (E4 (u5 a.bB.ls (D2 g) true)) (E4 (u5 (s8 bK.abs a.af.ls) (D2 g) (E4 Y))) a.dO))=b.au.ls.length:=H5
 refine Mz rfl (Mz rfl ?_)
 have cK:b.au.ls.length=s2 (u5 b.au.ls (D2 h) (dD.mk a.aR a.aK a.aM a.cz (E4 a.bO.ls) (E4 (s8 bD.abs a.aD.ls)) (E4 (u5 a.bB.ls (D2 g) true)) (E4 (u5 (s8 bK.abs a.af.ls) (D2 g) (E4 Y))) a.dO)):=by first | omega | (simp only [H5]; done) | (simp only [H5,p5,s3,G0,p3,p4,H6]; omega)
 have kw:Own w D dm [sepL (q6 bz.own (u5 l (D2 h) (bz.mk a.aR a.aK a.aM a.cz a.bO a.aD (H3 a.bB.A a.bB.c (u5 a.bB.ls (D2 g) true)) (H3 a.af.A a.af.c (u5 a.af.ls (D2 g) (H3 n p J))) a.dO))),blk g0 [vP X 0, .slice af p0.bq.ls.length ag] 98,row af p0.bq.ls.length ag (q6 bC.cells aa) 42 21,sepL (q6 bC.own aa),blk X [vI b.aa.av,vU b.aa.ay,vU b.aa.aX,vU b.aa.aL, .slice aG b.aa.ag.ls.length aH, .slice r b.aa.ak.ls.length s, .slice t b.aa.aJ.ls.length u,vU b.bP, .slice d (s2 (u5 b.au.ls (D2 h) (dD.mk a.aR a.aK a.aM a.cz (E4 a.bO.ls) (E4 (s8 bD.abs a.aD.ls)) (E4 (u5 a.bB.ls (D2 g) true)) (E4 (u5 (s8 bK.abs a.af.ls) (D2 g) (E4 Y))) a.dO))) m, .bool b.bH.cB,vU b.bH.aM,vI b.bH.dw, .slice K b.bH.af.ls.length L, .bool b.bf.cB,vU b.bf.aM,vI b.bf.dw, .slice M b.bf.af.ls.length N, .bool b.bi.cB,vU b.bi.aM,vI b.bi.dw, .slice O b.bi.af.ls.length P, .bool b.bn.cB,vU b.bn.aM,vI b.bn.dw, .slice Q b.bn.af.ls.length R, .bool b.aZ.cB,vU b.aZ.aM,vI b.aZ.dw, .slice S b.aZ.af.ls.length T,vU b.dI,vU b.dz,vU b.dB,vU b.dA,vU b.dC, .pointer none] 86,row r b.aa.ak.ls.length s (q6 aA.cells z) 60 5,sepL (q6 aA.own z),row t b.aa.aJ.ls.length u (q6 aT.cells B) 56 4,sepL (q6 aT.own B),row d (s2 (u5 b.au.ls (D2 h) (dD.mk a.aR a.aK a.aM a.cz (E4 a.bO.ls) (E4 (s8 bD.abs a.aD.ls)) (E4 (u5 a.bB.ls (D2 g) true)) (E4 (u5 (s8 bK.abs a.af.ls) (D2 g) (E4 Y))) a.dO))) m (q6 bz.cells (u5 l (D2 h) (bz.mk a.aR a.aK a.aM a.cz a.bO a.aD (H3 a.bB.A a.bB.c (u5 a.bB.ls (D2 g) true)) (H3 a.af.A a.af.c (u5 a.af.ls (D2 g) (H3 n p J))) a.dO))) 107 9,row K b.bH.af.ls.length L (q6 ae.cells C) 149 3,sepL (q6 ae.own C),row M b.bf.af.ls.length N (q6 ae.cells E) 149 3,sepL (q6 ae.own E),row O b.bi.af.ls.length P (q6 ae.cells F) 149 3,sepL (q6 ae.own F),row Q b.bn.af.ls.length R (q6 ae.cells G) 149 3,sepL (q6 ae.own G),row S b.aZ.af.ls.length T (q6 ae.cells I) 149 3,sepL (q6 ae.own I)]:=by rw [← cK]; exact kv
 have ky:=kw.pf [1,2,3,4,5,6,7,8,9]
 obtain⟨⟨gz,Z⟩,dY⟩:∃ q:bE × aB,jA p0 h (aB.mk b.aa b.bP (E4 (u5 b.au.ls (D2 h) (dD.mk a.aR a.aK a.aM a.cz (E4 a.bO.ls) (E4 (s8 bD.abs a.aD.ls)) (E4 (u5 a.bB.ls (D2 g) true)) (E4 (u5 (s8 bK.abs a.af.ls) (D2 g) (E4 Y))) a.dO))) b.bH b.bf b.bi b.bn b.aZ b.dI b.dz b.dB b.dA b.dC)=q:=⟨_,rfl⟩
 obtain⟨rA,iL,nX,iM,nY⟩:=Ii ky
 refine cl Tryz.call94 (uM _ _ g0 p0 af ag aa h X (aB.mk b.aa b.bP (E4 (u5 b.au.ls (D2 h) (dD.mk a.aR a.aK a.aM a.cz (E4 a.bO.ls) (E4 (s8 bD.abs a.aD.ls)) (E4 (u5 a.bB.ls (D2 g) true)) (E4 (u5 (s8 bK.abs a.af.ls) (D2 g) (E4 Y))) a.dO))) b.bH b.bf b.bi b.bn b.aZ b.dI b.dz b.dB b.dA b.dC) aG aH r s z t u B d m (u5 l (D2 h) (bz.mk a.aR a.aK a.aM a.cz a.bO a.aD (H3 a.bB.A a.bB.c (u5 a.bB.ls (D2 g) true)) (H3 a.af.A a.af.c (u5 a.af.ls (D2 g) (H3 n p J))) a.dO)) K L C M N E O P F Q R G S T I gz Z iL aK ah aj (iB U (congrArg (fun z0=>(dD.mk a.aR a.aK a.aM a.cz (E4 a.bO.ls) (E4 (s8 bD.abs a.aD.ls)) (E4 (u5 a.bB.ls (D2 g) true)) (E4 z0) a.dO)) (iB (rfl:s8 bK.abs a.af.ls=s8 bK.abs a.af.ls) (congrArg E4 aM)))) ak au av ay aC e8 (by first | assumption | exact Mk.act f4 | exact mI f8 (oh (x:=bz.abs a) aL f4) | exact mI f8 (qf (x:=bz.abs a) aL _)) e8 dY) ?_
 rintro _ rC ⟨kz,kC,kD,kE,kF,kG,kH,kI,kJ,kK,kL,kM,kN,kP,kQ,kR,kS,kT,kU,kV,kW,kX,kY,kZ,lc,lg,lh,rfl,iP,dZ,d9,ed,ek,eu,eB,eD,eF,eG⟩
 have aN:=iM _ _ iP
 have nZ:=az dZ
 have og:=az d9
 have ol:=az ed
 have om:=az ek
 have oo:=az eu
 have oq:=az eB
 have ou:=az eD
 have oz:=az eF
 have oC:=az eG
 have oD:=aN.rowC (i:=1) rfl
 have oF:=aN.rowC (i:=4) rfl
 have oG:=aN.rowC (i:=6) rfl
 have oH:=aN.rowC (i:=8) rfl
 have oI:=aN.rowC (i:=10) rfl
 have oJ:=aN.rowC (i:=12) rfl
 have oK:=aN.rowC (i:=14) rfl
 have oM:=aN.rowC (i:=16) rfl
 have oN:=aN.rowC (i:=18) rfl
 refine WL.nil (Gh (res0 rfl) ?_)
 have ll:=aN.pf []
 obtain⟨rfl,rfl⟩:=gm (hr.symm.trans (show _=(gz,aB.mk (di.mk Z.aa.av Z.aa.ay Z.aa.aX Z.aa.aL (E4 b.aa.ag.ls) (E4 Z.aa.ak.ls) (E4 Z.aa.aJ.ls)) Z.bP (E4 Z.au.ls) Z.bH Z.bf Z.bi Z.bn Z.aZ Z.dI Z.dz Z.dB Z.dA Z.dC) from et (ai aS) (et (ip bf) (et (ai (bF bq)) (et (ai bu) (et (iN aJ) (et (ai (bF aU)) (et (gB bR) (et (ip V) (et (ai (bF dU)) (et (ip dV) (et (ai bL) (et (ai cz) (et (gB bT) (ai dY)))))))))))))))
 exact⟨kz,kC,kD,kE,kF,kG,kH,kI,kJ,kK,kL,kM,kN,kP,kQ,kR,kS,kT,kU,kV,kW,kX,kY,kZ,lc,lg,lh,(by first | rfl | (rw [← cK]; done) | (rw [← cK]; rfl)),ll,dZ,d9,ed,ek,eu,eB,eD,eF,eG⟩
 refine jT (dT dV) (sr ?_)
 have lm:=iA.pf [1,2,3,4,5,6,7]
 have bU:=qQ (f:=bz.own) j lm
 have oO:a.bO.ls.length≤a.bO.c∧a.bO.ls.length≤9223372036854775807:=aY bU (i:=0) rfl (φ:=fun _=>_) (ax (P2.2 ⟨a,E0 j,b1⟩) aV)
 have oP:a.aD.ls.length≤a.aD.c∧a.aD.ls.length≤9223372036854775807:=aY bU (i:=0) rfl (φ:=fun _=>_) (ax (P2.2 ⟨a,E0 j, .tail _ b1⟩) aV)
 have oQ:a.bB.ls.length≤a.bB.c∧a.bB.ls.length≤9223372036854775807:=aY bU (i:=0) rfl (φ:=fun _=>_) (ax (P2.2 ⟨a,E0 j, .tail _ b2⟩) aV)
 have oU:a.af.ls.length≤a.af.c∧a.af.ls.length≤9223372036854775807:=aY bU (i:=0) rfl (φ:=fun _=>_) (ax (P2.2 ⟨a,E0 j, .tail _ b3⟩) aV)
 refine Mz rfl (Mz rfl ?_)
 have lq:=bU.px [2,3,4,5,10] [] [1,6,7,8,9]
 obtain⟨⟨gF,aD⟩,eO⟩:∃ q:bE × aB,eH p0 h b=q:=⟨_,rfl⟩
 obtain⟨rD,iQ,oV,iR,oW⟩:=G6 lq
 refine cl Tryz.call63 (mR _ _ g0 p0 af ag aa h X b aG aH r s t u d m l K L C M N E O P F Q R G S T I gF aD iQ aK U ak au av ay aC e8 (by first | assumption | exact Mk.act f4 | exact mI f8 (oh (x:=bz.abs a) aL f4) | exact mI f8 (qf (x:=bz.abs a) aL _)) e8 eO) ?_
 rintro _ rE ⟨lu,lv,lw,lC,lD,lF,lG,lH,lI,lJ,lK,lL,lM,lN,lQ,lS,lT,lU,lW,lX,lZ,rfl,iT,eP,eT,eU,eX,eY,eZ,fe⟩
 have aX:=iR _ _ iT
 have oZ:=az eP
 have o5:=az eT
 have o6:=az eU
 have o7:=az eX
 have o8:=az eY
 have o9:=az eZ
 have pg:=az fe
 have pq:=aX.rowC (i:=1) rfl
 have pz:=aX.rowC (i:=4) rfl
 have pE:=aX.rowC (i:=6) rfl
 have pF:=aX.rowC (i:=8) rfl
 have pG:=aX.rowC (i:=10) rfl
 have pI:=aX.rowC (i:=12) rfl
 have pJ:=aX.rowC (i:=14) rfl
 refine nt (rt (tR (Fin.res (res0 rfl) ?_)))
 have l5:=aX.px [0,1,2,3,17,18,19,20] [16] []
 obtain⟨rfl,rfl⟩:=gm (hr.symm.trans (show _=(gF,aB.mk (di.mk aD.aa.av aD.aa.ay aD.aa.aX aD.aa.aL (E4 b.aa.ag.ls) (E4 b.aa.ak.ls) (E4 b.aa.aJ.ls)) aD.bP (E4 aD.au.ls) aD.bH aD.bf aD.bi aD.bn aD.aZ aD.dI aD.dz aD.dB aD.dA aD.dC) from et (ai aS) (et (ip bf) (et (ai (bF bq)) (et (ai bu) (et (iN aJ) (et (ai (bF aU)) (et (gB bR) (et (ip V) (et (ai (bF dU)) (et (iN dV) (ai eO))))))))))))
 exact⟨lu,lv,lw,r,s,z,t,u,B,lC,lD,lF,lG,lH,lI,lJ,lK,lL,lM,lN,lQ,lS,lT,lU,lW,lX,lZ,rfl,l5,eP,ah,aj,eT,eU,eX,eY,eZ,fe⟩
 refine F5 (rs:= []) 4 rfl rfl rfl (dT V) e7 (F5 (rs:= []) 5 rfl rfl rfl (dT V) e7 (F5 (rs:= []) 6 rfl rfl rfl (dT V) e7 (F5 (rs:= []) 7 rfl rfl rfl (dT V) e7 (F5 (rs:= []) 8 rfl rfl rfl (dT V) e7 (F5 (rs:= []) 9 rfl rfl rfl (dT V) e7 (F5 (rs:= []) 10 rfl rfl rfl (dT V) e7 (F5 (rs:= []) 11 rfl rfl rfl (dT V) e7 (F5 (rs:= []) 12 rfl rfl rfl (dT V) e7 (F5 (rs:= []) 13 rfl rfl rfl (dT V) e7 (F5 (rs:= []) 14 rfl rfl rfl (dT V) e7 (F5 (rs:= []) 15 rfl rfl rfl (dT V) e7 (F5 (rs:= []) 16 rfl rfl rfl (dT V) e7 (qt (v:= .bool true) 17 rfl (fun _ _=>Gd rfl (dT V) rfl) (qn (FY (jt (sr ?_)))))))))))))))))
 have l6:=iA.pf [1,2,3,4,5,6,7]
 have bV:=qQ (f:=bz.own) j l6
 have pK:a.bO.ls.length≤a.bO.c∧a.bO.ls.length≤9223372036854775807:=aY bV (i:=0) rfl (φ:=fun _=>_) (ax (P2.2 ⟨a,E0 j,b1⟩) aV)
 have pM:a.aD.ls.length≤a.aD.c∧a.aD.ls.length≤9223372036854775807:=aY bV (i:=0) rfl (φ:=fun _=>_) (ax (P2.2 ⟨a,E0 j, .tail _ b1⟩) aV)
 have pO:a.bB.ls.length≤a.bB.c∧a.bB.ls.length≤9223372036854775807:=aY bV (i:=0) rfl (φ:=fun _=>_) (ax (P2.2 ⟨a,E0 j, .tail _ b2⟩) aV)
 have pQ:a.af.ls.length≤a.af.c∧a.af.ls.length≤9223372036854775807:=aY bV (i:=0) rfl (φ:=fun _=>_) (ax (P2.2 ⟨a,E0 j, .tail _ b3⟩) aV)
 refine Mz rfl (Mz rfl ?_)
 have l7:=bV.px [2,3,4,5,10] [] [1,6,7,8,9]
 obtain⟨⟨gG,aF⟩,fq⟩:∃ q:bE × aB,eH p0 h b=q:=⟨_,rfl⟩
 obtain⟨rF,iU,pR,iV,pU⟩:=G6 l7
 refine cl Tryz.call63 (mR _ _ g0 p0 af ag aa h X b aG aH r s t u d m l K L C M N E O P F Q R G S T I gG aF iU aK U ak au av ay aC e8 (by first | assumption | exact Mk.act f4 | exact mI f8 (oh (x:=bz.abs a) aL f4) | exact mI f8 (qf (x:=bz.abs a) aL _)) e8 fq) ?_
 rintro _ rG ⟨l8,l9,ma,mf,mh,mi,mo,mq,mr,mD,mE,mF,mG,mH,mJ,mM,mO,mP,mQ,mV,mW,rfl,iW,fu,fA,fB,fC,fD,fE,fF⟩
 have aZ:=iV _ _ iW
 have pV:=az fu
 have pW:=az fA
 have pX:=az fB
 have pY:=az fC
 have p8:=az fD
 have p9:=az fE
 have qb:=az fF
 have qc:=aZ.rowC (i:=1) rfl
 have qg:=aZ.rowC (i:=4) rfl
 have qh:=aZ.rowC (i:=6) rfl
 have qi:=aZ.rowC (i:=8) rfl
 have qj:=aZ.rowC (i:=10) rfl
 have qm:=aZ.rowC (i:=12) rfl
 have qo:=aZ.rowC (i:=14) rfl
 refine nt (rt (tR (Fin.res (res0 rfl) ?_)))
 have mY:=aZ.px [0,1,2,3,17,18,19,20] [16] []
 obtain⟨rfl,rfl⟩:=gm (hr.symm.trans (show _=(gG,aB.mk (di.mk aF.aa.av aF.aa.ay aF.aa.aX aF.aa.aL (E4 b.aa.ag.ls) (E4 b.aa.ak.ls) (E4 b.aa.aJ.ls)) aF.bP (E4 aF.au.ls) aF.bH aF.bf aF.bi aF.bn aF.aZ aF.dI aF.dz aF.dB aF.dA aF.dC) from et (ai aS) (et (ip bf) (et (ai (bF bq)) (et (ai bu) (et (iN aJ) (et (ai (bF aU)) (et (gB bR) (et (iN V) (ai fq))))))))))
 exact⟨l8,l9,ma,r,s,z,t,u,B,mf,mh,mi,mo,mq,mr,mD,mE,mF,mG,mH,mJ,mM,mO,mP,mQ,mV,mW,rfl,mY,fu,ah,aj,fA,fB,fC,fD,fE,fF⟩
 have h39t:Bool.toNat bQ=0:=by rw [bf]; rfl
 refine jT (cn bf) (rt (tR (Fin.res (res0 rfl) ?_)))
 have mZ:=bn.px [] [0] []
 obtain⟨rfl,rfl⟩:=gm (hr.symm.trans (show _=(p0,b) from et (ai aS) (gB bf)))
 exact⟨af,ag,aa,r,s,z,t,u,B,d,m,l,K,L,C,M,N,E,O,P,F,Q,R,G,S,T,I,rfl,mZ,aK,ah,aj,U,ak,au,av,ay,aC⟩
end Go.Proofs.YtbkagebjhbphaaaGreat
