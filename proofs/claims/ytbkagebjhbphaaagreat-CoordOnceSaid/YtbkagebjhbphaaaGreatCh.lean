/-
 coord: a vote.
-/
import Derived.Test.YtbkagebjhbphaaaGreatCc
import Derived.Test.YtbkagebjhbphaaaGreatCg
namespace Go.Proofs.YtbkagebjhbphaaaGreat
open Int renaming toNat→D0
open List renaming flatMap→q3,getD→C0,length→r8,length_append→o1,length_cons→s0,length_drop→o0,length_map→s3,length_nil→F2,length_replicate→H2,length_set→H1,length_take→m9,map→s5,mem_flatMap→Q3,mem_of_getElem?→D3,set→u2
open Ll renaming mk→E2
open Sum renaming inl→B9
open Sv renaming mk→H0
open _root_.Go.Proofs.Tryz renaming isAgg104→Q6,isAgg3→C4,prog→v8
set_option maxRecDepth 100000
open Go.RowKit
set_option linter.unusedVariables false
set_option linter.unusedSectionVars false
set_option linter.unusedSimpArgs false
def fE (a:bL):List gF→Nat→Unit ⊕ Int
  | [],b=>B9 ()
  | c::d,b=>if c.eG=a.aJ then Sum.inr ((b:Nat):Int) else fE a d (b+1)
def gT (l0:List gF) (a:bL):Int:=
 lp (fE a l0 0) fun _=>(-1)
theorem oP (w D E V W d0 l0 m) (a:bL) (d f g h n j l U) (H:Own w D w [blk m (iH a d f g h j l) 42]) (G:s5 bG.abs d0=l0) (C:Ro w D fun w'=>bE w' 3 E V (q3 bG.cells d0)) (I:∀ x ∈ d0,Ro w D (fun w'=>bE w' 6 x.aH.A x.aH.ls.length (q3 bi.cells x.aH.ls))∧(x.aH.ls.length≤x.aH.c∧x.aH.ls.length≤9223372036854775807)∧Ro w D (fun w'=>bE w' 1 x.aJ.A x.aJ.ls.length (q3 (eI .i64) x.aJ.ls))∧(x.aJ.ls.length≤x.aJ.c∧x.aJ.ls.length≤9223372036854775807)) (X:V=l0.length) (ay:l0.length≤9223372036854775807) (J:Ro w D fun w'=>bE w' 6 d a.aH.ls.length (q3 bi.cells a.aH.ls)) (K:a.aH.ls.length≤f∧a.aH.ls.length≤9223372036854775807) (r:s5 ae.abs n=a.ai.ls) (L:Ro w D fun w'=>bE w' 3 g a.ai.ls.length (q3 ae.cells n)) (M:a.ai.ls.length≤h∧a.ai.ls.length≤9223372036854775807) (N:∀ x ∈ n,Ro w D (fun w'=>bE w' 2 x.ak.A x.ak.ls.length (q3 aI.cells x.ak.ls))∧(x.ak.ls.length≤x.ak.c∧x.ak.ls.length≤9223372036854775807)) (O:Ro w D fun w'=>bE w' 2 j a.ag.ls.length (q3 aY.cells a.ag.ls)) (P:a.ag.ls.length≤l∧a.ag.ls.length≤9223372036854775807) (hr:gT l0 a=U):
    Calls v8 91 #[.slice E V W, .func (.func 92) #[] #[vP m 0]] w (d9 fun v w'=>v=vI U∧Own w D w' [blk m (iH a d f g h j l) 42]∧(-1≤U∧U < ((l0.length:Nat):Int))):=by
 subst X
 have ak:=aB G
 have F:=aB r
 refine cb Tryz.func91 ?_
 refine sr (An rfl (Ic (sr (Mz rfl (Kz (vJ l0.length) (Mn rfl (bo ?_)))))))
 have Y:=H.pf []
 obtain⟨Z,s⟩:=nQ fun (b:Nat) w'=>Own w D w' [blk m (iH a d f g h j l) 42]∧b≤l0.length∧fE a l0 0=fE a (List.drop b l0) b
 refine Wp.loop (fun i:Nat=> [(4,vI 0),(8,vJ i),(7,vJ l0.length),(0, .slice E l0.length W),(1, .func (.func 92) #[] #[vP m 0])]) Z (fun i=>l0.length - i) 0 ⟨rfl,rfl,rfl,rfl,rfl,trivial⟩ (s.2 ⟨Y,e6,rfl⟩) ?_
 rintro b az Q
 obtain⟨t,au,u⟩:=s.1 Q
 refine sr (Kz (.bool (decide (((b:Nat):Int) < ((l0.length:Nat):Int)))) (nt (Ic ?_)))
 by_cases R:((b:Nat):Int) < ((l0.length:Nat):Int)
 obtain⟨p,o⟩:=dN (ls:=d0) (i:=b) bG.len f4 (t.ro C) e9
 have S:=fF G o
 have av:=(I _ (D3 o)).2.1
 have ax:=(I _ (D3 o)).2.2.2
 have B:=drop_at S
 refine jT (dT R) (sk (Ic (bo (sr (Mz rfl (Ar rfl (Mz rfl (Mz rfl (Mz rfl (fw (.pointer (some ⟨ab E,ao E+b *3,none⟩)) (Ij (um) rfl rfl ((t.ro C).addr (i:=b) e6) e6) (fw (.agg (bG.cells p).toArray) (Io rfl (Iy (cs:=(bG.cells p)) Tryz.isAgg172 Tryz.sizeOf172 ((t.ro C).elem bG.len o f4))) ?_)))))))))))
 refine WL.do rfl (IK Tryz.call92 rfl rfl ?_ (fun _ _ k=>k))
 refine cb Tryz.func92 ?_
 refine sr ?_
 refine dV (bG.cells p) 172 t ?_
 intro aa aA y
 refine Ar rfl (Kz (vP aa 0) (Lz (vI p.eG) y 0 C4 (Kz (vP m 1) (Lz (vI a.aJ) y 1 C4 (Kz (.bool (decide (p.eG=a.aJ))) (An rfl (rt (rs (nt ?_)))))))))
 by_cases z:p.eG=a.aJ
 refine jT (dT z) (Ic ?_)
 have af:=y.pk [1]
 refine Ib (Mz rfl (An rfl (rt (bR (tR (tR (bR (tR (rs ?_)))))))))
 have ag:=af.pf []
 obtain rfl:_=((b:Nat):Int):=hr.symm.trans (jm (et (u) (et (congrArg (fun q=>fE a q b) B) (ip z))))
 exact⟨rfl,ag,e6⟩
 refine jF (dF z) (IE (bN (Ig ?_)))
 have ah:=y.pk [1]
 refine Ib (fw (vJ (b+1)) (Ie (e:=IntKind.i64.wrap (((b:Nat):Int)+1)) yk f0) (Mz rfl (WL.nil ?_)))
 have ai:=ah.pf []
 exact Ir (b+1) ⟨rfl,rfl,rfl,rfl,rfl,trivial⟩ (s.2 ⟨ai,e6,et (u) (et (congrArg (fun q=>fE a q b) B) (iN z))⟩) (by show l0.length - (b+1) < l0.length - b; omega)
 refine jF (dF R) (Wp.exit (Il ?_))
 have T:fE a l0 0=B9 ():=et (u) (et (congrArg (fun q=>fE a q b) (fB (ls:=l0) (i:=b) e6)) rfl)
 refine Il (IB (Ig (sr (An rfl (rt (rs ?_))))))
 have aj:=t.pf []
 obtain rfl:_=(-1):=hr.symm.trans (nT T)
 exact⟨rfl,aj,e6⟩
def iQ (d:Bool):List Bool→Nat→Unit ⊕ Int
  | [],a=>B9 ()
  | b::c,a=>if d=b then Sum.inr ((a:Nat):Int) else iQ d c (a+1)
def ow (l0:List Bool) (a:Bool):Int:=
 lp (iQ a l0 0) fun _=>(-1)
theorem tq (w D n t u l0 b s) (H:Own w D w []) (m:Ro w D fun w'=>bE w' 1 n t (q3 eL l0)) (x:t=l0.length) (F:l0.length≤9223372036854775807) (hr:ow l0 b=s):
    Calls v8 128 #[.slice n t u, .bool b] w (d9 fun v w'=>v=vI s∧Own w D w' []∧(-1≤s∧s < ((l0.length:Nat):Int))):=by
 subst x
 refine cb Tryz.func128 ?_
 refine sr (An rfl (Ic (sr (Mz rfl (Kz (vJ l0.length) (Mn rfl (bo ?_)))))))
 have y:=H.pk []
 obtain⟨z,d⟩:=nQ fun (a:Nat) w'=>Own w D w' []∧a≤l0.length∧iQ b l0 0=iQ b (List.drop a l0) a
 refine Wp.loop (fun i:Nat=> [(4,vI 0),(8,vJ i),(7,vJ l0.length),(0, .slice n l0.length u),(1, .bool b)]) z (fun i=>l0.length - i) 0 ⟨rfl,rfl,rfl,rfl,rfl,trivial⟩ (d.2 ⟨y,e6,rfl⟩) ?_
 rintro a G o
 obtain⟨c,E,f⟩:=d.1 o
 refine sr (Kz (.bool (decide (((a:Nat):Int) < ((l0.length:Nat):Int)))) (nt (Ic ?_)))
 by_cases p:((a:Nat):Int) < ((l0.length:Nat):Int)
 obtain⟨g,j⟩:=dN (ls:=l0) (i:=a) pq f4 (c.ro m) e9
 have l:=drop_at j
 refine jT (decide_eq_true p) (sk (Ic (bo (sr (Mz rfl (Ar rfl (Mz rfl (Mz rfl (Mz rfl (fw (.pointer (some ⟨ab n,ao n+a *1,none⟩)) (Ij (yc) rfl rfl ((c.ro m).addr (i:=a) e6) e6) (fw (.bool g) (Io rfl (bZ.one Tryz.isAgg4 (((c.ro m).elem pq j f4).at_ (k:=0) rfl))) (fw (.bool (decide (b=g))) (IG (e:=(b==g)) yk (by first | exact Bool.beq_eq_decide_eq _ _ | (by_cases q:b=g <;> simp [q]))) (nt ?_)))))))))))))
 by_cases h:b=g
 refine jT (dT h) (sr (Mz rfl (An rfl (rt (bR (tR (tR (bR (tR (rs ?_))))))))))
 have A:=c.pk []
 obtain rfl:_=((a:Nat):Int):=hr.symm.trans (jm (et (f) (et (congrArg (fun q=>iQ b q a) l) (ip h))))
 exact⟨rfl,A,e6⟩
 refine jF (dF h) (IE (bN (Ig (Ib (fw (vJ (a+1)) (Ie (e:=IntKind.i64.wrap (((a:Nat):Int)+1)) yk f0) (Mz rfl (WL.nil ?_)))))))
 have B:=c.pk []
 exact Ir (a+1) ⟨rfl,rfl,rfl,rfl,rfl,trivial⟩ (d.2 ⟨B,e6,et (f) (et (congrArg (fun q=>iQ b q a) l) (iN h))⟩) (by show l0.length - (a+1) < l0.length - a; omega)
 refine jF (dF p) (Wp.exit (Il ?_))
 have r:iQ b l0 0=B9 ():=et (f) (et (congrArg (fun q=>iQ b q a) (fB (ls:=l0) (i:=a) e6)) rfl)
 refine Il (IB (Ig (sr (An rfl (rt (rs ?_))))))
 have C:=c.pk []
 obtain rfl:_=(-1):=hr.symm.trans (nT r)
 exact⟨rfl,C,e6⟩
def mY (l0:List Bool) (b:Bool):Bool:=
 bnd (ow l0 b) fun a=>decide (a ≥ 0)
theorem rQ (w D i j o l0 h p) (H:Own w D w []) (k:Ro w D fun w'=>bE w' 1 i j (q3 eL l0)) (l:j=l0.length) (s:l0.length≤9223372036854775807) (hr:mY l0 h=p):
    Calls v8 93 #[.slice i j o, .bool h] w (d9 fun v w'=>v= .bool p∧Own w D w' []):=by
 subst l
 refine cb Tryz.func93 ?_
 refine sr (Ar rfl (Mz rfl (Mz rfl ?_)))
 obtain⟨a,b⟩:∃ q,ow l0 h=q:=⟨_,rfl⟩
 obtain⟨t,d,e,f,r⟩:=Ii H
 refine cl Tryz.call128 (tq _ _ i l0.length o l0 h a d (e _ k) rfl e6 b) ?_
 rintro _ u ⟨rfl,g,c⟩
 have m:=f _ _ g
 replace c: -1≤a∧a < ((l0.length:Nat):Int):=c
 refine Kz (.bool (decide (a ≥ 0))) (An rfl (rt (rs ?_)))
 have n:=m.pk []
 obtain rfl:_=decide (a ≥ 0):=hr.symm.trans (ah b)
 exact⟨rfl,n⟩
def kg (i:bI) (k:bL) (a:aA):bI × aA:=
 bnd (bW a.ay.ls k.aN) fun g=>if g.2=true then bnd (C0 a.ay.ls (D0 g.1) default) fun e=>bnd (gT e.aG.ls k) fun f=>if f < 0 then(i,a) else bnd (C0 e.bD.ls (D0 f) default) fun l=>if l=true then(i,a) else if k.dz=3 then bnd (C0 e.aG.ls (D0 f) default) fun m=>if((k.ai.ls.length:Nat):Int)=((m.aH.ls.length:Nat):Int) then bnd (jh k.ai.ls) fun h=>bnd (mY (u2 e.bD.ls (D0 f) true) false) fun j=>if j=true then(i,aA.mk a.aa a.bP (E2 (u2 a.ay.ls (D0 g.1) (dK.mk e.aR e.aM e.aS e.dh (E2 e.bV.ls) (E2 e.aG.ls) (E2 (u2 e.bD.ls (D0 f) true)) (E2 (u2 e.af.ls (D0 f) (E2 h))) e.eO))) a.bK a.bA a.bz a.bv a.bq a.dP a.dH a.dI a.dG a.dJ) else bnd (jQ i g.1 (aA.mk a.aa a.bP (E2 (u2 a.ay.ls (D0 g.1) (dK.mk e.aR e.aM e.aS e.dh (E2 e.bV.ls) (E2 e.aG.ls) (E2 (u2 e.bD.ls (D0 f) true)) (E2 (u2 e.af.ls (D0 f) (E2 h))) e.eO))) a.bK a.bA a.bz a.bv a.bq a.dP a.dH a.dI a.dG a.dJ)) fun b=>(b.1,aA.mk (cZ.mk b.2.aa.au b.2.aa.av b.2.aa.aV b.2.aa.aL (E2 a.aa.ag.ls) (E2 b.2.aa.aj.ls) (E2 b.2.aa.aF.ls)) b.2.bP (E2 b.2.ay.ls) b.2.bK b.2.bA b.2.bz b.2.bv b.2.bq b.2.dP b.2.dH b.2.dI b.2.dG b.2.dJ) else bnd (fq i g.1 a) fun c=>(c.1,aA.mk (cZ.mk c.2.aa.au c.2.aa.av c.2.aa.aV c.2.aa.aL (E2 a.aa.ag.ls) (E2 a.aa.aj.ls) (E2 a.aa.aF.ls)) c.2.bP (E2 c.2.ay.ls) c.2.bK c.2.bA c.2.bz c.2.bv c.2.bq c.2.dP c.2.dH c.2.dI c.2.dG c.2.dJ) else bnd (fq i g.1 a) fun d=>(d.1,aA.mk (cZ.mk d.2.aa.au d.2.aa.av d.2.aa.aV d.2.aa.aL (E2 a.aa.ag.ls) (E2 a.aa.aj.ls) (E2 a.aa.aF.ls)) d.2.bP (E2 d.2.ay.ls) d.2.bK d.2.bA d.2.bz d.2.bv d.2.bq d.2.dP d.2.dH d.2.dI d.2.dG d.2.dJ) else(i,a)
set_option maxHeartbeats 4000000 in
theorem wH (w D g0) (p0:bI) (af ag aa) (W:bL) (df fJ bM bF fK bq bN dh fM bP X) (b:aA) (aG aH r s z t u B d m l K L C M N E O P F Q R G S T I) (r0:bI) (r1:aA) (H:Own w D w (blk g0 [.pointer (some ⟨X,0,none⟩), .slice af p0.aX.ls.length ag] 98::row af p0.aX.ls.length ag (q3 bf.cells aa) 42 21::sepL (q3 bf.own aa)::mX X b aG b.aa.ag.ls.length aH r s z t u B d m l K L C M N E O P F Q R G S T I [])) (aK:s5 bf.abs aa=p0.aX.ls) (gD:fJ=W.aH.ls.length) (gF:Ro w D fun w'=>bE w' 6 df W.aH.ls.length (q3 bi.cells W.aH.ls)) (ng:W.aH.ls.length≤bM∧W.aH.ls.length≤9223372036854775807) (bX:s5 ae.abs bN=W.ai.ls) (gG:fK=W.ai.ls.length) (dz:Ro w D fun w'=>bE w' 3 bF W.ai.ls.length (q3 ae.cells bN)) (ni:W.ai.ls.length≤bq∧W.ai.ls.length≤9223372036854775807) (bH:∀ x ∈ bN,Ro w D (fun w'=>bE w' 2 x.ak.A x.ak.ls.length (q3 aI.cells x.ak.ls))∧(x.ak.ls.length≤x.ak.c∧x.ak.ls.length≤9223372036854775807)) (gH:fM=W.ag.ls.length) (gI:Ro w D fun w'=>bE w' 2 dh W.ag.ls.length (q3 aY.cells W.ag.ls)) (nk:W.ag.ls.length≤bP∧W.ag.ls.length≤9223372036854775807) (ai:s5 aC.abs z=b.aa.aj.ls) (aj:s5 aU.abs B=b.aa.aF.ls) (U:s5 bB.abs l=b.ay.ls) (ak:s5 ae.abs C=b.bK.af.ls) (au:s5 ae.abs E=b.bA.af.ls) (av:s5 ae.abs F=b.bz.af.ls) (ay:s5 ae.abs G=b.bv.af.ls) (az:s5 ae.abs I=b.bq.af.ls) (rE:b.aa.ag.ls.length≤1000∧b.aa.aj.ls.length≤1000∧b.aa.aF.ls.length≤1000∧b.ay.ls.length≤1000∧p0.aX.ls.length≤100000) (rF:Ak b.ay.ls) (rG:W.aH.ls.length≤24∧W.ag.ls.length≤1000∧W.ai.ls.length≤1000∧ky W.aP) (rJ:nI W.ai.ls) (hr:kg p0 W b=(r0,r1)):
    Calls v8 57 #[vP g0 0, .agg (gU W.aD W.aJ W.fI W.aK W.dz W.eH W.aP W.av W.aN W.dY W.aV W.aL W.dL W.cu W.xN W.cz W.bU.bF W.bU.bT df fJ bM bF fK bq dh fM bP).toArray] w (d9 fun v w'=> ∃ dA dB bY gJ gK dC gL gM dD gN gP dE gQ gV dG gW gX dH gY gZ dI ib ig dJ ik il dL,v= .tuple #[]∧Own w D w' (blk g0 [vP X 0, .slice dA r0.aX.ls.length dB] 98::row dA r0.aX.ls.length dB (q3 bf.cells bY) 42 21::sepL (q3 bf.own bY)::mX X r1 aG b.aa.ag.ls.length aH gJ gK dC gL gM dD gN gP dE gQ gV dG gW gX dH gY gZ dI ib ig dJ ik il dL [])∧(s5 bf.abs bY=r0.aX.ls)∧(s5 aC.abs dC=r1.aa.aj.ls)∧(s5 aU.abs dD=r1.aa.aF.ls)∧(s5 bB.abs dE=r1.ay.ls)∧(s5 ae.abs dG=r1.bK.af.ls)∧(s5 ae.abs dH=r1.bA.af.ls)∧(s5 ae.abs dI=r1.bz.af.ls)∧(s5 ae.abs dJ=r1.bv.af.ls)∧(s5 ae.abs dL=r1.bq.af.ls)):=by
 subst gD gG gH
 have mW:=aB aK
 have mZ:=aB bX
 have iT:=aB ai
 have iU:=aB aj
 have iV:=aB U
 have iX:=aB ak
 have iY:=aB au
 have iZ:=aB av
 have ja:=aB ay
 have jc:=aB az
 have nu:=H.rowC (i:=1) rfl
 have jd:=H.rowC (i:=4) rfl
 have jf:=H.rowC (i:=6) rfl
 have jg:=H.rowC (i:=8) rfl
 have ji:=H.rowC (i:=10) rfl
 have jk:=H.rowC (i:=12) rfl
 have jl:=H.rowC (i:=14) rfl
 have jm:=H.rowC (i:=16) rfl
 have jo:=H.rowC (i:=18) rfl
 refine cb Tryz.func57 ?_
 refine sr ?_
 refine dV (iH W df bM bF bq dh bP) 42 H ?_
 intro dn rM ny
 refine nt (Ic ?_)
 refine vX [] (Iu IC) ny ?_
 intro rO bD
 refine qv 0 rfl rfl (qp g0 0 1 rfl (qp g0 0 2 rfl (ql 3 rfl 1 Tryz.isAgg24 rfl rfl rfl (qp dn 8 4 rfl (ql 5 rfl 0 Tryz.isAgg28 rfl rfl rfl ?_)))))
 refine GX.do 6 rfl e7 (Iz Tryz.call62 rfl ?_ (fun _ _ k=>k))
 refine cb Tryz.func62 ?_
 refine sr (Az rfl (Ar rfl (Mz rfl (Kz (vP X 0) (Kz (vP X 8) (Lz (.slice d b.ay.ls.length m) bD 4 Tryz.isAgg79 (Mz rfl ?_)))))))
 obtain⟨⟨h,bQ⟩,aS⟩:∃ q:Int × Bool,bW b.ay.ls W.aN=q:=⟨_,rfl⟩
 obtain⟨rP,jq,qo,jr,aP⟩:=Ii bD
 refine cl Tryz.call102 (jb _ _ d b.ay.ls.length m l b.ay.ls W.aN h bQ jq U (aP _ 9 _ rfl aO) (fun x9 h9=>⟨aP _ 10 _ rfl (ax (Q3.2 ⟨x9,h9,b1⟩) aO),aZ (φ:=fun _=>_) bD (i:=10) rfl (ax (Q3.2 ⟨x9,h9,b1⟩) aW),aP _ 10 _ rfl (ax (Q3.2 ⟨x9,h9, .tail _ b1⟩) aO),aZ (φ:=fun _=>_) bD (i:=10) rfl (ax (Q3.2 ⟨x9,h9, .tail _ b1⟩) aW),(fun y1 k1=>⟨aP _ 10 _ rfl (ax (Q3.2 ⟨x9,h9, .tail _ b4⟩) (ax (Q3.2 ⟨y1,k1,b1⟩) aO)),aZ (φ:=fun _=>_) bD (i:=10) rfl (ax (Q3.2 ⟨x9,h9, .tail _ b4⟩) (ax (Q3.2 ⟨y1,k1,b1⟩) aW)),aP _ 10 _ rfl (ax (Q3.2 ⟨x9,h9, .tail _ b4⟩) (ax (Q3.2 ⟨y1,k1, .tail _ b1⟩) aO)),aZ (φ:=fun _=>_) bD (i:=10) rfl (ax (Q3.2 ⟨x9,h9, .tail _ b4⟩) (ax (Q3.2 ⟨y1,k1, .tail _ b1⟩) aW))⟩),aP _ 10 _ rfl (ax (Q3.2 ⟨x9,h9, .tail _ b2⟩) aO),aZ (φ:=fun _=>_) bD (i:=10) rfl (ax (Q3.2 ⟨x9,h9, .tail _ b2⟩) aW),aP _ 10 _ rfl (ax (Q3.2 ⟨x9,h9, .tail _ b3⟩) aO),aZ (φ:=fun _=>_) bD (i:=10) rfl (ax (Q3.2 ⟨x9,h9, .tail _ b3⟩) aW),(fun y1 k1=>⟨aP _ 10 _ rfl (ax (Q3.2 ⟨x9,h9, .tail _ b5⟩) (ax (Q3.2 ⟨y1,k1,b1⟩) aO)),aZ (φ:=fun _=>_) bD (i:=10) rfl (ax (Q3.2 ⟨x9,h9, .tail _ b5⟩) (ax (Q3.2 ⟨y1,k1,b1⟩) aW)),(fun y2 k2=>⟨aP _ 10 _ rfl (ax (Q3.2 ⟨x9,h9, .tail _ b5⟩) (ax (Q3.2 ⟨y1,k1, .tail _ b1⟩) (ax (Q3.2 ⟨y2,k2,b1⟩) aO))),aZ (φ:=fun _=>_) bD (i:=10) rfl (ax (Q3.2 ⟨x9,h9, .tail _ b5⟩) (ax (Q3.2 ⟨y1,k1, .tail _ b1⟩) (ax (Q3.2 ⟨y2,k2,b1⟩) aW)))⟩)⟩)⟩) rfl e6 aS) ?_
 rintro _ rR ⟨rfl,jv,fO,fP⟩
 have bu:=jr _ _ jv
 replace fO:0≤h∧h≤((b.ay.ls.length:Nat):Int):=fO
 replace fP:Bool.toNat bQ=0∨h < ((b.ay.ls.length:Nat):Int):=fP
 refine Kz (vI h) (Kz (.bool bQ) (Az rfl (An rfl (rt (Fin.res (lW rfl rfl rfl) ?_)))))
 refine⟨.inr ⟨_,bu⟩, ?_⟩
 refine qv 7 rfl rfl (qk (vI h) 8 rfl (qk (.bool bQ) 9 rfl (qa 10 rfl rfl (qa 11 rfl rfl (qn (Ig (Ic (sr (Mz rfl (Kz (.bool (!bQ)) (nt ?_)))))))))))
 rcases Li (bQ) with bg | bg
 have h39t:Bool.toNat bQ=1:=by rw [bg]; rfl
 refine jF (cn bg) (sk (sr (Mz rfl (Kz (vP g0 0) (Kz (vP g0 0) (Lz (vP X 0) bu 1 Tryz.isAgg24 (Kz (vP X 0) (Kz (vP X 8) (Lz (.slice d b.ay.ls.length m) bu 4 Tryz.isAgg79 (fw (vJ (D0 h)) (Ie (e:=h) (Iq rfl) e6) ?_))))))))))
 obtain⟨a,j⟩:=dN (ls:=l) (i:=D0 h) bB.len f4 (bu.rds (i:=9) rfl) e9
 have bv:=fF U j
 have qx:a.bV.ls.length≤a.bV.c∧a.bV.ls.length≤9223372036854775807:=aZ bu (i:=10) rfl (φ:=fun _=>_) (ax (Q3.2 ⟨a,D3 j,b1⟩) aW)
 have qy:a.aG.ls.length≤a.aG.c∧a.aG.ls.length≤9223372036854775807:=aZ bu (i:=10) rfl (φ:=fun _=>_) (ax (Q3.2 ⟨a,D3 j, .tail _ b1⟩) aW)
 have qz:a.bD.ls.length≤a.bD.c∧a.bD.ls.length≤9223372036854775807:=aZ bu (i:=10) rfl (φ:=fun _=>_) (ax (Q3.2 ⟨a,D3 j, .tail _ b2⟩) aW)
 have qA:a.af.ls.length≤a.af.c∧a.af.ls.length≤9223372036854775807:=aZ bu (i:=10) rfl (φ:=fun _=>_) (ax (Q3.2 ⟨a,D3 j, .tail _ b3⟩) aW)
 have aL:Tok (bB.abs a):=yz f8 bv
 have qB:1≤a.aM∧a.aM≤4:=aL.uh
 have qC:a.bD.ls.length=a.aG.ls.length:=by have q9:=aL.yes; simp only [bB.abs,s3] at q9; exact q9
 have qD:a.af.ls.length=a.aG.ls.length:=by have q9:=aL.res; simp only [bB.abs,s3] at q9; exact q9
 have qE:a.aG.ls.length≤5:=by have q9:=aL.len; simp only [bB.abs,s3] at q9; exact q9
 have qF:a.bV.ls.length≤24:=aL.ops.1
 refine fw (.pointer (some ⟨ab d,ao d+(D0 h) *9,none⟩)) (Ij (qh) rfl rfl ((bu.rds (i:=9) rfl).addr (i:=D0 h) e6) e6) (Ar rfl ?_)
 have nz:=bu.pf [10]
 have dw:=JV (f:=bB.own) (i:=D0 h) (row a.bV.A a.bV.ls.length a.bV.c (q3 bi.cells a.bV.ls) 72 6) (row a.aG.A a.aG.ls.length a.aG.c (q3 bG.cells a.aG.ls) 172 3) (row a.bD.A a.bD.ls.length a.bD.c (q3 eL a.bD.ls) 4 1) (row a.af.A a.af.ls.length a.af.c (q3 (IX (β:=ae)) a.af.ls) 40 1) (sepL (q3 bG.own a.aG.ls)) (sepL (q3 bO.own a.af.ls)) rfl j nz
 have qG:=dw.rowC (i:=0) rfl
 have qH:=dw.rowC (i:=1) rfl
 have qI:a.aG.ls.length=r8 (s5 bG.abs a.aG.ls):=aB (rfl:s5 bG.abs a.aG.ls=s5 bG.abs a.aG.ls)
 have qJ:=dw.rowC (i:=2) rfl
 have qK:=dw.rowC (i:=3) rfl
 have qL:a.af.ls.length=r8 (s5 bO.abs a.af.ls):=aB (rfl:s5 bO.abs a.af.ls=s5 bO.abs a.af.ls)
 refine Mz rfl (Kz (.pointer (some ⟨ab d,ao d+(D0 h) *9,none⟩)) (Kz (.pointer (some ⟨ab d,ao d+(D0 h) *9+5,none⟩)) (fw (.slice a.aG.A a.aG.ls.length a.aG.c) (Io rfl (bZ.one Tryz.isAgg103 (((dw.rds (i:=16) rfl).elem bB.len j f4).at_ (k:=5) rfl))) (Kz (.func (.func 92) #[] #[vP dn 0]) ?_))))
 have iq:=dw.pf [7]
 have qM:a.aG.ls.length=r8 (s5 bG.abs a.aG.ls):=f1
 obtain⟨g,bz⟩:∃ q,gT (s5 bG.abs a.aG.ls) W=q:=⟨_,rfl⟩
 obtain⟨rT,jw,di,jy,dO⟩:=II iq
 refine cl Tryz.call91 (oP _ _ a.aG.A a.aG.ls.length a.aG.c a.aG.ls (s5 bG.abs a.aG.ls) dn W df bM bF bq bN dh bP g jw (rfl:s5 bG.abs a.aG.ls=s5 bG.abs a.aG.ls) (dO _ 1 _ rfl aO) (fun x9 h9=>⟨dO _ 4 _ rfl (ax (Q3.2 ⟨x9,h9,b1⟩) aO),aZ (φ:=fun _=>_) iq (i:=5) rfl (ax (Q3.2 ⟨x9,h9,b1⟩) aW),dO _ 4 _ rfl (ax (Q3.2 ⟨x9,h9, .tail _ b1⟩) aO),aZ (φ:=fun _=>_) iq (i:=5) rfl (ax (Q3.2 ⟨x9,h9, .tail _ b1⟩) aW)⟩) f1 g4 (di _ gF) (show W.aH.ls.length≤bM∧W.aH.ls.length≤9223372036854775807 from by omega) bX (di _ dz) (show W.ai.ls.length≤bq∧W.ai.ls.length≤9223372036854775807 from by omega) (fun x9 h9=>⟨di _ (bH x9 h9).1,(bH x9 h9).2⟩) (di _ gI) (show W.ag.ls.length≤bP∧W.ag.ls.length≤9223372036854775807 from by omega) bz) ?_
 rintro _ rV ⟨rfl,jA,fT⟩
 have cu:=jy _ _ jA
 replace fT: -1≤g∧g < ((r8 (s5 bG.abs a.aG.ls):Nat):Int):=fT
 refine An rfl (Ic (sr (Mz rfl (Kz (.bool (decide (g < 0))) (Mz rfl ?_)))))
 by_cases aJ:g < 0
 refine Sz (dT aJ) (Sz (dT aJ) (Sz (dT aJ) (Sz (dT aJ) (Sz (dT aJ) (Sz (dT aJ) (Sz (dT aJ) (fw (.bool true) (Iw rfl (dT aJ) rfl) (nt (jt (rt (tR (Fin.res (res0 rfl) ?_))))))))))))
 have nA:=cu.pf [1,2,3,4,5,6,7]
 have dP:=rH (f:=bB.own) j nA
 have qO:a.bV.ls.length≤a.bV.c∧a.bV.ls.length≤9223372036854775807:=aZ dP (i:=0) rfl (φ:=fun _=>_) (ax (Q3.2 ⟨a,D3 j,b1⟩) aW)
 have qP:a.aG.ls.length≤a.aG.c∧a.aG.ls.length≤9223372036854775807:=aZ dP (i:=0) rfl (φ:=fun _=>_) (ax (Q3.2 ⟨a,D3 j, .tail _ b1⟩) aW)
 have qQ:a.bD.ls.length≤a.bD.c∧a.bD.ls.length≤9223372036854775807:=aZ dP (i:=0) rfl (φ:=fun _=>_) (ax (Q3.2 ⟨a,D3 j, .tail _ b2⟩) aW)
 have qR:a.af.ls.length≤a.af.c∧a.af.ls.length≤9223372036854775807:=aZ dP (i:=0) rfl (φ:=fun _=>_) (ax (Q3.2 ⟨a,D3 j, .tail _ b3⟩) aW)
 have nC:=dP.px [2,3,4,5,6,7,8,9,10] [1] []
 obtain⟨rfl,rfl⟩:=ic (hr.symm.trans (show _=(p0,b) from et (ah aS) (et (ip bg) (et (ah (bJ bv)) (et (ah bz) (ip aJ))))))
 exact⟨af,ag,aa,r,s,z,t,u,B,d,m,l,K,L,C,M,N,E,O,P,F,Q,R,G,S,T,I,rfl,nC,aK,ai,aj,U,ak,au,av,ay,az⟩
 refine gw (.pointer (some ⟨ab d,ao d+(D0 h) *9,none⟩)) (dF aJ) (Iq rfl) (Gz (.pointer (some ⟨ab d,ao d+(D0 h) *9,none⟩)) (dF aJ) (Gz (.pointer (some ⟨ab d,ao d+(D0 h) *9+6,none⟩)) (dF aJ) (gw (.slice a.bD.A a.bD.ls.length a.bD.c) (dF aJ) (Io rfl (bZ.one Q6 (((cu.rds (i:=16) rfl).elem bB.len j f4).at_ (k:=6) rfl))) (gw (vJ (D0 g)) (dF aJ) (Ie (e:=g) (Iq rfl) e6) ?_))))
 obtain⟨iw,aT⟩:=dN (ls:=a.bD.ls) (i:=D0 g) pq f4 (cu.rds (i:=3) rfl) e9
 refine gw (.pointer (some ⟨ab a.bD.A,ao a.bD.A+(D0 g) *1,none⟩)) (dF aJ) (Ij (yc) rfl rfl ((cu.rds (i:=3) rfl).addr (i:=D0 g) e6) e6) (gw (.bool iw) (dF aJ) (Io rfl (bZ.one Tryz.isAgg4 (((cu.rds (i:=3) rfl).elem pq aT f4).at_ (k:=0) rfl))) (fw (.bool iw) (Ih rfl (dF aJ) rfl) (nt ?_)))
 rcases Li (iw) with bR | bR
 refine jT bR (rt (tR (Fin.res (res0 rfl) ?_)))
 have nD:=cu.pf [1,2,3,4,5,6,7]
 have dQ:=rH (f:=bB.own) j nD
 have qU:a.bV.ls.length≤a.bV.c∧a.bV.ls.length≤9223372036854775807:=aZ dQ (i:=0) rfl (φ:=fun _=>_) (ax (Q3.2 ⟨a,D3 j,b1⟩) aW)
 have qV:a.aG.ls.length≤a.aG.c∧a.aG.ls.length≤9223372036854775807:=aZ dQ (i:=0) rfl (φ:=fun _=>_) (ax (Q3.2 ⟨a,D3 j, .tail _ b1⟩) aW)
 have qW:a.bD.ls.length≤a.bD.c∧a.bD.ls.length≤9223372036854775807:=aZ dQ (i:=0) rfl (φ:=fun _=>_) (ax (Q3.2 ⟨a,D3 j, .tail _ b2⟩) aW)
 have qX:a.af.ls.length≤a.af.c∧a.af.ls.length≤9223372036854775807:=aZ dQ (i:=0) rfl (φ:=fun _=>_) (ax (Q3.2 ⟨a,D3 j, .tail _ b3⟩) aW)
 have nE:=dQ.px [2,3,4,5,6,7,8,9,10] [1] []
 obtain⟨rfl,rfl⟩:=ic (hr.symm.trans (show _=(p0,b) from et (ah aS) (et (ip bg) (et (ah (bJ bv)) (et (ah bz) (et (iN aJ) (et (ah (bJ aT)) (ip bR))))))))
 exact⟨af,ag,aa,r,s,z,t,u,B,d,m,l,K,L,C,M,N,E,O,P,F,Q,R,G,S,T,I,rfl,nE,aK,ai,aj,U,ak,au,av,ay,az⟩
 refine jF bR (sk (Ic (Ic ?_)))
 refine pU 27 [] (Iu (Iu IC)) cu ?_
 intro rW iy
 refine qp dn 4 0 rfl (ql 1 rfl 0 C4 rfl rfl rfl (qt (v:= .bool (decide (¬ (W.dz=3)))) 2 rfl (fun _ _=>IG (e:= !(decide (W.dz=3))) yk decide_not.symm) (qv 3 rfl rfl ?_)))
 by_cases V:W.dz=3
 refine Ip (v:=vP dn 19) (rs:= []) 4 rfl rfl rfl (dF (Lh V)) e7 (fun _ _=>yk) (Ip (v:= .slice bF W.ai.ls.length bq) (rs:= []) 5 rfl rfl rfl (dF (Lh V)) e7 (fun _ ⟨_,H9⟩=>Io rfl (bZ.one Tryz.isAgg40 (jR.of (H9.cls (i:=0) rfl) rfl))) (Ip (v:=vJ W.ai.ls.length) (rs:= []) 6 rfl rfl rfl (dF (Lh V)) e7 (fun _ _=>yk) (Ip (v:= .pointer (some ⟨ab d,ao d+(D0 h) *9,none⟩)) (rs:= []) 7 rfl rfl rfl (dF (Lh V)) e7 (fun _ _=>Iq rfl) (Ip (v:= .pointer (some ⟨ab d,ao d+(D0 h) *9,none⟩)) (rs:= []) 8 rfl rfl rfl (dF (Lh V)) e7 (fun _ _=>yk) (Ip (v:= .pointer (some ⟨ab d,ao d+(D0 h) *9+5,none⟩)) (rs:= []) 9 rfl rfl rfl (dF (Lh V)) e7 (fun _ _=>yk) (Ip (v:= .slice a.aG.A a.aG.ls.length a.aG.c) (rs:= []) 10 rfl rfl rfl (dF (Lh V)) e7 (fun _ ⟨_,H9⟩=>Io rfl (bZ.one Tryz.isAgg103 (((H9.rds (i:=16) rfl).elem bB.len j f4).at_ (k:=5) rfl))) (Ip (v:=vJ (D0 g)) (rs:= []) 11 rfl rfl rfl (dF (Lh V)) e7 (fun _ _=>Ie (e:=g) (Iq rfl) e6) ?_)))))))
 obtain⟨bS,fU⟩:=jN (ls:=a.aG.ls) (i:=D0 g) e9
 have dR:=fF (rfl:s5 bG.abs a.aG.ls=s5 bG.abs a.aG.ls) fU
 refine Ip (v:= .pointer (some ⟨ab a.aG.A,ao a.aG.A+(D0 g) *3,none⟩)) (rs:= []) 12 rfl rfl rfl (dF (Lh V)) e7 (fun _ ⟨_,H9⟩=>Ij (um) rfl rfl ((H9.rds (i:=2) rfl).addr (i:=D0 g) e6) e6) (Ip (v:= .pointer (some ⟨ab a.aG.A,ao a.aG.A+(D0 g) *3+1,none⟩)) (rs:= []) 13 rfl rfl rfl (dF (Lh V)) e7 (fun _ _=>yk) (Ip (v:= .slice bS.aH.A bS.aH.ls.length bS.aH.c) (rs:= []) 14 rfl rfl rfl (dF (Lh V)) e7 (fun _ ⟨_,H9⟩=>Io rfl (bZ.one Tryz.isAgg39 (((H9.rds (i:=2) rfl).elem bG.len fU f4).at_ (k:=1) rfl))) (Ip (v:=vJ bS.aH.ls.length) (rs:= []) 15 rfl rfl rfl (dF (Lh V)) e7 (fun _ _=>yk) (Ip (v:= .bool (decide (¬ (((W.ai.ls.length:Nat):Int)=((bS.aH.ls.length:Nat):Int))))) (rs:= []) 16 rfl rfl rfl (dF (Lh V)) e7 (fun _ _=>IG (e:= !(decide (((W.ai.ls.length:Nat):Int)=((bS.aH.ls.length:Nat):Int)))) yk decide_not.symm) (qt (v:= .bool (decide (¬ (((W.ai.ls.length:Nat):Int)=((bS.aH.ls.length:Nat):Int))))) 17 rfl (fun _ _=>Ih rfl (dF (Lh V)) rfl) (qn (Ig ?_)))))))
 by_cases dS:((W.ai.ls.length:Nat):Int)=((bS.aH.ls.length:Nat):Int)
 refine jF (dF (Lh dS)) (sk (Ic ?_))
 refine pU 27 [14,16] (Iu IC) iy ?_
 intro rX jB
 refine qv 0 rfl rfl (qk (.pointer (some ⟨ab d,ao d+(D0 h) *9,none⟩)) 1 rfl (qk (.pointer (some ⟨ab d,ao d+(D0 h) *9+6,none⟩)) 2 rfl (qt (v:= .slice a.bD.A a.bD.ls.length a.bD.c) 3 rfl (fun _ ⟨_,H9⟩=>Io rfl (bZ.one Q6 (((H9.rds (i:=16) rfl).elem bB.len j f4).at_ (k:=6) rfl))) (qt (v:=vJ (D0 g)) 4 rfl (fun _ _=>Ie (e:=g) (Iq rfl) e6) (qv 5 rfl rfl (qk (.pointer (some ⟨ab d,ao d+(D0 h) *9,none⟩)) 6 rfl (qk (.pointer (some ⟨ab d,ao d+(D0 h) *9+7,none⟩)) 7 rfl (qt (v:= .slice a.af.A a.af.ls.length a.af.c) 8 rfl (fun _ ⟨_,H9⟩=>Io rfl (bZ.one Tryz.isAgg105 (((H9.rds (i:=16) rfl).elem bB.len j f4).at_ (k:=7) rfl))) (IP (v:=vJ (D0 g)) 9 rfl e7 (fun _=>Ie (e:=g) (Iq rfl) e6) (qp dn 19 10 rfl (ql 11 rfl 0 Tryz.isAgg40 rfl rfl rfl ?_)))))))))))
 obtain⟨Y,bK⟩:∃ q,jh W.ai.ls=q:=⟨_,rfl⟩
 obtain⟨qY,iA,dU,iB,nG⟩:=Ii jB
 refine qd 12 rfl (Iz Tryz.call48 rfl (mD _ _ bF W.ai.ls.length bq bN W.ai.ls Y iA bX (dU _ dz) (fun x9 h9=>⟨dU _ (bH x9 h9).1,(bH x9 h9).2⟩) rfl e6 (by first | assumption | exact dM f5 | (intro x hx; exact absurd hx List.not_mem_nil)) bK) ?_)
 rintro _ qZ ⟨n,p,J,rfl,iC,aM⟩
 have fV:=iB _ _ iC
 have nH:=aB aM
 have nK:=fV.rowC (i:=0) rfl
 have nL:nI Y:=by rw [← bK]; show nI W.ai.ls; assumption
 have fZ:=fV.pb [0,1]
 refine⟨.inr ⟨_,fZ⟩, ?_⟩
 refine qt (v:= .pointer (some ⟨ab a.bD.A,ao a.bD.A+(D0 g) *1,none⟩)) 13 rfl (fun _ ⟨_,H9⟩=>Ij (yc) rfl rfl ((H9.rds (i:=3) rfl).addr (i:=D0 g) e6) e6) ?_
 have jC:=fZ.pf [3]
 refine qe 14 rfl (Do.storeRow (vs:= [.bool true]) (o:=(D0 g) *1+0) (q:=ao a.bD.A+(D0 g) *1) jC rfl e6 rfl Tryz.sizeOf4 rfl rfl (Le rfl) (je pq aT (Le rfl)) (jV (y:=true) pq rfl (Le rfl) aT) ?_)
 intro q8 gp
 refine⟨.inl e7, ?_⟩
 obtain⟨bA,bC⟩:=jN (ls:=a.af.ls) (i:=D0 g) e9
 have nM:=fF (rfl:s5 bO.abs a.af.ls=s5 bO.abs a.af.ls) bC
 refine IP (v:= .pointer (some ⟨ab a.af.A,ao a.af.A+(D0 g) *1,none⟩)) 15 rfl e7 (fun _=>Ij (wV) rfl rfl ((gp.rds (i:=4) rfl).addr (i:=D0 g) e6) e6) ?_
 have jD:=gp.pf [6]
 have jE:=JU (f:=bO.own) (i:=D0 g) (row bA.A bA.ls.length bA.c (q3 ae.cells bA.ls) 149 3) (sepL (q3 ae.own bA.ls)) rfl bC jD
 have jG:=jE.px [] [0,1] []
 have jH:=jG.pf [27,28]
 have jI:=I4 (aB aM).symm jH
 have jJ:=I7 (f:=bO.own) (y:=(H0 n p J)) bC jI
 have jK:=jJ.pf [5]
 refine qe 16 rfl (Do.storeRow (vs:= [.slice n Y.length p]) (o:=(D0 g) *1+0) (q:=ao a.af.A+(D0 g) *1) jK rfl e6 rfl Tryz.sizeOf40 rfl rfl (Le rfl) (je rU bC (Le rfl)) (jV (x:=bA) (f:=0) (vs:= [.slice n Y.length p]) (y:=(H0 n p J)) rU (show put ((IX (β:=ae)) bA) 0 ([.slice n Y.length p]:List Value)=(IX (β:=ae)) (H0 n p J) from congrArg (fun z9=>([.slice n z9 p]:List Value)) (aB aM).symm) (Le rfl) bC) ?_)
 intro rf jL
 have nN:r8 (u2 a.af.ls (D0 g) (H0 n p J))=r8 (u2 (s5 bO.abs a.af.ls) (D0 g) (E2 Y)):=aB (iW (rfl:s5 bO.abs a.af.ls=s5 bO.abs a.af.ls) (congrArg E2 aM))
 have nO:r8 (u2 (s5 bO.abs a.af.ls) (D0 g) (E2 Y))=r8 (s5 bO.abs a.af.ls):=H1
 refine⟨.inl e7, ?_⟩
 refine qn (Ig (Ic ?_))
 have gq:=jL.px [] [3] []
 refine Ib (Mz rfl (Kz (.pointer (some ⟨ab d,ao d+(D0 h) *9,none⟩)) (Kz (.pointer (some ⟨ab d,ao d+(D0 h) *9+6,none⟩)) (fw (.slice a.bD.A a.bD.ls.length a.bD.c) (Io rfl (bZ.one Q6 (((gq.rds (i:=15) rfl).elem bB.len j f4).at_ (k:=6) rfl))) ?_))))
 have nQ:a.bD.ls.length=r8 (u2 a.bD.ls (D0 g) true):=f1
 obtain⟨dW,cz⟩:∃ q,mY (u2 a.bD.ls (D0 g) true) false=q:=⟨_,rfl⟩
 obtain⟨rq,iD,nR,iE,iF⟩:=Ii gq
 refine cl Tryz.call93 (rQ _ _ a.bD.A a.bD.ls.length a.bD.c (u2 a.bD.ls (D0 g) true) false dW iD (iF _ 2 _ rfl aO) f1 g4 cz) ?_
 rintro _ dm ⟨rfl,iG⟩
 have gu:=iE _ _ iG
 refine Kz (.bool (!dW)) (nt ?_)
 rcases Li (dW) with bT | bT
 refine jF (cn bT) (IE (IA (res0 rfl) ?_))
 have jM:=gu.pf [2]
 have jO:=IL (y:=row a.bD.A (r8 (u2 a.bD.ls (D0 g) true)) a.bD.c (q3 eL (u2 a.bD.ls (D0 g) true)) 4 1) (congrArg (fun z9=>row a.bD.A z9 a.bD.c (q3 eL (u2 a.bD.ls (D0 g) true)) 4 1) (by simp only [H1]:a.bD.ls.length=r8 (u2 a.bD.ls (D0 g) true))) jM
 have jP:=jO.pf [1]
 have jS:=IL (y:=row a.af.A (r8 (u2 a.af.ls (D0 g) (H0 n p J))) a.af.c (q3 (IX (β:=ae)) (u2 a.af.ls (D0 g) (H0 n p J))) 40 1) (congrArg (fun z9=>row a.af.A z9 a.af.c (q3 (IX (β:=ae)) (u2 a.af.ls (D0 g) (H0 n p J))) 40 1) (by simp only [H1]:a.af.ls.length=r8 (u2 a.af.ls (D0 g) (H0 n p J)))) jP
 have jU:=jS.pf [3,4,1,0,5]
 have jW:=I7 (f:=bB.own) (y:=(bB.mk a.aR a.aM a.aS a.dh a.bV a.aG (H0 a.bD.A a.bD.c (u2 a.bD.ls (D0 g) true)) (H0 a.af.A a.af.c (u2 a.af.ls (D0 g) (H0 n p J))) a.eO)) j jU
 have jX:Own w D dm [sepL (q3 bB.own (u2 l (D0 h) (bB.mk a.aR a.aM a.aS a.dh a.bV a.aG (H0 a.bD.A a.bD.c (u2 a.bD.ls (D0 g) true)) (H0 a.af.A a.af.c (u2 a.af.ls (D0 g) (H0 n p J))) a.eO))),blk g0 [vP X 0, .slice af p0.aX.ls.length ag] 98,row af p0.aX.ls.length ag (q3 bf.cells aa) 42 21,sepL (q3 bf.own aa),mK X b aG b.aa.ag.ls.length aH r s t u d m K L M N O P Q R S T,row r b.aa.aj.ls.length s (q3 aC.cells z) 60 5,sepL (q3 aC.own z),row t b.aa.aF.ls.length u (q3 aU.cells B) 56 4,sepL (q3 aU.own B),row d b.ay.ls.length m (q3 bB.cells (u2 l (D0 h) (bB.mk a.aR a.aM a.aS a.dh a.bV a.aG (H0 a.bD.A a.bD.c (u2 a.bD.ls (D0 g) true)) (H0 a.af.A a.af.c (u2 a.af.ls (D0 g) (H0 n p J))) a.eO))) 107 9,row K b.bK.af.ls.length L (q3 ae.cells C) 149 3,sepL (q3 ae.own C),row M b.bA.af.ls.length N (q3 ae.cells E) 149 3,sepL (q3 ae.own E),row O b.bz.af.ls.length P (q3 ae.cells F) 149 3,sepL (q3 ae.own F),row Q b.bv.af.ls.length R (q3 ae.cells G) 149 3,sepL (q3 ae.own G),row S b.bq.af.ls.length T (q3 ae.cells I) 149 3,sepL (q3 ae.own I)]:=by rw [zq (f:=bB.cells) (y:=(bB.mk a.aR a.aM a.aS a.dh a.bV a.aG (H0 a.bD.A a.bD.c (u2 a.bD.ls (D0 g) true)) (H0 a.af.A a.af.c (u2 a.af.ls (D0 g) (H0 n p J))) a.eO)) j (by simp only [bB.cells,H1])]; exact jW
 have nS:r8 (u2 l (D0 h) (bB.mk a.aR a.aM a.aS a.dh a.bV a.aG (H0 a.bD.A a.bD.c (u2 a.bD.ls (D0 g) true)) (H0 a.af.A a.af.c (u2 a.af.ls (D0 g) (H0 n p J))) a.eO))=r8 (u2 b.ay.ls (D0 h) (dK.mk a.aR a.aM a.aS a.dh (E2 a.bV.ls) (E2 (s5 bG.abs a.aG.ls)) (E2 (u2 a.bD.ls (D0 g) true)) (E2 (u2 (s5 bO.abs a.af.ls) (D0 g) (E2 Y))) a.eO)):=aB (iW U (congrArg (fun z0=>(dK.mk a.aR a.aM a.aS a.dh (E2 a.bV.ls) (E2 (s5 bG.abs a.aG.ls)) (E2 (u2 a.bD.ls (D0 g) true)) (E2 z0) a.eO)) (iW (rfl:s5 bO.abs a.af.ls=s5 bO.abs a.af.ls) (congrArg E2 aM))))
 have nT:r8 (u2 b.ay.ls (D0 h) (dK.mk a.aR a.aM a.aS a.dh (E2 a.bV.ls) (E2 (s5 bG.abs a.aG.ls)) (E2 (u2 a.bD.ls (D0 g) true)) (E2 (u2 (s5 bO.abs a.af.ls) (D0 g) (E2 Y))) a.eO))=b.ay.ls.length:=H1
 have cB:b.ay.ls.length=r8 (u2 b.ay.ls (D0 h) (dK.mk a.aR a.aM a.aS a.dh (E2 a.bV.ls) (E2 (s5 bG.abs a.aG.ls)) (E2 (u2 a.bD.ls (D0 g) true)) (E2 (u2 (s5 bO.abs a.af.ls) (D0 g) (E2 Y))) a.eO)):=by first | omega | (simp only [H1]; done) | (simp only [H1,o1,s0,F2,m9,o0,H2]; omega)
 have jY:Own w D dm [sepL (q3 bB.own (u2 l (D0 h) (bB.mk a.aR a.aM a.aS a.dh a.bV a.aG (H0 a.bD.A a.bD.c (u2 a.bD.ls (D0 g) true)) (H0 a.af.A a.af.c (u2 a.af.ls (D0 g) (H0 n p J))) a.eO))),blk g0 [vP X 0, .slice af p0.aX.ls.length ag] 98,row af p0.aX.ls.length ag (q3 bf.cells aa) 42 21,sepL (q3 bf.own aa),blk X [vI b.aa.au,vU b.aa.av,vU b.aa.aV,vU b.aa.aL, .slice aG b.aa.ag.ls.length aH, .slice r b.aa.aj.ls.length s, .slice t b.aa.aF.ls.length u,vU b.bP, .slice d (r8 (u2 b.ay.ls (D0 h) (dK.mk a.aR a.aM a.aS a.dh (E2 a.bV.ls) (E2 (s5 bG.abs a.aG.ls)) (E2 (u2 a.bD.ls (D0 g) true)) (E2 (u2 (s5 bO.abs a.af.ls) (D0 g) (E2 Y))) a.eO))) m, .bool b.bK.cO,vU b.bK.aS,vI b.bK.dA, .slice K b.bK.af.ls.length L, .bool b.bA.cO,vU b.bA.aS,vI b.bA.dA, .slice M b.bA.af.ls.length N, .bool b.bz.cO,vU b.bz.aS,vI b.bz.dA, .slice O b.bz.af.ls.length P, .bool b.bv.cO,vU b.bv.aS,vI b.bv.dA, .slice Q b.bv.af.ls.length R, .bool b.bq.cO,vU b.bq.aS,vI b.bq.dA, .slice S b.bq.af.ls.length T,vU b.dP,vU b.dH,vU b.dI,vU b.dG,vU b.dJ, .pointer none] 86,row r b.aa.aj.ls.length s (q3 aC.cells z) 60 5,sepL (q3 aC.own z),row t b.aa.aF.ls.length u (q3 aU.cells B) 56 4,sepL (q3 aU.own B),row d (r8 (u2 b.ay.ls (D0 h) (dK.mk a.aR a.aM a.aS a.dh (E2 a.bV.ls) (E2 (s5 bG.abs a.aG.ls)) (E2 (u2 a.bD.ls (D0 g) true)) (E2 (u2 (s5 bO.abs a.af.ls) (D0 g) (E2 Y))) a.eO))) m (q3 bB.cells (u2 l (D0 h) (bB.mk a.aR a.aM a.aS a.dh a.bV a.aG (H0 a.bD.A a.bD.c (u2 a.bD.ls (D0 g) true)) (H0 a.af.A a.af.c (u2 a.af.ls (D0 g) (H0 n p J))) a.eO))) 107 9,row K b.bK.af.ls.length L (q3 ae.cells C) 149 3,sepL (q3 ae.own C),row M b.bA.af.ls.length N (q3 ae.cells E) 149 3,sepL (q3 ae.own E),row O b.bz.af.ls.length P (q3 ae.cells F) 149 3,sepL (q3 ae.own F),row Q b.bv.af.ls.length R (q3 ae.cells G) 149 3,sepL (q3 ae.own G),row S b.bq.af.ls.length T (q3 ae.cells I) 149 3,sepL (q3 ae.own I)]:=by rw [← cB]; exact jX
 have jZ:=jY.pf [1,2,3,4,5,6,7,8,9]
 obtain⟨rfl,rfl⟩:=ic (hr.symm.trans (show _=(p0,aA.mk b.aa b.bP (E2 (u2 b.ay.ls (D0 h) (dK.mk a.aR a.aM a.aS a.dh (E2 a.bV.ls) (E2 (s5 bG.abs a.aG.ls)) (E2 (u2 a.bD.ls (D0 g) true)) (E2 (u2 (s5 bO.abs a.af.ls) (D0 g) (E2 Y))) a.eO))) b.bK b.bA b.bz b.bv b.bq b.dP b.dH b.dI b.dG b.dJ) from et (ah aS) (et (ip bg) (et (ah (bJ bv)) (et (ah bz) (et (iN aJ) (et (ah (bJ aT)) (et (gm bR) (et (ip V) (et (ah (bJ dR)) (et (ip dS) (et (ah bK) (et (ah cz) (ip bT))))))))))))))
 exact⟨af,ag,aa,r,s,z,t,u,B,d,m,(u2 l (D0 h) (bB.mk a.aR a.aM a.aS a.dh a.bV a.aG (H0 a.bD.A a.bD.c (u2 a.bD.ls (D0 g) true)) (H0 a.af.A a.af.c (u2 a.af.ls (D0 g) (H0 n p J))) a.eO)),K,L,C,M,N,E,O,P,F,Q,R,G,S,T,I,(by first | rfl | (rw [← cB]; done) | (rw [← cB]; rfl)),jZ,aK,ai,aj,(iW U (congrArg (fun z0=>(dK.mk a.aR a.aM a.aS a.dh (E2 a.bV.ls) (E2 (s5 bG.abs a.aG.ls)) (E2 (u2 a.bD.ls (D0 g) true)) (E2 z0) a.eO)) (iW (rfl:s5 bO.abs a.af.ls=s5 bO.abs a.af.ls) (congrArg E2 aM)))),ak,au,av,ay,az⟩
 refine jT (cn bT) (Ib ?_)
 have j3:=gu.pf [2]
 have j4:=IL (y:=row a.bD.A (r8 (u2 a.bD.ls (D0 g) true)) a.bD.c (q3 eL (u2 a.bD.ls (D0 g) true)) 4 1) (congrArg (fun z9=>row a.bD.A z9 a.bD.c (q3 eL (u2 a.bD.ls (D0 g) true)) 4 1) (by simp only [H1]:a.bD.ls.length=r8 (u2 a.bD.ls (D0 g) true))) j3
 have j5:=j4.pf [1]
 have j6:=IL (y:=row a.af.A (r8 (u2 a.af.ls (D0 g) (H0 n p J))) a.af.c (q3 (IX (β:=ae)) (u2 a.af.ls (D0 g) (H0 n p J))) 40 1) (congrArg (fun z9=>row a.af.A z9 a.af.c (q3 (IX (β:=ae)) (u2 a.af.ls (D0 g) (H0 n p J))) 40 1) (by simp only [H1]:a.af.ls.length=r8 (u2 a.af.ls (D0 g) (H0 n p J)))) j5
 have ko:=j6.pf [3,4,1,0,5]
 have kr:=I7 (f:=bB.own) (y:=(bB.mk a.aR a.aM a.aS a.dh a.bV a.aG (H0 a.bD.A a.bD.c (u2 a.bD.ls (D0 g) true)) (H0 a.af.A a.af.c (u2 a.af.ls (D0 g) (H0 n p J))) a.eO)) j ko
 have ku:Own w D dm [sepL (q3 bB.own (u2 l (D0 h) (bB.mk a.aR a.aM a.aS a.dh a.bV a.aG (H0 a.bD.A a.bD.c (u2 a.bD.ls (D0 g) true)) (H0 a.af.A a.af.c (u2 a.af.ls (D0 g) (H0 n p J))) a.eO))),blk g0 [vP X 0, .slice af p0.aX.ls.length ag] 98,row af p0.aX.ls.length ag (q3 bf.cells aa) 42 21,sepL (q3 bf.own aa),mK X b aG b.aa.ag.ls.length aH r s t u d m K L M N O P Q R S T,row r b.aa.aj.ls.length s (q3 aC.cells z) 60 5,sepL (q3 aC.own z),row t b.aa.aF.ls.length u (q3 aU.cells B) 56 4,sepL (q3 aU.own B),row d b.ay.ls.length m (q3 bB.cells (u2 l (D0 h) (bB.mk a.aR a.aM a.aS a.dh a.bV a.aG (H0 a.bD.A a.bD.c (u2 a.bD.ls (D0 g) true)) (H0 a.af.A a.af.c (u2 a.af.ls (D0 g) (H0 n p J))) a.eO))) 107 9,row K b.bK.af.ls.length L (q3 ae.cells C) 149 3,sepL (q3 ae.own C),row M b.bA.af.ls.length N (q3 ae.cells E) 149 3,sepL (q3 ae.own E),row O b.bz.af.ls.length P (q3 ae.cells F) 149 3,sepL (q3 ae.own F),row Q b.bv.af.ls.length R (q3 ae.cells G) 149 3,sepL (q3 ae.own G),row S b.bq.af.ls.length T (q3 ae.cells I) 149 3,sepL (q3 ae.own I)]:=by rw [zq (f:=bB.cells) (y:=(bB.mk a.aR a.aM a.aS a.dh a.bV a.aG (H0 a.bD.A a.bD.c (u2 a.bD.ls (D0 g) true)) (H0 a.af.A a.af.c (u2 a.af.ls (D0 g) (H0 n p J))) a.eO)) j (by simp only [bB.cells,H1])]; exact kr
 have nU:r8 (u2 l (D0 h) (bB.mk a.aR a.aM a.aS a.dh a.bV a.aG (H0 a.bD.A a.bD.c (u2 a.bD.ls (D0 g) true)) (H0 a.af.A a.af.c (u2 a.af.ls (D0 g) (H0 n p J))) a.eO))=r8 (u2 b.ay.ls (D0 h) (dK.mk a.aR a.aM a.aS a.dh (E2 a.bV.ls) (E2 (s5 bG.abs a.aG.ls)) (E2 (u2 a.bD.ls (D0 g) true)) (E2 (u2 (s5 bO.abs a.af.ls) (D0 g) (E2 Y))) a.eO)):=aB (iW U (congrArg (fun z0=>(dK.mk a.aR a.aM a.aS a.dh (E2 a.bV.ls) (E2 (s5 bG.abs a.aG.ls)) (E2 (u2 a.bD.ls (D0 g) true)) (E2 z0) a.eO)) (iW (rfl:s5 bO.abs a.af.ls=s5 bO.abs a.af.ls) (congrArg E2 aM))))
 have nV:r8 (u2 b.ay.ls (D0 h) (dK.mk a.aR a.aM a.aS a.dh (E2 a.bV.ls) (E2 (s5 bG.abs a.aG.ls)) (E2 (u2 a.bD.ls (D0 g) true)) (E2 (u2 (s5 bO.abs a.af.ls) (D0 g) (E2 Y))) a.eO))=b.ay.ls.length:=H1
 refine Mz rfl (Mz rfl ?_)
 have cK:b.ay.ls.length=r8 (u2 b.ay.ls (D0 h) (dK.mk a.aR a.aM a.aS a.dh (E2 a.bV.ls) (E2 (s5 bG.abs a.aG.ls)) (E2 (u2 a.bD.ls (D0 g) true)) (E2 (u2 (s5 bO.abs a.af.ls) (D0 g) (E2 Y))) a.eO)):=by first | omega | (simp only [H1]; done) | (simp only [H1,o1,s0,F2,m9,o0,H2]; omega)
 have kv:Own w D dm [sepL (q3 bB.own (u2 l (D0 h) (bB.mk a.aR a.aM a.aS a.dh a.bV a.aG (H0 a.bD.A a.bD.c (u2 a.bD.ls (D0 g) true)) (H0 a.af.A a.af.c (u2 a.af.ls (D0 g) (H0 n p J))) a.eO))),blk g0 [vP X 0, .slice af p0.aX.ls.length ag] 98,row af p0.aX.ls.length ag (q3 bf.cells aa) 42 21,sepL (q3 bf.own aa),blk X [vI b.aa.au,vU b.aa.av,vU b.aa.aV,vU b.aa.aL, .slice aG b.aa.ag.ls.length aH, .slice r b.aa.aj.ls.length s, .slice t b.aa.aF.ls.length u,vU b.bP, .slice d (r8 (u2 b.ay.ls (D0 h) (dK.mk a.aR a.aM a.aS a.dh (E2 a.bV.ls) (E2 (s5 bG.abs a.aG.ls)) (E2 (u2 a.bD.ls (D0 g) true)) (E2 (u2 (s5 bO.abs a.af.ls) (D0 g) (E2 Y))) a.eO))) m, .bool b.bK.cO,vU b.bK.aS,vI b.bK.dA, .slice K b.bK.af.ls.length L, .bool b.bA.cO,vU b.bA.aS,vI b.bA.dA, .slice M b.bA.af.ls.length N, .bool b.bz.cO,vU b.bz.aS,vI b.bz.dA, .slice O b.bz.af.ls.length P, .bool b.bv.cO,vU b.bv.aS,vI b.bv.dA, .slice Q b.bv.af.ls.length R, .bool b.bq.cO,vU b.bq.aS,vI b.bq.dA, .slice S b.bq.af.ls.length T,vU b.dP,vU b.dH,vU b.dI,vU b.dG,vU b.dJ, .pointer none] 86,row r b.aa.aj.ls.length s (q3 aC.cells z) 60 5,sepL (q3 aC.own z),row t b.aa.aF.ls.length u (q3 aU.cells B) 56 4,sepL (q3 aU.own B),row d (r8 (u2 b.ay.ls (D0 h) (dK.mk a.aR a.aM a.aS a.dh (E2 a.bV.ls) (E2 (s5 bG.abs a.aG.ls)) (E2 (u2 a.bD.ls (D0 g) true)) (E2 (u2 (s5 bO.abs a.af.ls) (D0 g) (E2 Y))) a.eO))) m (q3 bB.cells (u2 l (D0 h) (bB.mk a.aR a.aM a.aS a.dh a.bV a.aG (H0 a.bD.A a.bD.c (u2 a.bD.ls (D0 g) true)) (H0 a.af.A a.af.c (u2 a.af.ls (D0 g) (H0 n p J))) a.eO))) 107 9,row K b.bK.af.ls.length L (q3 ae.cells C) 149 3,sepL (q3 ae.own C),row M b.bA.af.ls.length N (q3 ae.cells E) 149 3,sepL (q3 ae.own E),row O b.bz.af.ls.length P (q3 ae.cells F) 149 3,sepL (q3 ae.own F),row Q b.bv.af.ls.length R (q3 ae.cells G) 149 3,sepL (q3 ae.own G),row S b.bq.af.ls.length T (q3 ae.cells I) 149 3,sepL (q3 ae.own I)]:=by rw [← cK]; exact ku
 have kw:=kv.pf [1,2,3,4,5,6,7,8,9]
 obtain⟨⟨gy,Z⟩,dX⟩:∃ q:bI × aA,jQ p0 h (aA.mk b.aa b.bP (E2 (u2 b.ay.ls (D0 h) (dK.mk a.aR a.aM a.aS a.dh (E2 a.bV.ls) (E2 (s5 bG.abs a.aG.ls)) (E2 (u2 a.bD.ls (D0 g) true)) (E2 (u2 (s5 bO.abs a.af.ls) (D0 g) (E2 Y))) a.eO))) b.bK b.bA b.bz b.bv b.bq b.dP b.dH b.dI b.dG b.dJ)=q:=⟨_,rfl⟩
 obtain⟨ru,iI,nW,iJ,nX⟩:=JI kw
 refine cl Tryz.call94 (vz _ _ g0 p0 af ag aa h X (aA.mk b.aa b.bP (E2 (u2 b.ay.ls (D0 h) (dK.mk a.aR a.aM a.aS a.dh (E2 a.bV.ls) (E2 (s5 bG.abs a.aG.ls)) (E2 (u2 a.bD.ls (D0 g) true)) (E2 (u2 (s5 bO.abs a.af.ls) (D0 g) (E2 Y))) a.eO))) b.bK b.bA b.bz b.bv b.bq b.dP b.dH b.dI b.dG b.dJ) aG aH r s z t u B d m (u2 l (D0 h) (bB.mk a.aR a.aM a.aS a.dh a.bV a.aG (H0 a.bD.A a.bD.c (u2 a.bD.ls (D0 g) true)) (H0 a.af.A a.af.c (u2 a.af.ls (D0 g) (H0 n p J))) a.eO)) K L C M N E O P F Q R G S T I gy Z iI aK ai aj (iW U (congrArg (fun z0=>(dK.mk a.aR a.aM a.aS a.dh (E2 a.bV.ls) (E2 (s5 bG.abs a.aG.ls)) (E2 (u2 a.bD.ls (D0 g) true)) (E2 z0) a.eO)) (iW (rfl:s5 bO.abs a.af.ls=s5 bO.abs a.af.ls) (congrArg E2 aM)))) ak au av ay az e8 (by first | assumption | exact Mk.act f5 | exact nJ f8 (o7 (x:=bB.abs a) aL f5) | exact nJ f8 (qN (x:=bB.abs a) aL _)) e8 dX) ?_
 rintro _ ry ⟨kz,kC,kD,kE,kF,kG,kH,kI,kJ,kK,kL,kM,kN,kP,kQ,kR,kS,kT,kU,kV,kW,kX,kY,kZ,lc,lg,lh,rfl,iK,dY,dZ,ed,ek,eu,eB,eD,eF,eG⟩
 have aN:=iJ _ _ iK
 have nY:=aB dY
 have nZ:=aB dZ
 have og:=aB ed
 have oh:=aB ek
 have ol:=aB eu
 have om:=aB eB
 have oo:=aB eD
 have oq:=aB eF
 have ou:=aB eG
 have ow:=aN.rowC (i:=1) rfl
 have oz:=aN.rowC (i:=4) rfl
 have oC:=aN.rowC (i:=6) rfl
 have oD:=aN.rowC (i:=8) rfl
 have oF:=aN.rowC (i:=10) rfl
 have oG:=aN.rowC (i:=12) rfl
 have oH:=aN.rowC (i:=14) rfl
 have oI:=aN.rowC (i:=16) rfl
 have oJ:=aN.rowC (i:=18) rfl
 refine WL.nil (IA (res0 rfl) ?_)
 have ll:=aN.pf []
 obtain⟨rfl,rfl⟩:=ic (hr.symm.trans (show _=(gy,aA.mk (cZ.mk Z.aa.au Z.aa.av Z.aa.aV Z.aa.aL (E2 b.aa.ag.ls) (E2 Z.aa.aj.ls) (E2 Z.aa.aF.ls)) Z.bP (E2 Z.ay.ls) Z.bK Z.bA Z.bz Z.bv Z.bq Z.dP Z.dH Z.dI Z.dG Z.dJ) from et (ah aS) (et (ip bg) (et (ah (bJ bv)) (et (ah bz) (et (iN aJ) (et (ah (bJ aT)) (et (gm bR) (et (ip V) (et (ah (bJ dR)) (et (ip dS) (et (ah bK) (et (ah cz) (et (gm bT) (ah dX)))))))))))))))
 exact⟨kz,kC,kD,kE,kF,kG,kH,kI,kJ,kK,kL,kM,kN,kP,kQ,kR,kS,kT,kU,kV,kW,kX,kY,kZ,lc,lg,lh,(by first | rfl | (rw [← cK]; done) | (rw [← cK]; rfl)),ll,dY,dZ,ed,ek,eu,eB,eD,eF,eG⟩
 refine jT (dT dS) (sr ?_)
 have lm:=iy.pf [1,2,3,4,5,6,7]
 have bU:=rH (f:=bB.own) j lm
 have oK:a.bV.ls.length≤a.bV.c∧a.bV.ls.length≤9223372036854775807:=aZ bU (i:=0) rfl (φ:=fun _=>_) (ax (Q3.2 ⟨a,D3 j,b1⟩) aW)
 have oL:a.aG.ls.length≤a.aG.c∧a.aG.ls.length≤9223372036854775807:=aZ bU (i:=0) rfl (φ:=fun _=>_) (ax (Q3.2 ⟨a,D3 j, .tail _ b1⟩) aW)
 have oM:a.bD.ls.length≤a.bD.c∧a.bD.ls.length≤9223372036854775807:=aZ bU (i:=0) rfl (φ:=fun _=>_) (ax (Q3.2 ⟨a,D3 j, .tail _ b2⟩) aW)
 have oN:a.af.ls.length≤a.af.c∧a.af.ls.length≤9223372036854775807:=aZ bU (i:=0) rfl (φ:=fun _=>_) (ax (Q3.2 ⟨a,D3 j, .tail _ b3⟩) aW)
 refine Mz rfl (Mz rfl ?_)
 have lq:=bU.px [2,3,4,5,10] [] [1,6,7,8,9]
 obtain⟨⟨gz,aD⟩,eH⟩:∃ q:bI × aA,fq p0 h b=q:=⟨_,rfl⟩
 obtain⟨rz,iL,oO,iM,oQ⟩:=Jg lq
 refine cl Tryz.call63 (nP _ _ g0 p0 af ag aa h X b aG aH r s t u d m l K L C M N E O P F Q R G S T I gz aD iL aK U ak au av ay az e8 (by first | assumption | exact Mk.act f5 | exact nJ f8 (o7 (x:=bB.abs a) aL f5) | exact nJ f8 (qN (x:=bB.abs a) aL _)) e8 eH) ?_
 rintro _ rA ⟨lu,lv,lw,lC,lD,lF,lG,lH,lI,lJ,lK,lL,lM,lN,lQ,lS,lT,lU,lV,lX,lY,rfl,iO,eO,eP,eQ,eT,eU,eX,eY⟩
 have aV:=iM _ _ iO
 have oU:=aB eO
 have oV:=aB eP
 have oW:=aB eQ
 have oZ:=aB eT
 have o5:=aB eU
 have o6:=aB eX
 have o8:=aB eY
 have o9:=aV.rowC (i:=1) rfl
 have pg:=aV.rowC (i:=4) rfl
 have pu:=aV.rowC (i:=6) rfl
 have pz:=aV.rowC (i:=8) rfl
 have pE:=aV.rowC (i:=10) rfl
 have pF:=aV.rowC (i:=12) rfl
 have pG:=aV.rowC (i:=14) rfl
 refine nt (rt (tR (Fin.res (res0 rfl) ?_)))
 have lZ:=aV.px [0,1,2,3,17,18,19,20] [16] []
 obtain⟨rfl,rfl⟩:=ic (hr.symm.trans (show _=(gz,aA.mk (cZ.mk aD.aa.au aD.aa.av aD.aa.aV aD.aa.aL (E2 b.aa.ag.ls) (E2 b.aa.aj.ls) (E2 b.aa.aF.ls)) aD.bP (E2 aD.ay.ls) aD.bK aD.bA aD.bz aD.bv aD.bq aD.dP aD.dH aD.dI aD.dG aD.dJ) from et (ah aS) (et (ip bg) (et (ah (bJ bv)) (et (ah bz) (et (iN aJ) (et (ah (bJ aT)) (et (gm bR) (et (ip V) (et (ah (bJ dR)) (et (iN dS) (ah eH))))))))))))
 exact⟨lu,lv,lw,r,s,z,t,u,B,lC,lD,lF,lG,lH,lI,lJ,lK,lL,lM,lN,lQ,lS,lT,lU,lV,lX,lY,rfl,lZ,eO,ai,aj,eP,eQ,eT,eU,eX,eY⟩
 refine Ik (rs:= []) 4 rfl rfl rfl (dT V) e7 (Ik (rs:= []) 5 rfl rfl rfl (dT V) e7 (Ik (rs:= []) 6 rfl rfl rfl (dT V) e7 (Ik (rs:= []) 7 rfl rfl rfl (dT V) e7 (Ik (rs:= []) 8 rfl rfl rfl (dT V) e7 (Ik (rs:= []) 9 rfl rfl rfl (dT V) e7 (Ik (rs:= []) 10 rfl rfl rfl (dT V) e7 (Ik (rs:= []) 11 rfl rfl rfl (dT V) e7 (Ik (rs:= []) 12 rfl rfl rfl (dT V) e7 (Ik (rs:= []) 13 rfl rfl rfl (dT V) e7 (Ik (rs:= []) 14 rfl rfl rfl (dT V) e7 (Ik (rs:= []) 15 rfl rfl rfl (dT V) e7 (Ik (rs:= []) 16 rfl rfl rfl (dT V) e7 (qt (v:= .bool true) 17 rfl (fun _ _=>Iw rfl (dT V) rfl) (qn (Ig (jt (sr ?_)))))))))))))))))
 have l5:=iy.pf [1,2,3,4,5,6,7]
 have bV:=rH (f:=bB.own) j l5
 have pI:a.bV.ls.length≤a.bV.c∧a.bV.ls.length≤9223372036854775807:=aZ bV (i:=0) rfl (φ:=fun _=>_) (ax (Q3.2 ⟨a,D3 j,b1⟩) aW)
 have pJ:a.aG.ls.length≤a.aG.c∧a.aG.ls.length≤9223372036854775807:=aZ bV (i:=0) rfl (φ:=fun _=>_) (ax (Q3.2 ⟨a,D3 j, .tail _ b1⟩) aW)
 have pK:a.bD.ls.length≤a.bD.c∧a.bD.ls.length≤9223372036854775807:=aZ bV (i:=0) rfl (φ:=fun _=>_) (ax (Q3.2 ⟨a,D3 j, .tail _ b2⟩) aW)
 have pM:a.af.ls.length≤a.af.c∧a.af.ls.length≤9223372036854775807:=aZ bV (i:=0) rfl (φ:=fun _=>_) (ax (Q3.2 ⟨a,D3 j, .tail _ b3⟩) aW)
 refine Mz rfl (Mz rfl ?_)
 have l6:=bV.px [2,3,4,5,10] [] [1,6,7,8,9]
 obtain⟨⟨gB,aF⟩,eZ⟩:∃ q:bI × aA,fq p0 h b=q:=⟨_,rfl⟩
 obtain⟨rC,iP,pO,iQ,pQ⟩:=Jg l6
 refine cl Tryz.call63 (nP _ _ g0 p0 af ag aa h X b aG aH r s t u d m l K L C M N E O P F Q R G S T I gB aF iP aK U ak au av ay az e8 (by first | assumption | exact Mk.act f5 | exact nJ f8 (o7 (x:=bB.abs a) aL f5) | exact nJ f8 (qN (x:=bB.abs a) aL _)) e8 eZ) ?_
 rintro _ rD ⟨l7,l8,l9,ma,mf,mg,mh,mi,mo,mq,mr,mE,mF,mG,mH,mI,mJ,mM,mO,mP,mQ,rfl,iR,fe,fo,fu,fA,fB,fC,fD⟩
 have aX:=iQ _ _ iR
 have pR:=aB fe
 have pV:=aB fo
 have pW:=aB fu
 have pX:=aB fA
 have pY:=aB fB
 have p8:=aB fC
 have p9:=aB fD
 have qb:=aX.rowC (i:=1) rfl
 have qc:=aX.rowC (i:=4) rfl
 have qf:=aX.rowC (i:=6) rfl
 have qg:=aX.rowC (i:=8) rfl
 have qi:=aX.rowC (i:=10) rfl
 have qj:=aX.rowC (i:=12) rfl
 have qm:=aX.rowC (i:=14) rfl
 refine nt (rt (tR (Fin.res (res0 rfl) ?_)))
 have mR:=aX.px [0,1,2,3,17,18,19,20] [16] []
 obtain⟨rfl,rfl⟩:=ic (hr.symm.trans (show _=(gB,aA.mk (cZ.mk aF.aa.au aF.aa.av aF.aa.aV aF.aa.aL (E2 b.aa.ag.ls) (E2 b.aa.aj.ls) (E2 b.aa.aF.ls)) aF.bP (E2 aF.ay.ls) aF.bK aF.bA aF.bz aF.bv aF.bq aF.dP aF.dH aF.dI aF.dG aF.dJ) from et (ah aS) (et (ip bg) (et (ah (bJ bv)) (et (ah bz) (et (iN aJ) (et (ah (bJ aT)) (et (gm bR) (et (iN V) (ah eZ))))))))))
 exact⟨l7,l8,l9,r,s,z,t,u,B,ma,mf,mg,mh,mi,mo,mq,mr,mE,mF,mG,mH,mI,mJ,mM,mO,mP,mQ,rfl,mR,fe,ai,aj,fo,fu,fA,fB,fC,fD⟩
 have h39t:Bool.toNat bQ=0:=by rw [bg]; rfl
 refine jT (cn bg) (rt (tR (Fin.res (res0 rfl) ?_)))
 have mU:=bu.px [] [0] []
 obtain⟨rfl,rfl⟩:=ic (hr.symm.trans (show _=(p0,b) from et (ah aS) (gm bg)))
 exact⟨af,ag,aa,r,s,z,t,u,B,d,m,l,K,L,C,M,N,E,O,P,F,Q,R,G,S,T,I,rfl,mU,aK,ai,aj,U,ak,au,av,ay,az⟩
end Go.Proofs.YtbkagebjhbphaaaGreat
