/-
 coord: a request.
-/
import Derived.Test.YtbkagebjhbphaaaGreatCc
import Derived.Test.YtbkagebjhbphaaaGreatCe
namespace Go.Proofs.YtbkagebjhbphaaaGreat
open IntKind renaming i64→C7
open List renaming flatMap→q6,length_map→s6,map→s8,mem_flatMap→P2,mem_of_getElem?→E0,not_mem_nil→B3
open Ll renaming mk→E4
open _root_.Go.Proofs.Tryz renaming call65→O5,call89→O3,call90→P9,func89→O4,isAgg24→O2,isAgg28→E1,isAgg3→C6,isAgg4→M2,isAgg40→E6,isAgg42→M4,isAgg81→P8,prog→y4,sizeOf42→M5,sizeOf81→O6
open WL renaming nil→D0
set_option maxRecDepth 100000
open Go.RowKit
set_option linter.unusedVariables false
set_option linter.unusedSectionVars false
set_option linter.unusedSimpArgs false
def dY (a:Int):List dD→Nat→Unit ⊕ Int
  | [],b=>Sum.inl ()
  | c::d,b=>if c.aK=a then Sum.inr ((b:Nat):Int) else dY a d (b+1)
def jh (l0:List dD) (a:Int):Int:=
 lp (dY a l0 0) fun _=>(-1)
theorem oC (w D t G I d0 l0 f a F) (H:Own w D w [blk f [.int .i64 a] 3]) (y:s8 bz.abs d0=l0) (s:Ro w D fun w'=>bA w' 9 t G (q6 bz.cells d0)) (n:∀ x ∈ d0,Ro w D (fun w'=>bA w' 6 x.bO.A x.bO.ls.length (q6 bv.cells x.bO.ls))∧(x.bO.ls.length≤x.bO.c∧x.bO.ls.length≤9223372036854775807)∧Ro w D (fun w'=>bA w' 3 x.aD.A x.aD.ls.length (q6 bD.cells x.aD.ls))∧(x.aD.ls.length≤x.aD.c∧x.aD.ls.length≤9223372036854775807)∧(∀ g ∈ x.aD.ls,Ro w D (fun w'=>bA w' 6 g.aF.A g.aF.ls.length (q6 bv.cells g.aF.ls))∧(g.aF.ls.length≤g.aF.c∧g.aF.ls.length≤9223372036854775807)∧Ro w D (fun w'=>bA w' 1 g.aH.A g.aH.ls.length (q6 (eI .i64) g.aH.ls))∧(g.aH.ls.length≤g.aH.c∧g.aH.ls.length≤9223372036854775807))∧Ro w D (fun w'=>bA w' 1 x.bB.A x.bB.ls.length (q6 eL x.bB.ls))∧(x.bB.ls.length≤x.bB.c∧x.bB.ls.length≤9223372036854775807)∧Ro w D (fun w'=>bA w' 1 x.af.A x.af.ls.length (q6 (GD (β:=ae)) x.af.ls))∧(x.af.ls.length≤x.af.c∧x.af.ls.length≤9223372036854775807)∧(∀ g ∈ x.af.ls,Ro w D (fun w'=>bA w' 3 g.A g.ls.length (q6 ae.cells g.ls))∧(g.ls.length≤g.c∧g.ls.length≤9223372036854775807)∧(∀ u ∈ g.ls,Ro w D (fun w'=>bA w' 2 u.aj.A u.aj.ls.length (q6 aI.cells u.aj.ls))∧(u.aj.ls.length≤u.aj.c∧u.aj.ls.length≤9223372036854775807)))) (J:G=l0.length) (aa:l0.length≤9223372036854775807) (hr:jh l0 a=F):
    Calls y4 125 #[.slice t G I, .func (.func 88) #[] #[vP f 0]] w (dR fun v w'=>v=vI F∧Own w D w' [blk f [vI a] 3]∧(-1≤F∧F < ((l0.length:Nat):Int))):=by
 subst J
 have S:=az y
 refine cb Tryz.func125 ?_
 refine sr (An rfl (FW (sr (Mz rfl (Kz (vJ l0.length) (Mn rfl (bo ?_)))))))
 have K:=H.pf []
 obtain⟨L,j⟩:=mZ fun (b:Nat) w'=>Own w D w' [blk f [vI a] 3]∧b≤l0.length∧dY a l0 0=dY a (List.drop b l0) b
 refine Wp.loop (fun i:Nat=> [(4,vI 0),(8,vJ i),(7,vJ l0.length),(0, .slice t l0.length I),(1, .func (.func 88) #[] #[vP f 0])]) L (fun i=>l0.length - i) 0 ⟨rfl,rfl,rfl,rfl,rfl,trivial⟩ (j.2 ⟨K,e6,rfl⟩) ?_
 rintro b af z
 obtain⟨l,T,m⟩:=j.1 z
 refine sr (Kz (.bool (decide (((b:Nat):Int) < ((l0.length:Nat):Int)))) (nt (FW ?_)))
 by_cases B:((b:Nat):Int) < ((l0.length:Nat):Int)
 obtain⟨d,h⟩:=dK (ls:=d0) (i:=b) bz.len f3 (l.ro s) e9
 have C:=fo y h
 have U:=(n _ (E0 h)).2.1
 have V:=(n _ (E0 h)).2.2.2.1
 have W:List.length (s8 bD.abs d.aD.ls)=d.aD.ls.length:=s6 ..
 have X:=(n _ (E0 h)).2.2.2.2.2.2.1
 have Y:=(n _ (E0 h)).2.2.2.2.2.2.2.2.1
 have Z:List.length (s8 bK.abs d.af.ls)=d.af.ls.length:=s6 ..
 have r:=drop_at C
 refine jT (dT B) (sk (FW (bo (sr (Mz rfl (Ar rfl (Mz rfl (Mz rfl (Mz rfl (fw (.pointer (some ⟨ab t,ao t+b *9,none⟩)) (F4 (pu) rfl rfl ((l.ro s).addr (i:=b) e6) e6) (fw (.agg (bz.cells d).toArray) (F7 rfl (Gf (cs:=(bz.cells d)) Tryz.isAgg107 Tryz.sizeOf107 ((l.ro s).elem bz.len h f3))) ?_)))))))))))
 refine WL.do rfl (Gr Tryz.call88 rfl rfl ?_ (fun _ _ k=>k))
 refine cb Tryz.func88 ?_
 refine sr ?_
 refine dM (bz.cells d) 107 l ?_
 intro M ag o
 refine Ar rfl (Kz (vP M 1) (Lz (vI d.aK) o 0 C6 (Lz (vI a) o 1 C6 (Kz (.bool (decide (d.aK=a))) (An rfl (rt (rs (nt ?_))))))))
 by_cases p:d.aK=a
 refine jT (dT p) (FW ?_)
 have N:=o.pk [1]
 refine FV (Mz rfl (An rfl (rt (bR (tR (tR (bR (tR (rs ?_)))))))))
 have O:=N.pf []
 obtain rfl:_=((b:Nat):Int):=hr.symm.trans (jq (et (m) (et (congrArg (fun q=>dY a q b) r) (ip p))))
 exact⟨rfl,O,e6⟩
 refine jF (dF p) (Gn (bN (FY ?_)))
 have P:=o.pk [1]
 refine FV (fw (vJ (b+1)) (FX (e:=C7.wrap (((b:Nat):Int)+1)) yk f1) (Mz rfl (D0 ?_)))
 have Q:=P.pf []
 exact Gc (b+1) ⟨rfl,rfl,rfl,rfl,rfl,trivial⟩ (j.2 ⟨Q,e6,et (m) (et (congrArg (fun q=>dY a q b) r) (iN p))⟩) (by show l0.length - (b+1) < l0.length - b; omega)
 refine jF (dF B) (Wp.exit (F6 ?_))
 have E:dY a l0 0=Sum.inl ():=et (m) (et (congrArg (fun q=>dY a q b) (eZ (ls:=l0) (i:=b) e6)) rfl)
 refine F6 (Gi (FY (sr (An rfl (rt (rs ?_))))))
 have R:=l.pf []
 obtain rfl:_=(-1):=hr.symm.trans (nU E)
 exact⟨rfl,R,e6⟩
def ic (l0:List dD) (a:Int):Bool:=
 bnd (jh l0 a) fun b=>decide (b ≥ 0)
theorem nN (w D s t C d0 l0 h e E) (H:Own w D w [blk h [.int .i64 e] 3]) (n:s8 bz.abs d0=l0) (u:Ro w D fun w'=>bA w' 9 s t (q6 bz.cells d0)) (a:∀ x ∈ d0,Ro w D (fun w'=>bA w' 6 x.bO.A x.bO.ls.length (q6 bv.cells x.bO.ls))∧(x.bO.ls.length≤x.bO.c∧x.bO.ls.length≤9223372036854775807)∧Ro w D (fun w'=>bA w' 3 x.aD.A x.aD.ls.length (q6 bD.cells x.aD.ls))∧(x.aD.ls.length≤x.aD.c∧x.aD.ls.length≤9223372036854775807)∧(∀ b ∈ x.aD.ls,Ro w D (fun w'=>bA w' 6 b.aF.A b.aF.ls.length (q6 bv.cells b.aF.ls))∧(b.aF.ls.length≤b.aF.c∧b.aF.ls.length≤9223372036854775807)∧Ro w D (fun w'=>bA w' 1 b.aH.A b.aH.ls.length (q6 (eI .i64) b.aH.ls))∧(b.aH.ls.length≤b.aH.c∧b.aH.ls.length≤9223372036854775807))∧Ro w D (fun w'=>bA w' 1 x.bB.A x.bB.ls.length (q6 eL x.bB.ls))∧(x.bB.ls.length≤x.bB.c∧x.bB.ls.length≤9223372036854775807)∧Ro w D (fun w'=>bA w' 1 x.af.A x.af.ls.length (q6 (GD (β:=ae)) x.af.ls))∧(x.af.ls.length≤x.af.c∧x.af.ls.length≤9223372036854775807)∧(∀ b ∈ x.af.ls,Ro w D (fun w'=>bA w' 3 b.A b.ls.length (q6 ae.cells b.ls))∧(b.ls.length≤b.c∧b.ls.length≤9223372036854775807)∧(∀ j ∈ b.ls,Ro w D (fun w'=>bA w' 2 j.aj.A j.aj.ls.length (q6 aI.cells j.aj.ls))∧(j.aj.ls.length≤j.aj.c∧j.aj.ls.length≤9223372036854775807)))) (y:t=l0.length) (I:l0.length≤9223372036854775807) (hr:ic l0 e=E):
    Calls y4 87 #[.slice s t C, .func (.func 88) #[] #[vP h 0]] w (dR fun v w'=>v= .bool E∧Own w D w' [blk h [vI e] 3]):=by
 subst y
 have F:=az n
 refine cb Tryz.func87 ?_
 refine sr (Ar rfl (Mz rfl (Mz rfl ?_)))
 obtain⟨i,l⟩:∃ q,jh l0 e=q:=⟨_,rfl⟩
 obtain⟨J,o,d,p,G⟩:=Gq H
 refine cl Tryz.call125 (oC _ _ s l0.length C d0 l0 h e i o n (d _ u) (fun f g=>⟨d _ (a f g).1,(a f g).2.1,d _ (a f g).2.2.1,(a f g).2.2.2.1,(fun b k=>⟨d _ ((a f g).2.2.2.2.1 b k).1,((a f g).2.2.2.2.1 b k).2.1,d _ ((a f g).2.2.2.2.1 b k).2.2.1,((a f g).2.2.2.2.1 b k).2.2.2⟩),d _ (a f g).2.2.2.2.2.1,(a f g).2.2.2.2.2.2.1,d _ (a f g).2.2.2.2.2.2.2.1,(a f g).2.2.2.2.2.2.2.2.1,(fun b k=>⟨d _ ((a f g).2.2.2.2.2.2.2.2.2 b k).1,((a f g).2.2.2.2.2.2.2.2.2 b k).2.1,(fun j k2=>⟨d _ (((a f g).2.2.2.2.2.2.2.2.2 b k).2.2 j k2).1,(((a f g).2.2.2.2.2.2.2.2.2 b k).2.2 j k2).2⟩)⟩)⟩) rfl e6 l) ?_
 rintro _ K ⟨rfl,r,m⟩
 have z:=p _ _ r
 replace m: -1≤i∧i < ((l0.length:Nat):Int):=m
 refine Kz (.bool (decide (i ≥ 0))) (An rfl (rt (rs ?_)))
 have B:=z.pf []
 obtain rfl:_=decide (i ≥ 0):=hr.symm.trans (ai l)
 exact⟨rfl,B⟩
def iP (c:bE) (b:bM) (a:aB):bE × aB:=
 if((b.ay:Nat):Int)=((a.aa.ay:Nat):Int) then bnd (ic a.au.ls (b.aH - 10)) fun p=>if p=true then(c,a) else if b.aH - 10=1 then if a.bf.cB=true then if((a.bf.aM:Nat):Int) ≥ ((b.aO:Nat):Int) then if((a.bf.aM:Nat):Int)=((b.aO:Nat):Int) then bnd (df c (bM.mk 2 0 (10+(b.aH - 10)) 0 a.bf.dw 0 a.bf.aM a.aa.ay 0 0 0 0 0 0 0 false (bI.mk ([]) ([])) (E4 ([])) (E4 a.bf.af.ls) (E4 ([])))) fun q=>(q,a) else(c,a) else bnd (dU c (b.aH - 10) b a) fun k=>(k.1,k.2) else bnd (dU c (b.aH - 10) b a) fun d=>(d.1,d.2) else if b.aH - 10=2 then if a.bi.cB=true then if((a.bi.aM:Nat):Int) ≥ ((b.aO:Nat):Int) then if((a.bi.aM:Nat):Int)=((b.aO:Nat):Int) then bnd (df c (bM.mk 2 0 (10+(b.aH - 10)) 0 a.bi.dw 0 a.bi.aM a.aa.ay 0 0 0 0 0 0 0 false (bI.mk ([]) ([])) (E4 ([])) (E4 a.bi.af.ls) (E4 ([])))) fun l=>(l,a) else(c,a) else bnd (dU c (b.aH - 10) b a) fun e=>(e.1,e.2) else bnd (dU c (b.aH - 10) b a) fun f=>(f.1,f.2) else if b.aH - 10=3 then if a.bn.cB=true then if((a.bn.aM:Nat):Int) ≥ ((b.aO:Nat):Int) then if((a.bn.aM:Nat):Int)=((b.aO:Nat):Int) then bnd (df c (bM.mk 2 0 (10+(b.aH - 10)) 0 a.bn.dw 0 a.bn.aM a.aa.ay 0 0 0 0 0 0 0 false (bI.mk ([]) ([])) (E4 ([])) (E4 a.bn.af.ls) (E4 ([])))) fun m=>(m,a) else(c,a) else bnd (dU c (b.aH - 10) b a) fun g=>(g.1,g.2) else bnd (dU c (b.aH - 10) b a) fun h=>(h.1,h.2) else if a.aZ.cB=true then if((a.aZ.aM:Nat):Int) ≥ ((b.aO:Nat):Int) then if((a.aZ.aM:Nat):Int)=((b.aO:Nat):Int) then bnd (df c (bM.mk 2 0 (10+(b.aH - 10)) 0 a.aZ.dw 0 a.aZ.aM a.aa.ay 0 0 0 0 0 0 0 false (bI.mk ([]) ([])) (E4 ([])) (E4 a.aZ.af.ls) (E4 ([])))) fun n=>(n,a) else(c,a) else bnd (dU c (b.aH - 10) b a) fun i=>(i.1,i.2) else bnd (dU c (b.aH - 10) b a) fun j=>(j.1,j.2) else bnd (lF c (b.aH - 10) b a) fun o=>(o,a)
set_option maxHeartbeats 4000000 in
theorem ut (w D g0) (p0:bE) (aD aF au) (b:bM) (av jL Z ay jM aa bi aC jN af r) (a:aB) (S T U V W X N O F G P Y Q R j d I l f J n g K p h L) (r0:bE) (r1:aB) (H:Own w D w [blk g0 [.pointer (some ⟨r,0,none⟩), .slice aD p0.bq.ls.length aF] 98,row aD p0.bq.ls.length aF (q6 bC.cells au) 42 21,sepL (q6 bC.own au),mK r a S a.aa.ag.ls.length T U V X N F G Y Q j d l f n g p h,row S a.aa.ag.ls.length T (q6 aW.cells a.aa.ag.ls) 89 2,row U a.aa.ak.ls.length V (q6 aA.cells W) 60 5,sepL (q6 aA.own W),row X a.aa.aJ.ls.length N (q6 aT.cells O) 56 4,sepL (q6 aT.own O),row F a.au.ls.length G (q6 bz.cells P) 107 9,sepL (q6 bz.own P),row Y a.bH.af.ls.length Q (q6 ae.cells R) 149 3,sepL (q6 ae.own R),row j a.bf.af.ls.length d (q6 ae.cells I) 149 3,sepL (q6 ae.own I),row l a.bi.af.ls.length f (q6 ae.cells J) 149 3,sepL (q6 ae.own J),row n a.bn.af.ls.length g (q6 ae.cells K) 149 3,sepL (q6 ae.own K),row p a.aZ.af.ls.length h (q6 ae.cells L) 149 3,sepL (q6 ae.own L)]) (ag:s8 bC.abs au=p0.bq.ls) (kL:jL=b.aF.ls.length) (aZ:Ro w D fun w'=>bA w' 6 av b.aF.ls.length (q6 bv.cells b.aF.ls)) (wL:b.aF.ls.length≤Z∧b.aF.ls.length≤9223372036854775807) (aR:s8 ae.abs bi=b.ah.ls) (kM:jM=b.ah.ls.length) (bf:Ro w D fun w'=>bA w' 3 ay b.ah.ls.length (q6 ae.cells bi)) (wM:b.ah.ls.length≤aa∧b.ah.ls.length≤9223372036854775807) (ah:∀ x ∈ bi,Ro w D (fun w'=>bA w' 2 x.aj.A x.aj.ls.length (q6 aI.cells x.aj.ls))∧(x.aj.ls.length≤x.aj.c∧x.aj.ls.length≤9223372036854775807)) (kN:jN=b.ag.ls.length) (bg:Ro w D fun w'=>bA w' 2 aC b.ag.ls.length (q6 aW.cells b.ag.ls)) (wN:b.ag.ls.length≤af∧b.ag.ls.length≤9223372036854775807) (M:s8 aA.abs W=a.aa.ak.ls) (B:s8 aT.abs O=a.aa.aJ.ls) (C:s8 bz.abs P=a.au.ls) (E:s8 ae.abs R=a.bH.af.ls) (s:s8 ae.abs I=a.bf.af.ls) (u:s8 ae.abs J=a.bi.af.ls) (y:s8 ae.abs K=a.bn.af.ls) (z:s8 ae.abs L=a.aZ.af.ls) (Cn:a.aa.ag.ls.length≤1000∧a.aa.ak.ls.length≤1000∧a.aa.aJ.ls.length≤1000∧a.au.ls.length≤1000∧p0.bq.ls.length≤100000) (Co:Mk a) (Cq:a.bH.af.ls.length≤1000∧a.bf.af.ls.length≤1000∧a.bi.af.ls.length≤1000∧a.bn.af.ls.length≤1000∧a.aZ.af.ls.length≤1000) (Cr:11≤b.aH∧b.aH≤14) (Cs:b.aF.ls.length≤24∧b.ag.ls.length≤1000∧b.ah.ls.length≤1000∧jZ b.aO) (hr:iP p0 b a=(r0,r1)):
    Calls y4 56 #[vP g0 0, .agg (gD b.aG b.aH b.eP b.aN b.cZ b.eu b.aO b.ay b.aU b.dW b.aX b.aL b.dH b.bZ b.xN b.d9 b.bT.bG b.bT.bU av jL Z ay jM aa aC jN af).toArray] w (dR fun v w'=> ∃ dP dQ dm dS dV dW dX dn dY dZ dw d9 ed dx ek eu dz eB eD dA eF eG dB eH eO dC eP eQ dD,v= .tuple #[]∧Own w D w' [blk g0 [vP r 0, .slice dP r0.bq.ls.length dQ] 98,row dP r0.bq.ls.length dQ (q6 bC.cells dm) 42 21,sepL (q6 bC.own dm),mK r r1 dS r1.aa.ag.ls.length dV dW dX dY dZ d9 ed ek eu eB eD eF eG eH eO eP eQ,row dS r1.aa.ag.ls.length dV (q6 aW.cells r1.aa.ag.ls) 89 2,row dW r1.aa.ak.ls.length dX (q6 aA.cells dn) 60 5,sepL (q6 aA.own dn),row dY r1.aa.aJ.ls.length dZ (q6 aT.cells dw) 56 4,sepL (q6 aT.own dw),row d9 r1.au.ls.length ed (q6 bz.cells dx) 107 9,sepL (q6 bz.own dx),row ek r1.bH.af.ls.length eu (q6 ae.cells dz) 149 3,sepL (q6 ae.own dz),row eB r1.bf.af.ls.length eD (q6 ae.cells dA) 149 3,sepL (q6 ae.own dA),row eF r1.bi.af.ls.length eG (q6 ae.cells dB) 149 3,sepL (q6 ae.own dB),row eH r1.bn.af.ls.length eO (q6 ae.cells dC) 149 3,sepL (q6 ae.own dC),row eP r1.aZ.af.ls.length eQ (q6 ae.cells dD) 149 3,sepL (q6 ae.own dD)]∧(s8 bC.abs dm=r0.bq.ls)∧(s8 aA.abs dn=r1.aa.ak.ls)∧(s8 aT.abs dw=r1.aa.aJ.ls)∧(s8 bz.abs dx=r1.au.ls)∧(s8 ae.abs dz=r1.bH.af.ls)∧(s8 ae.abs dA=r1.bf.af.ls)∧(s8 ae.abs dB=r1.bi.af.ls)∧(s8 ae.abs dC=r1.bn.af.ls)∧(s8 ae.abs dD=r1.aZ.af.ls)):=by
 subst kL kM kN
 have wJ:=az ag
 have wK:=az aR
 have lX:=az M
 have lY:=az B
 have lZ:=az C
 have l5:=az E
 have l6:=az s
 have l7:=az u
 have l8:=az y
 have l9:=az z
 have wO:=H.rowC (i:=1) rfl
 have ma:=H.rowC (i:=4) rfl
 have mf:=H.rowC (i:=5) rfl
 have mg:=H.rowC (i:=7) rfl
 have mh:=H.rowC (i:=9) rfl
 have mi:=H.rowC (i:=11) rfl
 have mo:=H.rowC (i:=13) rfl
 have mq:=H.rowC (i:=15) rfl
 have mr:=H.rowC (i:=17) rfl
 have mD:=H.rowC (i:=19) rfl
 refine cb Tryz.func56 ?_
 refine sr ?_
 refine dM (gT b av Z ay aa aC af) 42 H ?_
 intro bT Ct mE
 refine ns (Kz (vP bT 1) (Lz (vI b.aH) mE 0 C6 (fw (vI (b.aH - 10)) (FX (e:=C7.wrap (b.aH - 10)) yk g2) ?_)))
 refine dM [vI 0] 3 mE ?_
 intro mF Cu wP
 refine dN [vI (b.aH - 10)] 0 wP Tryz.sizeOf3 ?_
 intro Cv wQ
 refine nt (FW (FW ?_))
 refine oL 23 [] (Gb (Gb Gj)) wQ ?_
 intro Cw bO
 refine qp bT 7 0 rfl (ql 1 rfl 1 E1 rfl rfl rfl (qv 2 rfl rfl (qp g0 0 3 rfl (qp g0 0 4 rfl (ql 5 rfl 2 O2 rfl rfl rfl (qp r 0 6 rfl (qp r 0 7 rfl (qp r 1 8 rfl (ql 9 rfl 5 E1 rfl rfl rfl (qt (v:= .bool (decide (¬ (((b.ay:Nat):Int)=((a.aa.ay:Nat):Int))))) 10 rfl (fun _ _=>Gm (e:= !(decide (((b.ay:Nat):Int)=((a.aa.ay:Nat):Int)))) yk decide_not.symm) (qn (FY ?_))))))))))))
 by_cases aS:((b.ay:Nat):Int)=((a.aa.ay:Nat):Int)
 refine jF (dF (JR aS)) (sk (FW (sr (Mz rfl (Kz (vP g0 0) (Kz (vP g0 0) (Lz (vP r 0) bO 2 O2 (Kz (vP r 0) (Kz (vP r 8) (Lz (.slice F a.au.ls.length G) bO 5 Tryz.isAgg79 (Kz (.func (.func 88) #[] #[vP mF 0]) ?_)))))))))))
 obtain⟨mG,aG⟩:∃ q,ic a.au.ls (b.aH - 10)=q:=⟨_,rfl⟩
 obtain⟨Cx,mH,Bz,mI,bP⟩:=Gq bO
 refine cl Tryz.call87 (nN _ _ F a.au.ls.length G P a.au.ls mF (b.aH - 10) mG mH C (bP _ 10 _ rfl aP) (fun x9 h9=>⟨bP _ 11 _ rfl (ax (P2.2 ⟨x9,h9,b1⟩) aP),aY (φ:=fun _=>_) bO (i:=12) rfl (ax (P2.2 ⟨x9,h9,b1⟩) aV),bP _ 11 _ rfl (ax (P2.2 ⟨x9,h9, .tail _ b1⟩) aP),aY (φ:=fun _=>_) bO (i:=12) rfl (ax (P2.2 ⟨x9,h9, .tail _ b1⟩) aV),(fun y1 k1=>⟨bP _ 11 _ rfl (ax (P2.2 ⟨x9,h9, .tail _ b4⟩) (ax (P2.2 ⟨y1,k1,b1⟩) aP)),aY (φ:=fun _=>_) bO (i:=12) rfl (ax (P2.2 ⟨x9,h9, .tail _ b4⟩) (ax (P2.2 ⟨y1,k1,b1⟩) aV)),bP _ 11 _ rfl (ax (P2.2 ⟨x9,h9, .tail _ b4⟩) (ax (P2.2 ⟨y1,k1, .tail _ b1⟩) aP)),aY (φ:=fun _=>_) bO (i:=12) rfl (ax (P2.2 ⟨x9,h9, .tail _ b4⟩) (ax (P2.2 ⟨y1,k1, .tail _ b1⟩) aV))⟩),bP _ 11 _ rfl (ax (P2.2 ⟨x9,h9, .tail _ b2⟩) aP),aY (φ:=fun _=>_) bO (i:=12) rfl (ax (P2.2 ⟨x9,h9, .tail _ b2⟩) aV),bP _ 11 _ rfl (ax (P2.2 ⟨x9,h9, .tail _ b3⟩) aP),aY (φ:=fun _=>_) bO (i:=12) rfl (ax (P2.2 ⟨x9,h9, .tail _ b3⟩) aV),(fun y1 k1=>⟨bP _ 11 _ rfl (ax (P2.2 ⟨x9,h9, .tail _ b5⟩) (ax (P2.2 ⟨y1,k1,b1⟩) aP)),aY (φ:=fun _=>_) bO (i:=12) rfl (ax (P2.2 ⟨x9,h9, .tail _ b5⟩) (ax (P2.2 ⟨y1,k1,b1⟩) aV)),(fun y2 k2=>⟨bP _ 11 _ rfl (ax (P2.2 ⟨x9,h9, .tail _ b5⟩) (ax (P2.2 ⟨y1,k1, .tail _ b1⟩) (ax (P2.2 ⟨y2,k2,b1⟩) aP))),aY (φ:=fun _=>_) bO (i:=12) rfl (ax (P2.2 ⟨x9,h9, .tail _ b5⟩) (ax (P2.2 ⟨y1,k1, .tail _ b1⟩) (ax (P2.2 ⟨y2,k2,b1⟩) aV)))⟩)⟩)⟩) rfl e6 aG) ?_
 rintro _ Cy ⟨rfl,mJ⟩
 have mM:=mI _ _ mJ
 refine nt ?_
 rcases JS (mG) with aU | aU
 refine jT aU (rt (tR (Fin.res (res0 rfl) ?_)))
 have wR:=mM.px [] [0,1] []
 obtain⟨rfl,rfl⟩:=gm (hr.symm.trans (show _=(p0,a) from et (ip aS) (et (ai aG) (ip aU))))
 exact⟨aD,aF,au,S,T,U,V,W,X,N,O,F,G,P,Y,Q,R,j,d,I,l,f,J,n,g,K,p,h,L,rfl,wR,ag,M,B,C,E,s,u,y,z⟩
 refine jF aU (sk (FW (FW ?_)))
 refine oL 23 [] (Gb (Gb Gj)) mM ?_
 intro Cz jJ
 refine qv 0 rfl rfl (qp g0 0 1 rfl (qp g0 0 2 rfl (ql 3 rfl 2 O2 rfl rfl rfl (ql 4 rfl 0 C6 rfl rfl rfl (qp r 0 5 rfl (qp r 9 6 rfl ?_))))))
 by_cases bK:b.aH - 10=1
 refine qt (v:=vP r 13) 7 rfl (fun _ _=>by rw [show b.aH - 10=1 from by omega]; exact yk) (qt (v:= .agg #[.bool a.bf.cB,vU a.bf.aM,vI a.bf.dw, .slice j a.bf.af.ls.length d]) 8 rfl (fun _ ⟨_,H9⟩=>F7 rfl (Gf (cs:= [.bool a.bf.cB,vU a.bf.aM,vI a.bf.dw, .slice j a.bf.af.ls.length d]) P8 O6 ((H9.cls (i:=5) rfl).lit (k:=13) (m:=4) rfl))) ?_)
 refine qd 9 rfl (GH (cs:= [.bool false, .int .u64 0,vI 0, .slice none 0 0]) (t:=81) jJ rfl rfl (fun _=>by kernel_rfl) ?_)
 intro dK CB wS
 have mO:=wS.pb [0]
 refine⟨.inr ⟨_,mO⟩, ?_⟩
 have wT:=mO.pf [23]
 refine qe 10 rfl (Do.store (vs:= [.bool a.bf.cB,vU a.bf.aM,vI a.bf.dw, .slice j a.bf.af.ls.length d]) (o:=0) wT rfl rfl O6 rfl rfl rfl rfl ?_)
 intro CE wU
 have bL:=wU.pb [0]
 refine⟨.inr ⟨_,bL⟩, ?_⟩
 refine qn (FY (sr (Kz (vP dK 0) (Lz (.bool a.bf.cB) bL 23 M2 (Mz rfl ?_)))))
 rcases JS (a.bf.cB) with bq | bq
 refine Gz (vP dK 1) bq (Gl (vU a.bf.aM) bq bL 23 E1 (Gz (vP bT 6) bq (Gl (vU b.aO) bq bL 1 E1 (Gz (.bool (decide (((a.bf.aM:Nat):Int) ≥ ((b.aO:Nat):Int)))) bq (fw (.bool (decide (((a.bf.aM:Nat):Int) ≥ ((b.aO:Nat):Int)))) (Gd rfl bq rfl) (nt ?_))))))
 by_cases eT:((a.bf.aM:Nat):Int) ≥ ((b.aO:Nat):Int)
 refine jT (dT eT) (FW (sr (Kz (vP dK 1) (Lz (vU a.bf.aM) bL 23 E1 (Kz (vP bT 6) (Lz (vU b.aO) bL 1 E1 (Kz (.bool (decide (((a.bf.aM:Nat):Int)=((b.aO:Nat):Int)))) (nt ?_))))))))
 by_cases jK:((a.bf.aM:Nat):Int)=((b.aO:Nat):Int)
 refine jT (dT jK) (FV (Mz rfl (Lz (vI (b.aH - 10)) bL 0 C6 (Kz (vP dK 1) (Lz (vU a.bf.aM) bL 23 E1 (Kz (vP dK 2) (Lz (vI a.bf.dw) bL 23 C6 (Kz (vP dK 3) (Lz (.slice j a.bf.af.ls.length d) bL 23 E6 ?_)))))))))
 refine WL.do rfl (Gg O3 rfl ?_ (fun _ _ k=>k))
 refine cb O4 ?_
 refine FV (Mz rfl (Mz rfl (fw (vI (10+(b.aH - 10))) (FX (e:=C7.wrap (10+(b.aH - 10))) yk g2) (Mz rfl (Mz rfl (Kz (vP g0 0) (Kz (vP g0 0) (Lz (vP r 0) bL 2 O2 (Kz (vP r 0) (Kz (vP r 0) (Kz (vP r 1) (Lz (vU a.aa.ay) bL 5 E1 (Mz rfl (Mz rfl (Kz (.agg (gD 2 0 (10+(b.aH - 10)) 0 a.bf.dw 0 a.bf.aM a.aa.ay 0 0 0 0 0 0 0 false ([]) ([]) none 0 0 j a.bf.af.ls.length d none 0 0).toArray) ?_)))))))))))))))
 have mP:=bL.pf [2,3,4]
 obtain⟨kQ,jO⟩:∃ q,df p0 (bM.mk 2 0 (10+(b.aH - 10)) 0 a.bf.dw 0 a.bf.aM a.aa.ay 0 0 0 0 0 0 0 false (bI.mk ([]) ([])) (E4 ([])) (E4 a.bf.af.ls) (E4 ([])))=q:=⟨_,rfl⟩
 obtain⟨CF,mQ,BB,mR,jP⟩:=Gx mP
 refine cl O5 (fI _ _ g0 p0 aD aF au r (bM.mk 2 0 (10+(b.aH - 10)) 0 a.bf.dw 0 a.bf.aM a.aa.ay 0 0 0 0 0 0 0 false (bI.mk ([]) ([])) (E4 ([])) (E4 a.bf.af.ls) (E4 ([]))) none 0 0 j a.bf.af.ls.length d I none 0 0 kQ mQ ag rfl (fun _ _=>bA.nil _ _ _) f2 s rfl (jP _ 12 _ rfl aP) (show a.bf.af.ls.length≤d∧a.bf.af.ls.length≤9223372036854775807 from by omega) (fun x9 h9=>⟨jP _ 13 _ rfl (ax (P2.2 ⟨x9,h9,b1⟩) aP),aY (φ:=fun _=>_) mP (i:=16) rfl (ax (P2.2 ⟨x9,h9,b1⟩) aV)⟩) rfl (fun _ _=>bA.nil _ _ _) f2 e8 (by first | assumption | exact dE f4 | exact fun x hx=>absurd hx B3 | exact dE (Mk.l8 f4).1 | exact dE (Mk.lq f4).1 | exact dE (Mk.mo f4).1 | exact dE (Mk.mr f4).1 | exact dE (Mk.mq f4).1) jO) ?_
 rintro _ CG ⟨wV,wW,wX,rfl,mU,jQ,jR⟩
 have mV:=mR _ _ mU
 have BC:=az jQ
 have BD:=mV.rowC (i:=1) rfl
 replace jR:kQ.bq.ls.length=p0.bq.ls.length+1:=jR
 refine D0 (Gh (res0 rfl) (nt (rt (tR (Fin.res (res0 rfl) ?_)))))
 have wY:=mV.px [] [3,4,23] []
 obtain⟨rfl,rfl⟩:=gm (hr.symm.trans (show _=(kQ,a) from et (ip aS) (et (ai aG) (et (gB aU) (et (ip bK) (et (ip bq) (et (ip eT) (et (ip jK) (ai jO)))))))))
 exact⟨wV,wW,wX,S,T,U,V,W,X,N,O,F,G,P,Y,Q,R,j,d,I,l,f,J,n,g,K,p,h,L,rfl,wY,jQ,M,B,C,E,s,u,y,z⟩
 refine jF (dF jK) (sk (rt (tR (Fin.res (res0 rfl) ?_))))
 have wZ:=bL.px [] [0,1,23] []
 obtain⟨rfl,rfl⟩:=gm (hr.symm.trans (show _=(p0,a) from et (ip aS) (et (ai aG) (et (gB aU) (et (ip bK) (et (ip bq) (et (ip eT) (iN jK))))))))
 exact⟨aD,aF,au,S,T,U,V,W,X,N,O,F,G,P,Y,Q,R,j,d,I,l,f,J,n,g,K,p,h,L,rfl,wZ,ag,M,B,C,E,s,u,y,z⟩
 refine jF (dF eT) (sk ?_)
 have kR:=bL.px [] [23] []
 refine FV (Mz rfl (Lz (vI (b.aH - 10)) kR 0 C6 (La (gT b av Z ay aa aC af) kR 1 M4 M5 ?_)))
 have w9:=kR.pb [0,1]
 obtain⟨⟨mW,mX⟩,jS⟩:∃ q:bE × aB,dU p0 (b.aH - 10) b a=q:=⟨_,rfl⟩
 obtain⟨CJ,mY,dG,mZ,BF⟩:=GK w9
 refine cl P9 (jw _ _ g0 p0 aD aF au (b.aH - 10) b av b.aF.ls.length Z ay b.ah.ls.length aa bi aC b.ag.ls.length af r a S T U V W X N O F G P Y Q R j d I l f J n g K p h L mW mX mY ag rfl (dG _ aZ) (show b.aF.ls.length≤Z∧b.aF.ls.length≤9223372036854775807 from by omega) aR rfl (dG _ bf) (show b.ah.ls.length≤aa∧b.ah.ls.length≤9223372036854775807 from by omega) (fun x9 h9=>⟨dG _ (ah x9 h9).1,(ah x9 h9).2⟩) rfl (dG _ bg) (show b.ag.ls.length≤af∧b.ag.ls.length≤9223372036854775807 from by omega) M B C E s u y z e8 e6 e8 jS) ?_
 rintro _ CK ⟨xc,xe,xg,xh,xk,xm,xn,ng,xq,ni,nk,nu,ny,nz,nA,nC,nD,nE,nG,nH,nI,nJ,nK,nL,nM,nO,nP,nQ,nR,rfl,nS,jU,eU,eX,eY,eZ,fe,fo,fq,fu⟩
 have bR:=mZ _ _ nS
 have xu:=az jU
 have xw:=az eU
 have xx:=az eX
 have xy:=az eY
 have xz:=az eZ
 have xA:=az fe
 have xB:=az fo
 have xC:=az fq
 have xD:=az fu
 have xE:=bR.rowC (i:=1) rfl
 have xG:=bR.rowC (i:=4) rfl
 have xH:=bR.rowC (i:=5) rfl
 have xI:=bR.rowC (i:=7) rfl
 have xJ:=bR.rowC (i:=9) rfl
 have xK:=bR.rowC (i:=11) rfl
 have xL:=bR.rowC (i:=13) rfl
 have xM:=bR.rowC (i:=15) rfl
 have xO:=bR.rowC (i:=17) rfl
 have xP:=bR.rowC (i:=19) rfl
 refine D0 (Gh (res0 rfl) ?_)
 have nT:=bR.px [] [21,22] []
 obtain⟨rfl,rfl⟩:=gm (hr.symm.trans (show _=(mW,mX) from et (ip aS) (et (ai aG) (et (gB aU) (et (ip bK) (et (ip bq) (et (iN eT) (ai jS))))))))
 exact⟨xc,xe,xg,xh,xk,xm,xn,ng,xq,ni,nk,nu,ny,nz,nA,nC,nD,nE,nG,nH,nI,nJ,nK,nL,nM,nO,nP,nQ,nR,rfl,nT,jU,eU,eX,eY,eZ,fe,fo,fq,fu⟩
 refine Sz bq (Sz bq (Sz bq (Sz bq (Sz bq (fw (.bool false) (FZ rfl bq rfl) (nt (jf (sk ?_))))))))
 have fA:=bL.px [] [23] []
 refine FV (Mz rfl (Lz (vI (b.aH - 10)) fA 0 C6 (La (gT b av Z ay aa aC af) fA 1 M4 M5 ?_)))
 have nU:=fA.pb [0,1]
 obtain⟨⟨jV,jW⟩,fB⟩:∃ q:bE × aB,dU p0 (b.aH - 10) b a=q:=⟨_,rfl⟩
 obtain⟨BG,kS,bX,kT,xQ⟩:=GK nU
 refine cl P9 (jw _ _ g0 p0 aD aF au (b.aH - 10) b av b.aF.ls.length Z ay b.ah.ls.length aa bi aC b.ag.ls.length af r a S T U V W X N O F G P Y Q R j d I l f J n g K p h L jV jW kS ag rfl (bX _ aZ) (show b.aF.ls.length≤Z∧b.aF.ls.length≤9223372036854775807 from by omega) aR rfl (bX _ bf) (show b.ah.ls.length≤aa∧b.ah.ls.length≤9223372036854775807 from by omega) (fun x9 h9=>⟨bX _ (ah x9 h9).1,(ah x9 h9).2⟩) rfl (bX _ bg) (show b.ag.ls.length≤af∧b.ag.ls.length≤9223372036854775807 from by omega) M B C E s u y z e8 e6 e8 fB) ?_
 rintro _ BH ⟨nV,nW,nX,nY,nZ,og,oh,ol,om,oo,oq,ou,ow,oz,oC,oD,oF,oG,oH,oI,oJ,oK,oM,oN,oO,oP,oQ,oU,oV,rfl,kU,fC,fD,fE,fF,fG,fH,fJ,fK,fM⟩
 have bu:=kT _ _ kU
 have xR:=az fC
 have xS:=az fD
 have xU:=az fE
 have xV:=az fF
 have xW:=az fG
 have xX:=az fH
 have xY:=az fJ
 have xZ:=az fK
 have x8:=az fM
 have yc:=bu.rowC (i:=1) rfl
 have yf:=bu.rowC (i:=4) rfl
 have yg:=bu.rowC (i:=5) rfl
 have yh:=bu.rowC (i:=7) rfl
 have yj:=bu.rowC (i:=9) rfl
 have yl:=bu.rowC (i:=11) rfl
 have ym:=bu.rowC (i:=13) rfl
 have yn:=bu.rowC (i:=15) rfl
 have yo:=bu.rowC (i:=17) rfl
 have yt:=bu.rowC (i:=19) rfl
 refine D0 (Gh (res0 rfl) ?_)
 have oW:=bu.px [] [21,22] []
 obtain⟨rfl,rfl⟩:=gm (hr.symm.trans (show _=(jV,jW) from et (ip aS) (et (ai aG) (et (gB aU) (et (ip bK) (et (gB bq) (ai fB)))))))
 exact⟨nV,nW,nX,nY,nZ,og,oh,ol,om,oo,oq,ou,ow,oz,oC,oD,oF,oG,oH,oI,oJ,oK,oM,oN,oO,oP,oQ,oU,oV,rfl,oW,fC,fD,fE,fF,fG,fH,fJ,fK,fM⟩
 by_cases bn:b.aH - 10=2
 refine qt (v:=vP r 17) 7 rfl (fun _ _=>by rw [show b.aH - 10=2 from by omega]; exact yk) (qt (v:= .agg #[.bool a.bi.cB,vU a.bi.aM,vI a.bi.dw, .slice l a.bi.af.ls.length f]) 8 rfl (fun _ ⟨_,H9⟩=>F7 rfl (Gf (cs:= [.bool a.bi.cB,vU a.bi.aM,vI a.bi.dw, .slice l a.bi.af.ls.length f]) P8 O6 ((H9.cls (i:=5) rfl).lit (k:=17) (m:=4) rfl))) ?_)
 refine qd 9 rfl (GH (cs:= [.bool false, .int .u64 0,vI 0, .slice none 0 0]) (t:=81) jJ rfl rfl (fun _=>by kernel_rfl) ?_)
 intro bU BI oZ
 have jX:=oZ.pb [0]
 refine⟨.inr ⟨_,jX⟩, ?_⟩
 have o5:=jX.pf [23]
 refine qe 10 rfl (Do.store (vs:= [.bool a.bi.cB,vU a.bi.aM,vI a.bi.dw, .slice l a.bi.af.ls.length f]) (o:=0) o5 rfl rfl O6 rfl rfl rfl rfl ?_)
 intro BJ o6
 have aM:=o6.pb [0]
 refine⟨.inr ⟨_,aM⟩, ?_⟩
 refine qn (FY (sr (Kz (vP bU 0) (Lz (.bool a.bi.cB) aM 23 M2 (Mz rfl ?_)))))
 rcases JS (a.bi.cB) with aJ | aJ
 refine Gz (vP bU 1) aJ (Gl (vU a.bi.aM) aJ aM 23 E1 (Gz (vP bT 6) aJ (Gl (vU b.aO) aJ aM 1 E1 (Gz (.bool (decide (((a.bi.aM:Nat):Int) ≥ ((b.aO:Nat):Int)))) aJ (fw (.bool (decide (((a.bi.aM:Nat):Int) ≥ ((b.aO:Nat):Int)))) (Gd rfl aJ rfl) (nt ?_))))))
 by_cases cZ:((a.bi.aM:Nat):Int) ≥ ((b.aO:Nat):Int)
 refine jT (dT cZ) (FW (sr (Kz (vP bU 1) (Lz (vU a.bi.aM) aM 23 E1 (Kz (vP bT 6) (Lz (vU b.aO) aM 1 E1 (Kz (.bool (decide (((a.bi.aM:Nat):Int)=((b.aO:Nat):Int)))) (nt ?_))))))))
 by_cases dH:((a.bi.aM:Nat):Int)=((b.aO:Nat):Int)
 refine jT (dT dH) (FV (Mz rfl (Lz (vI (b.aH - 10)) aM 0 C6 (Kz (vP bU 1) (Lz (vU a.bi.aM) aM 23 E1 (Kz (vP bU 2) (Lz (vI a.bi.dw) aM 23 C6 (Kz (vP bU 3) (Lz (.slice l a.bi.af.ls.length f) aM 23 E6 ?_)))))))))
 refine WL.do rfl (Gg O3 rfl ?_ (fun _ _ k=>k))
 refine cb O4 ?_
 refine FV (Mz rfl (Mz rfl (fw (vI (10+(b.aH - 10))) (FX (e:=C7.wrap (10+(b.aH - 10))) yk g2) (Mz rfl (Mz rfl (Kz (vP g0 0) (Kz (vP g0 0) (Lz (vP r 0) aM 2 O2 (Kz (vP r 0) (Kz (vP r 0) (Kz (vP r 1) (Lz (vU a.aa.ay) aM 5 E1 (Mz rfl (Mz rfl (Kz (.agg (gD 2 0 (10+(b.aH - 10)) 0 a.bi.dw 0 a.bi.aM a.aa.ay 0 0 0 0 0 0 0 false ([]) ([]) none 0 0 l a.bi.af.ls.length f none 0 0).toArray) ?_)))))))))))))))
 have jY:=aM.pf [2,3,4]
 obtain⟨fO,fP⟩:∃ q,df p0 (bM.mk 2 0 (10+(b.aH - 10)) 0 a.bi.dw 0 a.bi.aM a.aa.ay 0 0 0 0 0 0 0 false (bI.mk ([]) ([])) (E4 ([])) (E4 a.bi.af.ls) (E4 ([])))=q:=⟨_,rfl⟩
 obtain⟨BK,kV,yu,kW,fQ⟩:=Gx jY
 refine cl O5 (fI _ _ g0 p0 aD aF au r (bM.mk 2 0 (10+(b.aH - 10)) 0 a.bi.dw 0 a.bi.aM a.aa.ay 0 0 0 0 0 0 0 false (bI.mk ([]) ([])) (E4 ([])) (E4 a.bi.af.ls) (E4 ([]))) none 0 0 l a.bi.af.ls.length f J none 0 0 fO kV ag rfl (fun _ _=>bA.nil _ _ _) f2 u rfl (fQ _ 14 _ rfl aP) (show a.bi.af.ls.length≤f∧a.bi.af.ls.length≤9223372036854775807 from by omega) (fun x9 h9=>⟨fQ _ 15 _ rfl (ax (P2.2 ⟨x9,h9,b1⟩) aP),aY (φ:=fun _=>_) jY (i:=18) rfl (ax (P2.2 ⟨x9,h9,b1⟩) aV)⟩) rfl (fun _ _=>bA.nil _ _ _) f2 e8 (by first | assumption | exact dE f4 | exact fun x hx=>absurd hx B3 | exact dE (Mk.l8 f4).1 | exact dE (Mk.lq f4).1 | exact dE (Mk.mo f4).1 | exact dE (Mk.mr f4).1 | exact dE (Mk.mq f4).1) fP) ?_
 rintro _ BL ⟨o7,o8,o9,rfl,kX,fT,fU⟩
 have j3:=kW _ _ kX
 have yw:=az fT
 have yx:=j3.rowC (i:=1) rfl
 replace fU:fO.bq.ls.length=p0.bq.ls.length+1:=fU
 refine D0 (Gh (res0 rfl) (nt (rt (tR (Fin.res (res0 rfl) ?_)))))
 have pg:=j3.px [] [3,4,23] []
 obtain⟨rfl,rfl⟩:=gm (hr.symm.trans (show _=(fO,a) from et (ip aS) (et (ai aG) (et (gB aU) (et (iN bK) (et (ip bn) (et (ip aJ) (et (ip cZ) (et (ip dH) (ai fP))))))))))
 exact⟨o7,o8,o9,S,T,U,V,W,X,N,O,F,G,P,Y,Q,R,j,d,I,l,f,J,n,g,K,p,h,L,rfl,pg,fT,M,B,C,E,s,u,y,z⟩
 refine jF (dF dH) (sk (rt (tR (Fin.res (res0 rfl) ?_))))
 have pq:=aM.px [] [0,1,23] []
 obtain⟨rfl,rfl⟩:=gm (hr.symm.trans (show _=(p0,a) from et (ip aS) (et (ai aG) (et (gB aU) (et (iN bK) (et (ip bn) (et (ip aJ) (et (ip cZ) (iN dH)))))))))
 exact⟨aD,aF,au,S,T,U,V,W,X,N,O,F,G,P,Y,Q,R,j,d,I,l,f,J,n,g,K,p,h,L,rfl,pq,ag,M,B,C,E,s,u,y,z⟩
 refine jF (dF cZ) (sk ?_)
 have fV:=aM.px [] [23] []
 refine FV (Mz rfl (Lz (vI (b.aH - 10)) fV 0 C6 (La (gT b av Z ay aa aC af) fV 1 M4 M5 ?_)))
 have pu:=fV.pb [0,1]
 obtain⟨⟨j4,j5⟩,fZ⟩:∃ q:bE × aB,dU p0 (b.aH - 10) b a=q:=⟨_,rfl⟩
 obtain⟨BM,kY,bY,kZ,yz⟩:=GK pu
 refine cl P9 (jw _ _ g0 p0 aD aF au (b.aH - 10) b av b.aF.ls.length Z ay b.ah.ls.length aa bi aC b.ag.ls.length af r a S T U V W X N O F G P Y Q R j d I l f J n g K p h L j4 j5 kY ag rfl (bY _ aZ) (show b.aF.ls.length≤Z∧b.aF.ls.length≤9223372036854775807 from by omega) aR rfl (bY _ bf) (show b.ah.ls.length≤aa∧b.ah.ls.length≤9223372036854775807 from by omega) (fun x9 h9=>⟨bY _ (ah x9 h9).1,(ah x9 h9).2⟩) rfl (bY _ bg) (show b.ag.ls.length≤af∧b.ag.ls.length≤9223372036854775807 from by omega) M B C E s u y z e8 e6 e8 fZ) ?_
 rintro _ BN ⟨pz,pE,pF,pG,pI,pJ,pK,pM,pO,pQ,pR,pU,pV,pW,pX,pY,p8,p9,qa,qb,qc,qf,qg,qh,qi,qj,qm,qo,qw,rfl,lc,gp,gq,gu,gy,gz,gF,gG,gH,gI⟩
 have bB:=kZ _ _ lc
 have yA:=az gp
 have yB:=az gq
 have yC:=az gu
 have yD:=az gy
 have yE:=az gz
 have yF:=az gF
 have yG:=az gG
 have yH:=az gH
 have yI:=az gI
 have yJ:=bB.rowC (i:=1) rfl
 have yK:=bB.rowC (i:=4) rfl
 have yL:=bB.rowC (i:=5) rfl
 have yM:=bB.rowC (i:=7) rfl
 have yN:=bB.rowC (i:=9) rfl
 have yO:=bB.rowC (i:=11) rfl
 have yP:=bB.rowC (i:=13) rfl
 have yQ:=bB.rowC (i:=15) rfl
 have yR:=bB.rowC (i:=17) rfl
 have yS:=bB.rowC (i:=19) rfl
 refine D0 (Gh (res0 rfl) ?_)
 have qx:=bB.px [] [21,22] []
 obtain⟨rfl,rfl⟩:=gm (hr.symm.trans (show _=(j4,j5) from et (ip aS) (et (ai aG) (et (gB aU) (et (iN bK) (et (ip bn) (et (ip aJ) (et (iN cZ) (ai fZ)))))))))
 exact⟨pz,pE,pF,pG,pI,pJ,pK,pM,pO,pQ,pR,pU,pV,pW,pX,pY,p8,p9,qa,qb,qc,qf,qg,qh,qi,qj,qm,qo,qw,rfl,qx,gp,gq,gu,gy,gz,gF,gG,gH,gI⟩
 refine Sz aJ (Sz aJ (Sz aJ (Sz aJ (Sz aJ (fw (.bool false) (FZ rfl aJ rfl) (nt (jf (sk ?_))))))))
 have gJ:=aM.px [] [23] []
 refine FV (Mz rfl (Lz (vI (b.aH - 10)) gJ 0 C6 (La (gT b av Z ay aa aC af) gJ 1 M4 M5 ?_)))
 have qy:=gJ.pb [0,1]
 obtain⟨⟨j6,kg⟩,gK⟩:∃ q:bE × aB,dU p0 (b.aH - 10) b a=q:=⟨_,rfl⟩
 obtain⟨BO,lg,bZ,lh,yT⟩:=GK qy
 refine cl P9 (jw _ _ g0 p0 aD aF au (b.aH - 10) b av b.aF.ls.length Z ay b.ah.ls.length aa bi aC b.ag.ls.length af r a S T U V W X N O F G P Y Q R j d I l f J n g K p h L j6 kg lg ag rfl (bZ _ aZ) (show b.aF.ls.length≤Z∧b.aF.ls.length≤9223372036854775807 from by omega) aR rfl (bZ _ bf) (show b.ah.ls.length≤aa∧b.ah.ls.length≤9223372036854775807 from by omega) (fun x9 h9=>⟨bZ _ (ah x9 h9).1,(ah x9 h9).2⟩) rfl (bZ _ bg) (show b.ag.ls.length≤af∧b.ag.ls.length≤9223372036854775807 from by omega) M B C E s u y z e8 e6 e8 gK) ?_
 rintro _ BP ⟨qz,qA,qB,qC,qD,qE,qF,qG,qH,qI,qJ,qK,qL,qM,qN,qO,qP,qQ,qR,qU,qV,qW,qX,qY,qZ,q8,q9,rf,rq,rfl,ll,gL,gM,gN,gP,gQ,gU,gV,gW,gX⟩
 have bD:=lh _ _ ll
 have yU:=az gL
 have yV:=az gM
 have yX:=az gN
 have yY:=az gP
 have yZ:=az gQ
 have y5:=az gU
 have y7:=az gV
 have y8:=az gW
 have y9:=az gX
 have za:=bD.rowC (i:=1) rfl
 have zb:=bD.rowC (i:=4) rfl
 have ze:=bD.rowC (i:=5) rfl
 have zf:=bD.rowC (i:=7) rfl
 have zg:=bD.rowC (i:=9) rfl
 have zh:=bD.rowC (i:=11) rfl
 have zi:=bD.rowC (i:=13) rfl
 have zk:=bD.rowC (i:=15) rfl
 have zl:=bD.rowC (i:=17) rfl
 have zm:=bD.rowC (i:=19) rfl
 refine D0 (Gh (res0 rfl) ?_)
 have ru:=bD.px [] [21,22] []
 obtain⟨rfl,rfl⟩:=gm (hr.symm.trans (show _=(j6,kg) from et (ip aS) (et (ai aG) (et (gB aU) (et (iN bK) (et (ip bn) (et (gB aJ) (ai gK))))))))
 exact⟨qz,qA,qB,qC,qD,qE,qF,qG,qH,qI,qJ,qK,qL,qM,qN,qO,qP,qQ,qR,qU,qV,qW,qX,qY,qZ,q8,q9,rf,rq,rfl,ru,gL,gM,gN,gP,gQ,gU,gV,gW,gX⟩
 by_cases bQ:b.aH - 10=3
 refine qt (v:=vP r 21) 7 rfl (fun _ _=>by rw [show b.aH - 10=3 from by omega]; exact yk) (qt (v:= .agg #[.bool a.bn.cB,vU a.bn.aM,vI a.bn.dw, .slice n a.bn.af.ls.length g]) 8 rfl (fun _ ⟨_,H9⟩=>F7 rfl (Gf (cs:= [.bool a.bn.cB,vU a.bn.aM,vI a.bn.dw, .slice n a.bn.af.ls.length g]) P8 O6 ((H9.cls (i:=5) rfl).lit (k:=21) (m:=4) rfl))) ?_)
 refine qd 9 rfl (GH (cs:= [.bool false, .int .u64 0,vI 0, .slice none 0 0]) (t:=81) jJ rfl rfl (fun _=>by kernel_rfl) ?_)
 intro bV BQ ry
 have ko:=ry.pb [0]
 refine⟨.inr ⟨_,ko⟩, ?_⟩
 have rz:=ko.pf [23]
 refine qe 10 rfl (Do.store (vs:= [.bool a.bn.cB,vU a.bn.aM,vI a.bn.dw, .slice n a.bn.af.ls.length g]) (o:=0) rz rfl rfl O6 rfl rfl rfl rfl ?_)
 intro BR rA
 have aN:=rA.pb [0]
 refine⟨.inr ⟨_,aN⟩, ?_⟩
 refine qn (FY (sr (Kz (vP bV 0) (Lz (.bool a.bn.cB) aN 23 M2 (Mz rfl ?_)))))
 rcases JS (a.bn.cB) with aK | aK
 refine Gz (vP bV 1) aK (Gl (vU a.bn.aM) aK aN 23 E1 (Gz (vP bT 6) aK (Gl (vU b.aO) aK aN 1 E1 (Gz (.bool (decide (((a.bn.aM:Nat):Int) ≥ ((b.aO:Nat):Int)))) aK (fw (.bool (decide (((a.bn.aM:Nat):Int) ≥ ((b.aO:Nat):Int)))) (Gd rfl aK rfl) (nt ?_))))))
 by_cases dh:((a.bn.aM:Nat):Int) ≥ ((b.aO:Nat):Int)
 refine jT (dT dh) (FW (sr (Kz (vP bV 1) (Lz (vU a.bn.aM) aN 23 E1 (Kz (vP bT 6) (Lz (vU b.aO) aN 1 E1 (Kz (.bool (decide (((a.bn.aM:Nat):Int)=((b.aO:Nat):Int)))) (nt ?_))))))))
 by_cases dI:((a.bn.aM:Nat):Int)=((b.aO:Nat):Int)
 refine jT (dT dI) (FV (Mz rfl (Lz (vI (b.aH - 10)) aN 0 C6 (Kz (vP bV 1) (Lz (vU a.bn.aM) aN 23 E1 (Kz (vP bV 2) (Lz (vI a.bn.dw) aN 23 C6 (Kz (vP bV 3) (Lz (.slice n a.bn.af.ls.length g) aN 23 E6 ?_)))))))))
 refine WL.do rfl (Gg O3 rfl ?_ (fun _ _ k=>k))
 refine cb O4 ?_
 refine FV (Mz rfl (Mz rfl (fw (vI (10+(b.aH - 10))) (FX (e:=C7.wrap (10+(b.aH - 10))) yk g2) (Mz rfl (Mz rfl (Kz (vP g0 0) (Kz (vP g0 0) (Lz (vP r 0) aN 2 O2 (Kz (vP r 0) (Kz (vP r 0) (Kz (vP r 1) (Lz (vU a.aa.ay) aN 5 E1 (Mz rfl (Mz rfl (Kz (.agg (gD 2 0 (10+(b.aH - 10)) 0 a.bn.dw 0 a.bn.aM a.aa.ay 0 0 0 0 0 0 0 false ([]) ([]) none 0 0 n a.bn.af.ls.length g none 0 0).toArray) ?_)))))))))))))))
 have kr:=aN.pf [2,3,4]
 obtain⟨gY,gZ⟩:∃ q,df p0 (bM.mk 2 0 (10+(b.aH - 10)) 0 a.bn.dw 0 a.bn.aM a.aa.ay 0 0 0 0 0 0 0 false (bI.mk ([]) ([])) (E4 ([])) (E4 a.bn.af.ls) (E4 ([])))=q:=⟨_,rfl⟩
 obtain⟨BS,lm,zn,lq,ib⟩:=Gx kr
 refine cl O5 (fI _ _ g0 p0 aD aF au r (bM.mk 2 0 (10+(b.aH - 10)) 0 a.bn.dw 0 a.bn.aM a.aa.ay 0 0 0 0 0 0 0 false (bI.mk ([]) ([])) (E4 ([])) (E4 a.bn.af.ls) (E4 ([]))) none 0 0 n a.bn.af.ls.length g K none 0 0 gY lm ag rfl (fun _ _=>bA.nil _ _ _) f2 y rfl (ib _ 16 _ rfl aP) (show a.bn.af.ls.length≤g∧a.bn.af.ls.length≤9223372036854775807 from by omega) (fun x9 h9=>⟨ib _ 17 _ rfl (ax (P2.2 ⟨x9,h9,b1⟩) aP),aY (φ:=fun _=>_) kr (i:=20) rfl (ax (P2.2 ⟨x9,h9,b1⟩) aV)⟩) rfl (fun _ _=>bA.nil _ _ _) f2 e8 (by first | assumption | exact dE f4 | exact fun x hx=>absurd hx B3 | exact dE (Mk.l8 f4).1 | exact dE (Mk.lq f4).1 | exact dE (Mk.mo f4).1 | exact dE (Mk.mr f4).1 | exact dE (Mk.mq f4).1) gZ) ?_
 rintro _ BU ⟨rC,rD,rE,rfl,lu,ig,ik⟩
 have ku:=lq _ _ lu
 have zo:=az ig
 have zq:=ku.rowC (i:=1) rfl
 replace ik:gY.bq.ls.length=p0.bq.ls.length+1:=ik
 refine D0 (Gh (res0 rfl) (nt (rt (tR (Fin.res (res0 rfl) ?_)))))
 have rF:=ku.px [] [3,4,23] []
 obtain⟨rfl,rfl⟩:=gm (hr.symm.trans (show _=(gY,a) from et (ip aS) (et (ai aG) (et (gB aU) (et (iN bK) (et (iN bn) (et (ip bQ) (et (ip aK) (et (ip dh) (et (ip dI) (ai gZ)))))))))))
 exact⟨rC,rD,rE,S,T,U,V,W,X,N,O,F,G,P,Y,Q,R,j,d,I,l,f,J,n,g,K,p,h,L,rfl,rF,ig,M,B,C,E,s,u,y,z⟩
 refine jF (dF dI) (sk (rt (tR (Fin.res (res0 rfl) ?_))))
 have rG:=aN.px [] [0,1,23] []
 obtain⟨rfl,rfl⟩:=gm (hr.symm.trans (show _=(p0,a) from et (ip aS) (et (ai aG) (et (gB aU) (et (iN bK) (et (iN bn) (et (ip bQ) (et (ip aK) (et (ip dh) (iN dI))))))))))
 exact⟨aD,aF,au,S,T,U,V,W,X,N,O,F,G,P,Y,Q,R,j,d,I,l,f,J,n,g,K,p,h,L,rfl,rG,ag,M,B,C,E,s,u,y,z⟩
 refine jF (dF dh) (sk ?_)
 have il:=aN.px [] [23] []
 refine FV (Mz rfl (Lz (vI (b.aH - 10)) il 0 C6 (La (gT b av Z ay aa aC af) il 1 M4 M5 ?_)))
 have rH:=il.pb [0,1]
 obtain⟨⟨kv,kw⟩,iq⟩:∃ q:bE × aB,dU p0 (b.aH - 10) b a=q:=⟨_,rfl⟩
 obtain⟨BV,lv,cu,lw,zt⟩:=GK rH
 refine cl P9 (jw _ _ g0 p0 aD aF au (b.aH - 10) b av b.aF.ls.length Z ay b.ah.ls.length aa bi aC b.ag.ls.length af r a S T U V W X N O F G P Y Q R j d I l f J n g K p h L kv kw lv ag rfl (cu _ aZ) (show b.aF.ls.length≤Z∧b.aF.ls.length≤9223372036854775807 from by omega) aR rfl (cu _ bf) (show b.ah.ls.length≤aa∧b.ah.ls.length≤9223372036854775807 from by omega) (fun x9 h9=>⟨cu _ (ah x9 h9).1,(ah x9 h9).2⟩) rfl (cu _ bg) (show b.ag.ls.length≤af∧b.ag.ls.length≤9223372036854775807 from by omega) M B C E s u y z e8 e6 e8 iq) ?_
 rintro _ BX ⟨rJ,rM,rO,rP,rQ,rR,rT,rU,rV,rW,rX,rY,rZ,r9,si,sj,su,sw,sD,sF,sG,sH,sI,sJ,sK,sM,sN,sO,sP,rfl,lC,iw,iy,iA,iB,iC,iD,iE,iF,iG⟩
 have bF:=lw _ _ lC
 have zu:=az iw
 have zw:=az iy
 have zx:=az iA
 have zy:=az iB
 have zz:=az iC
 have zA:=az iD
 have zB:=az iE
 have zC:=az iF
 have zD:=az iG
 have zF:=bF.rowC (i:=1) rfl
 have zG:=bF.rowC (i:=4) rfl
 have zH:=bF.rowC (i:=5) rfl
 have zI:=bF.rowC (i:=7) rfl
 have zJ:=bF.rowC (i:=9) rfl
 have zK:=bF.rowC (i:=11) rfl
 have zL:=bF.rowC (i:=13) rfl
 have zM:=bF.rowC (i:=15) rfl
 have zN:=bF.rowC (i:=17) rfl
 have zO:=bF.rowC (i:=19) rfl
 refine D0 (Gh (res0 rfl) ?_)
 have sQ:=bF.px [] [21,22] []
 obtain⟨rfl,rfl⟩:=gm (hr.symm.trans (show _=(kv,kw) from et (ip aS) (et (ai aG) (et (gB aU) (et (iN bK) (et (iN bn) (et (ip bQ) (et (ip aK) (et (iN dh) (ai iq))))))))))
 exact⟨rJ,rM,rO,rP,rQ,rR,rT,rU,rV,rW,rX,rY,rZ,r9,si,sj,su,sw,sD,sF,sG,sH,sI,sJ,sK,sM,sN,sO,sP,rfl,sQ,iw,iy,iA,iB,iC,iD,iE,iF,iG⟩
 refine Sz aK (Sz aK (Sz aK (Sz aK (Sz aK (fw (.bool false) (FZ rfl aK rfl) (nt (jf (sk ?_))))))))
 have iH:=aN.px [] [23] []
 refine FV (Mz rfl (Lz (vI (b.aH - 10)) iH 0 C6 (La (gT b av Z ay aa aC af) iH 1 M4 M5 ?_)))
 have sS:=iH.pb [0,1]
 obtain⟨⟨ky,kz⟩,iI⟩:∃ q:bE × aB,dU p0 (b.aH - 10) b a=q:=⟨_,rfl⟩
 obtain⟨BZ,lD,cz,lG,zP⟩:=GK sS
 refine cl P9 (jw _ _ g0 p0 aD aF au (b.aH - 10) b av b.aF.ls.length Z ay b.ah.ls.length aa bi aC b.ag.ls.length af r a S T U V W X N O F G P Y Q R j d I l f J n g K p h L ky kz lD ag rfl (cz _ aZ) (show b.aF.ls.length≤Z∧b.aF.ls.length≤9223372036854775807 from by omega) aR rfl (cz _ bf) (show b.ah.ls.length≤aa∧b.ah.ls.length≤9223372036854775807 from by omega) (fun x9 h9=>⟨cz _ (ah x9 h9).1,(ah x9 h9).2⟩) rfl (cz _ bg) (show b.ag.ls.length≤af∧b.ag.ls.length≤9223372036854775807 from by omega) M B C E s u y z e8 e6 e8 iI) ?_
 rintro _ Ca ⟨sU,sV,sW,sZ,tq,tu,tC,tF,tH,tJ,tK,tL,tN,tO,tQ,tT,tV,tY,tZ,uf,ug,uh,ui,uj,uk,ul,um,uo,uq,rfl,lH,iJ,iK,iL,iM,iO,iQ,iR,iT,iU⟩
 have bG:=lG _ _ lH
 have zQ:=az iJ
 have zR:=az iK
 have zS:=az iL
 have zT:=az iM
 have zU:=az iO
 have zV:=az iQ
 have zW:=az iR
 have zX:=az iT
 have zY:=az iU
 have zZ:=bG.rowC (i:=1) rfl
 have z8:=bG.rowC (i:=4) rfl
 have Aa:=bG.rowC (i:=5) rfl
 have Ab:=bG.rowC (i:=7) rfl
 have Ac:=bG.rowC (i:=9) rfl
 have Ad:=bG.rowC (i:=11) rfl
 have Ae:=bG.rowC (i:=13) rfl
 have Af:=bG.rowC (i:=15) rfl
 have Ag:=bG.rowC (i:=17) rfl
 have Ah:=bG.rowC (i:=19) rfl
 refine D0 (Gh (res0 rfl) ?_)
 have uu:=bG.px [] [21,22] []
 obtain⟨rfl,rfl⟩:=gm (hr.symm.trans (show _=(ky,kz) from et (ip aS) (et (ai aG) (et (gB aU) (et (iN bK) (et (iN bn) (et (ip bQ) (et (gB aK) (ai iI)))))))))
 exact⟨sU,sV,sW,sZ,tq,tu,tC,tF,tH,tJ,tK,tL,tN,tO,tQ,tT,tV,tY,tZ,uf,ug,uh,ui,uj,uk,ul,um,uo,uq,rfl,uu,iJ,iK,iL,iM,iO,iQ,iR,iT,iU⟩
 refine qt (v:=vP r 25) 7 rfl (fun _ _=>by rw [show b.aH - 10=4 from by omega]; exact yk) (qt (v:= .agg #[.bool a.aZ.cB,vU a.aZ.aM,vI a.aZ.dw, .slice p a.aZ.af.ls.length h]) 8 rfl (fun _ ⟨_,H9⟩=>F7 rfl (Gf (cs:= [.bool a.aZ.cB,vU a.aZ.aM,vI a.aZ.dw, .slice p a.aZ.af.ls.length h]) P8 O6 ((H9.cls (i:=5) rfl).lit (k:=25) (m:=4) rfl))) ?_)
 refine qd 9 rfl (GH (cs:= [.bool false, .int .u64 0,vI 0, .slice none 0 0]) (t:=81) jJ rfl rfl (fun _=>by kernel_rfl) ?_)
 intro bW Cb uw
 have kC:=uw.pb [0]
 refine⟨.inr ⟨_,kC⟩, ?_⟩
 have uy:=kC.pf [23]
 refine qe 10 rfl (Do.store (vs:= [.bool a.aZ.cB,vU a.aZ.aM,vI a.aZ.dw, .slice p a.aZ.af.ls.length h]) (o:=0) uy rfl rfl O6 rfl rfl rfl rfl ?_)
 intro Cc uz
 have aO:=uz.pb [0]
 refine⟨.inr ⟨_,aO⟩, ?_⟩
 refine qn (FY (sr (Kz (vP bW 0) (Lz (.bool a.aZ.cB) aO 23 M2 (Mz rfl ?_)))))
 rcases JS (a.aZ.cB) with aL | aL
 refine Gz (vP bW 1) aL (Gl (vU a.aZ.aM) aL aO 23 E1 (Gz (vP bT 6) aL (Gl (vU b.aO) aL aO 1 E1 (Gz (.bool (decide (((a.aZ.aM:Nat):Int) ≥ ((b.aO:Nat):Int)))) aL (fw (.bool (decide (((a.aZ.aM:Nat):Int) ≥ ((b.aO:Nat):Int)))) (Gd rfl aL rfl) (nt ?_))))))
 by_cases di:((a.aZ.aM:Nat):Int) ≥ ((b.aO:Nat):Int)
 refine jT (dT di) (FW (sr (Kz (vP bW 1) (Lz (vU a.aZ.aM) aO 23 E1 (Kz (vP bT 6) (Lz (vU b.aO) aO 1 E1 (Kz (.bool (decide (((a.aZ.aM:Nat):Int)=((b.aO:Nat):Int)))) (nt ?_))))))))
 by_cases dJ:((a.aZ.aM:Nat):Int)=((b.aO:Nat):Int)
 refine jT (dT dJ) (FV (Mz rfl (Lz (vI (b.aH - 10)) aO 0 C6 (Kz (vP bW 1) (Lz (vU a.aZ.aM) aO 23 E1 (Kz (vP bW 2) (Lz (vI a.aZ.dw) aO 23 C6 (Kz (vP bW 3) (Lz (.slice p a.aZ.af.ls.length h) aO 23 E6 ?_)))))))))
 refine WL.do rfl (Gg O3 rfl ?_ (fun _ _ k=>k))
 refine cb O4 ?_
 refine FV (Mz rfl (Mz rfl (fw (vI (10+(b.aH - 10))) (FX (e:=C7.wrap (10+(b.aH - 10))) yk g2) (Mz rfl (Mz rfl (Kz (vP g0 0) (Kz (vP g0 0) (Lz (vP r 0) aO 2 O2 (Kz (vP r 0) (Kz (vP r 0) (Kz (vP r 1) (Lz (vU a.aa.ay) aO 5 E1 (Mz rfl (Mz rfl (Kz (.agg (gD 2 0 (10+(b.aH - 10)) 0 a.aZ.dw 0 a.aZ.aM a.aa.ay 0 0 0 0 0 0 0 false ([]) ([]) none 0 0 p a.aZ.af.ls.length h none 0 0).toArray) ?_)))))))))))))))
 have kD:=aO.pf [2,3,4]
 obtain⟨iV,iW⟩:∃ q,df p0 (bM.mk 2 0 (10+(b.aH - 10)) 0 a.aZ.dw 0 a.aZ.aM a.aa.ay 0 0 0 0 0 0 0 false (bI.mk ([]) ([])) (E4 ([])) (E4 a.aZ.af.ls) (E4 ([])))=q:=⟨_,rfl⟩
 obtain⟨Ce,lI,Ai,lJ,iX⟩:=Gx kD
 refine cl O5 (fI _ _ g0 p0 aD aF au r (bM.mk 2 0 (10+(b.aH - 10)) 0 a.aZ.dw 0 a.aZ.aM a.aa.ay 0 0 0 0 0 0 0 false (bI.mk ([]) ([])) (E4 ([])) (E4 a.aZ.af.ls) (E4 ([]))) none 0 0 p a.aZ.af.ls.length h L none 0 0 iV lI ag rfl (fun _ _=>bA.nil _ _ _) f2 z rfl (iX _ 18 _ rfl aP) (show a.aZ.af.ls.length≤h∧a.aZ.af.ls.length≤9223372036854775807 from by omega) (fun x9 h9=>⟨iX _ 19 _ rfl (ax (P2.2 ⟨x9,h9,b1⟩) aP),aY (φ:=fun _=>_) kD (i:=22) rfl (ax (P2.2 ⟨x9,h9,b1⟩) aV)⟩) rfl (fun _ _=>bA.nil _ _ _) f2 e8 (by first | assumption | exact dE f4 | exact fun x hx=>absurd hx B3 | exact dE (Mk.l8 f4).1 | exact dE (Mk.lq f4).1 | exact dE (Mk.mo f4).1 | exact dE (Mk.mr f4).1 | exact dE (Mk.mq f4).1) iW) ?_
 rintro _ Cf ⟨uA,uB,uC,rfl,lK,iY,iZ⟩
 have kE:=lJ _ _ lK
 have Aj:=az iY
 have Ak:=kE.rowC (i:=1) rfl
 replace iZ:iV.bq.ls.length=p0.bq.ls.length+1:=iZ
 refine D0 (Gh (res0 rfl) (nt (rt (tR (Fin.res (res0 rfl) ?_)))))
 have uD:=kE.px [] [3,4,23] []
 obtain⟨rfl,rfl⟩:=gm (hr.symm.trans (show _=(iV,a) from et (ip aS) (et (ai aG) (et (gB aU) (et (iN bK) (et (iN bn) (et (iN bQ) (et (ip aL) (et (ip di) (et (ip dJ) (ai iW)))))))))))
 exact⟨uA,uB,uC,S,T,U,V,W,X,N,O,F,G,P,Y,Q,R,j,d,I,l,f,J,n,g,K,p,h,L,rfl,uD,iY,M,B,C,E,s,u,y,z⟩
 refine jF (dF dJ) (sk (rt (tR (Fin.res (res0 rfl) ?_))))
 have uE:=aO.px [] [0,1,23] []
 obtain⟨rfl,rfl⟩:=gm (hr.symm.trans (show _=(p0,a) from et (ip aS) (et (ai aG) (et (gB aU) (et (iN bK) (et (iN bn) (et (iN bQ) (et (ip aL) (et (ip di) (iN dJ))))))))))
 exact⟨aD,aF,au,S,T,U,V,W,X,N,O,F,G,P,Y,Q,R,j,d,I,l,f,J,n,g,K,p,h,L,rfl,uE,ag,M,B,C,E,s,u,y,z⟩
 refine jF (dF di) (sk ?_)
 have ja:=aO.px [] [23] []
 refine FV (Mz rfl (Lz (vI (b.aH - 10)) ja 0 C6 (La (gT b av Z ay aa aC af) ja 1 M4 M5 ?_)))
 have uF:=ja.pb [0,1]
 obtain⟨⟨kF,kG⟩,jb⟩:∃ q:bE × aB,dU p0 (b.aH - 10) b a=q:=⟨_,rfl⟩
 obtain⟨Cg,lL,cB,lM,Al⟩:=GK uF
 refine cl P9 (jw _ _ g0 p0 aD aF au (b.aH - 10) b av b.aF.ls.length Z ay b.ah.ls.length aa bi aC b.ag.ls.length af r a S T U V W X N O F G P Y Q R j d I l f J n g K p h L kF kG lL ag rfl (cB _ aZ) (show b.aF.ls.length≤Z∧b.aF.ls.length≤9223372036854775807 from by omega) aR rfl (cB _ bf) (show b.ah.ls.length≤aa∧b.ah.ls.length≤9223372036854775807 from by omega) (fun x9 h9=>⟨cB _ (ah x9 h9).1,(ah x9 h9).2⟩) rfl (cB _ bg) (show b.ag.ls.length≤af∧b.ag.ls.length≤9223372036854775807 from by omega) M B C E s u y z e8 e6 e8 jb) ?_
 rintro _ Ch ⟨uG,uH,uI,uJ,uK,uL,uM,uN,uO,uP,uQ,uR,uS,uT,uU,uV,uW,uX,uY,uZ,u6,u7,ve,vg,vk,vo,vv,vw,vz,rfl,lN,jc,jd,je,jg,jh,ji,jk,jl,jm⟩
 have bH:=lM _ _ lN
 have Am:=az jc
 have Ao:=az jd
 have Ap:=az je
 have Aq:=az jg
 have Ar:=az jh
 have Au:=az ji
 have Av:=az jk
 have Aw:=az jl
 have Ay:=az jm
 have Az:=bH.rowC (i:=1) rfl
 have AA:=bH.rowC (i:=4) rfl
 have AB:=bH.rowC (i:=5) rfl
 have AC:=bH.rowC (i:=7) rfl
 have AJ:=bH.rowC (i:=9) rfl
 have AL:=bH.rowC (i:=11) rfl
 have AO:=bH.rowC (i:=13) rfl
 have AP:=bH.rowC (i:=15) rfl
 have AQ:=bH.rowC (i:=17) rfl
 have AR:=bH.rowC (i:=19) rfl
 refine D0 (Gh (res0 rfl) ?_)
 have vB:=bH.px [] [21,22] []
 obtain⟨rfl,rfl⟩:=gm (hr.symm.trans (show _=(kF,kG) from et (ip aS) (et (ai aG) (et (gB aU) (et (iN bK) (et (iN bn) (et (iN bQ) (et (ip aL) (et (iN di) (ai jb))))))))))
 exact⟨uG,uH,uI,uJ,uK,uL,uM,uN,uO,uP,uQ,uR,uS,uT,uU,uV,uW,uX,uY,uZ,u6,u7,ve,vg,vk,vo,vv,vw,vz,rfl,vB,jc,jd,je,jg,jh,ji,jk,jl,jm⟩
 refine Sz aL (Sz aL (Sz aL (Sz aL (Sz aL (fw (.bool false) (FZ rfl aL rfl) (nt (jf (sk ?_))))))))
 have jo:=aO.px [] [23] []
 refine FV (Mz rfl (Lz (vI (b.aH - 10)) jo 0 C6 (La (gT b av Z ay aa aC af) jo 1 M4 M5 ?_)))
 have vC:=jo.pb [0,1]
 obtain⟨⟨kH,kI⟩,jq⟩:∃ q:bE × aB,dU p0 (b.aH - 10) b a=q:=⟨_,rfl⟩
 obtain⟨Ci,lQ,cK,lS,AU⟩:=GK vC
 refine cl P9 (jw _ _ g0 p0 aD aF au (b.aH - 10) b av b.aF.ls.length Z ay b.ah.ls.length aa bi aC b.ag.ls.length af r a S T U V W X N O F G P Y Q R j d I l f J n g K p h L kH kI lQ ag rfl (cK _ aZ) (show b.aF.ls.length≤Z∧b.aF.ls.length≤9223372036854775807 from by omega) aR rfl (cK _ bf) (show b.ah.ls.length≤aa∧b.ah.ls.length≤9223372036854775807 from by omega) (fun x9 h9=>⟨cK _ (ah x9 h9).1,(ah x9 h9).2⟩) rfl (cK _ bg) (show b.ag.ls.length≤af∧b.ag.ls.length≤9223372036854775807 from by omega) M B C E s u y z e8 e6 e8 jq) ?_
 rintro _ Cj ⟨vD,vE,vF,vG,vH,vJ,vK,vL,vM,vN,vO,vQ,vR,vS,vT,vV,vW,vX,vY,vZ,wh,wm,wo,wu,ww,wy,wz,wB,wC,rfl,lT,jr,jv,jy,jA,jB,jC,jD,jE,jG⟩
 have bJ:=lS _ _ lT
 have AV:=az jr
 have AX:=az jv
 have AY:=az jy
 have AZ:=az jA
 have A7:=az jB
 have A8:=az jC
 have A9:=az jD
 have Ba:=az jE
 have Bb:=az jG
 have Bc:=bJ.rowC (i:=1) rfl
 have Bd:=bJ.rowC (i:=4) rfl
 have Be:=bJ.rowC (i:=5) rfl
 have Bf:=bJ.rowC (i:=7) rfl
 have Bg:=bJ.rowC (i:=9) rfl
 have Bh:=bJ.rowC (i:=11) rfl
 have Bi:=bJ.rowC (i:=13) rfl
 have Bj:=bJ.rowC (i:=15) rfl
 have Bl:=bJ.rowC (i:=17) rfl
 have Bn:=bJ.rowC (i:=19) rfl
 refine D0 (Gh (res0 rfl) ?_)
 have wD:=bJ.px [] [21,22] []
 obtain⟨rfl,rfl⟩:=gm (hr.symm.trans (show _=(kH,kI) from et (ip aS) (et (ai aG) (et (gB aU) (et (iN bK) (et (iN bn) (et (iN bQ) (et (gB aL) (ai jq)))))))))
 exact⟨vD,vE,vF,vG,vH,vJ,vK,vL,vM,vN,vO,vQ,vR,vS,vT,vV,vW,vX,vY,vZ,wh,wm,wo,wu,ww,wy,wz,wB,wC,rfl,wD,jr,jv,jy,jA,jB,jC,jD,jE,jG⟩
 refine jT (dT aS) (sr (Mz rfl (Lz (vI (b.aH - 10)) bO 0 C6 (La (gT b av Z ay aa aC af) bO 1 M4 M5 ?_))))
 have aQ:=bO.pf [2,3,4,5]
 have Bo:=aQ.rowC (i:=9) rfl
 have Bp:=aQ.rowC (i:=13) rfl
 have Bq:=aQ.rowC (i:=15) rfl
 have Br:=aQ.rowC (i:=17) rfl
 have Bt:=aQ.rowC (i:=19) rfl
 have Bu:=aQ.rowC (i:=21) rfl
 obtain⟨kJ,jH⟩:∃ q,lF p0 (b.aH - 10) b a=q:=⟨_,rfl⟩
 obtain⟨Ck,lU,cO,lV,aH⟩:=GJ aQ
 refine cl Tryz.call86 (tX _ _ g0 p0 aD aF au (b.aH - 10) b av b.aF.ls.length Z ay b.ah.ls.length aa bi aC b.ag.ls.length af r a S T U V X N O F G Y Q R j d I l f J n g K p h L kJ lU ag rfl (cO _ aZ) (show b.aF.ls.length≤Z∧b.aF.ls.length≤9223372036854775807 from by omega) aR rfl (cO _ bf) (show b.ah.ls.length≤aa∧b.ah.ls.length≤9223372036854775807 from by omega) (fun x9 h9=>⟨cO _ (ah x9 h9).1,(ah x9 h9).2⟩) rfl (cO _ bg) (show b.ag.ls.length≤af∧b.ag.ls.length≤9223372036854775807 from by omega) B (aH _ 5 _ rfl aP) (show a.aa.aJ.ls.length≤N∧a.aa.aJ.ls.length≤9223372036854775807 from by omega) (fun x9 h9=>⟨aH _ 6 _ rfl (ax (P2.2 ⟨x9,h9,b1⟩) aP),aY (φ:=fun _=>_) aQ (i:=10) rfl (ax (P2.2 ⟨x9,h9,b1⟩) aV),(fun y1 k1=>⟨aH _ 6 _ rfl (ax (P2.2 ⟨x9,h9, .tail _ b1⟩) (ax (P2.2 ⟨y1,k1,b1⟩) aP)),aY (φ:=fun _=>_) aQ (i:=10) rfl (ax (P2.2 ⟨x9,h9, .tail _ b1⟩) (ax (P2.2 ⟨y1,k1,b1⟩) aV))⟩)⟩) E (aH _ 9 _ rfl aP) (show a.bH.af.ls.length≤Q∧a.bH.af.ls.length≤9223372036854775807 from by omega) (fun x9 h9=>⟨aH _ 10 _ rfl (ax (P2.2 ⟨x9,h9,b1⟩) aP),aY (φ:=fun _=>_) aQ (i:=14) rfl (ax (P2.2 ⟨x9,h9,b1⟩) aV)⟩) s (aH _ 11 _ rfl aP) (show a.bf.af.ls.length≤d∧a.bf.af.ls.length≤9223372036854775807 from by omega) (fun x9 h9=>⟨aH _ 12 _ rfl (ax (P2.2 ⟨x9,h9,b1⟩) aP),aY (φ:=fun _=>_) aQ (i:=16) rfl (ax (P2.2 ⟨x9,h9,b1⟩) aV)⟩) u (aH _ 13 _ rfl aP) (show a.bi.af.ls.length≤f∧a.bi.af.ls.length≤9223372036854775807 from by omega) (fun x9 h9=>⟨aH _ 14 _ rfl (ax (P2.2 ⟨x9,h9,b1⟩) aP),aY (φ:=fun _=>_) aQ (i:=18) rfl (ax (P2.2 ⟨x9,h9,b1⟩) aV)⟩) y (aH _ 15 _ rfl aP) (show a.bn.af.ls.length≤g∧a.bn.af.ls.length≤9223372036854775807 from by omega) (fun x9 h9=>⟨aH _ 16 _ rfl (ax (P2.2 ⟨x9,h9,b1⟩) aP),aY (φ:=fun _=>_) aQ (i:=20) rfl (ax (P2.2 ⟨x9,h9,b1⟩) aV)⟩) z (aH _ 17 _ rfl aP) (show a.aZ.af.ls.length≤h∧a.aZ.af.ls.length≤9223372036854775807 from by omega) (fun x9 h9=>⟨aH _ 18 _ rfl (ax (P2.2 ⟨x9,h9,b1⟩) aP),aY (φ:=fun _=>_) aQ (i:=22) rfl (ax (P2.2 ⟨x9,h9,b1⟩) aV)⟩) e8 f4 jH) ?_
 rintro _ Cm ⟨wE,wF,wG,rfl,lW,jI⟩
 have kK:=lV _ _ lW
 have Bv:=az jI
 have Bw:=kK.rowC (i:=1) rfl
 refine nt (rt (tR (Fin.res (res0 rfl) ?_)))
 have wH:=kK.px [] [4,5] []
 obtain⟨rfl,rfl⟩:=gm (hr.symm.trans (show _=(kJ,a) from et (iN aS) (ai jH)))
 exact⟨wE,wF,wG,S,T,U,V,W,X,N,O,F,G,P,Y,Q,R,j,d,I,l,f,J,n,g,K,p,h,L,rfl,wH,jI,M,B,C,E,s,u,y,z⟩
end Go.Proofs.YtbkagebjhbphaaaGreat
