/-
 coord: a request.
-/
import Derived.Test.YtbkagebjhbphaaaGreatCc
import Derived.Test.YtbkagebjhbphaaaGreatCe
namespace Go.Proofs.YtbkagebjhbphaaaGreat
open IntKind renaming i64→C5
open List renaming flatMap→q3,length_map→s3,map→s5,mem_flatMap→Q3,mem_of_getElem?→D3,not_mem_nil→y6
open Ll renaming mk→E2
open _root_.Go.Proofs.Tryz renaming call65→P6,call89→P4,call90→R6,func89→P5,isAgg24→P3,isAgg28→D4,isAgg3→C4,isAgg4→N3,isAgg40→E3,isAgg42→N5,isAgg81→Q9,prog→v8,sizeOf42→N6,sizeOf81→P7
open WL renaming nil→C6
set_option maxRecDepth 100000
open Go.RowKit
set_option linter.unusedVariables false
set_option linter.unusedSectionVars false
set_option linter.unusedSimpArgs false
def fQ (a:Int):List dK→Nat→Unit ⊕ Int
  | [],b=>Sum.inl ()
  | c::d,b=>if c.aM=a then Sum.inr ((b:Nat):Int) else fQ a d (b+1)
def kQ (l0:List dK) (a:Int):Int:=
 lp (fQ a l0 0) fun _=>(-1)
theorem pz (w D t G I d0 l0 f a F) (H:Own w D w [blk f [.int .i64 a] 3]) (y:s5 bB.abs d0=l0) (s:Ro w D fun w'=>bE w' 9 t G (q3 bB.cells d0)) (n:∀ x ∈ d0,Ro w D (fun w'=>bE w' 6 x.bV.A x.bV.ls.length (q3 bi.cells x.bV.ls))∧(x.bV.ls.length≤x.bV.c∧x.bV.ls.length≤9223372036854775807)∧Ro w D (fun w'=>bE w' 3 x.aG.A x.aG.ls.length (q3 bG.cells x.aG.ls))∧(x.aG.ls.length≤x.aG.c∧x.aG.ls.length≤9223372036854775807)∧(∀ g ∈ x.aG.ls,Ro w D (fun w'=>bE w' 6 g.aH.A g.aH.ls.length (q3 bi.cells g.aH.ls))∧(g.aH.ls.length≤g.aH.c∧g.aH.ls.length≤9223372036854775807)∧Ro w D (fun w'=>bE w' 1 g.aJ.A g.aJ.ls.length (q3 (eI .i64) g.aJ.ls))∧(g.aJ.ls.length≤g.aJ.c∧g.aJ.ls.length≤9223372036854775807))∧Ro w D (fun w'=>bE w' 1 x.bD.A x.bD.ls.length (q3 eL x.bD.ls))∧(x.bD.ls.length≤x.bD.c∧x.bD.ls.length≤9223372036854775807)∧Ro w D (fun w'=>bE w' 1 x.af.A x.af.ls.length (q3 (IX (β:=ae)) x.af.ls))∧(x.af.ls.length≤x.af.c∧x.af.ls.length≤9223372036854775807)∧(∀ g ∈ x.af.ls,Ro w D (fun w'=>bE w' 3 g.A g.ls.length (q3 ae.cells g.ls))∧(g.ls.length≤g.c∧g.ls.length≤9223372036854775807)∧(∀ u ∈ g.ls,Ro w D (fun w'=>bE w' 2 u.ak.A u.ak.ls.length (q3 aI.cells u.ak.ls))∧(u.ak.ls.length≤u.ak.c∧u.ak.ls.length≤9223372036854775807)))) (J:G=l0.length) (aa:l0.length≤9223372036854775807) (hr:kQ l0 a=F):
    Calls v8 125 #[.slice t G I, .func (.func 88) #[] #[vP f 0]] w (d9 fun v w'=>v=vI F∧Own w D w' [blk f [vI a] 3]∧(-1≤F∧F < ((l0.length:Nat):Int))):=by
 subst J
 have S:=aB y
 refine cb Tryz.func125 ?_
 refine sr (An rfl (Ic (sr (Mz rfl (Kz (vJ l0.length) (Mn rfl (bo ?_)))))))
 have K:=H.pf []
 obtain⟨L,j⟩:=nQ fun (b:Nat) w'=>Own w D w' [blk f [vI a] 3]∧b≤l0.length∧fQ a l0 0=fQ a (List.drop b l0) b
 refine Wp.loop (fun i:Nat=> [(4,vI 0),(8,vJ i),(7,vJ l0.length),(0, .slice t l0.length I),(1, .func (.func 88) #[] #[vP f 0])]) L (fun i=>l0.length - i) 0 ⟨rfl,rfl,rfl,rfl,rfl,trivial⟩ (j.2 ⟨K,e6,rfl⟩) ?_
 rintro b af z
 obtain⟨l,T,m⟩:=j.1 z
 refine sr (Kz (.bool (decide (((b:Nat):Int) < ((l0.length:Nat):Int)))) (nt (Ic ?_)))
 by_cases B:((b:Nat):Int) < ((l0.length:Nat):Int)
 obtain⟨d,h⟩:=dN (ls:=d0) (i:=b) bB.len f4 (l.ro s) e9
 have C:=fF y h
 have U:=(n _ (D3 h)).2.1
 have V:=(n _ (D3 h)).2.2.2.1
 have W:List.length (s5 bG.abs d.aG.ls)=d.aG.ls.length:=s3 ..
 have X:=(n _ (D3 h)).2.2.2.2.2.2.1
 have Y:=(n _ (D3 h)).2.2.2.2.2.2.2.2.1
 have Z:List.length (s5 bO.abs d.af.ls)=d.af.ls.length:=s3 ..
 have r:=drop_at C
 refine jT (dT B) (sk (Ic (bo (sr (Mz rfl (Ar rfl (Mz rfl (Mz rfl (Mz rfl (fw (.pointer (some ⟨ab t,ao t+b *9,none⟩)) (Ij (qh) rfl rfl ((l.ro s).addr (i:=b) e6) e6) (fw (.agg (bB.cells d).toArray) (Io rfl (Iy (cs:=(bB.cells d)) Tryz.isAgg107 Tryz.sizeOf107 ((l.ro s).elem bB.len h f4))) ?_)))))))))))
 refine WL.do rfl (IK Tryz.call88 rfl rfl ?_ (fun _ _ k=>k))
 refine cb Tryz.func88 ?_
 refine sr ?_
 refine dV (bB.cells d) 107 l ?_
 intro M ag o
 refine Ar rfl (Kz (vP M 1) (Lz (vI d.aM) o 0 C4 (Lz (vI a) o 1 C4 (Kz (.bool (decide (d.aM=a))) (An rfl (rt (rs (nt ?_))))))))
 by_cases p:d.aM=a
 refine jT (dT p) (Ic ?_)
 have N:=o.pk [1]
 refine Ib (Mz rfl (An rfl (rt (bR (tR (tR (bR (tR (rs ?_)))))))))
 have O:=N.pf []
 obtain rfl:_=((b:Nat):Int):=hr.symm.trans (jm (et (m) (et (congrArg (fun q=>fQ a q b) r) (ip p))))
 exact⟨rfl,O,e6⟩
 refine jF (dF p) (IE (bN (Ig ?_)))
 have P:=o.pk [1]
 refine Ib (fw (vJ (b+1)) (Ie (e:=C5.wrap (((b:Nat):Int)+1)) yk f0) (Mz rfl (C6 ?_)))
 have Q:=P.pf []
 exact Ir (b+1) ⟨rfl,rfl,rfl,rfl,rfl,trivial⟩ (j.2 ⟨Q,e6,et (m) (et (congrArg (fun q=>fQ a q b) r) (iN p))⟩) (by show l0.length - (b+1) < l0.length - b; omega)
 refine jF (dF B) (Wp.exit (Il ?_))
 have E:fQ a l0 0=Sum.inl ():=et (m) (et (congrArg (fun q=>fQ a q b) (fB (ls:=l0) (i:=b) e6)) rfl)
 refine Il (IB (Ig (sr (An rfl (rt (rs ?_))))))
 have R:=l.pf []
 obtain rfl:_=(-1):=hr.symm.trans (nT E)
 exact⟨rfl,R,e6⟩
def kz (l0:List dK) (a:Int):Bool:=
 bnd (kQ l0 a) fun b=>decide (b ≥ 0)
theorem oM (w D s t C d0 l0 h e E) (H:Own w D w [blk h [.int .i64 e] 3]) (n:s5 bB.abs d0=l0) (u:Ro w D fun w'=>bE w' 9 s t (q3 bB.cells d0)) (a:∀ x ∈ d0,Ro w D (fun w'=>bE w' 6 x.bV.A x.bV.ls.length (q3 bi.cells x.bV.ls))∧(x.bV.ls.length≤x.bV.c∧x.bV.ls.length≤9223372036854775807)∧Ro w D (fun w'=>bE w' 3 x.aG.A x.aG.ls.length (q3 bG.cells x.aG.ls))∧(x.aG.ls.length≤x.aG.c∧x.aG.ls.length≤9223372036854775807)∧(∀ b ∈ x.aG.ls,Ro w D (fun w'=>bE w' 6 b.aH.A b.aH.ls.length (q3 bi.cells b.aH.ls))∧(b.aH.ls.length≤b.aH.c∧b.aH.ls.length≤9223372036854775807)∧Ro w D (fun w'=>bE w' 1 b.aJ.A b.aJ.ls.length (q3 (eI .i64) b.aJ.ls))∧(b.aJ.ls.length≤b.aJ.c∧b.aJ.ls.length≤9223372036854775807))∧Ro w D (fun w'=>bE w' 1 x.bD.A x.bD.ls.length (q3 eL x.bD.ls))∧(x.bD.ls.length≤x.bD.c∧x.bD.ls.length≤9223372036854775807)∧Ro w D (fun w'=>bE w' 1 x.af.A x.af.ls.length (q3 (IX (β:=ae)) x.af.ls))∧(x.af.ls.length≤x.af.c∧x.af.ls.length≤9223372036854775807)∧(∀ b ∈ x.af.ls,Ro w D (fun w'=>bE w' 3 b.A b.ls.length (q3 ae.cells b.ls))∧(b.ls.length≤b.c∧b.ls.length≤9223372036854775807)∧(∀ j ∈ b.ls,Ro w D (fun w'=>bE w' 2 j.ak.A j.ak.ls.length (q3 aI.cells j.ak.ls))∧(j.ak.ls.length≤j.ak.c∧j.ak.ls.length≤9223372036854775807)))) (y:t=l0.length) (I:l0.length≤9223372036854775807) (hr:kz l0 e=E):
    Calls v8 87 #[.slice s t C, .func (.func 88) #[] #[vP h 0]] w (d9 fun v w'=>v= .bool E∧Own w D w' [blk h [vI e] 3]):=by
 subst y
 have F:=aB n
 refine cb Tryz.func87 ?_
 refine sr (Ar rfl (Mz rfl (Mz rfl ?_)))
 obtain⟨i,l⟩:∃ q,kQ l0 e=q:=⟨_,rfl⟩
 obtain⟨J,o,d,p,G⟩:=II H
 refine cl Tryz.call125 (pz _ _ s l0.length C d0 l0 h e i o n (d _ u) (fun f g=>⟨d _ (a f g).1,(a f g).2.1,d _ (a f g).2.2.1,(a f g).2.2.2.1,(fun b k=>⟨d _ ((a f g).2.2.2.2.1 b k).1,((a f g).2.2.2.2.1 b k).2.1,d _ ((a f g).2.2.2.2.1 b k).2.2.1,((a f g).2.2.2.2.1 b k).2.2.2⟩),d _ (a f g).2.2.2.2.2.1,(a f g).2.2.2.2.2.2.1,d _ (a f g).2.2.2.2.2.2.2.1,(a f g).2.2.2.2.2.2.2.2.1,(fun b k=>⟨d _ ((a f g).2.2.2.2.2.2.2.2.2 b k).1,((a f g).2.2.2.2.2.2.2.2.2 b k).2.1,(fun j k2=>⟨d _ (((a f g).2.2.2.2.2.2.2.2.2 b k).2.2 j k2).1,(((a f g).2.2.2.2.2.2.2.2.2 b k).2.2 j k2).2⟩)⟩)⟩) rfl e6 l) ?_
 rintro _ K ⟨rfl,r,m⟩
 have z:=p _ _ r
 replace m: -1≤i∧i < ((l0.length:Nat):Int):=m
 refine Kz (.bool (decide (i ≥ 0))) (An rfl (rt (rs ?_)))
 have B:=z.pf []
 obtain rfl:_=decide (i ≥ 0):=hr.symm.trans (ah l)
 exact⟨rfl,B⟩
def ji (c:bI) (b:bL) (a:aA):bI × aA:=
 if((b.av:Nat):Int)=((a.aa.av:Nat):Int) then bnd (kz a.ay.ls (b.aJ - 10)) fun p=>if p=true then(c,a) else if b.aJ - 10=1 then if a.bA.cO=true then if((a.bA.aS:Nat):Int) ≥ ((b.aP:Nat):Int) then if((a.bA.aS:Nat):Int)=((b.aP:Nat):Int) then bnd (dw c (bL.mk 2 0 (10+(b.aJ - 10)) 0 a.bA.dA 0 a.bA.aS a.aa.av 0 0 0 0 0 0 0 false (bC.mk ([]) ([])) (E2 ([])) (E2 a.bA.af.ls) (E2 ([])))) fun q=>(q,a) else(c,a) else bnd (dQ c (b.aJ - 10) b a) fun k=>(k.1,k.2) else bnd (dQ c (b.aJ - 10) b a) fun d=>(d.1,d.2) else if b.aJ - 10=2 then if a.bz.cO=true then if((a.bz.aS:Nat):Int) ≥ ((b.aP:Nat):Int) then if((a.bz.aS:Nat):Int)=((b.aP:Nat):Int) then bnd (dw c (bL.mk 2 0 (10+(b.aJ - 10)) 0 a.bz.dA 0 a.bz.aS a.aa.av 0 0 0 0 0 0 0 false (bC.mk ([]) ([])) (E2 ([])) (E2 a.bz.af.ls) (E2 ([])))) fun l=>(l,a) else(c,a) else bnd (dQ c (b.aJ - 10) b a) fun e=>(e.1,e.2) else bnd (dQ c (b.aJ - 10) b a) fun f=>(f.1,f.2) else if b.aJ - 10=3 then if a.bv.cO=true then if((a.bv.aS:Nat):Int) ≥ ((b.aP:Nat):Int) then if((a.bv.aS:Nat):Int)=((b.aP:Nat):Int) then bnd (dw c (bL.mk 2 0 (10+(b.aJ - 10)) 0 a.bv.dA 0 a.bv.aS a.aa.av 0 0 0 0 0 0 0 false (bC.mk ([]) ([])) (E2 ([])) (E2 a.bv.af.ls) (E2 ([])))) fun m=>(m,a) else(c,a) else bnd (dQ c (b.aJ - 10) b a) fun g=>(g.1,g.2) else bnd (dQ c (b.aJ - 10) b a) fun h=>(h.1,h.2) else if a.bq.cO=true then if((a.bq.aS:Nat):Int) ≥ ((b.aP:Nat):Int) then if((a.bq.aS:Nat):Int)=((b.aP:Nat):Int) then bnd (dw c (bL.mk 2 0 (10+(b.aJ - 10)) 0 a.bq.dA 0 a.bq.aS a.aa.av 0 0 0 0 0 0 0 false (bC.mk ([]) ([])) (E2 ([])) (E2 a.bq.af.ls) (E2 ([])))) fun n=>(n,a) else(c,a) else bnd (dQ c (b.aJ - 10) b a) fun i=>(i.1,i.2) else bnd (dQ c (b.aJ - 10) b a) fun j=>(j.1,j.2) else bnd (kZ c (b.aJ - 10) b a) fun o=>(o,a)
set_option maxHeartbeats 4000000 in
theorem uP (w D g0) (p0:bI) (aD aF au) (b:bL) (av jJ Z ay jK aa bq az jL af r) (a:aA) (S T U V W X N O F G P Y Q R j d I l f J n g K p h L) (r0:bI) (r1:aA) (H:Own w D w [blk g0 [.pointer (some ⟨r,0,none⟩), .slice aD p0.aX.ls.length aF] 98,row aD p0.aX.ls.length aF (q3 bf.cells au) 42 21,sepL (q3 bf.own au),mK r a S a.aa.ag.ls.length T U V X N F G Y Q j d l f n g p h,row S a.aa.ag.ls.length T (q3 aY.cells a.aa.ag.ls) 89 2,row U a.aa.aj.ls.length V (q3 aC.cells W) 60 5,sepL (q3 aC.own W),row X a.aa.aF.ls.length N (q3 aU.cells O) 56 4,sepL (q3 aU.own O),row F a.ay.ls.length G (q3 bB.cells P) 107 9,sepL (q3 bB.own P),row Y a.bK.af.ls.length Q (q3 ae.cells R) 149 3,sepL (q3 ae.own R),row j a.bA.af.ls.length d (q3 ae.cells I) 149 3,sepL (q3 ae.own I),row l a.bz.af.ls.length f (q3 ae.cells J) 149 3,sepL (q3 ae.own J),row n a.bv.af.ls.length g (q3 ae.cells K) 149 3,sepL (q3 ae.own K),row p a.bq.af.ls.length h (q3 ae.cells L) 149 3,sepL (q3 ae.own L)]) (ag:s5 bf.abs au=p0.aX.ls) (kL:jJ=b.aH.ls.length) (aX:Ro w D fun w'=>bE w' 6 av b.aH.ls.length (q3 bi.cells b.aH.ls)) (wL:b.aH.ls.length≤Z∧b.aH.ls.length≤9223372036854775807) (aR:s5 ae.abs bq=b.ai.ls) (kM:jK=b.ai.ls.length) (bg:Ro w D fun w'=>bE w' 3 ay b.ai.ls.length (q3 ae.cells bq)) (wM:b.ai.ls.length≤aa∧b.ai.ls.length≤9223372036854775807) (ai:∀ x ∈ bq,Ro w D (fun w'=>bE w' 2 x.ak.A x.ak.ls.length (q3 aI.cells x.ak.ls))∧(x.ak.ls.length≤x.ak.c∧x.ak.ls.length≤9223372036854775807)) (kN:jL=b.ag.ls.length) (bn:Ro w D fun w'=>bE w' 2 az b.ag.ls.length (q3 aY.cells b.ag.ls)) (wN:b.ag.ls.length≤af∧b.ag.ls.length≤9223372036854775807) (M:s5 aC.abs W=a.aa.aj.ls) (B:s5 aU.abs O=a.aa.aF.ls) (C:s5 bB.abs P=a.ay.ls) (E:s5 ae.abs R=a.bK.af.ls) (s:s5 ae.abs I=a.bA.af.ls) (u:s5 ae.abs J=a.bz.af.ls) (y:s5 ae.abs K=a.bv.af.ls) (z:s5 ae.abs L=a.bq.af.ls) (Cn:a.aa.ag.ls.length≤1000∧a.aa.aj.ls.length≤1000∧a.aa.aF.ls.length≤1000∧a.ay.ls.length≤1000∧p0.aX.ls.length≤100000) (Co:Mk a) (Cq:a.bK.af.ls.length≤1000∧a.bA.af.ls.length≤1000∧a.bz.af.ls.length≤1000∧a.bv.af.ls.length≤1000∧a.bq.af.ls.length≤1000) (Cr:11≤b.aJ∧b.aJ≤14) (Cs:b.aH.ls.length≤24∧b.ag.ls.length≤1000∧b.ai.ls.length≤1000∧ky b.aP) (hr:ji p0 b a=(r0,r1)):
    Calls v8 56 #[vP g0 0, .agg (gU b.aD b.aJ b.fI b.aK b.dz b.eH b.aP b.av b.aN b.dY b.aV b.aL b.dL b.cu b.xN b.cz b.bU.bF b.bU.bT av jJ Z ay jK aa az jL af).toArray] w (d9 fun v w'=> ∃ dN dO di dP dR dU dW dm dX dY dn dZ ed dx ek eu dz eB eD dA eF eG dB eH eO dC eP eQ dD,v= .tuple #[]∧Own w D w' [blk g0 [vP r 0, .slice dN r0.aX.ls.length dO] 98,row dN r0.aX.ls.length dO (q3 bf.cells di) 42 21,sepL (q3 bf.own di),mK r r1 dP r1.aa.ag.ls.length dR dU dW dX dY dZ ed ek eu eB eD eF eG eH eO eP eQ,row dP r1.aa.ag.ls.length dR (q3 aY.cells r1.aa.ag.ls) 89 2,row dU r1.aa.aj.ls.length dW (q3 aC.cells dm) 60 5,sepL (q3 aC.own dm),row dX r1.aa.aF.ls.length dY (q3 aU.cells dn) 56 4,sepL (q3 aU.own dn),row dZ r1.ay.ls.length ed (q3 bB.cells dx) 107 9,sepL (q3 bB.own dx),row ek r1.bK.af.ls.length eu (q3 ae.cells dz) 149 3,sepL (q3 ae.own dz),row eB r1.bA.af.ls.length eD (q3 ae.cells dA) 149 3,sepL (q3 ae.own dA),row eF r1.bz.af.ls.length eG (q3 ae.cells dB) 149 3,sepL (q3 ae.own dB),row eH r1.bv.af.ls.length eO (q3 ae.cells dC) 149 3,sepL (q3 ae.own dC),row eP r1.bq.af.ls.length eQ (q3 ae.cells dD) 149 3,sepL (q3 ae.own dD)]∧(s5 bf.abs di=r0.aX.ls)∧(s5 aC.abs dm=r1.aa.aj.ls)∧(s5 aU.abs dn=r1.aa.aF.ls)∧(s5 bB.abs dx=r1.ay.ls)∧(s5 ae.abs dz=r1.bK.af.ls)∧(s5 ae.abs dA=r1.bA.af.ls)∧(s5 ae.abs dB=r1.bz.af.ls)∧(s5 ae.abs dC=r1.bv.af.ls)∧(s5 ae.abs dD=r1.bq.af.ls)):=by
 subst kL kM kN
 have wJ:=aB ag
 have wK:=aB aR
 have lX:=aB M
 have lY:=aB B
 have lZ:=aB C
 have l5:=aB E
 have l6:=aB s
 have l7:=aB u
 have l8:=aB y
 have l9:=aB z
 have wO:=H.rowC (i:=1) rfl
 have ma:=H.rowC (i:=4) rfl
 have mf:=H.rowC (i:=5) rfl
 have mg:=H.rowC (i:=7) rfl
 have mh:=H.rowC (i:=9) rfl
 have mi:=H.rowC (i:=11) rfl
 have mo:=H.rowC (i:=13) rfl
 have mq:=H.rowC (i:=15) rfl
 have mr:=H.rowC (i:=17) rfl
 have mD:=H.rowC (i:=19) rfl
 refine cb Tryz.func56 ?_
 refine sr ?_
 refine dV (iH b av Z ay aa az af) 42 H ?_
 intro bT Ct mE
 refine ns (Kz (vP bT 1) (Lz (vI b.aJ) mE 0 C4 (fw (vI (b.aJ - 10)) (Ie (e:=C5.wrap (b.aJ - 10)) yk g2) ?_)))
 refine dV [vI 0] 3 mE ?_
 intro mF Cu wP
 refine dS [vI (b.aJ - 10)] 0 wP Tryz.sizeOf3 ?_
 intro Cv wQ
 refine nt (Ic (Ic ?_))
 refine pU 23 [] (Iu (Iu IC)) wQ ?_
 intro Cw bO
 refine qp bT 7 0 rfl (ql 1 rfl 1 D4 rfl rfl rfl (qv 2 rfl rfl (qp g0 0 3 rfl (qp g0 0 4 rfl (ql 5 rfl 2 P3 rfl rfl rfl (qp r 0 6 rfl (qp r 0 7 rfl (qp r 1 8 rfl (ql 9 rfl 5 D4 rfl rfl rfl (qt (v:= .bool (decide (¬ (((b.av:Nat):Int)=((a.aa.av:Nat):Int))))) 10 rfl (fun _ _=>IG (e:= !(decide (((b.av:Nat):Int)=((a.aa.av:Nat):Int)))) yk decide_not.symm) (qn (Ig ?_))))))))))))
 by_cases aS:((b.av:Nat):Int)=((a.aa.av:Nat):Int)
 refine jF (dF (Lh aS)) (sk (Ic (sr (Mz rfl (Kz (vP g0 0) (Kz (vP g0 0) (Lz (vP r 0) bO 2 P3 (Kz (vP r 0) (Kz (vP r 8) (Lz (.slice F a.ay.ls.length G) bO 5 Tryz.isAgg79 (Kz (.func (.func 88) #[] #[vP mF 0]) ?_)))))))))))
 obtain⟨mG,aG⟩:∃ q,kz a.ay.ls (b.aJ - 10)=q:=⟨_,rfl⟩
 obtain⟨Cx,mH,Bz,mI,bP⟩:=II bO
 refine cl Tryz.call87 (oM _ _ F a.ay.ls.length G P a.ay.ls mF (b.aJ - 10) mG mH C (bP _ 10 _ rfl aO) (fun x9 h9=>⟨bP _ 11 _ rfl (ax (Q3.2 ⟨x9,h9,b1⟩) aO),aZ (φ:=fun _=>_) bO (i:=12) rfl (ax (Q3.2 ⟨x9,h9,b1⟩) aW),bP _ 11 _ rfl (ax (Q3.2 ⟨x9,h9, .tail _ b1⟩) aO),aZ (φ:=fun _=>_) bO (i:=12) rfl (ax (Q3.2 ⟨x9,h9, .tail _ b1⟩) aW),(fun y1 k1=>⟨bP _ 11 _ rfl (ax (Q3.2 ⟨x9,h9, .tail _ b4⟩) (ax (Q3.2 ⟨y1,k1,b1⟩) aO)),aZ (φ:=fun _=>_) bO (i:=12) rfl (ax (Q3.2 ⟨x9,h9, .tail _ b4⟩) (ax (Q3.2 ⟨y1,k1,b1⟩) aW)),bP _ 11 _ rfl (ax (Q3.2 ⟨x9,h9, .tail _ b4⟩) (ax (Q3.2 ⟨y1,k1, .tail _ b1⟩) aO)),aZ (φ:=fun _=>_) bO (i:=12) rfl (ax (Q3.2 ⟨x9,h9, .tail _ b4⟩) (ax (Q3.2 ⟨y1,k1, .tail _ b1⟩) aW))⟩),bP _ 11 _ rfl (ax (Q3.2 ⟨x9,h9, .tail _ b2⟩) aO),aZ (φ:=fun _=>_) bO (i:=12) rfl (ax (Q3.2 ⟨x9,h9, .tail _ b2⟩) aW),bP _ 11 _ rfl (ax (Q3.2 ⟨x9,h9, .tail _ b3⟩) aO),aZ (φ:=fun _=>_) bO (i:=12) rfl (ax (Q3.2 ⟨x9,h9, .tail _ b3⟩) aW),(fun y1 k1=>⟨bP _ 11 _ rfl (ax (Q3.2 ⟨x9,h9, .tail _ b5⟩) (ax (Q3.2 ⟨y1,k1,b1⟩) aO)),aZ (φ:=fun _=>_) bO (i:=12) rfl (ax (Q3.2 ⟨x9,h9, .tail _ b5⟩) (ax (Q3.2 ⟨y1,k1,b1⟩) aW)),(fun y2 k2=>⟨bP _ 11 _ rfl (ax (Q3.2 ⟨x9,h9, .tail _ b5⟩) (ax (Q3.2 ⟨y1,k1, .tail _ b1⟩) (ax (Q3.2 ⟨y2,k2,b1⟩) aO))),aZ (φ:=fun _=>_) bO (i:=12) rfl (ax (Q3.2 ⟨x9,h9, .tail _ b5⟩) (ax (Q3.2 ⟨y1,k1, .tail _ b1⟩) (ax (Q3.2 ⟨y2,k2,b1⟩) aW)))⟩)⟩)⟩) rfl e6 aG) ?_
 rintro _ Cy ⟨rfl,mJ⟩
 have mM:=mI _ _ mJ
 refine nt ?_
 rcases Li (mG) with aT | aT
 refine jT aT (rt (tR (Fin.res (res0 rfl) ?_)))
 have wR:=mM.px [] [0,1] []
 obtain⟨rfl,rfl⟩:=ic (hr.symm.trans (show _=(p0,a) from et (ip aS) (et (ah aG) (ip aT))))
 exact⟨aD,aF,au,S,T,U,V,W,X,N,O,F,G,P,Y,Q,R,j,d,I,l,f,J,n,g,K,p,h,L,rfl,wR,ag,M,B,C,E,s,u,y,z⟩
 refine jF aT (sk (Ic (Ic ?_)))
 refine pU 23 [] (Iu (Iu IC)) mM ?_
 intro Cz jH
 refine qv 0 rfl rfl (qp g0 0 1 rfl (qp g0 0 2 rfl (ql 3 rfl 2 P3 rfl rfl rfl (ql 4 rfl 0 C4 rfl rfl rfl (qp r 0 5 rfl (qp r 9 6 rfl ?_))))))
 by_cases bK:b.aJ - 10=1
 refine qt (v:=vP r 13) 7 rfl (fun _ _=>by rw [show b.aJ - 10=1 from by omega]; exact yk) (qt (v:= .agg #[.bool a.bA.cO,vU a.bA.aS,vI a.bA.dA, .slice j a.bA.af.ls.length d]) 8 rfl (fun _ ⟨_,H9⟩=>Io rfl (Iy (cs:= [.bool a.bA.cO,vU a.bA.aS,vI a.bA.dA, .slice j a.bA.af.ls.length d]) Q9 P7 ((H9.cls (i:=5) rfl).lit (k:=13) (m:=4) rfl))) ?_)
 refine qd 9 rfl (IY (cs:= [.bool false, .int .u64 0,vI 0, .slice none 0 0]) (t:=81) jH rfl rfl (fun _=>by kernel_rfl) ?_)
 intro dJ CB wS
 have mO:=wS.pb [0]
 refine⟨.inr ⟨_,mO⟩, ?_⟩
 have wT:=mO.pf [23]
 refine qe 10 rfl (Do.store (vs:= [.bool a.bA.cO,vU a.bA.aS,vI a.bA.dA, .slice j a.bA.af.ls.length d]) (o:=0) wT rfl rfl P7 rfl rfl rfl rfl ?_)
 intro CE wU
 have bM:=wU.pb [0]
 refine⟨.inr ⟨_,bM⟩, ?_⟩
 refine qn (Ig (sr (Kz (vP dJ 0) (Lz (.bool a.bA.cO) bM 23 N3 (Mz rfl ?_)))))
 rcases Li (a.bA.cO) with bv | bv
 refine Gz (vP dJ 1) bv (Gl (vU a.bA.aS) bv bM 23 D4 (Gz (vP bT 6) bv (Gl (vU b.aP) bv bM 1 D4 (Gz (.bool (decide (((a.bA.aS:Nat):Int) ≥ ((b.aP:Nat):Int)))) bv (fw (.bool (decide (((a.bA.aS:Nat):Int) ≥ ((b.aP:Nat):Int)))) (Iw rfl bv rfl) (nt ?_))))))
 by_cases eT:((a.bA.aS:Nat):Int) ≥ ((b.aP:Nat):Int)
 refine jT (dT eT) (Ic (sr (Kz (vP dJ 1) (Lz (vU a.bA.aS) bM 23 D4 (Kz (vP bT 6) (Lz (vU b.aP) bM 1 D4 (Kz (.bool (decide (((a.bA.aS:Nat):Int)=((b.aP:Nat):Int)))) (nt ?_))))))))
 by_cases jI:((a.bA.aS:Nat):Int)=((b.aP:Nat):Int)
 refine jT (dT jI) (Ib (Mz rfl (Lz (vI (b.aJ - 10)) bM 0 C4 (Kz (vP dJ 1) (Lz (vU a.bA.aS) bM 23 D4 (Kz (vP dJ 2) (Lz (vI a.bA.dA) bM 23 C4 (Kz (vP dJ 3) (Lz (.slice j a.bA.af.ls.length d) bM 23 E3 ?_)))))))))
 refine WL.do rfl (Iz P4 rfl ?_ (fun _ _ k=>k))
 refine cb P5 ?_
 refine Ib (Mz rfl (Mz rfl (fw (vI (10+(b.aJ - 10))) (Ie (e:=C5.wrap (10+(b.aJ - 10))) yk g2) (Mz rfl (Mz rfl (Kz (vP g0 0) (Kz (vP g0 0) (Lz (vP r 0) bM 2 P3 (Kz (vP r 0) (Kz (vP r 0) (Kz (vP r 1) (Lz (vU a.aa.av) bM 5 D4 (Mz rfl (Mz rfl (Kz (.agg (gU 2 0 (10+(b.aJ - 10)) 0 a.bA.dA 0 a.bA.aS a.aa.av 0 0 0 0 0 0 0 false ([]) ([]) none 0 0 j a.bA.af.ls.length d none 0 0).toArray) ?_)))))))))))))))
 have mP:=bM.pf [2,3,4]
 obtain⟨kQ,jM⟩:∃ q,dw p0 (bL.mk 2 0 (10+(b.aJ - 10)) 0 a.bA.dA 0 a.bA.aS a.aa.av 0 0 0 0 0 0 0 false (bC.mk ([]) ([])) (E2 ([])) (E2 a.bA.af.ls) (E2 ([])))=q:=⟨_,rfl⟩
 obtain⟨CF,mQ,BB,mR,jN⟩:=IU mP
 refine cl P6 (gp _ _ g0 p0 aD aF au r (bL.mk 2 0 (10+(b.aJ - 10)) 0 a.bA.dA 0 a.bA.aS a.aa.av 0 0 0 0 0 0 0 false (bC.mk ([]) ([])) (E2 ([])) (E2 a.bA.af.ls) (E2 ([]))) none 0 0 j a.bA.af.ls.length d I none 0 0 kQ mQ ag rfl (fun _ _=>bE.nil _ _ _) f2 s rfl (jN _ 12 _ rfl aO) (show a.bA.af.ls.length≤d∧a.bA.af.ls.length≤9223372036854775807 from by omega) (fun x9 h9=>⟨jN _ 13 _ rfl (ax (Q3.2 ⟨x9,h9,b1⟩) aO),aZ (φ:=fun _=>_) mP (i:=16) rfl (ax (Q3.2 ⟨x9,h9,b1⟩) aW)⟩) rfl (fun _ _=>bE.nil _ _ _) f2 e8 (by first | assumption | exact dM f5 | exact fun x hx=>absurd hx y6 | exact dM (Mk.mU f5).1 | exact dM (Mk.lT f5).1 | exact dM (Mk.nu f5).1 | exact dM (Mk.ny f5).1 | exact dM (Mk.nz f5).1) jM) ?_
 rintro _ CG ⟨wV,wW,wX,rfl,mU,jO,jQ⟩
 have mV:=mR _ _ mU
 have BC:=aB jO
 have BD:=mV.rowC (i:=1) rfl
 replace jQ:kQ.aX.ls.length=p0.aX.ls.length+1:=jQ
 refine C6 (IA (res0 rfl) (nt (rt (tR (Fin.res (res0 rfl) ?_)))))
 have wY:=mV.px [] [3,4,23] []
 obtain⟨rfl,rfl⟩:=ic (hr.symm.trans (show _=(kQ,a) from et (ip aS) (et (ah aG) (et (gm aT) (et (ip bK) (et (ip bv) (et (ip eT) (et (ip jI) (ah jM)))))))))
 exact⟨wV,wW,wX,S,T,U,V,W,X,N,O,F,G,P,Y,Q,R,j,d,I,l,f,J,n,g,K,p,h,L,rfl,wY,jO,M,B,C,E,s,u,y,z⟩
 refine jF (dF jI) (sk (rt (tR (Fin.res (res0 rfl) ?_))))
 have wZ:=bM.px [] [0,1,23] []
 obtain⟨rfl,rfl⟩:=ic (hr.symm.trans (show _=(p0,a) from et (ip aS) (et (ah aG) (et (gm aT) (et (ip bK) (et (ip bv) (et (ip eT) (iN jI))))))))
 exact⟨aD,aF,au,S,T,U,V,W,X,N,O,F,G,P,Y,Q,R,j,d,I,l,f,J,n,g,K,p,h,L,rfl,wZ,ag,M,B,C,E,s,u,y,z⟩
 refine jF (dF eT) (sk ?_)
 have kR:=bM.px [] [23] []
 refine Ib (Mz rfl (Lz (vI (b.aJ - 10)) kR 0 C4 (La (iH b av Z ay aa az af) kR 1 N5 N6 ?_)))
 have w9:=kR.pb [0,1]
 obtain⟨⟨mW,mX⟩,jR⟩:∃ q:bI × aA,dQ p0 (b.aJ - 10) b a=q:=⟨_,rfl⟩
 obtain⟨CJ,mY,dE,mZ,BF⟩:=I6 w9
 refine cl R6 (jP _ _ g0 p0 aD aF au (b.aJ - 10) b av b.aH.ls.length Z ay b.ai.ls.length aa bq az b.ag.ls.length af r a S T U V W X N O F G P Y Q R j d I l f J n g K p h L mW mX mY ag rfl (dE _ aX) (show b.aH.ls.length≤Z∧b.aH.ls.length≤9223372036854775807 from by omega) aR rfl (dE _ bg) (show b.ai.ls.length≤aa∧b.ai.ls.length≤9223372036854775807 from by omega) (fun x9 h9=>⟨dE _ (ai x9 h9).1,(ai x9 h9).2⟩) rfl (dE _ bn) (show b.ag.ls.length≤af∧b.ag.ls.length≤9223372036854775807 from by omega) M B C E s u y z e8 e6 e8 jR) ?_
 rintro _ CK ⟨xc,xe,xg,xh,xk,xm,xn,ng,xq,ni,nk,nu,ny,nz,nA,nC,nD,nE,nG,nH,nI,nJ,nK,nL,nM,nN,nO,nP,nQ,rfl,nR,jS,eU,eX,eY,eZ,fe,fo,fq,fu⟩
 have bR:=mZ _ _ nR
 have xu:=aB jS
 have xw:=aB eU
 have xx:=aB eX
 have xy:=aB eY
 have xz:=aB eZ
 have xA:=aB fe
 have xB:=aB fo
 have xC:=aB fq
 have xD:=aB fu
 have xE:=bR.rowC (i:=1) rfl
 have xG:=bR.rowC (i:=4) rfl
 have xH:=bR.rowC (i:=5) rfl
 have xI:=bR.rowC (i:=7) rfl
 have xJ:=bR.rowC (i:=9) rfl
 have xK:=bR.rowC (i:=11) rfl
 have xL:=bR.rowC (i:=13) rfl
 have xM:=bR.rowC (i:=15) rfl
 have xO:=bR.rowC (i:=17) rfl
 have xP:=bR.rowC (i:=19) rfl
 refine C6 (IA (res0 rfl) ?_)
 have nS:=bR.px [] [21,22] []
 obtain⟨rfl,rfl⟩:=ic (hr.symm.trans (show _=(mW,mX) from et (ip aS) (et (ah aG) (et (gm aT) (et (ip bK) (et (ip bv) (et (iN eT) (ah jR))))))))
 exact⟨xc,xe,xg,xh,xk,xm,xn,ng,xq,ni,nk,nu,ny,nz,nA,nC,nD,nE,nG,nH,nI,nJ,nK,nL,nM,nN,nO,nP,nQ,rfl,nS,jS,eU,eX,eY,eZ,fe,fo,fq,fu⟩
 refine Sz bv (Sz bv (Sz bv (Sz bv (Sz bv (fw (.bool false) (Ih rfl bv rfl) (nt (jf (sk ?_))))))))
 have fA:=bM.px [] [23] []
 refine Ib (Mz rfl (Lz (vI (b.aJ - 10)) fA 0 C4 (La (iH b av Z ay aa az af) fA 1 N5 N6 ?_)))
 have nT:=fA.pb [0,1]
 obtain⟨⟨jU,jV⟩,fB⟩:∃ q:bI × aA,dQ p0 (b.aJ - 10) b a=q:=⟨_,rfl⟩
 obtain⟨BG,kS,bX,kT,xQ⟩:=I6 nT
 refine cl R6 (jP _ _ g0 p0 aD aF au (b.aJ - 10) b av b.aH.ls.length Z ay b.ai.ls.length aa bq az b.ag.ls.length af r a S T U V W X N O F G P Y Q R j d I l f J n g K p h L jU jV kS ag rfl (bX _ aX) (show b.aH.ls.length≤Z∧b.aH.ls.length≤9223372036854775807 from by omega) aR rfl (bX _ bg) (show b.ai.ls.length≤aa∧b.ai.ls.length≤9223372036854775807 from by omega) (fun x9 h9=>⟨bX _ (ai x9 h9).1,(ai x9 h9).2⟩) rfl (bX _ bn) (show b.ag.ls.length≤af∧b.ag.ls.length≤9223372036854775807 from by omega) M B C E s u y z e8 e6 e8 fB) ?_
 rintro _ BH ⟨nU,nV,nW,nX,nY,nZ,og,oh,ol,om,oo,oq,ou,ow,oz,oC,oD,oF,oG,oH,oI,oJ,oK,oL,oN,oO,oP,oQ,oU,rfl,kU,fC,fD,fE,fF,fG,fH,fI,fJ,fK⟩
 have bz:=kT _ _ kU
 have xR:=aB fC
 have xS:=aB fD
 have xU:=aB fE
 have xV:=aB fF
 have xW:=aB fG
 have xX:=aB fH
 have xY:=aB fI
 have xZ:=aB fJ
 have x8:=aB fK
 have yc:=bz.rowC (i:=1) rfl
 have yf:=bz.rowC (i:=4) rfl
 have yg:=bz.rowC (i:=5) rfl
 have yh:=bz.rowC (i:=7) rfl
 have yj:=bz.rowC (i:=9) rfl
 have yl:=bz.rowC (i:=11) rfl
 have ym:=bz.rowC (i:=13) rfl
 have yn:=bz.rowC (i:=15) rfl
 have yo:=bz.rowC (i:=17) rfl
 have yt:=bz.rowC (i:=19) rfl
 refine C6 (IA (res0 rfl) ?_)
 have oV:=bz.px [] [21,22] []
 obtain⟨rfl,rfl⟩:=ic (hr.symm.trans (show _=(jU,jV) from et (ip aS) (et (ah aG) (et (gm aT) (et (ip bK) (et (gm bv) (ah fB)))))))
 exact⟨nU,nV,nW,nX,nY,nZ,og,oh,ol,om,oo,oq,ou,ow,oz,oC,oD,oF,oG,oH,oI,oJ,oK,oL,oN,oO,oP,oQ,oU,rfl,oV,fC,fD,fE,fF,fG,fH,fI,fJ,fK⟩
 by_cases bu:b.aJ - 10=2
 refine qt (v:=vP r 17) 7 rfl (fun _ _=>by rw [show b.aJ - 10=2 from by omega]; exact yk) (qt (v:= .agg #[.bool a.bz.cO,vU a.bz.aS,vI a.bz.dA, .slice l a.bz.af.ls.length f]) 8 rfl (fun _ ⟨_,H9⟩=>Io rfl (Iy (cs:= [.bool a.bz.cO,vU a.bz.aS,vI a.bz.dA, .slice l a.bz.af.ls.length f]) Q9 P7 ((H9.cls (i:=5) rfl).lit (k:=17) (m:=4) rfl))) ?_)
 refine qd 9 rfl (IY (cs:= [.bool false, .int .u64 0,vI 0, .slice none 0 0]) (t:=81) jH rfl rfl (fun _=>by kernel_rfl) ?_)
 intro bU BI oW
 have jW:=oW.pb [0]
 refine⟨.inr ⟨_,jW⟩, ?_⟩
 have oZ:=jW.pf [23]
 refine qe 10 rfl (Do.store (vs:= [.bool a.bz.cO,vU a.bz.aS,vI a.bz.dA, .slice l a.bz.af.ls.length f]) (o:=0) oZ rfl rfl P7 rfl rfl rfl rfl ?_)
 intro BJ o5
 have aM:=o5.pb [0]
 refine⟨.inr ⟨_,aM⟩, ?_⟩
 refine qn (Ig (sr (Kz (vP bU 0) (Lz (.bool a.bz.cO) aM 23 N3 (Mz rfl ?_)))))
 rcases Li (a.bz.cO) with aJ | aJ
 refine Gz (vP bU 1) aJ (Gl (vU a.bz.aS) aJ aM 23 D4 (Gz (vP bT 6) aJ (Gl (vU b.aP) aJ aM 1 D4 (Gz (.bool (decide (((a.bz.aS:Nat):Int) ≥ ((b.aP:Nat):Int)))) aJ (fw (.bool (decide (((a.bz.aS:Nat):Int) ≥ ((b.aP:Nat):Int)))) (Iw rfl aJ rfl) (nt ?_))))))
 by_cases cZ:((a.bz.aS:Nat):Int) ≥ ((b.aP:Nat):Int)
 refine jT (dT cZ) (Ic (sr (Kz (vP bU 1) (Lz (vU a.bz.aS) aM 23 D4 (Kz (vP bT 6) (Lz (vU b.aP) aM 1 D4 (Kz (.bool (decide (((a.bz.aS:Nat):Int)=((b.aP:Nat):Int)))) (nt ?_))))))))
 by_cases dG:((a.bz.aS:Nat):Int)=((b.aP:Nat):Int)
 refine jT (dT dG) (Ib (Mz rfl (Lz (vI (b.aJ - 10)) aM 0 C4 (Kz (vP bU 1) (Lz (vU a.bz.aS) aM 23 D4 (Kz (vP bU 2) (Lz (vI a.bz.dA) aM 23 C4 (Kz (vP bU 3) (Lz (.slice l a.bz.af.ls.length f) aM 23 E3 ?_)))))))))
 refine WL.do rfl (Iz P4 rfl ?_ (fun _ _ k=>k))
 refine cb P5 ?_
 refine Ib (Mz rfl (Mz rfl (fw (vI (10+(b.aJ - 10))) (Ie (e:=C5.wrap (10+(b.aJ - 10))) yk g2) (Mz rfl (Mz rfl (Kz (vP g0 0) (Kz (vP g0 0) (Lz (vP r 0) aM 2 P3 (Kz (vP r 0) (Kz (vP r 0) (Kz (vP r 1) (Lz (vU a.aa.av) aM 5 D4 (Mz rfl (Mz rfl (Kz (.agg (gU 2 0 (10+(b.aJ - 10)) 0 a.bz.dA 0 a.bz.aS a.aa.av 0 0 0 0 0 0 0 false ([]) ([]) none 0 0 l a.bz.af.ls.length f none 0 0).toArray) ?_)))))))))))))))
 have jX:=aM.pf [2,3,4]
 obtain⟨fM,fO⟩:∃ q,dw p0 (bL.mk 2 0 (10+(b.aJ - 10)) 0 a.bz.dA 0 a.bz.aS a.aa.av 0 0 0 0 0 0 0 false (bC.mk ([]) ([])) (E2 ([])) (E2 a.bz.af.ls) (E2 ([])))=q:=⟨_,rfl⟩
 obtain⟨BK,kV,yu,kW,fP⟩:=IU jX
 refine cl P6 (gp _ _ g0 p0 aD aF au r (bL.mk 2 0 (10+(b.aJ - 10)) 0 a.bz.dA 0 a.bz.aS a.aa.av 0 0 0 0 0 0 0 false (bC.mk ([]) ([])) (E2 ([])) (E2 a.bz.af.ls) (E2 ([]))) none 0 0 l a.bz.af.ls.length f J none 0 0 fM kV ag rfl (fun _ _=>bE.nil _ _ _) f2 u rfl (fP _ 14 _ rfl aO) (show a.bz.af.ls.length≤f∧a.bz.af.ls.length≤9223372036854775807 from by omega) (fun x9 h9=>⟨fP _ 15 _ rfl (ax (Q3.2 ⟨x9,h9,b1⟩) aO),aZ (φ:=fun _=>_) jX (i:=18) rfl (ax (Q3.2 ⟨x9,h9,b1⟩) aW)⟩) rfl (fun _ _=>bE.nil _ _ _) f2 e8 (by first | assumption | exact dM f5 | exact fun x hx=>absurd hx y6 | exact dM (Mk.mU f5).1 | exact dM (Mk.lT f5).1 | exact dM (Mk.nu f5).1 | exact dM (Mk.ny f5).1 | exact dM (Mk.nz f5).1) fO) ?_
 rintro _ BL ⟨o6,o7,o8,rfl,kX,fQ,fT⟩
 have jY:=kW _ _ kX
 have yw:=aB fQ
 have yx:=jY.rowC (i:=1) rfl
 replace fT:fM.aX.ls.length=p0.aX.ls.length+1:=fT
 refine C6 (IA (res0 rfl) (nt (rt (tR (Fin.res (res0 rfl) ?_)))))
 have o9:=jY.px [] [3,4,23] []
 obtain⟨rfl,rfl⟩:=ic (hr.symm.trans (show _=(fM,a) from et (ip aS) (et (ah aG) (et (gm aT) (et (iN bK) (et (ip bu) (et (ip aJ) (et (ip cZ) (et (ip dG) (ah fO))))))))))
 exact⟨o6,o7,o8,S,T,U,V,W,X,N,O,F,G,P,Y,Q,R,j,d,I,l,f,J,n,g,K,p,h,L,rfl,o9,fQ,M,B,C,E,s,u,y,z⟩
 refine jF (dF dG) (sk (rt (tR (Fin.res (res0 rfl) ?_))))
 have pg:=aM.px [] [0,1,23] []
 obtain⟨rfl,rfl⟩:=ic (hr.symm.trans (show _=(p0,a) from et (ip aS) (et (ah aG) (et (gm aT) (et (iN bK) (et (ip bu) (et (ip aJ) (et (ip cZ) (iN dG)))))))))
 exact⟨aD,aF,au,S,T,U,V,W,X,N,O,F,G,P,Y,Q,R,j,d,I,l,f,J,n,g,K,p,h,L,rfl,pg,ag,M,B,C,E,s,u,y,z⟩
 refine jF (dF cZ) (sk ?_)
 have fU:=aM.px [] [23] []
 refine Ib (Mz rfl (Lz (vI (b.aJ - 10)) fU 0 C4 (La (iH b av Z ay aa az af) fU 1 N5 N6 ?_)))
 have pq:=fU.pb [0,1]
 obtain⟨⟨jZ,j3⟩,fV⟩:∃ q:bI × aA,dQ p0 (b.aJ - 10) b a=q:=⟨_,rfl⟩
 obtain⟨BM,kY,bY,lc,yz⟩:=I6 pq
 refine cl R6 (jP _ _ g0 p0 aD aF au (b.aJ - 10) b av b.aH.ls.length Z ay b.ai.ls.length aa bq az b.ag.ls.length af r a S T U V W X N O F G P Y Q R j d I l f J n g K p h L jZ j3 kY ag rfl (bY _ aX) (show b.aH.ls.length≤Z∧b.aH.ls.length≤9223372036854775807 from by omega) aR rfl (bY _ bg) (show b.ai.ls.length≤aa∧b.ai.ls.length≤9223372036854775807 from by omega) (fun x9 h9=>⟨bY _ (ai x9 h9).1,(ai x9 h9).2⟩) rfl (bY _ bn) (show b.ag.ls.length≤af∧b.ag.ls.length≤9223372036854775807 from by omega) M B C E s u y z e8 e6 e8 fV) ?_
 rintro _ BN ⟨pu,pz,pE,pF,pG,pI,pJ,pK,pM,pO,pQ,pR,pV,pW,pX,pY,p8,p9,qa,qb,qc,qf,qg,qh,qi,qj,qm,qo,qw,rfl,lg,fZ,gq,gu,gy,gz,gB,gD,gF,gG⟩
 have bA:=lc _ _ lg
 have yA:=aB fZ
 have yB:=aB gq
 have yC:=aB gu
 have yD:=aB gy
 have yE:=aB gz
 have yF:=aB gB
 have yG:=aB gD
 have yH:=aB gF
 have yI:=aB gG
 have yJ:=bA.rowC (i:=1) rfl
 have yK:=bA.rowC (i:=4) rfl
 have yL:=bA.rowC (i:=5) rfl
 have yM:=bA.rowC (i:=7) rfl
 have yN:=bA.rowC (i:=9) rfl
 have yO:=bA.rowC (i:=11) rfl
 have yP:=bA.rowC (i:=13) rfl
 have yQ:=bA.rowC (i:=15) rfl
 have yR:=bA.rowC (i:=17) rfl
 have yS:=bA.rowC (i:=19) rfl
 refine C6 (IA (res0 rfl) ?_)
 have qx:=bA.px [] [21,22] []
 obtain⟨rfl,rfl⟩:=ic (hr.symm.trans (show _=(jZ,j3) from et (ip aS) (et (ah aG) (et (gm aT) (et (iN bK) (et (ip bu) (et (ip aJ) (et (iN cZ) (ah fV)))))))))
 exact⟨pu,pz,pE,pF,pG,pI,pJ,pK,pM,pO,pQ,pR,pV,pW,pX,pY,p8,p9,qa,qb,qc,qf,qg,qh,qi,qj,qm,qo,qw,rfl,qx,fZ,gq,gu,gy,gz,gB,gD,gF,gG⟩
 refine Sz aJ (Sz aJ (Sz aJ (Sz aJ (Sz aJ (fw (.bool false) (Ih rfl aJ rfl) (nt (jf (sk ?_))))))))
 have gH:=aM.px [] [23] []
 refine Ib (Mz rfl (Lz (vI (b.aJ - 10)) gH 0 C4 (La (iH b av Z ay aa az af) gH 1 N5 N6 ?_)))
 have qy:=gH.pb [0,1]
 obtain⟨⟨j4,j5⟩,gI⟩:∃ q:bI × aA,dQ p0 (b.aJ - 10) b a=q:=⟨_,rfl⟩
 obtain⟨BO,lh,bZ,ll,yT⟩:=I6 qy
 refine cl R6 (jP _ _ g0 p0 aD aF au (b.aJ - 10) b av b.aH.ls.length Z ay b.ai.ls.length aa bq az b.ag.ls.length af r a S T U V W X N O F G P Y Q R j d I l f J n g K p h L j4 j5 lh ag rfl (bZ _ aX) (show b.aH.ls.length≤Z∧b.aH.ls.length≤9223372036854775807 from by omega) aR rfl (bZ _ bg) (show b.ai.ls.length≤aa∧b.ai.ls.length≤9223372036854775807 from by omega) (fun x9 h9=>⟨bZ _ (ai x9 h9).1,(ai x9 h9).2⟩) rfl (bZ _ bn) (show b.ag.ls.length≤af∧b.ag.ls.length≤9223372036854775807 from by omega) M B C E s u y z e8 e6 e8 gI) ?_
 rintro _ BP ⟨qz,qA,qB,qC,qD,qE,qF,qG,qH,qI,qJ,qK,qL,qM,qN,qO,qP,qQ,qR,qU,qV,qW,qX,qY,qZ,q8,q9,rf,rq,rfl,lm,gJ,gK,gL,gM,gN,gP,gQ,gT,gV⟩
 have bD:=ll _ _ lm
 have yU:=aB gJ
 have yV:=aB gK
 have yX:=aB gL
 have yY:=aB gM
 have yZ:=aB gN
 have y5:=aB gP
 have y7:=aB gQ
 have y8:=aB gT
 have y9:=aB gV
 have za:=bD.rowC (i:=1) rfl
 have zb:=bD.rowC (i:=4) rfl
 have ze:=bD.rowC (i:=5) rfl
 have zf:=bD.rowC (i:=7) rfl
 have zg:=bD.rowC (i:=9) rfl
 have zh:=bD.rowC (i:=11) rfl
 have zi:=bD.rowC (i:=13) rfl
 have zk:=bD.rowC (i:=15) rfl
 have zl:=bD.rowC (i:=17) rfl
 have zm:=bD.rowC (i:=19) rfl
 refine C6 (IA (res0 rfl) ?_)
 have ru:=bD.px [] [21,22] []
 obtain⟨rfl,rfl⟩:=ic (hr.symm.trans (show _=(j4,j5) from et (ip aS) (et (ah aG) (et (gm aT) (et (iN bK) (et (ip bu) (et (gm aJ) (ah gI))))))))
 exact⟨qz,qA,qB,qC,qD,qE,qF,qG,qH,qI,qJ,qK,qL,qM,qN,qO,qP,qQ,qR,qU,qV,qW,qX,qY,qZ,q8,q9,rf,rq,rfl,ru,gJ,gK,gL,gM,gN,gP,gQ,gT,gV⟩
 by_cases bQ:b.aJ - 10=3
 refine qt (v:=vP r 21) 7 rfl (fun _ _=>by rw [show b.aJ - 10=3 from by omega]; exact yk) (qt (v:= .agg #[.bool a.bv.cO,vU a.bv.aS,vI a.bv.dA, .slice n a.bv.af.ls.length g]) 8 rfl (fun _ ⟨_,H9⟩=>Io rfl (Iy (cs:= [.bool a.bv.cO,vU a.bv.aS,vI a.bv.dA, .slice n a.bv.af.ls.length g]) Q9 P7 ((H9.cls (i:=5) rfl).lit (k:=21) (m:=4) rfl))) ?_)
 refine qd 9 rfl (IY (cs:= [.bool false, .int .u64 0,vI 0, .slice none 0 0]) (t:=81) jH rfl rfl (fun _=>by kernel_rfl) ?_)
 intro bV BQ ry
 have j6:=ry.pb [0]
 refine⟨.inr ⟨_,j6⟩, ?_⟩
 have rz:=j6.pf [23]
 refine qe 10 rfl (Do.store (vs:= [.bool a.bv.cO,vU a.bv.aS,vI a.bv.dA, .slice n a.bv.af.ls.length g]) (o:=0) rz rfl rfl P7 rfl rfl rfl rfl ?_)
 intro BR rA
 have aN:=rA.pb [0]
 refine⟨.inr ⟨_,aN⟩, ?_⟩
 refine qn (Ig (sr (Kz (vP bV 0) (Lz (.bool a.bv.cO) aN 23 N3 (Mz rfl ?_)))))
 rcases Li (a.bv.cO) with aK | aK
 refine Gz (vP bV 1) aK (Gl (vU a.bv.aS) aK aN 23 D4 (Gz (vP bT 6) aK (Gl (vU b.aP) aK aN 1 D4 (Gz (.bool (decide (((a.bv.aS:Nat):Int) ≥ ((b.aP:Nat):Int)))) aK (fw (.bool (decide (((a.bv.aS:Nat):Int) ≥ ((b.aP:Nat):Int)))) (Iw rfl aK rfl) (nt ?_))))))
 by_cases df:((a.bv.aS:Nat):Int) ≥ ((b.aP:Nat):Int)
 refine jT (dT df) (Ic (sr (Kz (vP bV 1) (Lz (vU a.bv.aS) aN 23 D4 (Kz (vP bT 6) (Lz (vU b.aP) aN 1 D4 (Kz (.bool (decide (((a.bv.aS:Nat):Int)=((b.aP:Nat):Int)))) (nt ?_))))))))
 by_cases dH:((a.bv.aS:Nat):Int)=((b.aP:Nat):Int)
 refine jT (dT dH) (Ib (Mz rfl (Lz (vI (b.aJ - 10)) aN 0 C4 (Kz (vP bV 1) (Lz (vU a.bv.aS) aN 23 D4 (Kz (vP bV 2) (Lz (vI a.bv.dA) aN 23 C4 (Kz (vP bV 3) (Lz (.slice n a.bv.af.ls.length g) aN 23 E3 ?_)))))))))
 refine WL.do rfl (Iz P4 rfl ?_ (fun _ _ k=>k))
 refine cb P5 ?_
 refine Ib (Mz rfl (Mz rfl (fw (vI (10+(b.aJ - 10))) (Ie (e:=C5.wrap (10+(b.aJ - 10))) yk g2) (Mz rfl (Mz rfl (Kz (vP g0 0) (Kz (vP g0 0) (Lz (vP r 0) aN 2 P3 (Kz (vP r 0) (Kz (vP r 0) (Kz (vP r 1) (Lz (vU a.aa.av) aN 5 D4 (Mz rfl (Mz rfl (Kz (.agg (gU 2 0 (10+(b.aJ - 10)) 0 a.bv.dA 0 a.bv.aS a.aa.av 0 0 0 0 0 0 0 false ([]) ([]) none 0 0 n a.bv.af.ls.length g none 0 0).toArray) ?_)))))))))))))))
 have kg:=aN.pf [2,3,4]
 obtain⟨gW,gX⟩:∃ q,dw p0 (bL.mk 2 0 (10+(b.aJ - 10)) 0 a.bv.dA 0 a.bv.aS a.aa.av 0 0 0 0 0 0 0 false (bC.mk ([]) ([])) (E2 ([])) (E2 a.bv.af.ls) (E2 ([])))=q:=⟨_,rfl⟩
 obtain⟨BS,lq,zn,lu,gY⟩:=IU kg
 refine cl P6 (gp _ _ g0 p0 aD aF au r (bL.mk 2 0 (10+(b.aJ - 10)) 0 a.bv.dA 0 a.bv.aS a.aa.av 0 0 0 0 0 0 0 false (bC.mk ([]) ([])) (E2 ([])) (E2 a.bv.af.ls) (E2 ([]))) none 0 0 n a.bv.af.ls.length g K none 0 0 gW lq ag rfl (fun _ _=>bE.nil _ _ _) f2 y rfl (gY _ 16 _ rfl aO) (show a.bv.af.ls.length≤g∧a.bv.af.ls.length≤9223372036854775807 from by omega) (fun x9 h9=>⟨gY _ 17 _ rfl (ax (Q3.2 ⟨x9,h9,b1⟩) aO),aZ (φ:=fun _=>_) kg (i:=20) rfl (ax (Q3.2 ⟨x9,h9,b1⟩) aW)⟩) rfl (fun _ _=>bE.nil _ _ _) f2 e8 (by first | assumption | exact dM f5 | exact fun x hx=>absurd hx y6 | exact dM (Mk.mU f5).1 | exact dM (Mk.lT f5).1 | exact dM (Mk.nu f5).1 | exact dM (Mk.ny f5).1 | exact dM (Mk.nz f5).1) gX) ?_
 rintro _ BU ⟨rC,rD,rE,rfl,lv,gZ,ib⟩
 have ko:=lu _ _ lv
 have zo:=aB gZ
 have zq:=ko.rowC (i:=1) rfl
 replace ib:gW.aX.ls.length=p0.aX.ls.length+1:=ib
 refine C6 (IA (res0 rfl) (nt (rt (tR (Fin.res (res0 rfl) ?_)))))
 have rF:=ko.px [] [3,4,23] []
 obtain⟨rfl,rfl⟩:=ic (hr.symm.trans (show _=(gW,a) from et (ip aS) (et (ah aG) (et (gm aT) (et (iN bK) (et (iN bu) (et (ip bQ) (et (ip aK) (et (ip df) (et (ip dH) (ah gX)))))))))))
 exact⟨rC,rD,rE,S,T,U,V,W,X,N,O,F,G,P,Y,Q,R,j,d,I,l,f,J,n,g,K,p,h,L,rfl,rF,gZ,M,B,C,E,s,u,y,z⟩
 refine jF (dF dH) (sk (rt (tR (Fin.res (res0 rfl) ?_))))
 have rG:=aN.px [] [0,1,23] []
 obtain⟨rfl,rfl⟩:=ic (hr.symm.trans (show _=(p0,a) from et (ip aS) (et (ah aG) (et (gm aT) (et (iN bK) (et (iN bu) (et (ip bQ) (et (ip aK) (et (ip df) (iN dH))))))))))
 exact⟨aD,aF,au,S,T,U,V,W,X,N,O,F,G,P,Y,Q,R,j,d,I,l,f,J,n,g,K,p,h,L,rfl,rG,ag,M,B,C,E,s,u,y,z⟩
 refine jF (dF df) (sk ?_)
 have ig:=aN.px [] [23] []
 refine Ib (Mz rfl (Lz (vI (b.aJ - 10)) ig 0 C4 (La (iH b av Z ay aa az af) ig 1 N5 N6 ?_)))
 have rH:=ig.pb [0,1]
 obtain⟨⟨kr,ku⟩,ik⟩:∃ q:bI × aA,dQ p0 (b.aJ - 10) b a=q:=⟨_,rfl⟩
 obtain⟨BV,lw,cu,lC,zt⟩:=I6 rH
 refine cl R6 (jP _ _ g0 p0 aD aF au (b.aJ - 10) b av b.aH.ls.length Z ay b.ai.ls.length aa bq az b.ag.ls.length af r a S T U V W X N O F G P Y Q R j d I l f J n g K p h L kr ku lw ag rfl (cu _ aX) (show b.aH.ls.length≤Z∧b.aH.ls.length≤9223372036854775807 from by omega) aR rfl (cu _ bg) (show b.ai.ls.length≤aa∧b.ai.ls.length≤9223372036854775807 from by omega) (fun x9 h9=>⟨cu _ (ai x9 h9).1,(ai x9 h9).2⟩) rfl (cu _ bn) (show b.ag.ls.length≤af∧b.ag.ls.length≤9223372036854775807 from by omega) M B C E s u y z e8 e6 e8 ik) ?_
 rintro _ BX ⟨rJ,rM,rO,rP,rQ,rR,rT,rU,rV,rW,rX,rY,rZ,r9,si,sj,su,sw,sD,sF,sG,sH,sI,sJ,sK,sM,sN,sO,sP,rfl,lD,il,iq,iw,iy,iA,iB,iC,iD,iE⟩
 have bF:=lC _ _ lD
 have zu:=aB il
 have zw:=aB iq
 have zx:=aB iw
 have zy:=aB iy
 have zz:=aB iA
 have zA:=aB iB
 have zB:=aB iC
 have zC:=aB iD
 have zD:=aB iE
 have zF:=bF.rowC (i:=1) rfl
 have zG:=bF.rowC (i:=4) rfl
 have zH:=bF.rowC (i:=5) rfl
 have zI:=bF.rowC (i:=7) rfl
 have zJ:=bF.rowC (i:=9) rfl
 have zK:=bF.rowC (i:=11) rfl
 have zL:=bF.rowC (i:=13) rfl
 have zM:=bF.rowC (i:=15) rfl
 have zN:=bF.rowC (i:=17) rfl
 have zO:=bF.rowC (i:=19) rfl
 refine C6 (IA (res0 rfl) ?_)
 have sQ:=bF.px [] [21,22] []
 obtain⟨rfl,rfl⟩:=ic (hr.symm.trans (show _=(kr,ku) from et (ip aS) (et (ah aG) (et (gm aT) (et (iN bK) (et (iN bu) (et (ip bQ) (et (ip aK) (et (iN df) (ah ik))))))))))
 exact⟨rJ,rM,rO,rP,rQ,rR,rT,rU,rV,rW,rX,rY,rZ,r9,si,sj,su,sw,sD,sF,sG,sH,sI,sJ,sK,sM,sN,sO,sP,rfl,sQ,il,iq,iw,iy,iA,iB,iC,iD,iE⟩
 refine Sz aK (Sz aK (Sz aK (Sz aK (Sz aK (fw (.bool false) (Ih rfl aK rfl) (nt (jf (sk ?_))))))))
 have iF:=aN.px [] [23] []
 refine Ib (Mz rfl (Lz (vI (b.aJ - 10)) iF 0 C4 (La (iH b av Z ay aa az af) iF 1 N5 N6 ?_)))
 have sS:=iF.pb [0,1]
 obtain⟨⟨kv,kw⟩,iG⟩:∃ q:bI × aA,dQ p0 (b.aJ - 10) b a=q:=⟨_,rfl⟩
 obtain⟨BZ,lF,cz,lG,zP⟩:=I6 sS
 refine cl R6 (jP _ _ g0 p0 aD aF au (b.aJ - 10) b av b.aH.ls.length Z ay b.ai.ls.length aa bq az b.ag.ls.length af r a S T U V W X N O F G P Y Q R j d I l f J n g K p h L kv kw lF ag rfl (cz _ aX) (show b.aH.ls.length≤Z∧b.aH.ls.length≤9223372036854775807 from by omega) aR rfl (cz _ bg) (show b.ai.ls.length≤aa∧b.ai.ls.length≤9223372036854775807 from by omega) (fun x9 h9=>⟨cz _ (ai x9 h9).1,(ai x9 h9).2⟩) rfl (cz _ bn) (show b.ag.ls.length≤af∧b.ag.ls.length≤9223372036854775807 from by omega) M B C E s u y z e8 e6 e8 iG) ?_
 rintro _ Ca ⟨sU,sV,sW,sZ,tq,tu,tC,tF,tH,tJ,tK,tL,tN,tO,tQ,tT,tV,tX,tY,tZ,uf,ug,uh,ui,uj,uk,ul,um,uo,rfl,lH,iI,iJ,iK,iL,iM,iO,iP,iQ,iR⟩
 have bG:=lG _ _ lH
 have zQ:=aB iI
 have zR:=aB iJ
 have zS:=aB iK
 have zT:=aB iL
 have zU:=aB iM
 have zV:=aB iO
 have zW:=aB iP
 have zX:=aB iQ
 have zY:=aB iR
 have zZ:=bG.rowC (i:=1) rfl
 have z8:=bG.rowC (i:=4) rfl
 have Aa:=bG.rowC (i:=5) rfl
 have Ab:=bG.rowC (i:=7) rfl
 have Ac:=bG.rowC (i:=9) rfl
 have Ad:=bG.rowC (i:=11) rfl
 have Ae:=bG.rowC (i:=13) rfl
 have Af:=bG.rowC (i:=15) rfl
 have Ag:=bG.rowC (i:=17) rfl
 have Ah:=bG.rowC (i:=19) rfl
 refine C6 (IA (res0 rfl) ?_)
 have uq:=bG.px [] [21,22] []
 obtain⟨rfl,rfl⟩:=ic (hr.symm.trans (show _=(kv,kw) from et (ip aS) (et (ah aG) (et (gm aT) (et (iN bK) (et (iN bu) (et (ip bQ) (et (gm aK) (ah iG)))))))))
 exact⟨sU,sV,sW,sZ,tq,tu,tC,tF,tH,tJ,tK,tL,tN,tO,tQ,tT,tV,tX,tY,tZ,uf,ug,uh,ui,uj,uk,ul,um,uo,rfl,uq,iI,iJ,iK,iL,iM,iO,iP,iQ,iR⟩
 refine qt (v:=vP r 25) 7 rfl (fun _ _=>by rw [show b.aJ - 10=4 from by omega]; exact yk) (qt (v:= .agg #[.bool a.bq.cO,vU a.bq.aS,vI a.bq.dA, .slice p a.bq.af.ls.length h]) 8 rfl (fun _ ⟨_,H9⟩=>Io rfl (Iy (cs:= [.bool a.bq.cO,vU a.bq.aS,vI a.bq.dA, .slice p a.bq.af.ls.length h]) Q9 P7 ((H9.cls (i:=5) rfl).lit (k:=25) (m:=4) rfl))) ?_)
 refine qd 9 rfl (IY (cs:= [.bool false, .int .u64 0,vI 0, .slice none 0 0]) (t:=81) jH rfl rfl (fun _=>by kernel_rfl) ?_)
 intro bW Cb ut
 have kC:=ut.pb [0]
 refine⟨.inr ⟨_,kC⟩, ?_⟩
 have uu:=kC.pf [23]
 refine qe 10 rfl (Do.store (vs:= [.bool a.bq.cO,vU a.bq.aS,vI a.bq.dA, .slice p a.bq.af.ls.length h]) (o:=0) uu rfl rfl P7 rfl rfl rfl rfl ?_)
 intro Cc uw
 have aP:=uw.pb [0]
 refine⟨.inr ⟨_,aP⟩, ?_⟩
 refine qn (Ig (sr (Kz (vP bW 0) (Lz (.bool a.bq.cO) aP 23 N3 (Mz rfl ?_)))))
 rcases Li (a.bq.cO) with aL | aL
 refine Gz (vP bW 1) aL (Gl (vU a.bq.aS) aL aP 23 D4 (Gz (vP bT 6) aL (Gl (vU b.aP) aL aP 1 D4 (Gz (.bool (decide (((a.bq.aS:Nat):Int) ≥ ((b.aP:Nat):Int)))) aL (fw (.bool (decide (((a.bq.aS:Nat):Int) ≥ ((b.aP:Nat):Int)))) (Iw rfl aL rfl) (nt ?_))))))
 by_cases dh:((a.bq.aS:Nat):Int) ≥ ((b.aP:Nat):Int)
 refine jT (dT dh) (Ic (sr (Kz (vP bW 1) (Lz (vU a.bq.aS) aP 23 D4 (Kz (vP bT 6) (Lz (vU b.aP) aP 1 D4 (Kz (.bool (decide (((a.bq.aS:Nat):Int)=((b.aP:Nat):Int)))) (nt ?_))))))))
 by_cases dI:((a.bq.aS:Nat):Int)=((b.aP:Nat):Int)
 refine jT (dT dI) (Ib (Mz rfl (Lz (vI (b.aJ - 10)) aP 0 C4 (Kz (vP bW 1) (Lz (vU a.bq.aS) aP 23 D4 (Kz (vP bW 2) (Lz (vI a.bq.dA) aP 23 C4 (Kz (vP bW 3) (Lz (.slice p a.bq.af.ls.length h) aP 23 E3 ?_)))))))))
 refine WL.do rfl (Iz P4 rfl ?_ (fun _ _ k=>k))
 refine cb P5 ?_
 refine Ib (Mz rfl (Mz rfl (fw (vI (10+(b.aJ - 10))) (Ie (e:=C5.wrap (10+(b.aJ - 10))) yk g2) (Mz rfl (Mz rfl (Kz (vP g0 0) (Kz (vP g0 0) (Lz (vP r 0) aP 2 P3 (Kz (vP r 0) (Kz (vP r 0) (Kz (vP r 1) (Lz (vU a.aa.av) aP 5 D4 (Mz rfl (Mz rfl (Kz (.agg (gU 2 0 (10+(b.aJ - 10)) 0 a.bq.dA 0 a.bq.aS a.aa.av 0 0 0 0 0 0 0 false ([]) ([]) none 0 0 p a.bq.af.ls.length h none 0 0).toArray) ?_)))))))))))))))
 have kD:=aP.pf [2,3,4]
 obtain⟨iT,iU⟩:∃ q,dw p0 (bL.mk 2 0 (10+(b.aJ - 10)) 0 a.bq.dA 0 a.bq.aS a.aa.av 0 0 0 0 0 0 0 false (bC.mk ([]) ([])) (E2 ([])) (E2 a.bq.af.ls) (E2 ([])))=q:=⟨_,rfl⟩
 obtain⟨Ce,lI,Ai,lJ,iV⟩:=IU kD
 refine cl P6 (gp _ _ g0 p0 aD aF au r (bL.mk 2 0 (10+(b.aJ - 10)) 0 a.bq.dA 0 a.bq.aS a.aa.av 0 0 0 0 0 0 0 false (bC.mk ([]) ([])) (E2 ([])) (E2 a.bq.af.ls) (E2 ([]))) none 0 0 p a.bq.af.ls.length h L none 0 0 iT lI ag rfl (fun _ _=>bE.nil _ _ _) f2 z rfl (iV _ 18 _ rfl aO) (show a.bq.af.ls.length≤h∧a.bq.af.ls.length≤9223372036854775807 from by omega) (fun x9 h9=>⟨iV _ 19 _ rfl (ax (Q3.2 ⟨x9,h9,b1⟩) aO),aZ (φ:=fun _=>_) kD (i:=22) rfl (ax (Q3.2 ⟨x9,h9,b1⟩) aW)⟩) rfl (fun _ _=>bE.nil _ _ _) f2 e8 (by first | assumption | exact dM f5 | exact fun x hx=>absurd hx y6 | exact dM (Mk.mU f5).1 | exact dM (Mk.lT f5).1 | exact dM (Mk.nu f5).1 | exact dM (Mk.ny f5).1 | exact dM (Mk.nz f5).1) iU) ?_
 rintro _ Cf ⟨uy,uz,uB,rfl,lK,iW,iX⟩
 have kE:=lJ _ _ lK
 have Aj:=aB iW
 have Ak:=kE.rowC (i:=1) rfl
 replace iX:iT.aX.ls.length=p0.aX.ls.length+1:=iX
 refine C6 (IA (res0 rfl) (nt (rt (tR (Fin.res (res0 rfl) ?_)))))
 have uC:=kE.px [] [3,4,23] []
 obtain⟨rfl,rfl⟩:=ic (hr.symm.trans (show _=(iT,a) from et (ip aS) (et (ah aG) (et (gm aT) (et (iN bK) (et (iN bu) (et (iN bQ) (et (ip aL) (et (ip dh) (et (ip dI) (ah iU)))))))))))
 exact⟨uy,uz,uB,S,T,U,V,W,X,N,O,F,G,P,Y,Q,R,j,d,I,l,f,J,n,g,K,p,h,L,rfl,uC,iW,M,B,C,E,s,u,y,z⟩
 refine jF (dF dI) (sk (rt (tR (Fin.res (res0 rfl) ?_))))
 have uD:=aP.px [] [0,1,23] []
 obtain⟨rfl,rfl⟩:=ic (hr.symm.trans (show _=(p0,a) from et (ip aS) (et (ah aG) (et (gm aT) (et (iN bK) (et (iN bu) (et (iN bQ) (et (ip aL) (et (ip dh) (iN dI))))))))))
 exact⟨aD,aF,au,S,T,U,V,W,X,N,O,F,G,P,Y,Q,R,j,d,I,l,f,J,n,g,K,p,h,L,rfl,uD,ag,M,B,C,E,s,u,y,z⟩
 refine jF (dF dh) (sk ?_)
 have iY:=aP.px [] [23] []
 refine Ib (Mz rfl (Lz (vI (b.aJ - 10)) iY 0 C4 (La (iH b av Z ay aa az af) iY 1 N5 N6 ?_)))
 have uE:=iY.pb [0,1]
 obtain⟨⟨kF,kG⟩,iZ⟩:∃ q:bI × aA,dQ p0 (b.aJ - 10) b a=q:=⟨_,rfl⟩
 obtain⟨Cg,lL,cB,lM,Al⟩:=I6 uE
 refine cl R6 (jP _ _ g0 p0 aD aF au (b.aJ - 10) b av b.aH.ls.length Z ay b.ai.ls.length aa bq az b.ag.ls.length af r a S T U V W X N O F G P Y Q R j d I l f J n g K p h L kF kG lL ag rfl (cB _ aX) (show b.aH.ls.length≤Z∧b.aH.ls.length≤9223372036854775807 from by omega) aR rfl (cB _ bg) (show b.ai.ls.length≤aa∧b.ai.ls.length≤9223372036854775807 from by omega) (fun x9 h9=>⟨cB _ (ai x9 h9).1,(ai x9 h9).2⟩) rfl (cB _ bn) (show b.ag.ls.length≤af∧b.ag.ls.length≤9223372036854775807 from by omega) M B C E s u y z e8 e6 e8 iZ) ?_
 rintro _ Ch ⟨uF,uG,uH,uI,uJ,uK,uL,uM,uN,uO,uQ,uR,uS,uT,uU,uV,uW,uX,uY,uZ,u6,u7,ve,vg,vk,vo,vv,vw,vz,rfl,lN,ja,jb,jc,jd,je,jg,jh,jk,jl⟩
 have bH:=lM _ _ lN
 have Am:=aB ja
 have Ao:=aB jb
 have Ap:=aB jc
 have Aq:=aB jd
 have Ar:=aB je
 have Au:=aB jg
 have Av:=aB jh
 have Aw:=aB jk
 have Ay:=aB jl
 have Az:=bH.rowC (i:=1) rfl
 have AA:=bH.rowC (i:=4) rfl
 have AB:=bH.rowC (i:=5) rfl
 have AC:=bH.rowC (i:=7) rfl
 have AJ:=bH.rowC (i:=9) rfl
 have AL:=bH.rowC (i:=11) rfl
 have AO:=bH.rowC (i:=13) rfl
 have AP:=bH.rowC (i:=15) rfl
 have AQ:=bH.rowC (i:=17) rfl
 have AR:=bH.rowC (i:=19) rfl
 refine C6 (IA (res0 rfl) ?_)
 have vB:=bH.px [] [21,22] []
 obtain⟨rfl,rfl⟩:=ic (hr.symm.trans (show _=(kF,kG) from et (ip aS) (et (ah aG) (et (gm aT) (et (iN bK) (et (iN bu) (et (iN bQ) (et (ip aL) (et (iN dh) (ah iZ))))))))))
 exact⟨uF,uG,uH,uI,uJ,uK,uL,uM,uN,uO,uQ,uR,uS,uT,uU,uV,uW,uX,uY,uZ,u6,u7,ve,vg,vk,vo,vv,vw,vz,rfl,vB,ja,jb,jc,jd,je,jg,jh,jk,jl⟩
 refine Sz aL (Sz aL (Sz aL (Sz aL (Sz aL (fw (.bool false) (Ih rfl aL rfl) (nt (jf (sk ?_))))))))
 have jm:=aP.px [] [23] []
 refine Ib (Mz rfl (Lz (vI (b.aJ - 10)) jm 0 C4 (La (iH b av Z ay aa az af) jm 1 N5 N6 ?_)))
 have vC:=jm.pb [0,1]
 obtain⟨⟨kH,kI⟩,jo⟩:∃ q:bI × aA,dQ p0 (b.aJ - 10) b a=q:=⟨_,rfl⟩
 obtain⟨Ci,lQ,cK,lS,AU⟩:=I6 vC
 refine cl R6 (jP _ _ g0 p0 aD aF au (b.aJ - 10) b av b.aH.ls.length Z ay b.ai.ls.length aa bq az b.ag.ls.length af r a S T U V W X N O F G P Y Q R j d I l f J n g K p h L kH kI lQ ag rfl (cK _ aX) (show b.aH.ls.length≤Z∧b.aH.ls.length≤9223372036854775807 from by omega) aR rfl (cK _ bg) (show b.ai.ls.length≤aa∧b.ai.ls.length≤9223372036854775807 from by omega) (fun x9 h9=>⟨cK _ (ai x9 h9).1,(ai x9 h9).2⟩) rfl (cK _ bn) (show b.ag.ls.length≤af∧b.ag.ls.length≤9223372036854775807 from by omega) M B C E s u y z e8 e6 e8 jo) ?_
 rintro _ Cj ⟨vD,vE,vF,vG,vH,vJ,vK,vL,vM,vN,vO,vQ,vR,vS,vT,vV,vW,vX,vY,vZ,wh,wm,wo,wu,ww,wy,wz,wB,wC,rfl,lT,jq,jr,jv,jw,jy,jA,jB,jC,jD⟩
 have bJ:=lS _ _ lT
 have AV:=aB jq
 have AX:=aB jr
 have AY:=aB jv
 have AZ:=aB jw
 have A7:=aB jy
 have A8:=aB jA
 have A9:=aB jB
 have Ba:=aB jC
 have Bb:=aB jD
 have Bc:=bJ.rowC (i:=1) rfl
 have Bd:=bJ.rowC (i:=4) rfl
 have Be:=bJ.rowC (i:=5) rfl
 have Bf:=bJ.rowC (i:=7) rfl
 have Bg:=bJ.rowC (i:=9) rfl
 have Bh:=bJ.rowC (i:=11) rfl
 have Bi:=bJ.rowC (i:=13) rfl
 have Bj:=bJ.rowC (i:=15) rfl
 have Bl:=bJ.rowC (i:=17) rfl
 have Bn:=bJ.rowC (i:=19) rfl
 refine C6 (IA (res0 rfl) ?_)
 have wD:=bJ.px [] [21,22] []
 obtain⟨rfl,rfl⟩:=ic (hr.symm.trans (show _=(kH,kI) from et (ip aS) (et (ah aG) (et (gm aT) (et (iN bK) (et (iN bu) (et (iN bQ) (et (gm aL) (ah jo)))))))))
 exact⟨vD,vE,vF,vG,vH,vJ,vK,vL,vM,vN,vO,vQ,vR,vS,vT,vV,vW,vX,vY,vZ,wh,wm,wo,wu,ww,wy,wz,wB,wC,rfl,wD,jq,jr,jv,jw,jy,jA,jB,jC,jD⟩
 refine jT (dT aS) (sr (Mz rfl (Lz (vI (b.aJ - 10)) bO 0 C4 (La (iH b av Z ay aa az af) bO 1 N5 N6 ?_))))
 have aQ:=bO.pf [2,3,4,5]
 have Bo:=aQ.rowC (i:=9) rfl
 have Bp:=aQ.rowC (i:=13) rfl
 have Bq:=aQ.rowC (i:=15) rfl
 have Br:=aQ.rowC (i:=17) rfl
 have Bt:=aQ.rowC (i:=19) rfl
 have Bu:=aQ.rowC (i:=21) rfl
 obtain⟨kJ,jE⟩:∃ q,kZ p0 (b.aJ - 10) b a=q:=⟨_,rfl⟩
 obtain⟨Ck,lU,cO,lV,aH⟩:=I5 aQ
 refine cl Tryz.call86 (uA _ _ g0 p0 aD aF au (b.aJ - 10) b av b.aH.ls.length Z ay b.ai.ls.length aa bq az b.ag.ls.length af r a S T U V X N O F G Y Q R j d I l f J n g K p h L kJ lU ag rfl (cO _ aX) (show b.aH.ls.length≤Z∧b.aH.ls.length≤9223372036854775807 from by omega) aR rfl (cO _ bg) (show b.ai.ls.length≤aa∧b.ai.ls.length≤9223372036854775807 from by omega) (fun x9 h9=>⟨cO _ (ai x9 h9).1,(ai x9 h9).2⟩) rfl (cO _ bn) (show b.ag.ls.length≤af∧b.ag.ls.length≤9223372036854775807 from by omega) B (aH _ 5 _ rfl aO) (show a.aa.aF.ls.length≤N∧a.aa.aF.ls.length≤9223372036854775807 from by omega) (fun x9 h9=>⟨aH _ 6 _ rfl (ax (Q3.2 ⟨x9,h9,b1⟩) aO),aZ (φ:=fun _=>_) aQ (i:=10) rfl (ax (Q3.2 ⟨x9,h9,b1⟩) aW),(fun y1 k1=>⟨aH _ 6 _ rfl (ax (Q3.2 ⟨x9,h9, .tail _ b1⟩) (ax (Q3.2 ⟨y1,k1,b1⟩) aO)),aZ (φ:=fun _=>_) aQ (i:=10) rfl (ax (Q3.2 ⟨x9,h9, .tail _ b1⟩) (ax (Q3.2 ⟨y1,k1,b1⟩) aW))⟩)⟩) E (aH _ 9 _ rfl aO) (show a.bK.af.ls.length≤Q∧a.bK.af.ls.length≤9223372036854775807 from by omega) (fun x9 h9=>⟨aH _ 10 _ rfl (ax (Q3.2 ⟨x9,h9,b1⟩) aO),aZ (φ:=fun _=>_) aQ (i:=14) rfl (ax (Q3.2 ⟨x9,h9,b1⟩) aW)⟩) s (aH _ 11 _ rfl aO) (show a.bA.af.ls.length≤d∧a.bA.af.ls.length≤9223372036854775807 from by omega) (fun x9 h9=>⟨aH _ 12 _ rfl (ax (Q3.2 ⟨x9,h9,b1⟩) aO),aZ (φ:=fun _=>_) aQ (i:=16) rfl (ax (Q3.2 ⟨x9,h9,b1⟩) aW)⟩) u (aH _ 13 _ rfl aO) (show a.bz.af.ls.length≤f∧a.bz.af.ls.length≤9223372036854775807 from by omega) (fun x9 h9=>⟨aH _ 14 _ rfl (ax (Q3.2 ⟨x9,h9,b1⟩) aO),aZ (φ:=fun _=>_) aQ (i:=18) rfl (ax (Q3.2 ⟨x9,h9,b1⟩) aW)⟩) y (aH _ 15 _ rfl aO) (show a.bv.af.ls.length≤g∧a.bv.af.ls.length≤9223372036854775807 from by omega) (fun x9 h9=>⟨aH _ 16 _ rfl (ax (Q3.2 ⟨x9,h9,b1⟩) aO),aZ (φ:=fun _=>_) aQ (i:=20) rfl (ax (Q3.2 ⟨x9,h9,b1⟩) aW)⟩) z (aH _ 17 _ rfl aO) (show a.bq.af.ls.length≤h∧a.bq.af.ls.length≤9223372036854775807 from by omega) (fun x9 h9=>⟨aH _ 18 _ rfl (ax (Q3.2 ⟨x9,h9,b1⟩) aO),aZ (φ:=fun _=>_) aQ (i:=22) rfl (ax (Q3.2 ⟨x9,h9,b1⟩) aW)⟩) e8 f5 jE) ?_
 rintro _ Cm ⟨wE,wF,wG,rfl,lW,jG⟩
 have kK:=lV _ _ lW
 have Bv:=aB jG
 have Bw:=kK.rowC (i:=1) rfl
 refine nt (rt (tR (Fin.res (res0 rfl) ?_)))
 have wH:=kK.px [] [4,5] []
 obtain⟨rfl,rfl⟩:=ic (hr.symm.trans (show _=(kJ,a) from et (iN aS) (ah jE)))
 exact⟨wE,wF,wG,S,T,U,V,W,X,N,O,F,G,P,Y,Q,R,j,d,I,l,f,J,n,g,K,p,h,L,rfl,wH,jG,M,B,C,E,s,u,y,z⟩
end Go.Proofs.YtbkagebjhbphaaaGreat
