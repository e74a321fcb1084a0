/-
 coord: a request.
-/
import Derived.Test.YtbkagebjhbphaaaGreatCc
import Derived.Test.YtbkagebjhbphaaaGreatCe
namespace Go.Proofs.YtbkagebjhbphaaaGreat
open IntKind renaming i64→C3
open List renaming flatMap→q4,length_map→s3,map→s5,mem_flatMap→Q6,mem_of_getElem?→D1,not_mem_nil→v7
open Ll renaming mk→E0
open _root_.Go.Proofs.Tryz renaming call65→P9,call89→P7,call90→R9,func89→P8,isAgg24→P6,isAgg28→D2,isAgg3→C2,isAgg4→N6,isAgg40→E1,isAgg42→N8,isAgg81→R8,prog→v5,sizeOf42→N9,sizeOf81→Q0
open WL renaming nil→C4
set_option maxRecDepth 100000
open Go.RowKit
set_option linter.unusedVariables false
set_option linter.unusedSectionVars false
set_option linter.unusedSimpArgs false
def eX (a:Int):List ed→Nat→Unit ⊕ Int
  | [],b=>Sum.inl ()
  | c::d,b=>if c.bf=a then Sum.inr ((b:Nat):Int) else eX a d (b+1)
def ku (l0:List ed) (a:Int):Int:=
 lp (eX a l0 0) fun _=>(-1)
theorem oL (w D t I J F l0 f a G) (H:Own w D w [blk f [.int .i64 a] 3]) (y:s5 bK.abs F=l0) (s:Ro w D fun w'=>aY w' 9 t I (q4 bK.cells F)) (n:∀ x ∈ F,Ro w D (fun w'=>aY w' 6 x.cB.A x.cB.ls.length (q4 aN.cells x.cB.ls))∧(x.cB.ls.length≤x.cB.c∧x.cB.ls.length≤9223372036854775807)∧Ro w D (fun w'=>aY w' 3 x.aO.A x.aO.ls.length (q4 bO.cells x.aO.ls))∧(x.aO.ls.length≤x.aO.c∧x.aO.ls.length≤9223372036854775807)∧(∀ g ∈ x.aO.ls,Ro w D (fun w'=>aY w' 6 g.aB.A g.aB.ls.length (q4 aN.cells g.aB.ls))∧(g.aB.ls.length≤g.aB.c∧g.aB.ls.length≤9223372036854775807)∧Ro w D (fun w'=>aY w' 1 g.aI.A g.aI.ls.length (q4 (eI .i64) g.aI.ls))∧(g.aI.ls.length≤g.aI.c∧g.aI.ls.length≤9223372036854775807))∧Ro w D (fun w'=>aY w' 1 x.bL.A x.bL.ls.length (q4 eL x.bL.ls))∧(x.bL.ls.length≤x.bL.c∧x.bL.ls.length≤9223372036854775807)∧Ro w D (fun w'=>aY w' 1 x.ai.A x.ai.ls.length (q4 (I9 (β:=af)) x.ai.ls))∧(x.ai.ls.length≤x.ai.c∧x.ai.ls.length≤9223372036854775807)∧(∀ g ∈ x.ai.ls,Ro w D (fun w'=>aY w' 3 g.A g.ls.length (q4 af.cells g.ls))∧(g.ls.length≤g.c∧g.ls.length≤9223372036854775807)∧(∀ u ∈ g.ls,Ro w D (fun w'=>aY w' 2 u.aj.A u.aj.ls.length (q4 aH.cells u.aj.ls))∧(u.aj.ls.length≤u.aj.c∧u.aj.ls.length≤9223372036854775807)))) (K:I=l0.length) (ae:l0.length≤9223372036854775807) (hr:ku l0 a=G):
    Calls v5 125 #[.slice t I J, .func (.func 88) #[] #[vP f 0]] w (dA fun v w'=>v=vI G∧Own w D w' [blk f [vI a] 3]∧(-1≤G∧G < ((l0.length:Nat):Int))):=by
 subst K
 have T:=aA y
 refine cb Tryz.func125 ?_
 refine sr (An rfl (Ik (sr (Mz rfl (Kz (vJ l0.length) (Mn rfl (bo ?_)))))))
 have L:=H.pf []
 obtain⟨M,j⟩:=lF fun (b:Nat) w'=>Own w D w' [blk f [vI a] 3]∧b≤l0.length∧eX a l0 0=eX a (List.drop b l0) b
 refine Wp.loop (fun i:Nat=> [(4,vI 0),(8,vJ i),(7,vJ l0.length),(0, .slice t l0.length J),(1, .func (.func 88) #[] #[vP f 0])]) M (fun i=>l0.length - i) 0 ⟨rfl,rfl,rfl,rfl,rfl,trivial⟩ (j.2 ⟨L,e6,rfl⟩) ?_
 rintro b ag z
 obtain⟨l,U,m⟩:=j.1 z
 refine sr (Kz (.bool (decide (((b:Nat):Int) < ((l0.length:Nat):Int)))) (nt (Ik ?_)))
 by_cases B:((b:Nat):Int) < ((l0.length:Nat):Int)
 obtain⟨d,h⟩:=dh (ls:=F) (i:=b) bK.len f2 (l.ro s) e9
 have C:=eY y h
 have V:=(n _ (D1 h)).2.1
 have W:=(n _ (D1 h)).2.2.2.1
 have X:List.length (s5 bO.abs d.aO.ls)=d.aO.ls.length:=s3 ..
 have Y:=(n _ (D1 h)).2.2.2.2.2.2.1
 have Z:=(n _ (D1 h)).2.2.2.2.2.2.2.2.1
 have aa:List.length (s5 bP.abs d.ai.ls)=d.ai.ls.length:=s3 ..
 have r:=drop_at C
 refine jT (dT B) (sk (Ik (bo (sr (Mz rfl (Ar rfl (Mz rfl (Mz rfl (Mz rfl (fw (.pointer (some ⟨ab t,ao t+b *9,none⟩)) (Iz (qF) rfl rfl ((l.ro s).addr (i:=b) e6) e6) (fw (.agg (bK.cells d).toArray) (IB rfl (IJ (cs:=(bK.cells d)) Tryz.isAgg107 Tryz.sizeOf107 ((l.ro s).elem bK.len h f2))) ?_)))))))))))
 refine WL.do rfl (IY Tryz.call88 rfl rfl ?_ (fun _ _ k=>k))
 refine cb Tryz.func88 ?_
 refine sr ?_
 refine dn (bK.cells d) 107 l ?_
 intro N ah o
 refine Ar rfl (Kz (vP N 1) (Lz (vI d.bf) o 0 C2 (Lz (vI a) o 1 C2 (Kz (.bool (decide (d.bf=a))) (An rfl (rt (rs (nt ?_))))))))
 by_cases p:d.bf=a
 refine jT (dT p) (Ik ?_)
 have O:=o.pk [1]
 refine Il (Mz rfl (An rfl (rt (bR (tR (tR (bR (tR (rs ?_)))))))))
 have P:=O.pf []
 obtain rfl:_=((b:Nat):Int):=hr.symm.trans (gL (et (m) (et (congrArg (fun q=>eX a q b) r) (ip p))))
 exact⟨rfl,P,e6⟩
 refine jF (dF p) (IU (bN (Iq ?_)))
 have Q:=o.pk [1]
 refine Il (fw (vJ (b+1)) (Ir (e:=C3.wrap (((b:Nat):Int)+1)) yk f0) (Mz rfl (C4 ?_)))
 have R:=Q.pf []
 exact II (b+1) ⟨rfl,rfl,rfl,rfl,rfl,trivial⟩ (j.2 ⟨R,e6,et (m) (et (congrArg (fun q=>eX a q b) r) (iN p))⟩) (by show l0.length - (b+1) < l0.length - b; omega)
 refine jF (dF B) (Wp.exit (IC ?_))
 have E:eX a l0 0=Sum.inl ():=et (m) (et (congrArg (fun q=>eX a q b) (dZ (ls:=l0) (i:=b) e6)) rfl)
 refine IC (IK (Iq (sr (An rfl (rt (rs ?_))))))
 have S:=l.pf []
 obtain rfl:_=(-1):=hr.symm.trans (mF E)
 exact⟨rfl,S,e6⟩
def jS (l0:List ed) (a:Int):Bool:=
 bnd (ku l0 a) fun b=>decide (b ≥ 0)
theorem nU (w D t u E s l0 h e F) (H:Own w D w [blk h [.int .i64 e] 3]) (n:s5 bK.abs s=l0) (y:Ro w D fun w'=>aY w' 9 t u (q4 bK.cells s)) (a:∀ x ∈ s,Ro w D (fun w'=>aY w' 6 x.cB.A x.cB.ls.length (q4 aN.cells x.cB.ls))∧(x.cB.ls.length≤x.cB.c∧x.cB.ls.length≤9223372036854775807)∧Ro w D (fun w'=>aY w' 3 x.aO.A x.aO.ls.length (q4 bO.cells x.aO.ls))∧(x.aO.ls.length≤x.aO.c∧x.aO.ls.length≤9223372036854775807)∧(∀ b ∈ x.aO.ls,Ro w D (fun w'=>aY w' 6 b.aB.A b.aB.ls.length (q4 aN.cells b.aB.ls))∧(b.aB.ls.length≤b.aB.c∧b.aB.ls.length≤9223372036854775807)∧Ro w D (fun w'=>aY w' 1 b.aI.A b.aI.ls.length (q4 (eI .i64) b.aI.ls))∧(b.aI.ls.length≤b.aI.c∧b.aI.ls.length≤9223372036854775807))∧Ro w D (fun w'=>aY w' 1 x.bL.A x.bL.ls.length (q4 eL x.bL.ls))∧(x.bL.ls.length≤x.bL.c∧x.bL.ls.length≤9223372036854775807)∧Ro w D (fun w'=>aY w' 1 x.ai.A x.ai.ls.length (q4 (I9 (β:=af)) x.ai.ls))∧(x.ai.ls.length≤x.ai.c∧x.ai.ls.length≤9223372036854775807)∧(∀ b ∈ x.ai.ls,Ro w D (fun w'=>aY w' 3 b.A b.ls.length (q4 af.cells b.ls))∧(b.ls.length≤b.c∧b.ls.length≤9223372036854775807)∧(∀ j ∈ b.ls,Ro w D (fun w'=>aY w' 2 j.aj.A j.aj.ls.length (q4 aH.cells j.aj.ls))∧(j.aj.ls.length≤j.aj.c∧j.aj.ls.length≤9223372036854775807)))) (z:u=l0.length) (J:l0.length≤9223372036854775807) (hr:jS l0 e=F):
    Calls v5 87 #[.slice t u E, .func (.func 88) #[] #[vP h 0]] w (dA fun v w'=>v= .bool F∧Own w D w' [blk h [vI e] 3]):=by
 subst z
 have G:=aA n
 refine cb Tryz.func87 ?_
 refine sr (Ar rfl (Mz rfl (Mz rfl ?_)))
 obtain⟨i,l⟩:∃ q,ku l0 e=q:=⟨_,rfl⟩
 obtain⟨K,o,d,p,I⟩:=IZ H
 refine cl Tryz.call125 (oL _ _ t l0.length E s l0 h e i o n (d _ y) (fun f g=>⟨d _ (a f g).1,(a f g).2.1,d _ (a f g).2.2.1,(a f g).2.2.2.1,(fun b k=>⟨d _ ((a f g).2.2.2.2.1 b k).1,((a f g).2.2.2.2.1 b k).2.1,d _ ((a f g).2.2.2.2.1 b k).2.2.1,((a f g).2.2.2.2.1 b k).2.2.2⟩),d _ (a f g).2.2.2.2.2.1,(a f g).2.2.2.2.2.2.1,d _ (a f g).2.2.2.2.2.2.2.1,(a f g).2.2.2.2.2.2.2.2.1,(fun b k=>⟨d _ ((a f g).2.2.2.2.2.2.2.2.2 b k).1,((a f g).2.2.2.2.2.2.2.2.2 b k).2.1,(fun j k2=>⟨d _ (((a f g).2.2.2.2.2.2.2.2.2 b k).2.2 j k2).1,(((a f g).2.2.2.2.2.2.2.2.2 b k).2.2 j k2).2⟩)⟩)⟩) rfl e6 l) ?_
 rintro _ L ⟨rfl,r,m⟩
 have B:=p _ _ r
 replace m: -1≤i∧i < ((l0.length:Nat):Int):=m
 refine Kz (.bool (decide (i ≥ 0))) (An rfl (rt (rs ?_)))
 have C:=B.pf []
 obtain rfl:_=decide (i ≥ 0):=hr.symm.trans (ae l)
 exact⟨rfl,C⟩
def iU (c:bU) (b:bW) (a:aD):bU × aD:=
 if((b.ax:Nat):Int)=((a.aa.ax:Nat):Int) then bnd (jS a.aC.ls (b.aI - 10)) fun p=>if p=true then(c,a) else if b.aI - 10=1 then if a.bD.dB=true then if((a.bD.bi:Nat):Int) ≥ ((b.aU:Nat):Int) then if((a.bD.bi:Nat):Int)=((b.aU:Nat):Int) then bnd (dM c (bW.mk 2 0 (10+(b.aI - 10)) 0 a.bD.dP 0 a.bD.bi a.aa.ax 0 0 0 0 0 0 0 false (aL.mk ([]) ([])) (E0 ([])) (E0 a.bD.ai.ls) (E0 ([])))) fun q=>(q,a) else(c,a) else bnd (dS c (b.aI - 10) b a) fun k=>(k.1,k.2) else bnd (dS c (b.aI - 10) b a) fun d=>(d.1,d.2) else if b.aI - 10=2 then if a.bA.dB=true then if((a.bA.bi:Nat):Int) ≥ ((b.aU:Nat):Int) then if((a.bA.bi:Nat):Int)=((b.aU:Nat):Int) then bnd (dM c (bW.mk 2 0 (10+(b.aI - 10)) 0 a.bA.dP 0 a.bA.bi a.aa.ax 0 0 0 0 0 0 0 false (aL.mk ([]) ([])) (E0 ([])) (E0 a.bA.ai.ls) (E0 ([])))) fun l=>(l,a) else(c,a) else bnd (dS c (b.aI - 10) b a) fun e=>(e.1,e.2) else bnd (dS c (b.aI - 10) b a) fun f=>(f.1,f.2) else if b.aI - 10=3 then if a.bC.dB=true then if((a.bC.bi:Nat):Int) ≥ ((b.aU:Nat):Int) then if((a.bC.bi:Nat):Int)=((b.aU:Nat):Int) then bnd (dM c (bW.mk 2 0 (10+(b.aI - 10)) 0 a.bC.dP 0 a.bC.bi a.aa.ax 0 0 0 0 0 0 0 false (aL.mk ([]) ([])) (E0 ([])) (E0 a.bC.ai.ls) (E0 ([])))) fun m=>(m,a) else(c,a) else bnd (dS c (b.aI - 10) b a) fun g=>(g.1,g.2) else bnd (dS c (b.aI - 10) b a) fun h=>(h.1,h.2) else if a.bB.dB=true then if((a.bB.bi:Nat):Int) ≥ ((b.aU:Nat):Int) then if((a.bB.bi:Nat):Int)=((b.aU:Nat):Int) then bnd (dM c (bW.mk 2 0 (10+(b.aI - 10)) 0 a.bB.dP 0 a.bB.bi a.aa.ax 0 0 0 0 0 0 0 false (aL.mk ([]) ([])) (E0 ([])) (E0 a.bB.ai.ls) (E0 ([])))) fun n=>(n,a) else(c,a) else bnd (dS c (b.aI - 10) b a) fun i=>(i.1,i.2) else bnd (dS c (b.aI - 10) b a) fun j=>(j.1,j.2) else bnd (lK c (b.aI - 10) b a) fun o=>(o,a)
set_option maxHeartbeats 4000000 in
theorem uH (w D g0) (p0:bU) (aC aF au) (b:bW) (av jK Z ax jL aa bu aB jM ag r) (a:aD) (S T U V W X N O F G P Y Q R j d I l f J n g K p h L) (r0:bU) (r1:aD) (H:Own w D w [blk g0 [.pointer (some ⟨r,0,none⟩), .slice aC p0.bF.ls.length aF] 98,row aC p0.bF.ls.length aF (q4 bz.cells au) 42 21,sepL (q4 bz.own au),mK r a S a.aa.ag.ls.length T U V X N F G Y Q j d l f n g p h,row S a.aa.ag.ls.length T (q4 aM.cells a.aa.ag.ls) 89 2,row U a.aa.ak.ls.length V (q4 ay.cells W) 60 5,sepL (q4 ay.own W),row X a.aa.aK.ls.length N (q4 aS.cells O) 56 4,sepL (q4 aS.own O),row F a.aC.ls.length G (q4 bK.cells P) 107 9,sepL (q4 bK.own P),row Y a.bM.ai.ls.length Q (q4 af.cells R) 149 3,sepL (q4 af.own R),row j a.bD.ai.ls.length d (q4 af.cells I) 149 3,sepL (q4 af.own I),row l a.bA.ai.ls.length f (q4 af.cells J) 149 3,sepL (q4 af.own J),row n a.bC.ai.ls.length g (q4 af.cells K) 149 3,sepL (q4 af.own K),row p a.bB.ai.ls.length h (q4 af.cells L) 149 3,sepL (q4 af.own L)]) (ah:s5 bz.abs au=p0.bF.ls) (kL:jK=b.aB.ls.length) (bf:Ro w D fun w'=>aY w' 6 av b.aB.ls.length (q4 aN.cells b.aB.ls)) (wL:b.aB.ls.length≤Z∧b.aB.ls.length≤9223372036854775807) (aU:s5 af.abs bu=b.ah.ls) (kM:jL=b.ah.ls.length) (bg:Ro w D fun w'=>aY w' 3 ax b.ah.ls.length (q4 af.cells bu)) (wM:b.ah.ls.length≤aa∧b.ah.ls.length≤9223372036854775807) (ai:∀ x ∈ bu,Ro w D (fun w'=>aY w' 2 x.aj.A x.aj.ls.length (q4 aH.cells x.aj.ls))∧(x.aj.ls.length≤x.aj.c∧x.aj.ls.length≤9223372036854775807)) (kN:jM=b.ag.ls.length) (bi:Ro w D fun w'=>aY w' 2 aB b.ag.ls.length (q4 aM.cells b.ag.ls)) (wN:b.ag.ls.length≤ag∧b.ag.ls.length≤9223372036854775807) (M:s5 ay.abs W=a.aa.ak.ls) (B:s5 aS.abs O=a.aa.aK.ls) (C:s5 bK.abs P=a.aC.ls) (E:s5 af.abs R=a.bM.ai.ls) (s:s5 af.abs I=a.bD.ai.ls) (u:s5 af.abs J=a.bA.ai.ls) (y:s5 af.abs K=a.bC.ai.ls) (z:s5 af.abs L=a.bB.ai.ls) (Cn:a.aa.ag.ls.length≤1000∧a.aa.ak.ls.length≤1000∧a.aa.aK.ls.length≤1000∧a.aC.ls.length≤1000∧p0.bF.ls.length≤100000) (Co:Mk a) (Cq:a.bM.ai.ls.length≤1000∧a.bD.ai.ls.length≤1000∧a.bA.ai.ls.length≤1000∧a.bC.ai.ls.length≤1000∧a.bB.ai.ls.length≤1000) (Cr:11≤b.aI∧b.aI≤14) (Cs:b.aB.ls.length≤24∧b.ag.ls.length≤1000∧b.ah.ls.length≤1000∧jR b.aU) (hr:iU p0 b a=(r0,r1)):
    Calls v5 56 #[vP g0 0, .agg (iA b.av b.aI b.eO b.aP b.dK b.fA b.aU b.ax b.aX b.eQ b.bG b.aF b.eG b.cZ b.xN b.fe b.cu.aJ b.cu.aR av jK Z ax jL aa aB jM ag).toArray] w (dA fun v w'=> ∃ dP dQ dm dR dU dV dW dw dX dY dx dZ ed dz ek eu dB eB eD dC eF eG dD eH eO dE eP eQ dG,v= .tuple #[]∧Own w D w' [blk g0 [vP r 0, .slice dP r0.bF.ls.length dQ] 98,row dP r0.bF.ls.length dQ (q4 bz.cells dm) 42 21,sepL (q4 bz.own dm),mK r r1 dR r1.aa.ag.ls.length dU dV dW dX dY dZ ed ek eu eB eD eF eG eH eO eP eQ,row dR r1.aa.ag.ls.length dU (q4 aM.cells r1.aa.ag.ls) 89 2,row dV r1.aa.ak.ls.length dW (q4 ay.cells dw) 60 5,sepL (q4 ay.own dw),row dX r1.aa.aK.ls.length dY (q4 aS.cells dx) 56 4,sepL (q4 aS.own dx),row dZ r1.aC.ls.length ed (q4 bK.cells dz) 107 9,sepL (q4 bK.own dz),row ek r1.bM.ai.ls.length eu (q4 af.cells dB) 149 3,sepL (q4 af.own dB),row eB r1.bD.ai.ls.length eD (q4 af.cells dC) 149 3,sepL (q4 af.own dC),row eF r1.bA.ai.ls.length eG (q4 af.cells dD) 149 3,sepL (q4 af.own dD),row eH r1.bC.ai.ls.length eO (q4 af.cells dE) 149 3,sepL (q4 af.own dE),row eP r1.bB.ai.ls.length eQ (q4 af.cells dG) 149 3,sepL (q4 af.own dG)]∧(s5 bz.abs dm=r0.bF.ls)∧(s5 ay.abs dw=r1.aa.ak.ls)∧(s5 aS.abs dx=r1.aa.aK.ls)∧(s5 bK.abs dz=r1.aC.ls)∧(s5 af.abs dB=r1.bM.ai.ls)∧(s5 af.abs dC=r1.bD.ai.ls)∧(s5 af.abs dD=r1.bA.ai.ls)∧(s5 af.abs dE=r1.bC.ai.ls)∧(s5 af.abs dG=r1.bB.ai.ls)):=by
 subst kL kM kN
 have wJ:=aA ah
 have wK:=aA aU
 have lX:=aA M
 have lY:=aA B
 have lZ:=aA C
 have l5:=aA E
 have l6:=aA s
 have l7:=aA u
 have l8:=aA y
 have l9:=aA z
 have wO:=H.rowC (i:=1) rfl
 have ma:=H.rowC (i:=4) rfl
 have mf:=H.rowC (i:=5) rfl
 have mg:=H.rowC (i:=7) rfl
 have mh:=H.rowC (i:=9) rfl
 have mi:=H.rowC (i:=11) rfl
 have mo:=H.rowC (i:=13) rfl
 have mq:=H.rowC (i:=15) rfl
 have mr:=H.rowC (i:=17) rfl
 have mD:=H.rowC (i:=19) rfl
 refine cb Tryz.func56 ?_
 refine sr ?_
 refine dn (gK b av Z ax aa aB ag) 42 H ?_
 intro bR Ct mE
 refine ns (Kz (vP bR 1) (Lz (vI b.aI) mE 0 C2 (fw (vI (b.aI - 10)) (Ir (e:=C3.wrap (b.aI - 10)) yk g1) ?_)))
 refine dn [vI 0] 3 mE ?_
 intro mF Cu wP
 refine df [vI (b.aI - 10)] 0 wP Tryz.sizeOf3 ?_
 intro Cv wQ
 refine nt (Ik (Ik ?_))
 refine oV 23 [] (IE (IE IQ)) wQ ?_
 intro Cw bM
 refine qp bR 7 0 rfl (ql 1 rfl 1 D2 rfl rfl rfl (qv 2 rfl rfl (qp g0 0 3 rfl (qp g0 0 4 rfl (ql 5 rfl 2 P6 rfl rfl rfl (qp r 0 6 rfl (qp r 0 7 rfl (qp r 1 8 rfl (ql 9 rfl 5 D2 rfl rfl rfl (qt (v:= .bool (decide (¬ (((b.ax:Nat):Int)=((a.aa.ax:Nat):Int))))) 10 rfl (fun _ _=>IM (e:= !(decide (((b.ax:Nat):Int)=((a.aa.ax:Nat):Int)))) yk decide_not.symm) (qn (Iq ?_))))))))))))
 by_cases aV:((b.ax:Nat):Int)=((a.aa.ax:Nat):Int)
 refine jF (dF (Lr aV)) (sk (Ik (sr (Mz rfl (Kz (vP g0 0) (Kz (vP g0 0) (Lz (vP r 0) bM 2 P6 (Kz (vP r 0) (Kz (vP r 8) (Lz (.slice F a.aC.ls.length G) bM 5 Tryz.isAgg79 (Kz (.func (.func 88) #[] #[vP mF 0]) ?_)))))))))))
 obtain⟨mG,aG⟩:∃ q,jS a.aC.ls (b.aI - 10)=q:=⟨_,rfl⟩
 obtain⟨Cx,mH,Bz,mI,bN⟩:=IZ bM
 refine cl Tryz.call87 (nU _ _ F a.aC.ls.length G P a.aC.ls mF (b.aI - 10) mG mH C (bN _ 10 _ rfl aW) (fun x9 h9=>⟨bN _ 11 _ rfl (az (Q6.2 ⟨x9,h9,b1⟩) aW),bq (φ:=fun _=>_) bM (i:=12) rfl (az (Q6.2 ⟨x9,h9,b1⟩) bn),bN _ 11 _ rfl (az (Q6.2 ⟨x9,h9, .tail _ b1⟩) aW),bq (φ:=fun _=>_) bM (i:=12) rfl (az (Q6.2 ⟨x9,h9, .tail _ b1⟩) bn),(fun y1 k1=>⟨bN _ 11 _ rfl (az (Q6.2 ⟨x9,h9, .tail _ b4⟩) (az (Q6.2 ⟨y1,k1,b1⟩) aW)),bq (φ:=fun _=>_) bM (i:=12) rfl (az (Q6.2 ⟨x9,h9, .tail _ b4⟩) (az (Q6.2 ⟨y1,k1,b1⟩) bn)),bN _ 11 _ rfl (az (Q6.2 ⟨x9,h9, .tail _ b4⟩) (az (Q6.2 ⟨y1,k1, .tail _ b1⟩) aW)),bq (φ:=fun _=>_) bM (i:=12) rfl (az (Q6.2 ⟨x9,h9, .tail _ b4⟩) (az (Q6.2 ⟨y1,k1, .tail _ b1⟩) bn))⟩),bN _ 11 _ rfl (az (Q6.2 ⟨x9,h9, .tail _ b2⟩) aW),bq (φ:=fun _=>_) bM (i:=12) rfl (az (Q6.2 ⟨x9,h9, .tail _ b2⟩) bn),bN _ 11 _ rfl (az (Q6.2 ⟨x9,h9, .tail _ b3⟩) aW),bq (φ:=fun _=>_) bM (i:=12) rfl (az (Q6.2 ⟨x9,h9, .tail _ b3⟩) bn),(fun y1 k1=>⟨bN _ 11 _ rfl (az (Q6.2 ⟨x9,h9, .tail _ b5⟩) (az (Q6.2 ⟨y1,k1,b1⟩) aW)),bq (φ:=fun _=>_) bM (i:=12) rfl (az (Q6.2 ⟨x9,h9, .tail _ b5⟩) (az (Q6.2 ⟨y1,k1,b1⟩) bn)),(fun y2 k2=>⟨bN _ 11 _ rfl (az (Q6.2 ⟨x9,h9, .tail _ b5⟩) (az (Q6.2 ⟨y1,k1, .tail _ b1⟩) (az (Q6.2 ⟨y2,k2,b1⟩) aW))),bq (φ:=fun _=>_) bM (i:=12) rfl (az (Q6.2 ⟨x9,h9, .tail _ b5⟩) (az (Q6.2 ⟨y1,k1, .tail _ b1⟩) (az (Q6.2 ⟨y2,k2,b1⟩) bn)))⟩)⟩)⟩) rfl e6 aG) ?_
 rintro _ Cy ⟨rfl,mJ⟩
 have mM:=mI _ _ mJ
 refine nt ?_
 rcases Ls (mG) with aX | aX
 refine jT aX (rt (tR (Fin.res (res0 rfl) ?_)))
 have wR:=mM.px [] [0,1] []
 obtain⟨rfl,rfl⟩:=fD (hr.symm.trans (show _=(p0,a) from et (ip aV) (et (ae aG) (ip aX))))
 exact⟨aC,aF,au,S,T,U,V,W,X,N,O,F,G,P,Y,Q,R,j,d,I,l,f,J,n,g,K,p,h,L,rfl,wR,ah,M,B,C,E,s,u,y,z⟩
 refine jF aX (sk (Ik (Ik ?_)))
 refine oV 23 [] (IE (IE IQ)) mM ?_
 intro Cz jI
 refine qv 0 rfl rfl (qp g0 0 1 rfl (qp g0 0 2 rfl (ql 3 rfl 2 P6 rfl rfl rfl (ql 4 rfl 0 C2 rfl rfl rfl (qp r 0 5 rfl (qp r 9 6 rfl ?_))))))
 by_cases bI:b.aI - 10=1
 refine qt (v:=vP r 13) 7 rfl (fun _ _=>by rw [show b.aI - 10=1 from by omega]; exact yk) (qt (v:= .agg #[.bool a.bD.dB,vU a.bD.bi,vI a.bD.dP, .slice j a.bD.ai.ls.length d]) 8 rfl (fun _ ⟨_,H9⟩=>IB rfl (IJ (cs:= [.bool a.bD.dB,vU a.bD.bi,vI a.bD.dP, .slice j a.bD.ai.ls.length d]) R8 Q0 ((H9.cls (i:=5) rfl).lit (k:=13) (m:=4) rfl))) ?_)
 refine qd 9 rfl (Jb (cs:= [.bool false, .int .u64 0,vI 0, .slice none 0 0]) (t:=81) jI rfl rfl (fun _=>by kernel_rfl) ?_)
 intro dL CB wS
 have mO:=wS.pb [0]
 refine⟨.inr ⟨_,mO⟩, ?_⟩
 have wT:=mO.pf [23]
 refine qe 10 rfl (Do.store (vs:= [.bool a.bD.dB,vU a.bD.bi,vI a.bD.dP, .slice j a.bD.ai.ls.length d]) (o:=0) wT rfl rfl Q0 rfl rfl rfl rfl ?_)
 intro CE wU
 have bJ:=wU.pb [0]
 refine⟨.inr ⟨_,bJ⟩, ?_⟩
 refine qn (Iq (sr (Kz (vP dL 0) (Lz (.bool a.bD.dB) bJ 23 N6 (Mz rfl ?_)))))
 rcases Ls (a.bD.dB) with bA | bA
 refine Gz (vP dL 1) bA (Gl (vU a.bD.bi) bA bJ 23 D2 (Gz (vP bR 6) bA (Gl (vU b.aU) bA bJ 1 D2 (Gz (.bool (decide (((a.bD.bi:Nat):Int) ≥ ((b.aU:Nat):Int)))) bA (fw (.bool (decide (((a.bD.bi:Nat):Int) ≥ ((b.aU:Nat):Int)))) (Iw rfl bA rfl) (nt ?_))))))
 by_cases eT:((a.bD.bi:Nat):Int) ≥ ((b.aU:Nat):Int)
 refine jT (dT eT) (Ik (sr (Kz (vP dL 1) (Lz (vU a.bD.bi) bJ 23 D2 (Kz (vP bR 6) (Lz (vU b.aU) bJ 1 D2 (Kz (.bool (decide (((a.bD.bi:Nat):Int)=((b.aU:Nat):Int)))) (nt ?_))))))))
 by_cases jJ:((a.bD.bi:Nat):Int)=((b.aU:Nat):Int)
 refine jT (dT jJ) (Il (Mz rfl (Lz (vI (b.aI - 10)) bJ 0 C2 (Kz (vP dL 1) (Lz (vU a.bD.bi) bJ 23 D2 (Kz (vP dL 2) (Lz (vI a.bD.dP) bJ 23 C2 (Kz (vP dL 3) (Lz (.slice j a.bD.ai.ls.length d) bJ 23 E1 ?_)))))))))
 refine WL.do rfl (IP P7 rfl ?_ (fun _ _ k=>k))
 refine cb P8 ?_
 refine Il (Mz rfl (Mz rfl (fw (vI (10+(b.aI - 10))) (Ir (e:=C3.wrap (10+(b.aI - 10))) yk g1) (Mz rfl (Mz rfl (Kz (vP g0 0) (Kz (vP g0 0) (Lz (vP r 0) bJ 2 P6 (Kz (vP r 0) (Kz (vP r 0) (Kz (vP r 1) (Lz (vU a.aa.ax) bJ 5 D2 (Mz rfl (Mz rfl (Kz (.agg (iA 2 0 (10+(b.aI - 10)) 0 a.bD.dP 0 a.bD.bi a.aa.ax 0 0 0 0 0 0 0 false ([]) ([]) none 0 0 j a.bD.ai.ls.length d none 0 0).toArray) ?_)))))))))))))))
 have mP:=bJ.pf [2,3,4]
 obtain⟨kQ,jN⟩:∃ q,dM p0 (bW.mk 2 0 (10+(b.aI - 10)) 0 a.bD.dP 0 a.bD.bi a.aa.ax 0 0 0 0 0 0 0 false (aL.mk ([]) ([])) (E0 ([])) (E0 a.bD.ai.ls) (E0 ([])))=q:=⟨_,rfl⟩
 obtain⟨CF,mQ,BB,mR,jO⟩:=Ja mP
 refine cl P9 (gV _ _ g0 p0 aC aF au r (bW.mk 2 0 (10+(b.aI - 10)) 0 a.bD.dP 0 a.bD.bi a.aa.ax 0 0 0 0 0 0 0 false (aL.mk ([]) ([])) (E0 ([])) (E0 a.bD.ai.ls) (E0 ([]))) none 0 0 j a.bD.ai.ls.length d I none 0 0 kQ mQ ah rfl (fun _ _=>aY.nil _ _ _) f3 s rfl (jO _ 12 _ rfl aW) (show a.bD.ai.ls.length≤d∧a.bD.ai.ls.length≤9223372036854775807 from by omega) (fun x9 h9=>⟨jO _ 13 _ rfl (az (Q6.2 ⟨x9,h9,b1⟩) aW),bq (φ:=fun _=>_) mP (i:=16) rfl (az (Q6.2 ⟨x9,h9,b1⟩) bn)⟩) rfl (fun _ _=>aY.nil _ _ _) f3 e8 (by first | assumption | exact d9 f5 | exact fun x hx=>absurd hx v7 | exact d9 (Mk.nK f5).1 | exact d9 (Mk.mh f5).1 | exact d9 (Mk.nV f5).1 | exact d9 (Mk.nW f5).1 | exact d9 (Mk.nX f5).1) jN) ?_
 rintro _ CG ⟨wV,wW,wX,rfl,mU,jP,jQ⟩
 have mV:=mR _ _ mU
 have BC:=aA jP
 have BD:=mV.rowC (i:=1) rfl
 replace jQ:kQ.bF.ls.length=p0.bF.ls.length+1:=jQ
 refine C4 (IL (res0 rfl) (nt (rt (tR (Fin.res (res0 rfl) ?_)))))
 have wY:=mV.px [] [3,4,23] []
 obtain⟨rfl,rfl⟩:=fD (hr.symm.trans (show _=(kQ,a) from et (ip aV) (et (ae aG) (et (fP aX) (et (ip bI) (et (ip bA) (et (ip eT) (et (ip jJ) (ae jN)))))))))
 exact⟨wV,wW,wX,S,T,U,V,W,X,N,O,F,G,P,Y,Q,R,j,d,I,l,f,J,n,g,K,p,h,L,rfl,wY,jP,M,B,C,E,s,u,y,z⟩
 refine jF (dF jJ) (sk (rt (tR (Fin.res (res0 rfl) ?_))))
 have wZ:=bJ.px [] [0,1,23] []
 obtain⟨rfl,rfl⟩:=fD (hr.symm.trans (show _=(p0,a) from et (ip aV) (et (ae aG) (et (fP aX) (et (ip bI) (et (ip bA) (et (ip eT) (iN jJ))))))))
 exact⟨aC,aF,au,S,T,U,V,W,X,N,O,F,G,P,Y,Q,R,j,d,I,l,f,J,n,g,K,p,h,L,rfl,wZ,ah,M,B,C,E,s,u,y,z⟩
 refine jF (dF eT) (sk ?_)
 have kR:=bJ.px [] [23] []
 refine Il (Mz rfl (Lz (vI (b.aI - 10)) kR 0 C2 (La (gK b av Z ax aa aB ag) kR 1 N8 N9 ?_)))
 have w9:=kR.pb [0,1]
 obtain⟨⟨mW,mX⟩,jU⟩:∃ q:bU × aD,dS p0 (b.aI - 10) b a=q:=⟨_,rfl⟩
 obtain⟨CJ,mY,dH,mZ,BF⟩:=Jd w9
 refine cl R9 (jr _ _ g0 p0 aC aF au (b.aI - 10) b av b.aB.ls.length Z ax b.ah.ls.length aa bu aB b.ag.ls.length ag r a S T U V W X N O F G P Y Q R j d I l f J n g K p h L mW mX mY ah rfl (dH _ bf) (show b.aB.ls.length≤Z∧b.aB.ls.length≤9223372036854775807 from by omega) aU rfl (dH _ bg) (show b.ah.ls.length≤aa∧b.ah.ls.length≤9223372036854775807 from by omega) (fun x9 h9=>⟨dH _ (ai x9 h9).1,(ai x9 h9).2⟩) rfl (dH _ bi) (show b.ag.ls.length≤ag∧b.ag.ls.length≤9223372036854775807 from by omega) M B C E s u y z e8 e6 e8 jU) ?_
 rintro _ CK ⟨xc,xe,xg,xh,xk,xm,xn,ng,xq,ni,nk,nu,ny,nz,nA,nC,nD,nE,nG,nH,nI,nJ,nK,nL,nM,nN,nO,nP,nQ,rfl,nR,jV,eU,eX,eY,eZ,fe,fo,fq,fu⟩
 have bP:=mZ _ _ nR
 have xu:=aA jV
 have xw:=aA eU
 have xx:=aA eX
 have xy:=aA eY
 have xz:=aA eZ
 have xA:=aA fe
 have xB:=aA fo
 have xC:=aA fq
 have xD:=aA fu
 have xE:=bP.rowC (i:=1) rfl
 have xG:=bP.rowC (i:=4) rfl
 have xH:=bP.rowC (i:=5) rfl
 have xI:=bP.rowC (i:=7) rfl
 have xJ:=bP.rowC (i:=9) rfl
 have xK:=bP.rowC (i:=11) rfl
 have xL:=bP.rowC (i:=13) rfl
 have xM:=bP.rowC (i:=15) rfl
 have xO:=bP.rowC (i:=17) rfl
 have xP:=bP.rowC (i:=19) rfl
 refine C4 (IL (res0 rfl) ?_)
 have nS:=bP.px [] [21,22] []
 obtain⟨rfl,rfl⟩:=fD (hr.symm.trans (show _=(mW,mX) from et (ip aV) (et (ae aG) (et (fP aX) (et (ip bI) (et (ip bA) (et (iN eT) (ae jU))))))))
 exact⟨xc,xe,xg,xh,xk,xm,xn,ng,xq,ni,nk,nu,ny,nz,nA,nC,nD,nE,nG,nH,nI,nJ,nK,nL,nM,nN,nO,nP,nQ,rfl,nS,jV,eU,eX,eY,eZ,fe,fo,fq,fu⟩
 refine Sz bA (Sz bA (Sz bA (Sz bA (Sz bA (fw (.bool false) (Io rfl bA rfl) (nt (jf (sk ?_))))))))
 have fA:=bJ.px [] [23] []
 refine Il (Mz rfl (Lz (vI (b.aI - 10)) fA 0 C2 (La (gK b av Z ax aa aB ag) fA 1 N8 N9 ?_)))
 have nT:=fA.pb [0,1]
 obtain⟨⟨jW,jX⟩,fB⟩:∃ q:bU × aD,dS p0 (b.aI - 10) b a=q:=⟨_,rfl⟩
 obtain⟨BG,kS,bX,kT,xQ⟩:=Jd nT
 refine cl R9 (jr _ _ g0 p0 aC aF au (b.aI - 10) b av b.aB.ls.length Z ax b.ah.ls.length aa bu aB b.ag.ls.length ag r a S T U V W X N O F G P Y Q R j d I l f J n g K p h L jW jX kS ah rfl (bX _ bf) (show b.aB.ls.length≤Z∧b.aB.ls.length≤9223372036854775807 from by omega) aU rfl (bX _ bg) (show b.ah.ls.length≤aa∧b.ah.ls.length≤9223372036854775807 from by omega) (fun x9 h9=>⟨bX _ (ai x9 h9).1,(ai x9 h9).2⟩) rfl (bX _ bi) (show b.ag.ls.length≤ag∧b.ag.ls.length≤9223372036854775807 from by omega) M B C E s u y z e8 e6 e8 fB) ?_
 rintro _ BH ⟨nV,nW,nX,nY,nZ,og,oh,ol,om,oo,oq,ou,ow,oz,oC,oD,oF,oG,oH,oI,oJ,oK,oL,oM,oN,oO,oP,oQ,oU,rfl,kU,fC,fE,fF,fG,fH,fI,fJ,fK,fM⟩
 have bB:=kT _ _ kU
 have xR:=aA fC
 have xS:=aA fE
 have xU:=aA fF
 have xV:=aA fG
 have xW:=aA fH
 have xX:=aA fI
 have xY:=aA fJ
 have xZ:=aA fK
 have x8:=aA fM
 have yc:=bB.rowC (i:=1) rfl
 have yf:=bB.rowC (i:=4) rfl
 have yg:=bB.rowC (i:=5) rfl
 have yh:=bB.rowC (i:=7) rfl
 have yj:=bB.rowC (i:=9) rfl
 have yl:=bB.rowC (i:=11) rfl
 have ym:=bB.rowC (i:=13) rfl
 have yn:=bB.rowC (i:=15) rfl
 have yo:=bB.rowC (i:=17) rfl
 have yt:=bB.rowC (i:=19) rfl
 refine C4 (IL (res0 rfl) ?_)
 have oW:=bB.px [] [21,22] []
 obtain⟨rfl,rfl⟩:=fD (hr.symm.trans (show _=(jW,jX) from et (ip aV) (et (ae aG) (et (fP aX) (et (ip bI) (et (fP bA) (ae fB)))))))
 exact⟨nV,nW,nX,nY,nZ,og,oh,ol,om,oo,oq,ou,ow,oz,oC,oD,oF,oG,oH,oI,oJ,oK,oL,oM,oN,oO,oP,oQ,oU,rfl,oW,fC,fE,fF,fG,fH,fI,fJ,fK,fM⟩
 by_cases bv:b.aI - 10=2
 refine qt (v:=vP r 17) 7 rfl (fun _ _=>by rw [show b.aI - 10=2 from by omega]; exact yk) (qt (v:= .agg #[.bool a.bA.dB,vU a.bA.bi,vI a.bA.dP, .slice l a.bA.ai.ls.length f]) 8 rfl (fun _ ⟨_,H9⟩=>IB rfl (IJ (cs:= [.bool a.bA.dB,vU a.bA.bi,vI a.bA.dP, .slice l a.bA.ai.ls.length f]) R8 Q0 ((H9.cls (i:=5) rfl).lit (k:=17) (m:=4) rfl))) ?_)
 refine qd 9 rfl (Jb (cs:= [.bool false, .int .u64 0,vI 0, .slice none 0 0]) (t:=81) jI rfl rfl (fun _=>by kernel_rfl) ?_)
 intro bS BI oZ
 have jY:=oZ.pb [0]
 refine⟨.inr ⟨_,jY⟩, ?_⟩
 have o5:=jY.pf [23]
 refine qe 10 rfl (Do.store (vs:= [.bool a.bA.dB,vU a.bA.bi,vI a.bA.dP, .slice l a.bA.ai.ls.length f]) (o:=0) o5 rfl rfl Q0 rfl rfl rfl rfl ?_)
 intro BJ o6
 have aP:=o6.pb [0]
 refine⟨.inr ⟨_,aP⟩, ?_⟩
 refine qn (Iq (sr (Kz (vP bS 0) (Lz (.bool a.bA.dB) aP 23 N6 (Mz rfl ?_)))))
 rcases Ls (a.bA.dB) with aJ | aJ
 refine Gz (vP bS 1) aJ (Gl (vU a.bA.bi) aJ aP 23 D2 (Gz (vP bR 6) aJ (Gl (vU b.aU) aJ aP 1 D2 (Gz (.bool (decide (((a.bA.bi:Nat):Int) ≥ ((b.aU:Nat):Int)))) aJ (fw (.bool (decide (((a.bA.bi:Nat):Int) ≥ ((b.aU:Nat):Int)))) (Iw rfl aJ rfl) (nt ?_))))))
 by_cases cZ:((a.bA.bi:Nat):Int) ≥ ((b.aU:Nat):Int)
 refine jT (dT cZ) (Ik (sr (Kz (vP bS 1) (Lz (vU a.bA.bi) aP 23 D2 (Kz (vP bR 6) (Lz (vU b.aU) aP 1 D2 (Kz (.bool (decide (((a.bA.bi:Nat):Int)=((b.aU:Nat):Int)))) (nt ?_))))))))
 by_cases dI:((a.bA.bi:Nat):Int)=((b.aU:Nat):Int)
 refine jT (dT dI) (Il (Mz rfl (Lz (vI (b.aI - 10)) aP 0 C2 (Kz (vP bS 1) (Lz (vU a.bA.bi) aP 23 D2 (Kz (vP bS 2) (Lz (vI a.bA.dP) aP 23 C2 (Kz (vP bS 3) (Lz (.slice l a.bA.ai.ls.length f) aP 23 E1 ?_)))))))))
 refine WL.do rfl (IP P7 rfl ?_ (fun _ _ k=>k))
 refine cb P8 ?_
 refine Il (Mz rfl (Mz rfl (fw (vI (10+(b.aI - 10))) (Ir (e:=C3.wrap (10+(b.aI - 10))) yk g1) (Mz rfl (Mz rfl (Kz (vP g0 0) (Kz (vP g0 0) (Lz (vP r 0) aP 2 P6 (Kz (vP r 0) (Kz (vP r 0) (Kz (vP r 1) (Lz (vU a.aa.ax) aP 5 D2 (Mz rfl (Mz rfl (Kz (.agg (iA 2 0 (10+(b.aI - 10)) 0 a.bA.dP 0 a.bA.bi a.aa.ax 0 0 0 0 0 0 0 false ([]) ([]) none 0 0 l a.bA.ai.ls.length f none 0 0).toArray) ?_)))))))))))))))
 have jZ:=aP.pf [2,3,4]
 obtain⟨fO,fQ⟩:∃ q,dM p0 (bW.mk 2 0 (10+(b.aI - 10)) 0 a.bA.dP 0 a.bA.bi a.aa.ax 0 0 0 0 0 0 0 false (aL.mk ([]) ([])) (E0 ([])) (E0 a.bA.ai.ls) (E0 ([])))=q:=⟨_,rfl⟩
 obtain⟨BK,kV,yu,kW,fT⟩:=Ja jZ
 refine cl P9 (gV _ _ g0 p0 aC aF au r (bW.mk 2 0 (10+(b.aI - 10)) 0 a.bA.dP 0 a.bA.bi a.aa.ax 0 0 0 0 0 0 0 false (aL.mk ([]) ([])) (E0 ([])) (E0 a.bA.ai.ls) (E0 ([]))) none 0 0 l a.bA.ai.ls.length f J none 0 0 fO kV ah rfl (fun _ _=>aY.nil _ _ _) f3 u rfl (fT _ 14 _ rfl aW) (show a.bA.ai.ls.length≤f∧a.bA.ai.ls.length≤9223372036854775807 from by omega) (fun x9 h9=>⟨fT _ 15 _ rfl (az (Q6.2 ⟨x9,h9,b1⟩) aW),bq (φ:=fun _=>_) jZ (i:=18) rfl (az (Q6.2 ⟨x9,h9,b1⟩) bn)⟩) rfl (fun _ _=>aY.nil _ _ _) f3 e8 (by first | assumption | exact d9 f5 | exact fun x hx=>absurd hx v7 | exact d9 (Mk.nK f5).1 | exact d9 (Mk.mh f5).1 | exact d9 (Mk.nV f5).1 | exact d9 (Mk.nW f5).1 | exact d9 (Mk.nX f5).1) fQ) ?_
 rintro _ BL ⟨o7,o8,o9,rfl,kX,fU,fV⟩
 have j3:=kW _ _ kX
 have yw:=aA fU
 have yx:=j3.rowC (i:=1) rfl
 replace fV:fO.bF.ls.length=p0.bF.ls.length+1:=fV
 refine C4 (IL (res0 rfl) (nt (rt (tR (Fin.res (res0 rfl) ?_)))))
 have pg:=j3.px [] [3,4,23] []
 obtain⟨rfl,rfl⟩:=fD (hr.symm.trans (show _=(fO,a) from et (ip aV) (et (ae aG) (et (fP aX) (et (iN bI) (et (ip bv) (et (ip aJ) (et (ip cZ) (et (ip dI) (ae fQ))))))))))
 exact⟨o7,o8,o9,S,T,U,V,W,X,N,O,F,G,P,Y,Q,R,j,d,I,l,f,J,n,g,K,p,h,L,rfl,pg,fU,M,B,C,E,s,u,y,z⟩
 refine jF (dF dI) (sk (rt (tR (Fin.res (res0 rfl) ?_))))
 have pq:=aP.px [] [0,1,23] []
 obtain⟨rfl,rfl⟩:=fD (hr.symm.trans (show _=(p0,a) from et (ip aV) (et (ae aG) (et (fP aX) (et (iN bI) (et (ip bv) (et (ip aJ) (et (ip cZ) (iN dI)))))))))
 exact⟨aC,aF,au,S,T,U,V,W,X,N,O,F,G,P,Y,Q,R,j,d,I,l,f,J,n,g,K,p,h,L,rfl,pq,ah,M,B,C,E,s,u,y,z⟩
 refine jF (dF cZ) (sk ?_)
 have fZ:=aP.px [] [23] []
 refine Il (Mz rfl (Lz (vI (b.aI - 10)) fZ 0 C2 (La (gK b av Z ax aa aB ag) fZ 1 N8 N9 ?_)))
 have pu:=fZ.pb [0,1]
 obtain⟨⟨j4,j5⟩,gm⟩:∃ q:bU × aD,dS p0 (b.aI - 10) b a=q:=⟨_,rfl⟩
 obtain⟨BM,kY,bY,kZ,yz⟩:=Jd pu
 refine cl R9 (jr _ _ g0 p0 aC aF au (b.aI - 10) b av b.aB.ls.length Z ax b.ah.ls.length aa bu aB b.ag.ls.length ag r a S T U V W X N O F G P Y Q R j d I l f J n g K p h L j4 j5 kY ah rfl (bY _ bf) (show b.aB.ls.length≤Z∧b.aB.ls.length≤9223372036854775807 from by omega) aU rfl (bY _ bg) (show b.ah.ls.length≤aa∧b.ah.ls.length≤9223372036854775807 from by omega) (fun x9 h9=>⟨bY _ (ai x9 h9).1,(ai x9 h9).2⟩) rfl (bY _ bi) (show b.ag.ls.length≤ag∧b.ag.ls.length≤9223372036854775807 from by omega) M B C E s u y z e8 e6 e8 gm) ?_
 rintro _ BN ⟨pz,pE,pF,pG,pI,pJ,pK,pM,pO,pQ,pR,pU,pV,pW,pX,pY,p8,p9,qa,qb,qc,qf,qg,qh,qi,qj,qm,qo,qw,rfl,lc,gp,gq,gu,gy,gz,gB,gD,gF,gG⟩
 have bC:=kZ _ _ lc
 have yA:=aA gp
 have yB:=aA gq
 have yC:=aA gu
 have yD:=aA gy
 have yE:=aA gz
 have yF:=aA gB
 have yG:=aA gD
 have yH:=aA gF
 have yI:=aA gG
 have yJ:=bC.rowC (i:=1) rfl
 have yK:=bC.rowC (i:=4) rfl
 have yL:=bC.rowC (i:=5) rfl
 have yM:=bC.rowC (i:=7) rfl
 have yN:=bC.rowC (i:=9) rfl
 have yO:=bC.rowC (i:=11) rfl
 have yP:=bC.rowC (i:=13) rfl
 have yQ:=bC.rowC (i:=15) rfl
 have yR:=bC.rowC (i:=17) rfl
 have yS:=bC.rowC (i:=19) rfl
 refine C4 (IL (res0 rfl) ?_)
 have qx:=bC.px [] [21,22] []
 obtain⟨rfl,rfl⟩:=fD (hr.symm.trans (show _=(j4,j5) from et (ip aV) (et (ae aG) (et (fP aX) (et (iN bI) (et (ip bv) (et (ip aJ) (et (iN cZ) (ae gm)))))))))
 exact⟨pz,pE,pF,pG,pI,pJ,pK,pM,pO,pQ,pR,pU,pV,pW,pX,pY,p8,p9,qa,qb,qc,qf,qg,qh,qi,qj,qm,qo,qw,rfl,qx,gp,gq,gu,gy,gz,gB,gD,gF,gG⟩
 refine Sz aJ (Sz aJ (Sz aJ (Sz aJ (Sz aJ (fw (.bool false) (Io rfl aJ rfl) (nt (jf (sk ?_))))))))
 have gH:=aP.px [] [23] []
 refine Il (Mz rfl (Lz (vI (b.aI - 10)) gH 0 C2 (La (gK b av Z ax aa aB ag) gH 1 N8 N9 ?_)))
 have qy:=gH.pb [0,1]
 obtain⟨⟨j6,kg⟩,gI⟩:∃ q:bU × aD,dS p0 (b.aI - 10) b a=q:=⟨_,rfl⟩
 obtain⟨BO,lg,bZ,lh,yT⟩:=Jd qy
 refine cl R9 (jr _ _ g0 p0 aC aF au (b.aI - 10) b av b.aB.ls.length Z ax b.ah.ls.length aa bu aB b.ag.ls.length ag r a S T U V W X N O F G P Y Q R j d I l f J n g K p h L j6 kg lg ah rfl (bZ _ bf) (show b.aB.ls.length≤Z∧b.aB.ls.length≤9223372036854775807 from by omega) aU rfl (bZ _ bg) (show b.ah.ls.length≤aa∧b.ah.ls.length≤9223372036854775807 from by omega) (fun x9 h9=>⟨bZ _ (ai x9 h9).1,(ai x9 h9).2⟩) rfl (bZ _ bi) (show b.ag.ls.length≤ag∧b.ag.ls.length≤9223372036854775807 from by omega) M B C E s u y z e8 e6 e8 gI) ?_
 rintro _ BP ⟨qz,qA,qB,qC,qD,qE,qF,qG,qH,qI,qJ,qK,qL,qM,qN,qO,qP,qQ,qR,qU,qV,qW,qX,qY,qZ,q8,q9,rf,rq,rfl,ll,gJ,gL,gM,gN,gP,gQ,gT,gU,gW⟩
 have bD:=lh _ _ ll
 have yU:=aA gJ
 have yV:=aA gL
 have yX:=aA gM
 have yY:=aA gN
 have yZ:=aA gP
 have y5:=aA gQ
 have y7:=aA gT
 have y8:=aA gU
 have y9:=aA gW
 have za:=bD.rowC (i:=1) rfl
 have zb:=bD.rowC (i:=4) rfl
 have ze:=bD.rowC (i:=5) rfl
 have zf:=bD.rowC (i:=7) rfl
 have zg:=bD.rowC (i:=9) rfl
 have zh:=bD.rowC (i:=11) rfl
 have zi:=bD.rowC (i:=13) rfl
 have zk:=bD.rowC (i:=15) rfl
 have zl:=bD.rowC (i:=17) rfl
 have zm:=bD.rowC (i:=19) rfl
 refine C4 (IL (res0 rfl) ?_)
 have ru:=bD.px [] [21,22] []
 obtain⟨rfl,rfl⟩:=fD (hr.symm.trans (show _=(j6,kg) from et (ip aV) (et (ae aG) (et (fP aX) (et (iN bI) (et (ip bv) (et (fP aJ) (ae gI))))))))
 exact⟨qz,qA,qB,qC,qD,qE,qF,qG,qH,qI,qJ,qK,qL,qM,qN,qO,qP,qQ,qR,qU,qV,qW,qX,qY,qZ,q8,q9,rf,rq,rfl,ru,gJ,gL,gM,gN,gP,gQ,gT,gU,gW⟩
 by_cases bO:b.aI - 10=3
 refine qt (v:=vP r 21) 7 rfl (fun _ _=>by rw [show b.aI - 10=3 from by omega]; exact yk) (qt (v:= .agg #[.bool a.bC.dB,vU a.bC.bi,vI a.bC.dP, .slice n a.bC.ai.ls.length g]) 8 rfl (fun _ ⟨_,H9⟩=>IB rfl (IJ (cs:= [.bool a.bC.dB,vU a.bC.bi,vI a.bC.dP, .slice n a.bC.ai.ls.length g]) R8 Q0 ((H9.cls (i:=5) rfl).lit (k:=21) (m:=4) rfl))) ?_)
 refine qd 9 rfl (Jb (cs:= [.bool false, .int .u64 0,vI 0, .slice none 0 0]) (t:=81) jI rfl rfl (fun _=>by kernel_rfl) ?_)
 intro bT BQ ry
 have ko:=ry.pb [0]
 refine⟨.inr ⟨_,ko⟩, ?_⟩
 have rz:=ko.pf [23]
 refine qe 10 rfl (Do.store (vs:= [.bool a.bC.dB,vU a.bC.bi,vI a.bC.dP, .slice n a.bC.ai.ls.length g]) (o:=0) rz rfl rfl Q0 rfl rfl rfl rfl ?_)
 intro BR rA
 have aQ:=rA.pb [0]
 refine⟨.inr ⟨_,aQ⟩, ?_⟩
 refine qn (Iq (sr (Kz (vP bT 0) (Lz (.bool a.bC.dB) aQ 23 N6 (Mz rfl ?_)))))
 rcases Ls (a.bC.dB) with aK | aK
 refine Gz (vP bT 1) aK (Gl (vU a.bC.bi) aK aQ 23 D2 (Gz (vP bR 6) aK (Gl (vU b.aU) aK aQ 1 D2 (Gz (.bool (decide (((a.bC.bi:Nat):Int) ≥ ((b.aU:Nat):Int)))) aK (fw (.bool (decide (((a.bC.bi:Nat):Int) ≥ ((b.aU:Nat):Int)))) (Iw rfl aK rfl) (nt ?_))))))
 by_cases dh:((a.bC.bi:Nat):Int) ≥ ((b.aU:Nat):Int)
 refine jT (dT dh) (Ik (sr (Kz (vP bT 1) (Lz (vU a.bC.bi) aQ 23 D2 (Kz (vP bR 6) (Lz (vU b.aU) aQ 1 D2 (Kz (.bool (decide (((a.bC.bi:Nat):Int)=((b.aU:Nat):Int)))) (nt ?_))))))))
 by_cases dJ:((a.bC.bi:Nat):Int)=((b.aU:Nat):Int)
 refine jT (dT dJ) (Il (Mz rfl (Lz (vI (b.aI - 10)) aQ 0 C2 (Kz (vP bT 1) (Lz (vU a.bC.bi) aQ 23 D2 (Kz (vP bT 2) (Lz (vI a.bC.dP) aQ 23 C2 (Kz (vP bT 3) (Lz (.slice n a.bC.ai.ls.length g) aQ 23 E1 ?_)))))))))
 refine WL.do rfl (IP P7 rfl ?_ (fun _ _ k=>k))
 refine cb P8 ?_
 refine Il (Mz rfl (Mz rfl (fw (vI (10+(b.aI - 10))) (Ir (e:=C3.wrap (10+(b.aI - 10))) yk g1) (Mz rfl (Mz rfl (Kz (vP g0 0) (Kz (vP g0 0) (Lz (vP r 0) aQ 2 P6 (Kz (vP r 0) (Kz (vP r 0) (Kz (vP r 1) (Lz (vU a.aa.ax) aQ 5 D2 (Mz rfl (Mz rfl (Kz (.agg (iA 2 0 (10+(b.aI - 10)) 0 a.bC.dP 0 a.bC.bi a.aa.ax 0 0 0 0 0 0 0 false ([]) ([]) none 0 0 n a.bC.ai.ls.length g none 0 0).toArray) ?_)))))))))))))))
 have kr:=aQ.pf [2,3,4]
 obtain⟨gX,gY⟩:∃ q,dM p0 (bW.mk 2 0 (10+(b.aI - 10)) 0 a.bC.dP 0 a.bC.bi a.aa.ax 0 0 0 0 0 0 0 false (aL.mk ([]) ([])) (E0 ([])) (E0 a.bC.ai.ls) (E0 ([])))=q:=⟨_,rfl⟩
 obtain⟨BS,lm,zn,lq,gZ⟩:=Ja kr
 refine cl P9 (gV _ _ g0 p0 aC aF au r (bW.mk 2 0 (10+(b.aI - 10)) 0 a.bC.dP 0 a.bC.bi a.aa.ax 0 0 0 0 0 0 0 false (aL.mk ([]) ([])) (E0 ([])) (E0 a.bC.ai.ls) (E0 ([]))) none 0 0 n a.bC.ai.ls.length g K none 0 0 gX lm ah rfl (fun _ _=>aY.nil _ _ _) f3 y rfl (gZ _ 16 _ rfl aW) (show a.bC.ai.ls.length≤g∧a.bC.ai.ls.length≤9223372036854775807 from by omega) (fun x9 h9=>⟨gZ _ 17 _ rfl (az (Q6.2 ⟨x9,h9,b1⟩) aW),bq (φ:=fun _=>_) kr (i:=20) rfl (az (Q6.2 ⟨x9,h9,b1⟩) bn)⟩) rfl (fun _ _=>aY.nil _ _ _) f3 e8 (by first | assumption | exact d9 f5 | exact fun x hx=>absurd hx v7 | exact d9 (Mk.nK f5).1 | exact d9 (Mk.mh f5).1 | exact d9 (Mk.nV f5).1 | exact d9 (Mk.nW f5).1 | exact d9 (Mk.nX f5).1) gY) ?_
 rintro _ BU ⟨rC,rD,rE,rfl,lu,ib,ic⟩
 have ku:=lq _ _ lu
 have zo:=aA ib
 have zq:=ku.rowC (i:=1) rfl
 replace ic:gX.bF.ls.length=p0.bF.ls.length+1:=ic
 refine C4 (IL (res0 rfl) (nt (rt (tR (Fin.res (res0 rfl) ?_)))))
 have rF:=ku.px [] [3,4,23] []
 obtain⟨rfl,rfl⟩:=fD (hr.symm.trans (show _=(gX,a) from et (ip aV) (et (ae aG) (et (fP aX) (et (iN bI) (et (iN bv) (et (ip bO) (et (ip aK) (et (ip dh) (et (ip dJ) (ae gY)))))))))))
 exact⟨rC,rD,rE,S,T,U,V,W,X,N,O,F,G,P,Y,Q,R,j,d,I,l,f,J,n,g,K,p,h,L,rfl,rF,ib,M,B,C,E,s,u,y,z⟩
 refine jF (dF dJ) (sk (rt (tR (Fin.res (res0 rfl) ?_))))
 have rG:=aQ.px [] [0,1,23] []
 obtain⟨rfl,rfl⟩:=fD (hr.symm.trans (show _=(p0,a) from et (ip aV) (et (ae aG) (et (fP aX) (et (iN bI) (et (iN bv) (et (ip bO) (et (ip aK) (et (ip dh) (iN dJ))))))))))
 exact⟨aC,aF,au,S,T,U,V,W,X,N,O,F,G,P,Y,Q,R,j,d,I,l,f,J,n,g,K,p,h,L,rfl,rG,ah,M,B,C,E,s,u,y,z⟩
 refine jF (dF dh) (sk ?_)
 have ig:=aQ.px [] [23] []
 refine Il (Mz rfl (Lz (vI (b.aI - 10)) ig 0 C2 (La (gK b av Z ax aa aB ag) ig 1 N8 N9 ?_)))
 have rH:=ig.pb [0,1]
 obtain⟨⟨kv,kw⟩,ik⟩:∃ q:bU × aD,dS p0 (b.aI - 10) b a=q:=⟨_,rfl⟩
 obtain⟨BV,lv,cu,lw,zt⟩:=Jd rH
 refine cl R9 (jr _ _ g0 p0 aC aF au (b.aI - 10) b av b.aB.ls.length Z ax b.ah.ls.length aa bu aB b.ag.ls.length ag r a S T U V W X N O F G P Y Q R j d I l f J n g K p h L kv kw lv ah rfl (cu _ bf) (show b.aB.ls.length≤Z∧b.aB.ls.length≤9223372036854775807 from by omega) aU rfl (cu _ bg) (show b.ah.ls.length≤aa∧b.ah.ls.length≤9223372036854775807 from by omega) (fun x9 h9=>⟨cu _ (ai x9 h9).1,(ai x9 h9).2⟩) rfl (cu _ bi) (show b.ag.ls.length≤ag∧b.ag.ls.length≤9223372036854775807 from by omega) M B C E s u y z e8 e6 e8 ik) ?_
 rintro _ BX ⟨rJ,rM,rO,rP,rQ,rR,rT,rU,rV,rW,rX,rY,rZ,r9,si,sj,su,sw,sD,sF,sG,sH,sI,sJ,sK,sM,sN,sO,sP,rfl,lC,il,iq,iw,iy,iB,iC,iD,iE,iF⟩
 have bE:=lw _ _ lC
 have zu:=aA il
 have zw:=aA iq
 have zx:=aA iw
 have zy:=aA iy
 have zz:=aA iB
 have zA:=aA iC
 have zB:=aA iD
 have zC:=aA iE
 have zD:=aA iF
 have zF:=bE.rowC (i:=1) rfl
 have zG:=bE.rowC (i:=4) rfl
 have zH:=bE.rowC (i:=5) rfl
 have zI:=bE.rowC (i:=7) rfl
 have zJ:=bE.rowC (i:=9) rfl
 have zK:=bE.rowC (i:=11) rfl
 have zL:=bE.rowC (i:=13) rfl
 have zM:=bE.rowC (i:=15) rfl
 have zN:=bE.rowC (i:=17) rfl
 have zO:=bE.rowC (i:=19) rfl
 refine C4 (IL (res0 rfl) ?_)
 have sQ:=bE.px [] [21,22] []
 obtain⟨rfl,rfl⟩:=fD (hr.symm.trans (show _=(kv,kw) from et (ip aV) (et (ae aG) (et (fP aX) (et (iN bI) (et (iN bv) (et (ip bO) (et (ip aK) (et (iN dh) (ae ik))))))))))
 exact⟨rJ,rM,rO,rP,rQ,rR,rT,rU,rV,rW,rX,rY,rZ,r9,si,sj,su,sw,sD,sF,sG,sH,sI,sJ,sK,sM,sN,sO,sP,rfl,sQ,il,iq,iw,iy,iB,iC,iD,iE,iF⟩
 refine Sz aK (Sz aK (Sz aK (Sz aK (Sz aK (fw (.bool false) (Io rfl aK rfl) (nt (jf (sk ?_))))))))
 have iG:=aQ.px [] [23] []
 refine Il (Mz rfl (Lz (vI (b.aI - 10)) iG 0 C2 (La (gK b av Z ax aa aB ag) iG 1 N8 N9 ?_)))
 have sS:=iG.pb [0,1]
 obtain⟨⟨ky,kz⟩,iH⟩:∃ q:bU × aD,dS p0 (b.aI - 10) b a=q:=⟨_,rfl⟩
 obtain⟨BZ,lD,cz,lF,zP⟩:=Jd sS
 refine cl R9 (jr _ _ g0 p0 aC aF au (b.aI - 10) b av b.aB.ls.length Z ax b.ah.ls.length aa bu aB b.ag.ls.length ag r a S T U V W X N O F G P Y Q R j d I l f J n g K p h L ky kz lD ah rfl (cz _ bf) (show b.aB.ls.length≤Z∧b.aB.ls.length≤9223372036854775807 from by omega) aU rfl (cz _ bg) (show b.ah.ls.length≤aa∧b.ah.ls.length≤9223372036854775807 from by omega) (fun x9 h9=>⟨cz _ (ai x9 h9).1,(ai x9 h9).2⟩) rfl (cz _ bi) (show b.ag.ls.length≤ag∧b.ag.ls.length≤9223372036854775807 from by omega) M B C E s u y z e8 e6 e8 iH) ?_
 rintro _ Ca ⟨sU,sV,sW,sZ,tq,tu,tC,tF,tH,tJ,tK,tL,tN,tO,tQ,tT,tV,tX,tY,tZ,uf,ug,uh,ui,uj,uk,ul,um,uq,rfl,lG,iI,iJ,iK,iL,iM,iO,iP,iQ,iR⟩
 have bF:=lF _ _ lG
 have zQ:=aA iI
 have zR:=aA iJ
 have zS:=aA iK
 have zT:=aA iL
 have zU:=aA iM
 have zV:=aA iO
 have zW:=aA iP
 have zX:=aA iQ
 have zY:=aA iR
 have zZ:=bF.rowC (i:=1) rfl
 have z8:=bF.rowC (i:=4) rfl
 have Aa:=bF.rowC (i:=5) rfl
 have Ab:=bF.rowC (i:=7) rfl
 have Ac:=bF.rowC (i:=9) rfl
 have Ad:=bF.rowC (i:=11) rfl
 have Ae:=bF.rowC (i:=13) rfl
 have Af:=bF.rowC (i:=15) rfl
 have Ag:=bF.rowC (i:=17) rfl
 have Ah:=bF.rowC (i:=19) rfl
 refine C4 (IL (res0 rfl) ?_)
 have ut:=bF.px [] [21,22] []
 obtain⟨rfl,rfl⟩:=fD (hr.symm.trans (show _=(ky,kz) from et (ip aV) (et (ae aG) (et (fP aX) (et (iN bI) (et (iN bv) (et (ip bO) (et (fP aK) (ae iH)))))))))
 exact⟨sU,sV,sW,sZ,tq,tu,tC,tF,tH,tJ,tK,tL,tN,tO,tQ,tT,tV,tX,tY,tZ,uf,ug,uh,ui,uj,uk,ul,um,uq,rfl,ut,iI,iJ,iK,iL,iM,iO,iP,iQ,iR⟩
 refine qt (v:=vP r 25) 7 rfl (fun _ _=>by rw [show b.aI - 10=4 from by omega]; exact yk) (qt (v:= .agg #[.bool a.bB.dB,vU a.bB.bi,vI a.bB.dP, .slice p a.bB.ai.ls.length h]) 8 rfl (fun _ ⟨_,H9⟩=>IB rfl (IJ (cs:= [.bool a.bB.dB,vU a.bB.bi,vI a.bB.dP, .slice p a.bB.ai.ls.length h]) R8 Q0 ((H9.cls (i:=5) rfl).lit (k:=25) (m:=4) rfl))) ?_)
 refine qd 9 rfl (Jb (cs:= [.bool false, .int .u64 0,vI 0, .slice none 0 0]) (t:=81) jI rfl rfl (fun _=>by kernel_rfl) ?_)
 intro bV Cb uu
 have kC:=uu.pb [0]
 refine⟨.inr ⟨_,kC⟩, ?_⟩
 have uw:=kC.pf [23]
 refine qe 10 rfl (Do.store (vs:= [.bool a.bB.dB,vU a.bB.bi,vI a.bB.dP, .slice p a.bB.ai.ls.length h]) (o:=0) uw rfl rfl Q0 rfl rfl rfl rfl ?_)
 intro Cc uy
 have aR:=uy.pb [0]
 refine⟨.inr ⟨_,aR⟩, ?_⟩
 refine qn (Iq (sr (Kz (vP bV 0) (Lz (.bool a.bB.dB) aR 23 N6 (Mz rfl ?_)))))
 rcases Ls (a.bB.dB) with aO | aO
 refine Gz (vP bV 1) aO (Gl (vU a.bB.bi) aO aR 23 D2 (Gz (vP bR 6) aO (Gl (vU b.aU) aO aR 1 D2 (Gz (.bool (decide (((a.bB.bi:Nat):Int) ≥ ((b.aU:Nat):Int)))) aO (fw (.bool (decide (((a.bB.bi:Nat):Int) ≥ ((b.aU:Nat):Int)))) (Iw rfl aO rfl) (nt ?_))))))
 by_cases di:((a.bB.bi:Nat):Int) ≥ ((b.aU:Nat):Int)
 refine jT (dT di) (Ik (sr (Kz (vP bV 1) (Lz (vU a.bB.bi) aR 23 D2 (Kz (vP bR 6) (Lz (vU b.aU) aR 1 D2 (Kz (.bool (decide (((a.bB.bi:Nat):Int)=((b.aU:Nat):Int)))) (nt ?_))))))))
 by_cases dK:((a.bB.bi:Nat):Int)=((b.aU:Nat):Int)
 refine jT (dT dK) (Il (Mz rfl (Lz (vI (b.aI - 10)) aR 0 C2 (Kz (vP bV 1) (Lz (vU a.bB.bi) aR 23 D2 (Kz (vP bV 2) (Lz (vI a.bB.dP) aR 23 C2 (Kz (vP bV 3) (Lz (.slice p a.bB.ai.ls.length h) aR 23 E1 ?_)))))))))
 refine WL.do rfl (IP P7 rfl ?_ (fun _ _ k=>k))
 refine cb P8 ?_
 refine Il (Mz rfl (Mz rfl (fw (vI (10+(b.aI - 10))) (Ir (e:=C3.wrap (10+(b.aI - 10))) yk g1) (Mz rfl (Mz rfl (Kz (vP g0 0) (Kz (vP g0 0) (Lz (vP r 0) aR 2 P6 (Kz (vP r 0) (Kz (vP r 0) (Kz (vP r 1) (Lz (vU a.aa.ax) aR 5 D2 (Mz rfl (Mz rfl (Kz (.agg (iA 2 0 (10+(b.aI - 10)) 0 a.bB.dP 0 a.bB.bi a.aa.ax 0 0 0 0 0 0 0 false ([]) ([]) none 0 0 p a.bB.ai.ls.length h none 0 0).toArray) ?_)))))))))))))))
 have kD:=aR.pf [2,3,4]
 obtain⟨iT,iV⟩:∃ q,dM p0 (bW.mk 2 0 (10+(b.aI - 10)) 0 a.bB.dP 0 a.bB.bi a.aa.ax 0 0 0 0 0 0 0 false (aL.mk ([]) ([])) (E0 ([])) (E0 a.bB.ai.ls) (E0 ([])))=q:=⟨_,rfl⟩
 obtain⟨Ce,lH,Ai,lI,iW⟩:=Ja kD
 refine cl P9 (gV _ _ g0 p0 aC aF au r (bW.mk 2 0 (10+(b.aI - 10)) 0 a.bB.dP 0 a.bB.bi a.aa.ax 0 0 0 0 0 0 0 false (aL.mk ([]) ([])) (E0 ([])) (E0 a.bB.ai.ls) (E0 ([]))) none 0 0 p a.bB.ai.ls.length h L none 0 0 iT lH ah rfl (fun _ _=>aY.nil _ _ _) f3 z rfl (iW _ 18 _ rfl aW) (show a.bB.ai.ls.length≤h∧a.bB.ai.ls.length≤9223372036854775807 from by omega) (fun x9 h9=>⟨iW _ 19 _ rfl (az (Q6.2 ⟨x9,h9,b1⟩) aW),bq (φ:=fun _=>_) kD (i:=22) rfl (az (Q6.2 ⟨x9,h9,b1⟩) bn)⟩) rfl (fun _ _=>aY.nil _ _ _) f3 e8 (by first | assumption | exact d9 f5 | exact fun x hx=>absurd hx v7 | exact d9 (Mk.nK f5).1 | exact d9 (Mk.mh f5).1 | exact d9 (Mk.nV f5).1 | exact d9 (Mk.nW f5).1 | exact d9 (Mk.nX f5).1) iV) ?_
 rintro _ Cf ⟨uz,uA,uB,rfl,lJ,iX,iY⟩
 have kE:=lI _ _ lJ
 have Aj:=aA iX
 have Ak:=kE.rowC (i:=1) rfl
 replace iY:iT.bF.ls.length=p0.bF.ls.length+1:=iY
 refine C4 (IL (res0 rfl) (nt (rt (tR (Fin.res (res0 rfl) ?_)))))
 have uC:=kE.px [] [3,4,23] []
 obtain⟨rfl,rfl⟩:=fD (hr.symm.trans (show _=(iT,a) from et (ip aV) (et (ae aG) (et (fP aX) (et (iN bI) (et (iN bv) (et (iN bO) (et (ip aO) (et (ip di) (et (ip dK) (ae iV)))))))))))
 exact⟨uz,uA,uB,S,T,U,V,W,X,N,O,F,G,P,Y,Q,R,j,d,I,l,f,J,n,g,K,p,h,L,rfl,uC,iX,M,B,C,E,s,u,y,z⟩
 refine jF (dF dK) (sk (rt (tR (Fin.res (res0 rfl) ?_))))
 have uD:=aR.px [] [0,1,23] []
 obtain⟨rfl,rfl⟩:=fD (hr.symm.trans (show _=(p0,a) from et (ip aV) (et (ae aG) (et (fP aX) (et (iN bI) (et (iN bv) (et (iN bO) (et (ip aO) (et (ip di) (iN dK))))))))))
 exact⟨aC,aF,au,S,T,U,V,W,X,N,O,F,G,P,Y,Q,R,j,d,I,l,f,J,n,g,K,p,h,L,rfl,uD,ah,M,B,C,E,s,u,y,z⟩
 refine jF (dF di) (sk ?_)
 have iZ:=aR.px [] [23] []
 refine Il (Mz rfl (Lz (vI (b.aI - 10)) iZ 0 C2 (La (gK b av Z ax aa aB ag) iZ 1 N8 N9 ?_)))
 have uE:=iZ.pb [0,1]
 obtain⟨⟨kF,kG⟩,ja⟩:∃ q:bU × aD,dS p0 (b.aI - 10) b a=q:=⟨_,rfl⟩
 obtain⟨Cg,lL,cB,lM,Al⟩:=Jd uE
 refine cl R9 (jr _ _ g0 p0 aC aF au (b.aI - 10) b av b.aB.ls.length Z ax b.ah.ls.length aa bu aB b.ag.ls.length ag r a S T U V W X N O F G P Y Q R j d I l f J n g K p h L kF kG lL ah rfl (cB _ bf) (show b.aB.ls.length≤Z∧b.aB.ls.length≤9223372036854775807 from by omega) aU rfl (cB _ bg) (show b.ah.ls.length≤aa∧b.ah.ls.length≤9223372036854775807 from by omega) (fun x9 h9=>⟨cB _ (ai x9 h9).1,(ai x9 h9).2⟩) rfl (cB _ bi) (show b.ag.ls.length≤ag∧b.ag.ls.length≤9223372036854775807 from by omega) M B C E s u y z e8 e6 e8 ja) ?_
 rintro _ Ch ⟨uF,uG,uI,uJ,uK,uL,uM,uN,uO,uP,uQ,uR,uS,uT,uU,uV,uW,uX,uY,uZ,u6,u7,ve,vg,vk,vo,vv,vw,vz,rfl,lN,jb,jc,jd,je,jg,jh,ji,jk,jl⟩
 have bG:=lM _ _ lN
 have Am:=aA jb
 have Ao:=aA jc
 have Ap:=aA jd
 have Aq:=aA je
 have Ar:=aA jg
 have Au:=aA jh
 have Av:=aA ji
 have Aw:=aA jk
 have Ay:=aA jl
 have Az:=bG.rowC (i:=1) rfl
 have AA:=bG.rowC (i:=4) rfl
 have AB:=bG.rowC (i:=5) rfl
 have AC:=bG.rowC (i:=7) rfl
 have AJ:=bG.rowC (i:=9) rfl
 have AL:=bG.rowC (i:=11) rfl
 have AO:=bG.rowC (i:=13) rfl
 have AP:=bG.rowC (i:=15) rfl
 have AQ:=bG.rowC (i:=17) rfl
 have AR:=bG.rowC (i:=19) rfl
 refine C4 (IL (res0 rfl) ?_)
 have vB:=bG.px [] [21,22] []
 obtain⟨rfl,rfl⟩:=fD (hr.symm.trans (show _=(kF,kG) from et (ip aV) (et (ae aG) (et (fP aX) (et (iN bI) (et (iN bv) (et (iN bO) (et (ip aO) (et (iN di) (ae ja))))))))))
 exact⟨uF,uG,uI,uJ,uK,uL,uM,uN,uO,uP,uQ,uR,uS,uT,uU,uV,uW,uX,uY,uZ,u6,u7,ve,vg,vk,vo,vv,vw,vz,rfl,vB,jb,jc,jd,je,jg,jh,ji,jk,jl⟩
 refine Sz aO (Sz aO (Sz aO (Sz aO (Sz aO (fw (.bool false) (Io rfl aO rfl) (nt (jf (sk ?_))))))))
 have jm:=aR.px [] [23] []
 refine Il (Mz rfl (Lz (vI (b.aI - 10)) jm 0 C2 (La (gK b av Z ax aa aB ag) jm 1 N8 N9 ?_)))
 have vC:=jm.pb [0,1]
 obtain⟨⟨kH,kI⟩,jo⟩:∃ q:bU × aD,dS p0 (b.aI - 10) b a=q:=⟨_,rfl⟩
 obtain⟨Ci,lQ,cK,lS,AU⟩:=Jd vC
 refine cl R9 (jr _ _ g0 p0 aC aF au (b.aI - 10) b av b.aB.ls.length Z ax b.ah.ls.length aa bu aB b.ag.ls.length ag r a S T U V W X N O F G P Y Q R j d I l f J n g K p h L kH kI lQ ah rfl (cK _ bf) (show b.aB.ls.length≤Z∧b.aB.ls.length≤9223372036854775807 from by omega) aU rfl (cK _ bg) (show b.ah.ls.length≤aa∧b.ah.ls.length≤9223372036854775807 from by omega) (fun x9 h9=>⟨cK _ (ai x9 h9).1,(ai x9 h9).2⟩) rfl (cK _ bi) (show b.ag.ls.length≤ag∧b.ag.ls.length≤9223372036854775807 from by omega) M B C E s u y z e8 e6 e8 jo) ?_
 rintro _ Cj ⟨vD,vE,vF,vG,vH,vJ,vK,vL,vM,vN,vO,vQ,vR,vS,vT,vV,vW,vX,vY,vZ,wh,wm,wo,wu,ww,wy,wz,wB,wC,rfl,lT,jq,jv,jw,jy,jA,jB,jC,jD,jE⟩
 have bH:=lS _ _ lT
 have AV:=aA jq
 have AX:=aA jv
 have AY:=aA jw
 have AZ:=aA jy
 have A7:=aA jA
 have A8:=aA jB
 have A9:=aA jC
 have Ba:=aA jD
 have Bb:=aA jE
 have Bc:=bH.rowC (i:=1) rfl
 have Bd:=bH.rowC (i:=4) rfl
 have Be:=bH.rowC (i:=5) rfl
 have Bf:=bH.rowC (i:=7) rfl
 have Bg:=bH.rowC (i:=9) rfl
 have Bh:=bH.rowC (i:=11) rfl
 have Bi:=bH.rowC (i:=13) rfl
 have Bj:=bH.rowC (i:=15) rfl
 have Bl:=bH.rowC (i:=17) rfl
 have Bn:=bH.rowC (i:=19) rfl
 refine C4 (IL (res0 rfl) ?_)
 have wD:=bH.px [] [21,22] []
 obtain⟨rfl,rfl⟩:=fD (hr.symm.trans (show _=(kH,kI) from et (ip aV) (et (ae aG) (et (fP aX) (et (iN bI) (et (iN bv) (et (iN bO) (et (fP aO) (ae jo)))))))))
 exact⟨vD,vE,vF,vG,vH,vJ,vK,vL,vM,vN,vO,vQ,vR,vS,vT,vV,vW,vX,vY,vZ,wh,wm,wo,wu,ww,wy,wz,wB,wC,rfl,wD,jq,jv,jw,jy,jA,jB,jC,jD,jE⟩
 refine jT (dT aV) (sr (Mz rfl (Lz (vI (b.aI - 10)) bM 0 C2 (La (gK b av Z ax aa aB ag) bM 1 N8 N9 ?_))))
 have aT:=bM.pf [2,3,4,5]
 have Bo:=aT.rowC (i:=9) rfl
 have Bp:=aT.rowC (i:=13) rfl
 have Bq:=aT.rowC (i:=15) rfl
 have Br:=aT.rowC (i:=17) rfl
 have Bt:=aT.rowC (i:=19) rfl
 have Bu:=aT.rowC (i:=21) rfl
 obtain⟨kJ,jG⟩:∃ q,lK p0 (b.aI - 10) b a=q:=⟨_,rfl⟩
 obtain⟨Ck,lU,cO,lV,aI⟩:=Jf aT
 refine cl Tryz.call86 (uo _ _ g0 p0 aC aF au (b.aI - 10) b av b.aB.ls.length Z ax b.ah.ls.length aa bu aB b.ag.ls.length ag r a S T U V X N O F G Y Q R j d I l f J n g K p h L kJ lU ah rfl (cO _ bf) (show b.aB.ls.length≤Z∧b.aB.ls.length≤9223372036854775807 from by omega) aU rfl (cO _ bg) (show b.ah.ls.length≤aa∧b.ah.ls.length≤9223372036854775807 from by omega) (fun x9 h9=>⟨cO _ (ai x9 h9).1,(ai x9 h9).2⟩) rfl (cO _ bi) (show b.ag.ls.length≤ag∧b.ag.ls.length≤9223372036854775807 from by omega) B (aI _ 5 _ rfl aW) (show a.aa.aK.ls.length≤N∧a.aa.aK.ls.length≤9223372036854775807 from by omega) (fun x9 h9=>⟨aI _ 6 _ rfl (az (Q6.2 ⟨x9,h9,b1⟩) aW),bq (φ:=fun _=>_) aT (i:=10) rfl (az (Q6.2 ⟨x9,h9,b1⟩) bn),(fun y1 k1=>⟨aI _ 6 _ rfl (az (Q6.2 ⟨x9,h9, .tail _ b1⟩) (az (Q6.2 ⟨y1,k1,b1⟩) aW)),bq (φ:=fun _=>_) aT (i:=10) rfl (az (Q6.2 ⟨x9,h9, .tail _ b1⟩) (az (Q6.2 ⟨y1,k1,b1⟩) bn))⟩)⟩) E (aI _ 9 _ rfl aW) (show a.bM.ai.ls.length≤Q∧a.bM.ai.ls.length≤9223372036854775807 from by omega) (fun x9 h9=>⟨aI _ 10 _ rfl (az (Q6.2 ⟨x9,h9,b1⟩) aW),bq (φ:=fun _=>_) aT (i:=14) rfl (az (Q6.2 ⟨x9,h9,b1⟩) bn)⟩) s (aI _ 11 _ rfl aW) (show a.bD.ai.ls.length≤d∧a.bD.ai.ls.length≤9223372036854775807 from by omega) (fun x9 h9=>⟨aI _ 12 _ rfl (az (Q6.2 ⟨x9,h9,b1⟩) aW),bq (φ:=fun _=>_) aT (i:=16) rfl (az (Q6.2 ⟨x9,h9,b1⟩) bn)⟩) u (aI _ 13 _ rfl aW) (show a.bA.ai.ls.length≤f∧a.bA.ai.ls.length≤9223372036854775807 from by omega) (fun x9 h9=>⟨aI _ 14 _ rfl (az (Q6.2 ⟨x9,h9,b1⟩) aW),bq (φ:=fun _=>_) aT (i:=18) rfl (az (Q6.2 ⟨x9,h9,b1⟩) bn)⟩) y (aI _ 15 _ rfl aW) (show a.bC.ai.ls.length≤g∧a.bC.ai.ls.length≤9223372036854775807 from by omega) (fun x9 h9=>⟨aI _ 16 _ rfl (az (Q6.2 ⟨x9,h9,b1⟩) aW),bq (φ:=fun _=>_) aT (i:=20) rfl (az (Q6.2 ⟨x9,h9,b1⟩) bn)⟩) z (aI _ 17 _ rfl aW) (show a.bB.ai.ls.length≤h∧a.bB.ai.ls.length≤9223372036854775807 from by omega) (fun x9 h9=>⟨aI _ 18 _ rfl (az (Q6.2 ⟨x9,h9,b1⟩) aW),bq (φ:=fun _=>_) aT (i:=22) rfl (az (Q6.2 ⟨x9,h9,b1⟩) bn)⟩) e8 f5 jG) ?_
 rintro _ Cm ⟨wE,wF,wG,rfl,lW,jH⟩
 have kK:=lV _ _ lW
 have Bv:=aA jH
 have Bw:=kK.rowC (i:=1) rfl
 refine nt (rt (tR (Fin.res (res0 rfl) ?_)))
 have wH:=kK.px [] [4,5] []
 obtain⟨rfl,rfl⟩:=fD (hr.symm.trans (show _=(kJ,a) from et (iN aV) (ae jG)))
 exact⟨wE,wF,wG,S,T,U,V,W,X,N,O,F,G,P,Y,Q,R,j,d,I,l,f,J,n,g,K,p,h,L,rfl,wH,jH,M,B,C,E,s,u,y,z⟩
end Go.Proofs.YtbkagebjhbphaaaGreat
