/- The layers told, part 5. Conditions: none beyond each law's own. -/
import Derived.Test.YtbkagebjhbphaaaGreatJd
namespace Go.Proofs.YtbkagebjhbphaaaGreat
set_option maxHeartbeats 4000000
set_option maxRecDepth 100000
set_option linter.unusedVariables false
set_option linter.unusedSimpArgs false
set_option linter.unusedSectionVars false
open IntKind renaming i64->C3
open List renaming flatMap->q4,length_map->s3,map->s5,mem_flatMap->Q6,mem_of_getElem?->D1,not_mem_nil->v7
open Ll renaming mk->E0
open _root_.Go.Proofs.Tryz renaming call65->P9,call89->P7,call90->R9,func89->P8,isAgg24->P6,isAgg28->D2,isAgg3->C2,isAgg4->N6,isAgg40->E1,isAgg42->N8,isAgg81->R8,prog->v5,sizeOf42->N9,sizeOf81->Q0
open WL renaming nil->C4
section
open Go.RowKit
def eX (a:Int):List ed->Nat->Unit ⊕ Int
  | [],b=>Sum.inl ()
  | c::d,b=>if c.bf=a then Sum.inr (b:Int) else eX a d (b+1)
def ku (l0:List ed) (a:Int):Int:=
 lp (eX a l0 0) λ _=>(-1)
theorem oL (w D t I J F l0 f a G) (H:Own w D w [blk f [.int .i64 a] 3]) (y:s5 bK.abs F=l0) (s:Ro w D λ w'=>aY w' 9 t I (q4 bK.cells F)) (n:∀ x ∈ F,Ro w D (λ w'=>aY w' 6 x.cB.A x.cB.ls.length (q4 aN.cells x.cB.ls))/\(x.cB.ls.length<=x.cB.c/\x.cB.ls.length<=9223372036854775807)/\Ro w D (λ w'=>aY w' 3 x.aO.A x.aO.ls.length (q4 bO.cells x.aO.ls))/\(x.aO.ls.length<=x.aO.c/\x.aO.ls.length<=9223372036854775807)/\(∀ g ∈ x.aO.ls,Ro w D (λ w'=>aY w' 6 g.aB.A g.aB.ls.length (q4 aN.cells g.aB.ls))/\(g.aB.ls.length<=g.aB.c/\g.aB.ls.length<=9223372036854775807)/\Ro w D (λ w'=>aY w' 1 g.aI.A g.aI.ls.length (q4 (eI .i64) g.aI.ls))/\(g.aI.ls.length<=g.aI.c/\g.aI.ls.length<=9223372036854775807))/\Ro w D (λ w'=>aY w' 1 x.bL.A x.bL.ls.length (q4 eL x.bL.ls))/\(x.bL.ls.length<=x.bL.c/\x.bL.ls.length<=9223372036854775807)/\Ro w D (λ w'=>aY w' 1 x.ai.A x.ai.ls.length (q4 (I9 (β:=af)) x.ai.ls))/\(x.ai.ls.length<=x.ai.c/\x.ai.ls.length<=9223372036854775807)/\(∀ g ∈ x.ai.ls,Ro w D (λ w'=>aY w' 3 g.A g.ls.length (q4 af.cells g.ls))/\(g.ls.length<=g.c/\g.ls.length<=9223372036854775807)/\(∀ u ∈ g.ls,Ro w D (λ w'=>aY w' 2 u.aj.A u.aj.ls.length (q4 aH.cells u.aj.ls))/\(u.aj.ls.length<=u.aj.c/\u.aj.ls.length<=9223372036854775807)))) (K:I=l0.length) (ae:l0.length<=9223372036854775807) (hr:ku l0 a=G):
    Calls v5 125 #[.slice t I J, .func (.func 88) #[] #[vP f 0]] w (dA λ v w'=>v=vI G/\Own w D w' [blk f [vI a] 3]/\(-1<=G/\G < ((l0.length:Nat):Int))):=by
 subst K
 have T:=aA y
 refine cb Tryz.func125 ?_
 refine sr (An rfl (Ik (sr (Mz rfl (Kz (vJ l0.length) (Mn rfl (bo ?_)))))))
 have L:=H.pf []
 obtain⟨M,j⟩:=lF λ (b:Nat) w'=>Own w D w' [blk f [vI a] 3]/\b<=l0.length/\eX a l0 0=eX a (List.drop b l0) b
 refine Wp.loop (λ i:Nat=> [(4,vI 0),(8,vJ i),(7,vJ l0.length),(0, .slice t l0.length J),(1, .func (.func 88) #[] #[vP f 0])]) M (λ i=>l0.length - i) 0 ⟨rfl,rfl,rfl,rfl,rfl,trivial⟩ (j.2 ⟨L,e6,rfl⟩) ?_
 rintro b ag z
 obtain⟨l,U,m⟩:=j.1 z
 refine sr (Kz (.bool (decide ((b:Int) < (l0.length:Int)))) (nt (Ik ?_)))
 by_cases B:(b:Int) < (l0.length:Int)
 obtain⟨d,h⟩:=dh (ls:=F) (i:=b) bK.len f2 (l.ro s) e9
 have C:=eY y h
 have V:=(n _ (D1 h)).2.1
 have W:=(n _ (D1 h)).2.2.2.1
 have X:List.length (s5 bO.abs d.aO.ls)=d.aO.ls.length:=s3 ..
 have Y:=(n _ (D1 h)).2.2.2.2.2.2.1
 have Z:=(n _ (D1 h)).2.2.2.2.2.2.2.2.1
 have aa:List.length (s5 bP.abs d.ai.ls)=d.ai.ls.length:=s3 ..
 have r:=drop_at C
 refine jT (dT B) (sk (Ik (bo (sr (Mz rfl (Ar rfl (Mz rfl (Mz rfl (Mz rfl (fw (.pointer (some ⟨ab t,ao t+b *9,none⟩)) (Iz (qF) rfl rfl ((l.ro s).addr (i:=b) e6) e6) (fw (.agg (bK.cells d).toArray) (IB rfl (IJ (cs:=(bK.cells d)) Tryz.isAgg107 Tryz.sizeOf107 ((l.ro s).elem bK.len h f2))) ?_)))))))))))
 refine WL.do rfl (IY Tryz.call88 rfl rfl ?_ (λ _ _ k=>k))
 refine cb Tryz.func88 ?_
 refine sr ?_
 refine dn (bK.cells d) 107 l ?_
 intro N ah o
 refine Ar rfl (Kz (vP N 1) (Lz (vI d.bf) o 0 C2 (Lz (vI a) o 1 C2 (Kz (.bool (decide (d.bf=a))) (An rfl (rt (rs (nt ?_))))))))
 by_cases p:d.bf=a
 refine jT (dT p) (Ik ?_)
 have O:=o.pk [1]
 refine Il (Mz rfl (An rfl (rt (bR (tR (tR (bR (tR (rs ?_)))))))))
 have P:=O.pf []
 obtain rfl:_=(b:Int):=zj hr (gL (et (m) (et (congrArg (λ q=>eX a q b) r) (ip p))))
 exact⟨rfl,P,e6⟩
 refine jF (dF p) (IU (bN (Iq ?_)))
 have Q:=o.pk [1]
 refine Il (fw (vJ (b+1)) (Ir (e:=C3.wrap ((b:Int)+1)) yk f0) (Mz rfl (C4 ?_)))
 have R:=Q.pf []
 exact II (b+1) ⟨rfl,rfl,rfl,rfl,rfl,trivial⟩ (j.2 ⟨R,e6,et (m) (et (congrArg (λ q=>eX a q b) r) (iN p))⟩) (by show l0.length - (b+1) < l0.length - b; omega)
 refine jF (dF B) (Wp.exit (IC ?_))
 have E:eX a l0 0=Sum.inl ():=et (m) (et (congrArg (λ q=>eX a q b) (dZ (ls:=l0) (i:=b) e6)) rfl)
 refine IC (IK (Iq (sr (An rfl (rt (rs ?_))))))
 have S:=l.pf []
 obtain rfl:_=(-1):=zj hr (mF E)
 exact⟨rfl,S,e6⟩
def jS (l0:List ed) (a:Int):Bool:=
 bnd (ku l0 a) λ b=>decide (b >= 0)
theorem nU (w D t u E s l0 h e F) (H:Own w D w [blk h [.int .i64 e] 3]) (n:s5 bK.abs s=l0) (y:Ro w D λ w'=>aY w' 9 t u (q4 bK.cells s)) (a:∀ x ∈ s,Ro w D (λ w'=>aY w' 6 x.cB.A x.cB.ls.length (q4 aN.cells x.cB.ls))/\(x.cB.ls.length<=x.cB.c/\x.cB.ls.length<=9223372036854775807)/\Ro w D (λ w'=>aY w' 3 x.aO.A x.aO.ls.length (q4 bO.cells x.aO.ls))/\(x.aO.ls.length<=x.aO.c/\x.aO.ls.length<=9223372036854775807)/\(∀ b ∈ x.aO.ls,Ro w D (λ w'=>aY w' 6 b.aB.A b.aB.ls.length (q4 aN.cells b.aB.ls))/\(b.aB.ls.length<=b.aB.c/\b.aB.ls.length<=9223372036854775807)/\Ro w D (λ w'=>aY w' 1 b.aI.A b.aI.ls.length (q4 (eI .i64) b.aI.ls))/\(b.aI.ls.length<=b.aI.c/\b.aI.ls.length<=9223372036854775807))/\Ro w D (λ w'=>aY w' 1 x.bL.A x.bL.ls.length (q4 eL x.bL.ls))/\(x.bL.ls.length<=x.bL.c/\x.bL.ls.length<=9223372036854775807)/\Ro w D (λ w'=>aY w' 1 x.ai.A x.ai.ls.length (q4 (I9 (β:=af)) x.ai.ls))/\(x.ai.ls.length<=x.ai.c/\x.ai.ls.length<=9223372036854775807)/\(∀ b ∈ x.ai.ls,Ro w D (λ w'=>aY w' 3 b.A b.ls.length (q4 af.cells b.ls))/\(b.ls.length<=b.c/\b.ls.length<=9223372036854775807)/\(∀ j ∈ b.ls,Ro w D (λ w'=>aY w' 2 j.aj.A j.aj.ls.length (q4 aH.cells j.aj.ls))/\(j.aj.ls.length<=j.aj.c/\j.aj.ls.length<=9223372036854775807)))) (z:u=l0.length) (J:l0.length<=9223372036854775807) (hr:jS l0 e=F):
    Calls v5 87 #[.slice t u E, .func (.func 88) #[] #[vP h 0]] w (dA λ v w'=>v= .bool F/\Own w D w' [blk h [vI e] 3]):=by
 unfold jS at hr
 subst z
 have G:=aA n
 refine cb Tryz.func87 ?_
 refine sr (Ar rfl (Mz rfl (Mz rfl ?_)))
 obtain⟨i,l⟩:∃ q,ku l0 e=q:=⟨_,rfl⟩
 obtain⟨K,o,d,p,I⟩:=IZ H
 refine cl Tryz.call125 (oL _ _ t l0.length E s l0 h e i o n (d _ y) (λ f g=>⟨d _ (a f g).1,(a f g).2.1,d _ (a f g).2.2.1,(a f g).2.2.2.1,(λ b k=>⟨d _ ((a f g).2.2.2.2.1 b k).1,((a f g).2.2.2.2.1 b k).2.1,d _ ((a f g).2.2.2.2.1 b k).2.2.1,((a f g).2.2.2.2.1 b k).2.2.2⟩),d _ (a f g).2.2.2.2.2.1,(a f g).2.2.2.2.2.2.1,d _ (a f g).2.2.2.2.2.2.2.1,(a f g).2.2.2.2.2.2.2.2.1,(λ b k=>⟨d _ ((a f g).2.2.2.2.2.2.2.2.2 b k).1,((a f g).2.2.2.2.2.2.2.2.2 b k).2.1,(λ j k2=>⟨d _ (((a f g).2.2.2.2.2.2.2.2.2 b k).2.2 j k2).1,(((a f g).2.2.2.2.2.2.2.2.2 b k).2.2 j k2).2⟩)⟩)⟩) rfl e6 l) ?_
 rintro _ L ⟨rfl,r,m⟩
 have B:=p _ _ r
 replace m: -1<=i/\i < (l0.length:Int):=m
 refine Kz (.bool (decide (i >= 0))) (An rfl (rt (rs ?_)))
 have C:=B.pf []
 obtain rfl:=zj hr zq1
 exact⟨rfl,C⟩
def iU (c:bU) (b:bW) (a:aD):bU × aD:=
 if(b.ax:Int)=(a.aa.ax:Int) then bnd (jS a.aC.ls (b.aI - 10)) λ p=>if p=true then(c,a) else if b.aI - 10=1 then if a.bD.dB=true then if(a.bD.bi:Int) >= (b.aU:Int) then if(a.bD.bi:Int)=(b.aU:Int) then bnd (dM c (bW.mk 2 0 (10+(b.aI - 10)) 0 a.bD.dP 0 a.bD.bi a.aa.ax 0 0 0 0 0 0 0 false (aL.mk [] []) (E0 []) (E0 a.bD.ai.ls) (E0 []))) λ q=>(q,a) else(c,a) else bnd (dS c (b.aI - 10) b a) λ k=>(k.1,k.2) else bnd (dS c (b.aI - 10) b a) λ d=>(d.1,d.2) else if b.aI - 10=2 then if a.bA.dB=true then if(a.bA.bi:Int) >= (b.aU:Int) then if(a.bA.bi:Int)=(b.aU:Int) then bnd (dM c (bW.mk 2 0 (10+(b.aI - 10)) 0 a.bA.dP 0 a.bA.bi a.aa.ax 0 0 0 0 0 0 0 false (aL.mk [] []) (E0 []) (E0 a.bA.ai.ls) (E0 []))) λ l=>(l,a) else(c,a) else bnd (dS c (b.aI - 10) b a) λ e=>(e.1,e.2) else bnd (dS c (b.aI - 10) b a) λ f=>(f.1,f.2) else if b.aI - 10=3 then if a.bC.dB=true then if(a.bC.bi:Int) >= (b.aU:Int) then if(a.bC.bi:Int)=(b.aU:Int) then bnd (dM c (bW.mk 2 0 (10+(b.aI - 10)) 0 a.bC.dP 0 a.bC.bi a.aa.ax 0 0 0 0 0 0 0 false (aL.mk [] []) (E0 []) (E0 a.bC.ai.ls) (E0 []))) λ m=>(m,a) else(c,a) else bnd (dS c (b.aI - 10) b a) λ g=>(g.1,g.2) else bnd (dS c (b.aI - 10) b a) λ h=>(h.1,h.2) else if a.bB.dB=true then if(a.bB.bi:Int) >= (b.aU:Int) then if(a.bB.bi:Int)=(b.aU:Int) then bnd (dM c (bW.mk 2 0 (10+(b.aI - 10)) 0 a.bB.dP 0 a.bB.bi a.aa.ax 0 0 0 0 0 0 0 false (aL.mk [] []) (E0 []) (E0 a.bB.ai.ls) (E0 []))) λ n=>(n,a) else(c,a) else bnd (dS c (b.aI - 10) b a) λ i=>(i.1,i.2) else bnd (dS c (b.aI - 10) b a) λ j=>(j.1,j.2) else bnd (lK c (b.aI - 10) b a) λ o=>(o,a)
theorem uH (w D g0) (p0:bU) (aC aF au) (b:bW) (av jK Z ax jL aa bu aB jM ag r) (a:aD) (S T U V W X N O F G P Y Q R j d I l f J n g K p h L) (r0:bU) (r1:aD) (H:Own w D w [blk g0 [.pointer (some ⟨r,0,none⟩), .slice aC p0.bF.ls.length aF] 98,row aC p0.bF.ls.length aF (q4 bz.cells au) 42 21,sepL (q4 bz.own au),mK r a S a.aa.ag.ls.length T U V X N F G Y Q j d l f n g p h,row S a.aa.ag.ls.length T (q4 aM.cells a.aa.ag.ls) 89 2,row U a.aa.ak.ls.length V (q4 ay.cells W) 60 5,sepL (q4 ay.own W),row X a.aa.aK.ls.length N (q4 aS.cells O) 56 4,sepL (q4 aS.own O),row F a.aC.ls.length G (q4 bK.cells P) 107 9,sepL (q4 bK.own P),row Y a.bM.ai.ls.length Q (q4 af.cells R) 149 3,sepL (q4 af.own R),row j a.bD.ai.ls.length d (q4 af.cells I) 149 3,sepL (q4 af.own I),row l a.bA.ai.ls.length f (q4 af.cells J) 149 3,sepL (q4 af.own J),row n a.bC.ai.ls.length g (q4 af.cells K) 149 3,sepL (q4 af.own K),row p a.bB.ai.ls.length h (q4 af.cells L) 149 3,sepL (q4 af.own L)]) (ah:s5 bz.abs au=p0.bF.ls) (kL:jK=b.aB.ls.length) (bf:Ro w D λ w'=>aY w' 6 av b.aB.ls.length (q4 aN.cells b.aB.ls)) (wL:b.aB.ls.length<=Z/\b.aB.ls.length<=9223372036854775807) (aU:s5 af.abs bu=b.ah.ls) (kM:jL=b.ah.ls.length) (bg:Ro w D λ w'=>aY w' 3 ax b.ah.ls.length (q4 af.cells bu)) (wM:b.ah.ls.length<=aa/\b.ah.ls.length<=9223372036854775807) (ai:∀ x ∈ bu,Ro w D (λ w'=>aY w' 2 x.aj.A x.aj.ls.length (q4 aH.cells x.aj.ls))/\(x.aj.ls.length<=x.aj.c/\x.aj.ls.length<=9223372036854775807)) (kN:jM=b.ag.ls.length) (bi:Ro w D λ w'=>aY w' 2 aB b.ag.ls.length (q4 aM.cells b.ag.ls)) (wN:b.ag.ls.length<=ag/\b.ag.ls.length<=9223372036854775807) (M:s5 ay.abs W=a.aa.ak.ls) (B:s5 aS.abs O=a.aa.aK.ls) (C:s5 bK.abs P=a.aC.ls) (E:s5 af.abs R=a.bM.ai.ls) (s:s5 af.abs I=a.bD.ai.ls) (u:s5 af.abs J=a.bA.ai.ls) (y:s5 af.abs K=a.bC.ai.ls) (z:s5 af.abs L=a.bB.ai.ls) (Cn:a.aa.ag.ls.length<=1000/\a.aa.ak.ls.length<=1000/\a.aa.aK.ls.length<=1000/\a.aC.ls.length<=1000/\p0.bF.ls.length<=100000) (Co:Mk a) (Cq:a.bM.ai.ls.length<=1000/\a.bD.ai.ls.length<=1000/\a.bA.ai.ls.length<=1000/\a.bC.ai.ls.length<=1000/\a.bB.ai.ls.length<=1000) (Cr:11<=b.aI/\b.aI<=14) (Cs:b.aB.ls.length<=24/\b.ag.ls.length<=1000/\b.ah.ls.length<=1000/\jR b.aU) (hr:iU p0 b a=(r0,r1)):
    Calls v5 56 #[vP g0 0, .agg (iA b.av b.aI b.eO b.aP b.dK b.fA b.aU b.ax b.aX b.eQ b.bG b.aF b.eG b.cZ b.xN b.fe b.cu.aJ b.cu.aR av jK Z ax jL aa aB jM ag).toArray] w (dA λ v w'=> ∃ dP dQ dm dR dU dV dW dw dX dY dx dZ ed dz ek eu dB eB eD dC eF eG dD eH eO dE eP eQ dG,v= .tuple #[]/\Own w D w' [blk g0 [vP r 0, .slice dP r0.bF.ls.length dQ] 98,row dP r0.bF.ls.length dQ (q4 bz.cells dm) 42 21,sepL (q4 bz.own dm),mK r r1 dR r1.aa.ag.ls.length dU dV dW dX dY dZ ed ek eu eB eD eF eG eH eO eP eQ,row dR r1.aa.ag.ls.length dU (q4 aM.cells r1.aa.ag.ls) 89 2,row dV r1.aa.ak.ls.length dW (q4 ay.cells dw) 60 5,sepL (q4 ay.own dw),row dX r1.aa.aK.ls.length dY (q4 aS.cells dx) 56 4,sepL (q4 aS.own dx),row dZ r1.aC.ls.length ed (q4 bK.cells dz) 107 9,sepL (q4 bK.own dz),row ek r1.bM.ai.ls.length eu (q4 af.cells dB) 149 3,sepL (q4 af.own dB),row eB r1.bD.ai.ls.length eD (q4 af.cells dC) 149 3,sepL (q4 af.own dC),row eF r1.bA.ai.ls.length eG (q4 af.cells dD) 149 3,sepL (q4 af.own dD),row eH r1.bC.ai.ls.length eO (q4 af.cells dE) 149 3,sepL (q4 af.own dE),row eP r1.bB.ai.ls.length eQ (q4 af.cells dG) 149 3,sepL (q4 af.own dG)]/\(s5 bz.abs dm=r0.bF.ls)/\(s5 ay.abs dw=r1.aa.ak.ls)/\(s5 aS.abs dx=r1.aa.aK.ls)/\(s5 bK.abs dz=r1.aC.ls)/\(s5 af.abs dB=r1.bM.ai.ls)/\(s5 af.abs dC=r1.bD.ai.ls)/\(s5 af.abs dD=r1.bA.ai.ls)/\(s5 af.abs dE=r1.bC.ai.ls)/\(s5 af.abs dG=r1.bB.ai.ls)):=by
 unfold iU at hr
 subst kL kM kN
 have wJ:=aA ah
 have wK:=aA aU
 have lX:=aA M
 have lY:=aA B
 have lZ:=aA C
 have l5:=aA E
 have l6:=aA s
 have l7:=aA u
 have l8:=aA y
 have l9:=aA z
 have wO:=zr 1 H
 have ma:=zr 4 H
 have mf:=zr 5 H
 have mg:=zr 7 H
 have mh:=zr 9 H
 have mi:=zr 11 H
 have mo:=zr 13 H
 have mq:=zr 15 H
 have mr:=zr 17 H
 have mD:=zr 19 H
 refine cb Tryz.func56 ?_
 refine sr ?_
 refine dn (gK b av Z ax aa aB ag) 42 H ?_
 intro bR Ct mE
 refine ns (Kz (vP bR 1) (Lz (vI b.aI) mE 0 C2 (fw (vI (b.aI - 10)) (Ir (e:=C3.wrap (b.aI - 10)) yk g1) ?_)))
 refine dn [vI 0] 3 mE ?_
 intro mF Cu wP
 refine df [vI (b.aI - 10)] 0 wP Tryz.sizeOf3 ?_
 intro Cv wQ
 refine nt (Ik (Ik ?_))
 refine oV 23 [] (IE (IE IQ)) wQ ?_
 intro Cw bM
 refine qp bR 7 0 rfl (ql 1 rfl 1 D2 rfl rfl rfl (qv 2 rfl rfl (qp g0 0 3 rfl (qp g0 0 4 rfl (ql 5 rfl 2 P6 rfl rfl rfl (qp r 0 6 rfl (qp r 0 7 rfl (qp r 1 8 rfl (ql 9 rfl 5 D2 rfl rfl rfl (qt (v:= .bool (decide (¬ ((b.ax:Int)=(a.aa.ax:Int))))) 10 rfl (λ _ _=>IM (e:= !(decide ((b.ax:Int)=(a.aa.ax:Int)))) yk decide_not.symm) (qn (Iq ?_))))))))))))
 by_cases aV:(b.ax:Int)=(a.aa.ax:Int)
 refine jF (dF (Lr aV)) (sk (Ik (sr (Mz rfl (Kz (vP g0 0) (Kz (vP g0 0) (Lz (vP r 0) bM 2 P6 (Kz (vP r 0) (Kz (vP r 8) (Lz (.slice F a.aC.ls.length G) bM 5 Tryz.isAgg79 (Kz (.func (.func 88) #[] #[vP mF 0]) ?_)))))))))))
 obtain⟨mG,aG⟩:∃ q,jS a.aC.ls (b.aI - 10)=q:=⟨_,rfl⟩
 obtain⟨Cx,mH,Bz,mI,bN⟩:=IZ bM
 refine cl Tryz.call87 (nU _ _ F a.aC.ls.length G P a.aC.ls mF (b.aI - 10) mG mH C (bN _ 10 _ rfl aW) (λ x9 h9=>⟨bN _ 11 _ rfl (az (Q6.2 ⟨x9,h9,b1⟩) aW),bq (φ:=λ _=>_) bM (i:=12) rfl (az (Q6.2 ⟨x9,h9,b1⟩) bn),bN _ 11 _ rfl (az (Q6.2 ⟨x9,h9, .tail _ b1⟩) aW),bq (φ:=λ _=>_) bM (i:=12) rfl (az (Q6.2 ⟨x9,h9, .tail _ b1⟩) bn),(λ y1 k1=>⟨bN _ 11 _ rfl (az (Q6.2 ⟨x9,h9, .tail _ b4⟩) (az (Q6.2 ⟨y1,k1,b1⟩) aW)),bq (φ:=λ _=>_) bM (i:=12) rfl (az (Q6.2 ⟨x9,h9, .tail _ b4⟩) (az (Q6.2 ⟨y1,k1,b1⟩) bn)),bN _ 11 _ rfl (az (Q6.2 ⟨x9,h9, .tail _ b4⟩) (az (Q6.2 ⟨y1,k1, .tail _ b1⟩) aW)),bq (φ:=λ _=>_) bM (i:=12) rfl (az (Q6.2 ⟨x9,h9, .tail _ b4⟩) (az (Q6.2 ⟨y1,k1, .tail _ b1⟩) bn))⟩),bN _ 11 _ rfl (az (Q6.2 ⟨x9,h9, .tail _ b2⟩) aW),bq (φ:=λ _=>_) bM (i:=12) rfl (az (Q6.2 ⟨x9,h9, .tail _ b2⟩) bn),bN _ 11 _ rfl (az (Q6.2 ⟨x9,h9, .tail _ b3⟩) aW),bq (φ:=λ _=>_) bM (i:=12) rfl (az (Q6.2 ⟨x9,h9, .tail _ b3⟩) bn),(λ y1 k1=>⟨bN _ 11 _ rfl (az (Q6.2 ⟨x9,h9, .tail _ b5⟩) (az (Q6.2 ⟨y1,k1,b1⟩) aW)),bq (φ:=λ _=>_) bM (i:=12) rfl (az (Q6.2 ⟨x9,h9, .tail _ b5⟩) (az (Q6.2 ⟨y1,k1,b1⟩) bn)),(λ y2 k2=>⟨bN _ 11 _ rfl (az (Q6.2 ⟨x9,h9, .tail _ b5⟩) (az (Q6.2 ⟨y1,k1, .tail _ b1⟩) (az (Q6.2 ⟨y2,k2,b1⟩) aW))),bq (φ:=λ _=>_) bM (i:=12) rfl (az (Q6.2 ⟨x9,h9, .tail _ b5⟩) (az (Q6.2 ⟨y1,k1, .tail _ b1⟩) (az (Q6.2 ⟨y2,k2,b1⟩) bn)))⟩)⟩)⟩) rfl e6 aG) ?_
 rintro _ Cy ⟨rfl,mJ⟩
 have mM:=mI _ _ mJ
 refine nt ?_
 rcases Ls (mG) with aX | aX
 refine jT aX (rt (tR (Fin.res (res0 rfl) ?_)))
 have wR:=mM.px [] [0,1] []
 obtain⟨rfl,rfl⟩:=fD (zj hr zq3)
 exact⟨aC,aF,au,S,T,U,V,W,X,N,O,F,G,P,Y,Q,R,j,d,I,l,f,J,n,g,K,p,h,L,rfl,wR,ah,M,B,C,E,s,u,y,z⟩
 refine jF aX (sk (Ik (Ik ?_)))
 refine oV 23 [] (IE (IE IQ)) mM ?_
 intro Cz jI
 refine qv 0 rfl rfl (qp g0 0 1 rfl (qp g0 0 2 rfl (ql 3 rfl 2 P6 rfl rfl rfl (ql 4 rfl 0 C2 rfl rfl rfl (qp r 0 5 rfl (qp r 9 6 rfl ?_))))))
 by_cases bI:b.aI - 10=1
 refine qt (v:=vP r 13) 7 rfl (λ _ _=>by rw [show b.aI - 10=1 from by omega]; exact yk) (qt (v:= .agg #[.bool a.bD.dB,vU a.bD.bi,vI a.bD.dP, .slice j a.bD.ai.ls.length d]) 8 rfl (λ _ ⟨_,H9⟩=>IB rfl (IJ (cs:= [.bool a.bD.dB,vU a.bD.bi,vI a.bD.dP, .slice j a.bD.ai.ls.length d]) R8 Q0 ((H9.cls (i:=5) rfl).lit (k:=13) (m:=4) rfl))) ?_)
 refine qd 9 rfl (Jb (cs:= [.bool false, .int .u64 0,vI 0, .slice none 0 0]) (t:=81) jI rfl rfl (λ _=>by kernel_rfl) ?_)
 intro dL CB wS
 have mO:=wS.pb [0]
 refine⟨.inr ⟨_,mO⟩, ?_⟩
 have wT:=mO.pf [23]
 refine qe 10 rfl (Do.store (vs:= [.bool a.bD.dB,vU a.bD.bi,vI a.bD.dP, .slice j a.bD.ai.ls.length d]) (o:=0) wT rfl rfl Q0 rfl rfl rfl rfl ?_)
 intro CE wU
 have bJ:=wU.pb [0]
 refine⟨.inr ⟨_,bJ⟩, ?_⟩
 refine qn (Iq (sr (Kz (vP dL 0) (Lz (.bool a.bD.dB) bJ 23 N6 (Mz rfl ?_)))))
 rcases Ls (a.bD.dB) with bA | bA
 refine Gz (vP dL 1) bA (Gl (vU a.bD.bi) bA bJ 23 D2 (Gz (vP bR 6) bA (Gl (vU b.aU) bA bJ 1 D2 (Gz (.bool (decide ((a.bD.bi:Int) >= (b.aU:Int)))) bA (fw (.bool (decide ((a.bD.bi:Int) >= (b.aU:Int)))) (Iw rfl bA rfl) (nt ?_))))))
 by_cases eT:(a.bD.bi:Int) >= (b.aU:Int)
 refine jT (dT eT) (Ik (sr (Kz (vP dL 1) (Lz (vU a.bD.bi) bJ 23 D2 (Kz (vP bR 6) (Lz (vU b.aU) bJ 1 D2 (Kz (.bool (decide ((a.bD.bi:Int)=(b.aU:Int)))) (nt ?_))))))))
 by_cases jJ:(a.bD.bi:Int)=(b.aU:Int)
 refine jT (dT jJ) (Il (Mz rfl (Lz (vI (b.aI - 10)) bJ 0 C2 (Kz (vP dL 1) (Lz (vU a.bD.bi) bJ 23 D2 (Kz (vP dL 2) (Lz (vI a.bD.dP) bJ 23 C2 (Kz (vP dL 3) (Lz (.slice j a.bD.ai.ls.length d) bJ 23 E1 ?_)))))))))
 refine WL.do rfl (IP P7 rfl ?_ (λ _ _ k=>k))
 refine cb P8 ?_
 refine Il (Mz rfl (Mz rfl (fw (vI (10+(b.aI - 10))) (Ir (e:=C3.wrap (10+(b.aI - 10))) yk g1) (Mz rfl (Mz rfl (Kz (vP g0 0) (Kz (vP g0 0) (Lz (vP r 0) bJ 2 P6 (Kz (vP r 0) (Kz (vP r 0) (Kz (vP r 1) (Lz (vU a.aa.ax) bJ 5 D2 (Mz rfl (Mz rfl (Kz (.agg (iA 2 0 (10+(b.aI - 10)) 0 a.bD.dP 0 a.bD.bi a.aa.ax 0 0 0 0 0 0 0 false [] [] none 0 0 j a.bD.ai.ls.length d none 0 0).toArray) ?_)))))))))))))))
 have mP:=bJ.pf [2,3,4]
 obtain⟨kQ,jN⟩:∃ q,dM p0 (bW.mk 2 0 (10+(b.aI - 10)) 0 a.bD.dP 0 a.bD.bi a.aa.ax 0 0 0 0 0 0 0 false (aL.mk [] []) (E0 []) (E0 a.bD.ai.ls) (E0 []))=q:=⟨_,rfl⟩
 obtain⟨CF,mQ,BB,mR,jO⟩:=Ja mP
 refine cl P9 (gV _ _ g0 p0 aC aF au r (bW.mk 2 0 (10+(b.aI - 10)) 0 a.bD.dP 0 a.bD.bi a.aa.ax 0 0 0 0 0 0 0 false (aL.mk [] []) (E0 []) (E0 a.bD.ai.ls) (E0 [])) none 0 0 j a.bD.ai.ls.length d I none 0 0 kQ mQ ah rfl (λ _ _=>aY.nil _ _ _) f3 s rfl (jO _ 12 _ rfl aW) e6 (λ x9 h9=>⟨jO _ 13 _ rfl (az (Q6.2 ⟨x9,h9,b1⟩) aW),bq (φ:=λ _=>_) mP (i:=16) rfl (az (Q6.2 ⟨x9,h9,b1⟩) bn)⟩) rfl (λ _ _=>aY.nil _ _ _) f3 e8 (by first | assumption | exact d9 f5 | exact λ x hx=>absurd hx v7 | exact d9 (Mk.nK f5).1 | exact d9 (Mk.mh f5).1 | exact d9 (Mk.nV f5).1 | exact d9 (Mk.nW f5).1 | exact d9 (Mk.nX f5).1) jN) ?_
 rintro _ CG ⟨wV,wW,wX,rfl,mU,jP,jQ⟩
 have mV:=mR _ _ mU
 have BC:=aA jP
 have BD:=zr 1 mV
 replace jQ:kQ.bF.ls.length=p0.bF.ls.length+1:=jQ
 refine C4 (IL (res0 rfl) (nt (rt (tR (Fin.res (res0 rfl) ?_)))))
 have wY:=mV.px [] [3,4,23] []
 obtain⟨rfl,rfl⟩:=fD (zj hr zq8)
 exact⟨wV,wW,wX,S,T,U,V,W,X,N,O,F,G,P,Y,Q,R,j,d,I,l,f,J,n,g,K,p,h,L,rfl,wY,jP,M,B,C,E,s,u,y,z⟩
 refine jF (dF jJ) (sk (rt (tR (Fin.res (res0 rfl) ?_))))
 have wZ:=bJ.px [] [0,1,23] []
 obtain⟨rfl,rfl⟩:=fD (zj hr zq7)
 exact⟨aC,aF,au,S,T,U,V,W,X,N,O,F,G,P,Y,Q,R,j,d,I,l,f,J,n,g,K,p,h,L,rfl,wZ,ah,M,B,C,E,s,u,y,z⟩
 refine jF (dF eT) (sk ?_)
 have kR:=bJ.px [] [23] []
 refine Il (Mz rfl (Lz (vI (b.aI - 10)) kR 0 C2 (La (gK b av Z ax aa aB ag) kR 1 N8 N9 ?_)))
 have w9:=kR.pb [0,1]
 obtain⟨⟨mW,mX⟩,jU⟩:∃ q:bU × aD,dS p0 (b.aI - 10) b a=q:=⟨_,rfl⟩
 obtain⟨CJ,mY,dH,mZ,BF⟩:=Jd w9
 refine cl R9 (jr _ _ g0 p0 aC aF au (b.aI - 10) b av b.aB.ls.length Z ax b.ah.ls.length aa bu aB b.ag.ls.length ag r a S T U V W X N O F G P Y Q R j d I l f J n g K p h L mW mX mY ah rfl (dH _ bf) e6 aU rfl (dH _ bg) e6 (λ x9 h9=>⟨dH _ (ai x9 h9).1,(ai x9 h9).2⟩) rfl (dH _ bi) e6 M B C E s u y z e8 e6 e8 jU) ?_
 rintro _ CK ⟨xc,xe,xg,xh,xk,xm,xn,ng,xq,ni,nk,nu,ny,nz,nA,nC,nD,nE,nG,nH,nI,nJ,nK,nL,nM,nN,nO,nP,nQ,rfl,nR,jV,eU,eX,eY,eZ,fe,fo,fq,fu⟩
 have bP:=mZ _ _ nR
 have xu:=aA jV
 have xw:=aA eU
 have xx:=aA eX
 have xy:=aA eY
 have xz:=aA eZ
 have xA:=aA fe
 have xB:=aA fo
 have xC:=aA fq
 have xD:=aA fu
 have xE:=zr 1 bP
 have xG:=zr 4 bP
 have xH:=zr 5 bP
 have xI:=zr 7 bP
 have xJ:=zr 9 bP
 have xK:=zr 11 bP
 have xL:=zr 13 bP
 have xM:=zr 15 bP
 have xO:=zr 17 bP
 have xP:=zr 19 bP
 refine C4 (IL (res0 rfl) ?_)
 have nS:=bP.px [] [21,22] []
 obtain⟨rfl,rfl⟩:=fD (zj hr zq7)
 exact⟨xc,xe,xg,xh,xk,xm,xn,ng,xq,ni,nk,nu,ny,nz,nA,nC,nD,nE,nG,nH,nI,nJ,nK,nL,nM,nN,nO,nP,nQ,rfl,nS,jV,eU,eX,eY,eZ,fe,fo,fq,fu⟩
 refine Sz bA (Sz bA (Sz bA (Sz bA (Sz bA (fw (.bool false) (Io rfl bA rfl) (nt (jf (sk ?_))))))))
 have fA:=bJ.px [] [23] []
 refine Il (Mz rfl (Lz (vI (b.aI - 10)) fA 0 C2 (La (gK b av Z ax aa aB ag) fA 1 N8 N9 ?_)))
 have nT:=fA.pb [0,1]
 obtain⟨⟨jW,jX⟩,fB⟩:∃ q:bU × aD,dS p0 (b.aI - 10) b a=q:=⟨_,rfl⟩
 obtain⟨BG,kS,bX,kT,xQ⟩:=Jd nT
 refine cl R9 (jr _ _ g0 p0 aC aF au (b.aI - 10) b av b.aB.ls.length Z ax b.ah.ls.length aa bu aB b.ag.ls.length ag r a S T U V W X N O F G P Y Q R j d I l f J n g K p h L jW jX kS ah rfl (bX _ bf) e6 aU rfl (bX _ bg) e6 (λ x9 h9=>⟨bX _ (ai x9 h9).1,(ai x9 h9).2⟩) rfl (bX _ bi) e6 M B C E s u y z e8 e6 e8 fB) ?_
 rintro _ BH ⟨nV,nW,nX,nY,nZ,og,oh,ol,om,oo,oq,ou,ow,oz,oC,oD,oF,oG,oH,oI,oJ,oK,oL,oM,oN,oO,oP,oQ,oU,rfl,kU,fC,fE,fF,fG,fH,fI,fJ,fK,fM⟩
 have bB:=kT _ _ kU
 have xR:=aA fC
 have xS:=aA fE
 have xU:=aA fF
 have xV:=aA fG
 have xW:=aA fH
 have xX:=aA fI
 have xY:=aA fJ
 have xZ:=aA fK
 have x8:=aA fM
 have yc:=zr 1 bB
 have yf:=zr 4 bB
 have yg:=zr 5 bB
 have yh:=zr 7 bB
 have yj:=zr 9 bB
 have yl:=zr 11 bB
 have ym:=zr 13 bB
 have yn:=zr 15 bB
 have yo:=zr 17 bB
 have yt:=zr 19 bB
 refine C4 (IL (res0 rfl) ?_)
 have oW:=bB.px [] [21,22] []
 obtain⟨rfl,rfl⟩:=fD (zj hr zq6)
 exact⟨nV,nW,nX,nY,nZ,og,oh,ol,om,oo,oq,ou,ow,oz,oC,oD,oF,oG,oH,oI,oJ,oK,oL,oM,oN,oO,oP,oQ,oU,rfl,oW,fC,fE,fF,fG,fH,fI,fJ,fK,fM⟩
 by_cases bv:b.aI - 10=2
 refine qt (v:=vP r 17) 7 rfl (λ _ _=>by rw [show b.aI - 10=2 from by omega]; exact yk) (qt (v:= .agg #[.bool a.bA.dB,vU a.bA.bi,vI a.bA.dP, .slice l a.bA.ai.ls.length f]) 8 rfl (λ _ ⟨_,H9⟩=>IB rfl (IJ (cs:= [.bool a.bA.dB,vU a.bA.bi,vI a.bA.dP, .slice l a.bA.ai.ls.length f]) R8 Q0 ((H9.cls (i:=5) rfl).lit (k:=17) (m:=4) rfl))) ?_)
 refine qd 9 rfl (Jb (cs:= [.bool false, .int .u64 0,vI 0, .slice none 0 0]) (t:=81) jI rfl rfl (λ _=>by kernel_rfl) ?_)
 intro bS BI oZ
 have jY:=oZ.pb [0]
 refine⟨.inr ⟨_,jY⟩, ?_⟩
 have o5:=jY.pf [23]
 refine qe 10 rfl (Do.store (vs:= [.bool a.bA.dB,vU a.bA.bi,vI a.bA.dP, .slice l a.bA.ai.ls.length f]) (o:=0) o5 rfl rfl Q0 rfl rfl rfl rfl ?_)
 intro BJ o6
 have aP:=o6.pb [0]
 refine⟨.inr ⟨_,aP⟩, ?_⟩
 refine qn (Iq (sr (Kz (vP bS 0) (Lz (.bool a.bA.dB) aP 23 N6 (Mz rfl ?_)))))
 rcases Ls (a.bA.dB) with aJ | aJ
 refine Gz (vP bS 1) aJ (Gl (vU a.bA.bi) aJ aP 23 D2 (Gz (vP bR 6) aJ (Gl (vU b.aU) aJ aP 1 D2 (Gz (.bool (decide ((a.bA.bi:Int) >= (b.aU:Int)))) aJ (fw (.bool (decide ((a.bA.bi:Int) >= (b.aU:Int)))) (Iw rfl aJ rfl) (nt ?_))))))
 by_cases cZ:(a.bA.bi:Int) >= (b.aU:Int)
 refine jT (dT cZ) (Ik (sr (Kz (vP bS 1) (Lz (vU a.bA.bi) aP 23 D2 (Kz (vP bR 6) (Lz (vU b.aU) aP 1 D2 (Kz (.bool (decide ((a.bA.bi:Int)=(b.aU:Int)))) (nt ?_))))))))
 by_cases dI:(a.bA.bi:Int)=(b.aU:Int)
 refine jT (dT dI) (Il (Mz rfl (Lz (vI (b.aI - 10)) aP 0 C2 (Kz (vP bS 1) (Lz (vU a.bA.bi) aP 23 D2 (Kz (vP bS 2) (Lz (vI a.bA.dP) aP 23 C2 (Kz (vP bS 3) (Lz (.slice l a.bA.ai.ls.length f) aP 23 E1 ?_)))))))))
 refine WL.do rfl (IP P7 rfl ?_ (λ _ _ k=>k))
 refine cb P8 ?_
 refine Il (Mz rfl (Mz rfl (fw (vI (10+(b.aI - 10))) (Ir (e:=C3.wrap (10+(b.aI - 10))) yk g1) (Mz rfl (Mz rfl (Kz (vP g0 0) (Kz (vP g0 0) (Lz (vP r 0) aP 2 P6 (Kz (vP r 0) (Kz (vP r 0) (Kz (vP r 1) (Lz (vU a.aa.ax) aP 5 D2 (Mz rfl (Mz rfl (Kz (.agg (iA 2 0 (10+(b.aI - 10)) 0 a.bA.dP 0 a.bA.bi a.aa.ax 0 0 0 0 0 0 0 false [] [] none 0 0 l a.bA.ai.ls.length f none 0 0).toArray) ?_)))))))))))))))
 have jZ:=aP.pf [2,3,4]
 obtain⟨fO,fQ⟩:∃ q,dM p0 (bW.mk 2 0 (10+(b.aI - 10)) 0 a.bA.dP 0 a.bA.bi a.aa.ax 0 0 0 0 0 0 0 false (aL.mk [] []) (E0 []) (E0 a.bA.ai.ls) (E0 []))=q:=⟨_,rfl⟩
 obtain⟨BK,kV,yu,kW,fT⟩:=Ja jZ
 refine cl P9 (gV _ _ g0 p0 aC aF au r (bW.mk 2 0 (10+(b.aI - 10)) 0 a.bA.dP 0 a.bA.bi a.aa.ax 0 0 0 0 0 0 0 false (aL.mk [] []) (E0 []) (E0 a.bA.ai.ls) (E0 [])) none 0 0 l a.bA.ai.ls.length f J none 0 0 fO kV ah rfl (λ _ _=>aY.nil _ _ _) f3 u rfl (fT _ 14 _ rfl aW) e6 (λ x9 h9=>⟨fT _ 15 _ rfl (az (Q6.2 ⟨x9,h9,b1⟩) aW),bq (φ:=λ _=>_) jZ (i:=18) rfl (az (Q6.2 ⟨x9,h9,b1⟩) bn)⟩) rfl (λ _ _=>aY.nil _ _ _) f3 e8 (by first | assumption | exact d9 f5 | exact λ x hx=>absurd hx v7 | exact d9 (Mk.nK f5).1 | exact d9 (Mk.mh f5).1 | exact d9 (Mk.nV f5).1 | exact d9 (Mk.nW f5).1 | exact d9 (Mk.nX f5).1) fQ) ?_
 rintro _ BL ⟨o7,o8,o9,rfl,kX,fU,fV⟩
 have j3:=kW _ _ kX
 have yw:=aA fU
 have yx:=zr 1 j3
 replace fV:fO.bF.ls.length=p0.bF.ls.length+1:=fV
 refine C4 (IL (res0 rfl) (nt (rt (tR (Fin.res (res0 rfl) ?_)))))
 have pg:=j3.px [] [3,4,23] []
 obtain⟨rfl,rfl⟩:=fD (zj hr zq9)
 exact⟨o7,o8,o9,S,T,U,V,W,X,N,O,F,G,P,Y,Q,R,j,d,I,l,f,J,n,g,K,p,h,L,rfl,pg,fU,M,B,C,E,s,u,y,z⟩
 refine jF (dF dI) (sk (rt (tR (Fin.res (res0 rfl) ?_))))
 have pq:=aP.px [] [0,1,23] []
 obtain⟨rfl,rfl⟩:=fD (zj hr zq8)
 exact⟨aC,aF,au,S,T,U,V,W,X,N,O,F,G,P,Y,Q,R,j,d,I,l,f,J,n,g,K,p,h,L,rfl,pq,ah,M,B,C,E,s,u,y,z⟩
 refine jF (dF cZ) (sk ?_)
 have fZ:=aP.px [] [23] []
 refine Il (Mz rfl (Lz (vI (b.aI - 10)) fZ 0 C2 (La (gK b av Z ax aa aB ag) fZ 1 N8 N9 ?_)))
 have pu:=fZ.pb [0,1]
 obtain⟨⟨j4,j5⟩,gm⟩:∃ q:bU × aD,dS p0 (b.aI - 10) b a=q:=⟨_,rfl⟩
 obtain⟨BM,kY,bY,kZ,yz⟩:=Jd pu
 refine cl R9 (jr _ _ g0 p0 aC aF au (b.aI - 10) b av b.aB.ls.length Z ax b.ah.ls.length aa bu aB b.ag.ls.length ag r a S T U V W X N O F G P Y Q R j d I l f J n g K p h L j4 j5 kY ah rfl (bY _ bf) e6 aU rfl (bY _ bg) e6 (λ x9 h9=>⟨bY _ (ai x9 h9).1,(ai x9 h9).2⟩) rfl (bY _ bi) e6 M B C E s u y z e8 e6 e8 gm) ?_
 rintro _ BN ⟨pz,pE,pF,pG,pI,pJ,pK,pM,pO,pQ,pR,pU,pV,pW,pX,pY,p8,p9,qa,qb,qc,qf,qg,qh,qi,qj,qm,qo,qw,rfl,lc,gp,gq,gu,gy,gz,gB,gD,gF,gG⟩
 have bC:=kZ _ _ lc
 have yA:=aA gp
 have yB:=aA gq
 have yC:=aA gu
 have yD:=aA gy
 have yE:=aA gz
 have yF:=aA gB
 have yG:=aA gD
 have yH:=aA gF
 have yI:=aA gG
 have yJ:=zr 1 bC
 have yK:=zr 4 bC
 have yL:=zr 5 bC
 have yM:=zr 7 bC
 have yN:=zr 9 bC
 have yO:=zr 11 bC
 have yP:=zr 13 bC
 have yQ:=zr 15 bC
 have yR:=zr 17 bC
 have yS:=zr 19 bC
 refine C4 (IL (res0 rfl) ?_)
 have qx:=bC.px [] [21,22] []
 obtain⟨rfl,rfl⟩:=fD (zj hr zq8)
 exact⟨pz,pE,pF,pG,pI,pJ,pK,pM,pO,pQ,pR,pU,pV,pW,pX,pY,p8,p9,qa,qb,qc,qf,qg,qh,qi,qj,qm,qo,qw,rfl,qx,gp,gq,gu,gy,gz,gB,gD,gF,gG⟩
 refine Sz aJ (Sz aJ (Sz aJ (Sz aJ (Sz aJ (fw (.bool false) (Io rfl aJ rfl) (nt (jf (sk ?_))))))))
 have gH:=aP.px [] [23] []
 refine Il (Mz rfl (Lz (vI (b.aI - 10)) gH 0 C2 (La (gK b av Z ax aa aB ag) gH 1 N8 N9 ?_)))
 have qy:=gH.pb [0,1]
 obtain⟨⟨j6,kg⟩,gI⟩:∃ q:bU × aD,dS p0 (b.aI - 10) b a=q:=⟨_,rfl⟩
 obtain⟨BO,lg,bZ,lh,yT⟩:=Jd qy
 refine cl R9 (jr _ _ g0 p0 aC aF au (b.aI - 10) b av b.aB.ls.length Z ax b.ah.ls.length aa bu aB b.ag.ls.length ag r a S T U V W X N O F G P Y Q R j d I l f J n g K p h L j6 kg lg ah rfl (bZ _ bf) e6 aU rfl (bZ _ bg) e6 (λ x9 h9=>⟨bZ _ (ai x9 h9).1,(ai x9 h9).2⟩) rfl (bZ _ bi) e6 M B C E s u y z e8 e6 e8 gI) ?_
 rintro _ BP ⟨qz,qA,qB,qC,qD,qE,qF,qG,qH,qI,qJ,qK,qL,qM,qN,qO,qP,qQ,qR,qU,qV,qW,qX,qY,qZ,q8,q9,rf,rq,rfl,ll,gJ,gL,gM,gN,gP,gQ,gT,gU,gW⟩
 have bD:=lh _ _ ll
 have yU:=aA gJ
 have yV:=aA gL
 have yX:=aA gM
 have yY:=aA gN
 have yZ:=aA gP
 have y5:=aA gQ
 have y7:=aA gT
 have y8:=aA gU
 have y9:=aA gW
 have za:=zr 1 bD
 have zb:=zr 4 bD
 have ze:=zr 5 bD
 have zf:=zr 7 bD
 have zg:=zr 9 bD
 have zh:=zr 11 bD
 have zi:=zr 13 bD
 have zk:=zr 15 bD
 have zl:=zr 17 bD
 have zm:=zr 19 bD
 refine C4 (IL (res0 rfl) ?_)
 have ru:=bD.px [] [21,22] []
 obtain⟨rfl,rfl⟩:=fD (zj hr zq7)
 exact⟨qz,qA,qB,qC,qD,qE,qF,qG,qH,qI,qJ,qK,qL,qM,qN,qO,qP,qQ,qR,qU,qV,qW,qX,qY,qZ,q8,q9,rf,rq,rfl,ru,gJ,gL,gM,gN,gP,gQ,gT,gU,gW⟩
 by_cases bO:b.aI - 10=3
 refine qt (v:=vP r 21) 7 rfl (λ _ _=>by rw [show b.aI - 10=3 from by omega]; exact yk) (qt (v:= .agg #[.bool a.bC.dB,vU a.bC.bi,vI a.bC.dP, .slice n a.bC.ai.ls.length g]) 8 rfl (λ _ ⟨_,H9⟩=>IB rfl (IJ (cs:= [.bool a.bC.dB,vU a.bC.bi,vI a.bC.dP, .slice n a.bC.ai.ls.length g]) R8 Q0 ((H9.cls (i:=5) rfl).lit (k:=21) (m:=4) rfl))) ?_)
 refine qd 9 rfl (Jb (cs:= [.bool false, .int .u64 0,vI 0, .slice none 0 0]) (t:=81) jI rfl rfl (λ _=>by kernel_rfl) ?_)
 intro bT BQ ry
 have ko:=ry.pb [0]
 refine⟨.inr ⟨_,ko⟩, ?_⟩
 have rz:=ko.pf [23]
 refine qe 10 rfl (Do.store (vs:= [.bool a.bC.dB,vU a.bC.bi,vI a.bC.dP, .slice n a.bC.ai.ls.length g]) (o:=0) rz rfl rfl Q0 rfl rfl rfl rfl ?_)
 intro BR rA
 have aQ:=rA.pb [0]
 refine⟨.inr ⟨_,aQ⟩, ?_⟩
 refine qn (Iq (sr (Kz (vP bT 0) (Lz (.bool a.bC.dB) aQ 23 N6 (Mz rfl ?_)))))
 rcases Ls (a.bC.dB) with aK | aK
 refine Gz (vP bT 1) aK (Gl (vU a.bC.bi) aK aQ 23 D2 (Gz (vP bR 6) aK (Gl (vU b.aU) aK aQ 1 D2 (Gz (.bool (decide ((a.bC.bi:Int) >= (b.aU:Int)))) aK (fw (.bool (decide ((a.bC.bi:Int) >= (b.aU:Int)))) (Iw rfl aK rfl) (nt ?_))))))
 by_cases dh:(a.bC.bi:Int) >= (b.aU:Int)
 refine jT (dT dh) (Ik (sr (Kz (vP bT 1) (Lz (vU a.bC.bi) aQ 23 D2 (Kz (vP bR 6) (Lz (vU b.aU) aQ 1 D2 (Kz (.bool (decide ((a.bC.bi:Int)=(b.aU:Int)))) (nt ?_))))))))
 by_cases dJ:(a.bC.bi:Int)=(b.aU:Int)
 refine jT (dT dJ) (Il (Mz rfl (Lz (vI (b.aI - 10)) aQ 0 C2 (Kz (vP bT 1) (Lz (vU a.bC.bi) aQ 23 D2 (Kz (vP bT 2) (Lz (vI a.bC.dP) aQ 23 C2 (Kz (vP bT 3) (Lz (.slice n a.bC.ai.ls.length g) aQ 23 E1 ?_)))))))))
 refine WL.do rfl (IP P7 rfl ?_ (λ _ _ k=>k))
 refine cb P8 ?_
 refine Il (Mz rfl (Mz rfl (fw (vI (10+(b.aI - 10))) (Ir (e:=C3.wrap (10+(b.aI - 10))) yk g1) (Mz rfl (Mz rfl (Kz (vP g0 0) (Kz (vP g0 0) (Lz (vP r 0) aQ 2 P6 (Kz (vP r 0) (Kz (vP r 0) (Kz (vP r 1) (Lz (vU a.aa.ax) aQ 5 D2 (Mz rfl (Mz rfl (Kz (.agg (iA 2 0 (10+(b.aI - 10)) 0 a.bC.dP 0 a.bC.bi a.aa.ax 0 0 0 0 0 0 0 false [] [] none 0 0 n a.bC.ai.ls.length g none 0 0).toArray) ?_)))))))))))))))
 have kr:=aQ.pf [2,3,4]
 obtain⟨gX,gY⟩:∃ q,dM p0 (bW.mk 2 0 (10+(b.aI - 10)) 0 a.bC.dP 0 a.bC.bi a.aa.ax 0 0 0 0 0 0 0 false (aL.mk [] []) (E0 []) (E0 a.bC.ai.ls) (E0 []))=q:=⟨_,rfl⟩
 obtain⟨BS,lm,zn,lq,gZ⟩:=Ja kr
 refine cl P9 (gV _ _ g0 p0 aC aF au r (bW.mk 2 0 (10+(b.aI - 10)) 0 a.bC.dP 0 a.bC.bi a.aa.ax 0 0 0 0 0 0 0 false (aL.mk [] []) (E0 []) (E0 a.bC.ai.ls) (E0 [])) none 0 0 n a.bC.ai.ls.length g K none 0 0 gX lm ah rfl (λ _ _=>aY.nil _ _ _) f3 y rfl (gZ _ 16 _ rfl aW) e6 (λ x9 h9=>⟨gZ _ 17 _ rfl (az (Q6.2 ⟨x9,h9,b1⟩) aW),bq (φ:=λ _=>_) kr (i:=20) rfl (az (Q6.2 ⟨x9,h9,b1⟩) bn)⟩) rfl (λ _ _=>aY.nil _ _ _) f3 e8 (by first | assumption | exact d9 f5 | exact λ x hx=>absurd hx v7 | exact d9 (Mk.nK f5).1 | exact d9 (Mk.mh f5).1 | exact d9 (Mk.nV f5).1 | exact d9 (Mk.nW f5).1 | exact d9 (Mk.nX f5).1) gY) ?_
 rintro _ BU ⟨rC,rD,rE,rfl,lu,ib,ic⟩
 have ku:=lq _ _ lu
 have zo:=aA ib
 have zq:=zr 1 ku
 replace ic:gX.bF.ls.length=p0.bF.ls.length+1:=ic
 refine C4 (IL (res0 rfl) (nt (rt (tR (Fin.res (res0 rfl) ?_)))))
 have rF:=ku.px [] [3,4,23] []
 obtain⟨rfl,rfl⟩:=fD (zj hr zq10)
 exact⟨rC,rD,rE,S,T,U,V,W,X,N,O,F,G,P,Y,Q,R,j,d,I,l,f,J,n,g,K,p,h,L,rfl,rF,ib,M,B,C,E,s,u,y,z⟩
 refine jF (dF dJ) (sk (rt (tR (Fin.res (res0 rfl) ?_))))
 have rG:=aQ.px [] [0,1,23] []
 obtain⟨rfl,rfl⟩:=fD (zj hr zq9)
 exact⟨aC,aF,au,S,T,U,V,W,X,N,O,F,G,P,Y,Q,R,j,d,I,l,f,J,n,g,K,p,h,L,rfl,rG,ah,M,B,C,E,s,u,y,z⟩
 refine jF (dF dh) (sk ?_)
 have ig:=aQ.px [] [23] []
 refine Il (Mz rfl (Lz (vI (b.aI - 10)) ig 0 C2 (La (gK b av Z ax aa aB ag) ig 1 N8 N9 ?_)))
 have rH:=ig.pb [0,1]
 obtain⟨⟨kv,kw⟩,ik⟩:∃ q:bU × aD,dS p0 (b.aI - 10) b a=q:=⟨_,rfl⟩
 obtain⟨BV,lv,cu,lw,zt⟩:=Jd rH
 refine cl R9 (jr _ _ g0 p0 aC aF au (b.aI - 10) b av b.aB.ls.length Z ax b.ah.ls.length aa bu aB b.ag.ls.length ag r a S T U V W X N O F G P Y Q R j d I l f J n g K p h L kv kw lv ah rfl (cu _ bf) e6 aU rfl (cu _ bg) e6 (λ x9 h9=>⟨cu _ (ai x9 h9).1,(ai x9 h9).2⟩) rfl (cu _ bi) e6 M B C E s u y z e8 e6 e8 ik) ?_
 rintro _ BX ⟨rJ,rM,rO,rP,rQ,rR,rT,rU,rV,rW,rX,rY,rZ,r9,si,sj,su,sw,sD,sF,sG,sH,sI,sJ,sK,sM,sN,sO,sP,rfl,lC,il,iq,iw,iy,iB,iC,iD,iE,iF⟩
 have bE:=lw _ _ lC
 have zu:=aA il
 have zw:=aA iq
 have zx:=aA iw
 have zy:=aA iy
 have zz:=aA iB
 have zA:=aA iC
 have zB:=aA iD
 have zC:=aA iE
 have zD:=aA iF
 have zF:=zr 1 bE
 have zG:=zr 4 bE
 have zH:=zr 5 bE
 have zI:=zr 7 bE
 have zJ:=zr 9 bE
 have zK:=zr 11 bE
 have zL:=zr 13 bE
 have zM:=zr 15 bE
 have zN:=zr 17 bE
 have zO:=zr 19 bE
 refine C4 (IL (res0 rfl) ?_)
 have sQ:=bE.px [] [21,22] []
 obtain⟨rfl,rfl⟩:=fD (zj hr zq9)
 exact⟨rJ,rM,rO,rP,rQ,rR,rT,rU,rV,rW,rX,rY,rZ,r9,si,sj,su,sw,sD,sF,sG,sH,sI,sJ,sK,sM,sN,sO,sP,rfl,sQ,il,iq,iw,iy,iB,iC,iD,iE,iF⟩
 refine Sz aK (Sz aK (Sz aK (Sz aK (Sz aK (fw (.bool false) (Io rfl aK rfl) (nt (jf (sk ?_))))))))
 have iG:=aQ.px [] [23] []
 refine Il (Mz rfl (Lz (vI (b.aI - 10)) iG 0 C2 (La (gK b av Z ax aa aB ag) iG 1 N8 N9 ?_)))
 have sS:=iG.pb [0,1]
 obtain⟨⟨ky,kz⟩,iH⟩:∃ q:bU × aD,dS p0 (b.aI - 10) b a=q:=⟨_,rfl⟩
 obtain⟨BZ,lD,cz,lF,zP⟩:=Jd sS
 refine cl R9 (jr _ _ g0 p0 aC aF au (b.aI - 10) b av b.aB.ls.length Z ax b.ah.ls.length aa bu aB b.ag.ls.length ag r a S T U V W X N O F G P Y Q R j d I l f J n g K p h L ky kz lD ah rfl (cz _ bf) e6 aU rfl (cz _ bg) e6 (λ x9 h9=>⟨cz _ (ai x9 h9).1,(ai x9 h9).2⟩) rfl (cz _ bi) e6 M B C E s u y z e8 e6 e8 iH) ?_
 rintro _ Ca ⟨sU,sV,sW,sZ,tq,tu,tC,tF,tH,tJ,tK,tL,tN,tO,tQ,tT,tV,tX,tY,tZ,uf,ug,uh,ui,uj,uk,ul,um,uq,rfl,lG,iI,iJ,iK,iL,iM,iO,iP,iQ,iR⟩
 have bF:=lF _ _ lG
 have zQ:=aA iI
 have zR:=aA iJ
 have zS:=aA iK
 have zT:=aA iL
 have zU:=aA iM
 have zV:=aA iO
 have zW:=aA iP
 have zX:=aA iQ
 have zY:=aA iR
 have zZ:=zr 1 bF
 have z8:=zr 4 bF
 have Aa:=zr 5 bF
 have Ab:=zr 7 bF
 have Ac:=zr 9 bF
 have Ad:=zr 11 bF
 have Ae:=zr 13 bF
 have Af:=zr 15 bF
 have Ag:=zr 17 bF
 have Ah:=zr 19 bF
 refine C4 (IL (res0 rfl) ?_)
 have ut:=bF.px [] [21,22] []
 obtain⟨rfl,rfl⟩:=fD (zj hr zq8)
 exact⟨sU,sV,sW,sZ,tq,tu,tC,tF,tH,tJ,tK,tL,tN,tO,tQ,tT,tV,tX,tY,tZ,uf,ug,uh,ui,uj,uk,ul,um,uq,rfl,ut,iI,iJ,iK,iL,iM,iO,iP,iQ,iR⟩
 refine qt (v:=vP r 25) 7 rfl (λ _ _=>by rw [show b.aI - 10=4 from by omega]; exact yk) (qt (v:= .agg #[.bool a.bB.dB,vU a.bB.bi,vI a.bB.dP, .slice p a.bB.ai.ls.length h]) 8 rfl (λ _ ⟨_,H9⟩=>IB rfl (IJ (cs:= [.bool a.bB.dB,vU a.bB.bi,vI a.bB.dP, .slice p a.bB.ai.ls.length h]) R8 Q0 ((H9.cls (i:=5) rfl).lit (k:=25) (m:=4) rfl))) ?_)
 refine qd 9 rfl (Jb (cs:= [.bool false, .int .u64 0,vI 0, .slice none 0 0]) (t:=81) jI rfl rfl (λ _=>by kernel_rfl) ?_)
 intro bV Cb uu
 have kC:=uu.pb [0]
 refine⟨.inr ⟨_,kC⟩, ?_⟩
 have uw:=kC.pf [23]
 refine qe 10 rfl (Do.store (vs:= [.bool a.bB.dB,vU a.bB.bi,vI a.bB.dP, .slice p a.bB.ai.ls.length h]) (o:=0) uw rfl rfl Q0 rfl rfl rfl rfl ?_)
 intro Cc uy
 have aR:=uy.pb [0]
 refine⟨.inr ⟨_,aR⟩, ?_⟩
 refine qn (Iq (sr (Kz (vP bV 0) (Lz (.bool a.bB.dB) aR 23 N6 (Mz rfl ?_)))))
 rcases Ls (a.bB.dB) with aO | aO
 refine Gz (vP bV 1) aO (Gl (vU a.bB.bi) aO aR 23 D2 (Gz (vP bR 6) aO (Gl (vU b.aU) aO aR 1 D2 (Gz (.bool (decide ((a.bB.bi:Int) >= (b.aU:Int)))) aO (fw (.bool (decide ((a.bB.bi:Int) >= (b.aU:Int)))) (Iw rfl aO rfl) (nt ?_))))))
 by_cases di:(a.bB.bi:Int) >= (b.aU:Int)
 refine jT (dT di) (Ik (sr (Kz (vP bV 1) (Lz (vU a.bB.bi) aR 23 D2 (Kz (vP bR 6) (Lz (vU b.aU) aR 1 D2 (Kz (.bool (decide ((a.bB.bi:Int)=(b.aU:Int)))) (nt ?_))))))))
 by_cases dK:(a.bB.bi:Int)=(b.aU:Int)
 refine jT (dT dK) (Il (Mz rfl (Lz (vI (b.aI - 10)) aR 0 C2 (Kz (vP bV 1) (Lz (vU a.bB.bi) aR 23 D2 (Kz (vP bV 2) (Lz (vI a.bB.dP) aR 23 C2 (Kz (vP bV 3) (Lz (.slice p a.bB.ai.ls.length h) aR 23 E1 ?_)))))))))
 refine WL.do rfl (IP P7 rfl ?_ (λ _ _ k=>k))
 refine cb P8 ?_
 refine Il (Mz rfl (Mz rfl (fw (vI (10+(b.aI - 10))) (Ir (e:=C3.wrap (10+(b.aI - 10))) yk g1) (Mz rfl (Mz rfl (Kz (vP g0 0) (Kz (vP g0 0) (Lz (vP r 0) aR 2 P6 (Kz (vP r 0) (Kz (vP r 0) (Kz (vP r 1) (Lz (vU a.aa.ax) aR 5 D2 (Mz rfl (Mz rfl (Kz (.agg (iA 2 0 (10+(b.aI - 10)) 0 a.bB.dP 0 a.bB.bi a.aa.ax 0 0 0 0 0 0 0 false [] [] none 0 0 p a.bB.ai.ls.length h none 0 0).toArray) ?_)))))))))))))))
 have kD:=aR.pf [2,3,4]
 obtain⟨iT,iV⟩:∃ q,dM p0 (bW.mk 2 0 (10+(b.aI - 10)) 0 a.bB.dP 0 a.bB.bi a.aa.ax 0 0 0 0 0 0 0 false (aL.mk [] []) (E0 []) (E0 a.bB.ai.ls) (E0 []))=q:=⟨_,rfl⟩
 obtain⟨Ce,lH,Ai,lI,iW⟩:=Ja kD
 refine cl P9 (gV _ _ g0 p0 aC aF au r (bW.mk 2 0 (10+(b.aI - 10)) 0 a.bB.dP 0 a.bB.bi a.aa.ax 0 0 0 0 0 0 0 false (aL.mk [] []) (E0 []) (E0 a.bB.ai.ls) (E0 [])) none 0 0 p a.bB.ai.ls.length h L none 0 0 iT lH ah rfl (λ _ _=>aY.nil _ _ _) f3 z rfl (iW _ 18 _ rfl aW) e6 (λ x9 h9=>⟨iW _ 19 _ rfl (az (Q6.2 ⟨x9,h9,b1⟩) aW),bq (φ:=λ _=>_) kD (i:=22) rfl (az (Q6.2 ⟨x9,h9,b1⟩) bn)⟩) rfl (λ _ _=>aY.nil _ _ _) f3 e8 (by first | assumption | exact d9 f5 | exact λ x hx=>absurd hx v7 | exact d9 (Mk.nK f5).1 | exact d9 (Mk.mh f5).1 | exact d9 (Mk.nV f5).1 | exact d9 (Mk.nW f5).1 | exact d9 (Mk.nX f5).1) iV) ?_
 rintro _ Cf ⟨uz,uA,uB,rfl,lJ,iX,iY⟩
 have kE:=lI _ _ lJ
 have Aj:=aA iX
 have Ak:=zr 1 kE
 replace iY:iT.bF.ls.length=p0.bF.ls.length+1:=iY
 refine C4 (IL (res0 rfl) (nt (rt (tR (Fin.res (res0 rfl) ?_)))))
 have uC:=kE.px [] [3,4,23] []
 obtain⟨rfl,rfl⟩:=fD (zj hr zq10)
 exact⟨uz,uA,uB,S,T,U,V,W,X,N,O,F,G,P,Y,Q,R,j,d,I,l,f,J,n,g,K,p,h,L,rfl,uC,iX,M,B,C,E,s,u,y,z⟩
 refine jF (dF dK) (sk (rt (tR (Fin.res (res0 rfl) ?_))))
 have uD:=aR.px [] [0,1,23] []
 obtain⟨rfl,rfl⟩:=fD (zj hr zq9)
 exact⟨aC,aF,au,S,T,U,V,W,X,N,O,F,G,P,Y,Q,R,j,d,I,l,f,J,n,g,K,p,h,L,rfl,uD,ah,M,B,C,E,s,u,y,z⟩
 refine jF (dF di) (sk ?_)
 have iZ:=aR.px [] [23] []
 refine Il (Mz rfl (Lz (vI (b.aI - 10)) iZ 0 C2 (La (gK b av Z ax aa aB ag) iZ 1 N8 N9 ?_)))
 have uE:=iZ.pb [0,1]
 obtain⟨⟨kF,kG⟩,ja⟩:∃ q:bU × aD,dS p0 (b.aI - 10) b a=q:=⟨_,rfl⟩
 obtain⟨Cg,lL,cB,lM,Al⟩:=Jd uE
 refine cl R9 (jr _ _ g0 p0 aC aF au (b.aI - 10) b av b.aB.ls.length Z ax b.ah.ls.length aa bu aB b.ag.ls.length ag r a S T U V W X N O F G P Y Q R j d I l f J n g K p h L kF kG lL ah rfl (cB _ bf) e6 aU rfl (cB _ bg) e6 (λ x9 h9=>⟨cB _ (ai x9 h9).1,(ai x9 h9).2⟩) rfl (cB _ bi) e6 M B C E s u y z e8 e6 e8 ja) ?_
 rintro _ Ch ⟨uF,uG,uI,uJ,uK,uL,uM,uN,uO,uP,uQ,uR,uS,uT,uU,uV,uW,uX,uY,uZ,u6,u7,ve,vg,vk,vo,vv,vw,vz,rfl,lN,jb,jc,jd,je,jg,jh,ji,jk,jl⟩
 have bG:=lM _ _ lN
 have Am:=aA jb
 have Ao:=aA jc
 have Ap:=aA jd
 have Aq:=aA je
 have Ar:=aA jg
 have Au:=aA jh
 have Av:=aA ji
 have Aw:=aA jk
 have Ay:=aA jl
 have Az:=zr 1 bG
 have AA:=zr 4 bG
 have AB:=zr 5 bG
 have AC:=zr 7 bG
 have AJ:=zr 9 bG
 have AL:=zr 11 bG
 have AO:=zr 13 bG
 have AP:=zr 15 bG
 have AQ:=zr 17 bG
 have AR:=zr 19 bG
 refine C4 (IL (res0 rfl) ?_)
 have vB:=bG.px [] [21,22] []
 obtain⟨rfl,rfl⟩:=fD (zj hr zq9)
 exact⟨uF,uG,uI,uJ,uK,uL,uM,uN,uO,uP,uQ,uR,uS,uT,uU,uV,uW,uX,uY,uZ,u6,u7,ve,vg,vk,vo,vv,vw,vz,rfl,vB,jb,jc,jd,je,jg,jh,ji,jk,jl⟩
 refine Sz aO (Sz aO (Sz aO (Sz aO (Sz aO (fw (.bool false) (Io rfl aO rfl) (nt (jf (sk ?_))))))))
 have jm:=aR.px [] [23] []
 refine Il (Mz rfl (Lz (vI (b.aI - 10)) jm 0 C2 (La (gK b av Z ax aa aB ag) jm 1 N8 N9 ?_)))
 have vC:=jm.pb [0,1]
 obtain⟨⟨kH,kI⟩,jo⟩:∃ q:bU × aD,dS p0 (b.aI - 10) b a=q:=⟨_,rfl⟩
 obtain⟨Ci,lQ,cK,lS,AU⟩:=Jd vC
 refine cl R9 (jr _ _ g0 p0 aC aF au (b.aI - 10) b av b.aB.ls.length Z ax b.ah.ls.length aa bu aB b.ag.ls.length ag r a S T U V W X N O F G P Y Q R j d I l f J n g K p h L kH kI lQ ah rfl (cK _ bf) e6 aU rfl (cK _ bg) e6 (λ x9 h9=>⟨cK _ (ai x9 h9).1,(ai x9 h9).2⟩) rfl (cK _ bi) e6 M B C E s u y z e8 e6 e8 jo) ?_
 rintro _ Cj ⟨vD,vE,vF,vG,vH,vJ,vK,vL,vM,vN,vO,vQ,vR,vS,vT,vV,vW,vX,vY,vZ,wh,wm,wo,wu,ww,wy,wz,wB,wC,rfl,lT,jq,jv,jw,jy,jA,jB,jC,jD,jE⟩
 have bH:=lS _ _ lT
 have AV:=aA jq
 have AX:=aA jv
 have AY:=aA jw
 have AZ:=aA jy
 have A7:=aA jA
 have A8:=aA jB
 have A9:=aA jC
 have Ba:=aA jD
 have Bb:=aA jE
 have Bc:=zr 1 bH
 have Bd:=zr 4 bH
 have Be:=zr 5 bH
 have Bf:=zr 7 bH
 have Bg:=zr 9 bH
 have Bh:=zr 11 bH
 have Bi:=zr 13 bH
 have Bj:=zr 15 bH
 have Bl:=zr 17 bH
 have Bn:=zr 19 bH
 refine C4 (IL (res0 rfl) ?_)
 have wD:=bH.px [] [21,22] []
 obtain⟨rfl,rfl⟩:=fD (zj hr zq8)
 exact⟨vD,vE,vF,vG,vH,vJ,vK,vL,vM,vN,vO,vQ,vR,vS,vT,vV,vW,vX,vY,vZ,wh,wm,wo,wu,ww,wy,wz,wB,wC,rfl,wD,jq,jv,jw,jy,jA,jB,jC,jD,jE⟩
 refine jT (dT aV) (sr (Mz rfl (Lz (vI (b.aI - 10)) bM 0 C2 (La (gK b av Z ax aa aB ag) bM 1 N8 N9 ?_))))
 have aT:=bM.pf [2,3,4,5]
 have Bo:=zr 9 aT
 have Bp:=zr 13 aT
 have Bq:=zr 15 aT
 have Br:=zr 17 aT
 have Bt:=zr 19 aT
 have Bu:=zr 21 aT
 obtain⟨kJ,jG⟩:∃ q,lK p0 (b.aI - 10) b a=q:=⟨_,rfl⟩
 obtain⟨Ck,lU,cO,lV,aI⟩:=Jf aT
 refine cl Tryz.call86 (uo _ _ g0 p0 aC aF au (b.aI - 10) b av b.aB.ls.length Z ax b.ah.ls.length aa bu aB b.ag.ls.length ag r a S T U V X N O F G Y Q R j d I l f J n g K p h L kJ lU ah rfl (cO _ bf) e6 aU rfl (cO _ bg) e6 (λ x9 h9=>⟨cO _ (ai x9 h9).1,(ai x9 h9).2⟩) rfl (cO _ bi) e6 B (aI _ 5 _ rfl aW) e6 (λ x9 h9=>⟨aI _ 6 _ rfl (az (Q6.2 ⟨x9,h9,b1⟩) aW),bq (φ:=λ _=>_) aT (i:=10) rfl (az (Q6.2 ⟨x9,h9,b1⟩) bn),(λ y1 k1=>⟨aI _ 6 _ rfl (az (Q6.2 ⟨x9,h9, .tail _ b1⟩) (az (Q6.2 ⟨y1,k1,b1⟩) aW)),bq (φ:=λ _=>_) aT (i:=10) rfl (az (Q6.2 ⟨x9,h9, .tail _ b1⟩) (az (Q6.2 ⟨y1,k1,b1⟩) bn))⟩)⟩) E (aI _ 9 _ rfl aW) e6 (λ x9 h9=>⟨aI _ 10 _ rfl (az (Q6.2 ⟨x9,h9,b1⟩) aW),bq (φ:=λ _=>_) aT (i:=14) rfl (az (Q6.2 ⟨x9,h9,b1⟩) bn)⟩) s (aI _ 11 _ rfl aW) e6 (λ x9 h9=>⟨aI _ 12 _ rfl (az (Q6.2 ⟨x9,h9,b1⟩) aW),bq (φ:=λ _=>_) aT (i:=16) rfl (az (Q6.2 ⟨x9,h9,b1⟩) bn)⟩) u (aI _ 13 _ rfl aW) e6 (λ x9 h9=>⟨aI _ 14 _ rfl (az (Q6.2 ⟨x9,h9,b1⟩) aW),bq (φ:=λ _=>_) aT (i:=18) rfl (az (Q6.2 ⟨x9,h9,b1⟩) bn)⟩) y (aI _ 15 _ rfl aW) e6 (λ x9 h9=>⟨aI _ 16 _ rfl (az (Q6.2 ⟨x9,h9,b1⟩) aW),bq (φ:=λ _=>_) aT (i:=20) rfl (az (Q6.2 ⟨x9,h9,b1⟩) bn)⟩) z (aI _ 17 _ rfl aW) e6 (λ x9 h9=>⟨aI _ 18 _ rfl (az (Q6.2 ⟨x9,h9,b1⟩) aW),bq (φ:=λ _=>_) aT (i:=22) rfl (az (Q6.2 ⟨x9,h9,b1⟩) bn)⟩) e8 f5 jG) ?_
 rintro _ Cm ⟨wE,wF,wG,rfl,lW,jH⟩
 have kK:=lV _ _ lW
 have Bv:=aA jH
 have Bw:=zr 1 kK
 refine nt (rt (tR (Fin.res (res0 rfl) ?_)))
 have wH:=kK.px [] [4,5] []
 obtain⟨rfl,rfl⟩:=fD (zj hr zq2)
 exact⟨wE,wF,wG,S,T,U,V,W,X,N,O,F,G,P,Y,Q,R,j,d,I,l,f,J,n,g,K,p,h,L,rfl,wH,jH,M,B,C,E,s,u,y,z⟩
end
open Int renaming toNat->C6,toNat_natCast->L4
open List renaming Pairwise->S0,Sublist->S6,append_assoc->q5,append_nil->s6,drop->r4,getD->B8,getD_eq_getElem?_getD->L7,getElem?_eq_getElem->p7,getElem_map->S9,length->s0,length_append->o2,length_cons->s1,length_drop->o1,length_set->G4,length_take->o0,map_append->v2,map_drop->S8,map_take->S7,mem_append->v3,mem_cons->u2,mem_of_mem_drop->S5,mem_of_mem_take->F0,mem_or_eq_of_mem_set->O3,mem_singleton->m5,pairwise_append->S4,pairwise_cons->S2,set->I3,set_eq_of_length_le->T2,set_getElem_self->T1,take->r3
open Nat renaming le_refl->o4,le_succ->T0,le_trans->L8,min_le_right->S1,succ_le_succ->S3
def Lw:Nat->Nat->List bW->Prop
  | a,b, []=>a<=b
  | a,b,x::r=>if x.av=3 then a<=x.eQ/\x.eQ<=x.aX/\Lw x.eQ b r else Lw a b r
theorem Lw.app {b c:Nat} {r:List bW} (d:Lw b c r):∀ {l:List bW} {a:Nat},Lw a b l->Lw a c (l++r)
  | [],a,h=>by
    revert a
    induction r generalizing b with
    | nil=>exact λ a h=>L8 h d
    | cons x r ih=>
      intro a h
      simp only [List.nil_append,Lw] at h d ⊢
      by_cases e:x.av=3
      . rw [if_pos e] at d ⊢; exact⟨L8 h d.1,d.2⟩
      . rw [if_neg e] at d ⊢; exact ih d a h
  | x::l,a,h=>by
    simp only [List.cons_append,Lw] at h ⊢
    by_cases e:x.av=3
    . rw [if_pos e] at h ⊢; exact⟨h.1,h.2.1,Lw.app d h.2.2⟩
    . rw [if_neg e] at h ⊢; exact Lw.app d h
theorem Kt {a b:Nat} (hab:a<=b):∀ {l:List bW},(∀ x ∈ l,x.av≠3)->Lw a b l
  | [],_=>hab
  | x::l,h=>by unfold Lw; rw [if_neg (h x b1)]; exact Kt hab λ y hy=>h y (.tail _ hy)
def hdN (n:Nat):List Nat->Nat
  | []=>n
  | x::_=>min n x
def sw (b g:Nat) (A D:List Nat):Nat:=hdN (hdN (b *4294967296+g+1) A) D
structure Iv (k b g:Nat) (A D:List Nat):Prop where
  bt:b < 2147483648
  bg:g<=k
  sA:S0 (· <= ·) A
  sD:S0 (· <= ·) D
  lA:∀ x ∈ A,x<=b *4294967296+g
  lD:∀ x ∈ D,x<=b *4294967296+g
theorem AL (n:Nat) (l:List Nat):hdN n l<=n:=by cases l with
  | nil=>exact o4 _
  | cons x l=>exact Nat.min_le_left _ _
theorem BQ {n:Nat} {l:List Nat} (h:S0 (· <= ·) l):∀ x ∈ l,hdN n l<=x:=by cases l with
  | nil=>intro x hx; cases hx
  | cons y l=>
    intro x hx
    refine L8 (S1 _ _) ?_
    rcases u2.1 hx with rfl | hx
    . exact o4 _
    . exact(S2.1 h).1 x hx
theorem Dt {a n:Nat} {l:List Nat} (h:a<=n) (hl:∀ x ∈ l,a<=x):a<=hdN n l:=by cases l with
  | nil=>exact h
  | cons y l=>exact Nat.le_min.2 ⟨h,hl y b1⟩
section
variable {k b g:Nat} {A D:List Nat}
theorem Iv.le (h:Iv k b g A D):(∀ x ∈ A,sw b g A D<=x)/\(∀ x ∈ D,sw b g A D<=x)/\sw b g A D<=b *4294967296+g+1:=
  ⟨λ x hx=>L8 (AL _ _) (BQ h.sA x hx),BQ h.sD,L8 (AL _ _) (AL _ _)⟩
theorem zG {a:Nat} (h:a<=b *4294967296+g+1) (hA:∀ x ∈ A,a<=x) (hD:∀ x ∈ D,a<=x):a<=sw b g A D:=Dt (Dt h hA) hD
theorem Iv.mono {j:Nat} (h:Iv k b g A D) (hj:k<=j):Iv j b g A D:=⟨h.bt,L8 h.bg hj,h.sA,h.sD,h.lA,h.lD⟩
theorem Iv.sub {A' D':List Nat} (h:Iv k b g A D) (hA:A'.Sublist A) (hD:D'.Sublist D):Iv k b g A' D'/\sw b g A D<=sw b g A' D':=
  ⟨⟨h.bt,h.bg,h.sA.sublist hA,h.sD.sublist hD,λ x hx=>h.lA x (hA.subset hx),λ x hx=>h.lD x (hD.subset hx)⟩,zG h.le.2.2 (λ x hx=>h.le.1 x (hA.subset hx)) (λ x hx=>h.le.2.1 x (hD.subset hx))⟩
theorem Iv.more (h:Iv k b g A D):Iv (k+1) b (g+1) (A++ [b *4294967296+g+1]) D/\Iv (k+1) b (g+1) A D/\sw b g A D<=sw b (g+1) (A++ [b *4294967296+g+1]) D/\sw b g A D<=sw b (g+1) A D:=by
  have hle:=h.le
  refine⟨⟨h.bt,S3 h.bg,S4.2 ⟨h.sA,List.pairwise_singleton _ _,λ x hx y hy=> ?_⟩,h.sD,λ x hx=> ?_,λ x hx=>L8 (h.lD x hx) e6⟩,⟨h.bt,S3 h.bg,h.sA,h.sD,λ x hx=>L8 (h.lA x hx) e6,λ x hx=>L8 (h.lD x hx) e6⟩,zG e6 (λ x hx=> ?_) hle.2.1,zG e6 hle.1 hle.2.1⟩
  . have a:=h.lA x hx; have c:=m5.1 hy; omega
  . rcases v3.1 hx with a | a
    . have:=h.lA x a; omega
    . have:=m5.1 a; omega
  . rcases v3.1 hx with a | a
    . exact hle.1 x a
    . rw [m5.1 a]; exact hle.2.2
theorem Iv.ins {i n:Nat} (h:Iv k b g A D) (hn:n<=b *4294967296+g) (c:∀ x ∈ D.take i,x<=n) (d:∀ x ∈ D.drop i,n<=x) (hl:sw b g A D<=n) (A':List Nat) (hA:A'.Sublist A):Iv k b g A' (D.take i++n::D.drop i)/\sw b g A D<=sw b g A' (D.take i++n::D.drop i):=by
  have hm:∀ x ∈ D.take i++n::D.drop i,x=n\/x ∈ D:=λ x hx=>by
    rcases v3.1 hx with a | a
    . exact .inr (F0 a)
    . rcases u2.1 a with a | a
      . exact .inl a
      . exact .inr (S5 a)
  refine⟨⟨h.bt,h.bg,h.sA.sublist hA,S4.2 ⟨h.sD.sublist (List.take_sublist _ _),S2.2 ⟨d,h.sD.sublist (List.drop_sublist _ _)⟩,λ x hx y hy=> ?_⟩,λ x hx=>h.lA x (hA.subset hx),λ x hx=> ?_⟩,zG h.le.2.2 (λ x hx=>h.le.1 x (hA.subset hx)) (λ x hx=> ?_)⟩
  . rcases u2.1 hy with rfl | hy
    . exact c x hx
    . exact L8 (c x hx) (d y hy)
  . rcases hm x hx with rfl | a
    . exact hn
    . exact h.lD x a
  . rcases hm x hx with rfl | a
    . exact hl
    . exact h.le.2.1 x a
end
def nA (m:aD):List Nat:=s5 ed.bI m.aC.ls
def nD (m:aD):List Nat:=s5 bH.aX m.aa.ak.ls
def lo (m:aD):Nat:=sw m.aa.ax m.bT (nA m) (nD m)
def Im (k:Nat) (m:aD):Prop:=k<=1000000/\Iv k m.aa.ax m.bT (nA m) (nD m)
theorem ze {k:Nat} {m:aD} (h:Im k m):gu m=m.aa.ax *4294967296+m.bT+1:=by
  have d:=h.2.bt
  have e:=h.2.bg
  have f:=h.1
  have a:fQ m.aa.ax 32=m.aa.ax *4294967296:=by unfold fQ; rw [show min 32 64=32 from rfl,show ((2:Int) ^ 32)=4294967296 from rfl,IntWalk.u64_in _ e6]; omega
  have c:IntKind.u64.wrap (((m.aa.ax *4294967296:Nat):Int)+(m.bT:Int))=((m.aa.ax *4294967296+m.bT:Nat):Int):=by rw [IntWalk.u64_in _ e6]; omega
  unfold gu
  rw [a,c,L4,IntWalk.u64_in _ e6]
  omega
theorem BR {α:Type} [Inhabited α] (f:α->Nat) (N:Nat) (A:List α):(if((s0 A:Nat):Int) > 0 then bnd (B8 A 0 default) λ y=>min N (f y) else N)=hdN N (s5 f A):=by
  cases A with
  | nil=>exact if_neg (by simp only [List.length_nil]; omega)
  | cons a A=>exact if_pos (by simp only [s1]; omega)
def Ei (N:Nat) (a:aD):Nat:=bnd N λ y=>bnd (if((s0 a.aC.ls:Nat):Int) > 0 then bnd (B8 a.aC.ls 0 default) λ x=>min y x.bI else y) λ s=>if((s0 a.aa.ak.ls:Nat):Int) > 0 then bnd (B8 a.aa.ak.ls 0 default) λ x=>min s x.aX else s
theorem BS (N:Nat) (m:aD):Ei N m=hdN (hdN N (nA m)) (nD m):=(BR bH.aX _ _).trans (congrArg (λ q=>hdN q (nD m)) (BR ed.bI _ _))
theorem zf (m:aD):gQ m=Ei (gu m) m:=by unfold gQ Ei; exact Eq.refl _
theorem Ej {k:Nat} {m:aD} (h:Im k m):gQ m=lo m:=by rw [zf,ze h,BS]; rfl
structure Tr (j:Nat) (p:bU) (m:aD) (t:bU) (m':aD):Prop where
  own:m'.aa.ag.ls=m.aa.ag.ls
  sh:m'.aa.au=m.aa.au
  ad:s0 m.aC.ls+s0 m.aa.ak.ls<=8->s0 m'.aC.ls+s0 m'.aa.ak.ls<=8
  la:s0 m'.aa.aK.ls<=s0 m.aa.aK.ls+j
  lw:∀ k,Im (k+j) m->k+j<=1000000->Im k m->Im (k+j) m'/\∃ o,t.bF.ls=p.bF.ls++o/\Lw (lo m) (lo m') o
theorem Tr.same (p:bU) (m:aD):Tr 0 p m p m:=⟨rfl,rfl,id,o4 _,λ k h _ _=>⟨h, [],(s6 _).symm,o4 _⟩⟩
theorem Im.mono {k j:Nat} {m:aD} (h:Im k m) (hj:k<=j) (hl:j<=1000000):Im j m:=⟨hl,h.2.mono hj⟩
theorem Tr.trans {i j:Nat} {p t u:bU} {m d e:aD} (a:Tr i p m t d) (c:Tr j t d u e):Tr (i+j) p m u e:=
  ⟨c.own.trans a.own,c.sh.trans a.sh,λ h=>c.ad (a.ad h),by have:=a.la; have:=c.la; omega,λ k _ hl hk=>by
    obtain⟨f,l,n,o⟩:=a.lw k (hk.mono e6 e6) e6 hk
    obtain⟨q,r,s,v⟩:=c.lw (k+i) (f.mono e6 e6) e6 f
    exact⟨Nat.add_assoc k i j ▸ q,l++r,by rw [s,n,q5],v.app o⟩⟩
theorem Tr.one {p t:bU} {m m':aD} (h:Tr 0 p m t m'):Tr 1 p m t m':=⟨h.own,h.sh,h.ad,Nat.le_succ_of_le h.la,λ k _ hl hk=>by
  obtain⟨a,c,d,e⟩:=h.lw k hk e6 hk
  exact⟨a.mono e6 hl,c,d,e⟩⟩
theorem JY {p t:bU} {m m':aD} {o:List bW} (hs:m'.aa=m.aa) (ha:nA m'=nA m) (hb:m'.bT=m.bT) (ho:t.bF.ls=p.bF.ls++o) (hk:∀ x ∈ o,x.av≠3):Tr 0 p m t m':=by
  have hl:s0 m'.aC.ls=s0 m.aC.ls:=by have:=congrArg s0 ha; simp only [nA,s3] at this; exact this
  have e:lo m'=lo m:=by unfold lo nD; rw [hs,ha,hb]
  refine⟨by rw [hs],by rw [hs],by rw [hs,hl]; exact id,by rw [hs]; exact o4 _,λ k h _ _=>⟨?_,o,ho,Kt (Nat.le_of_eq e.symm) hk⟩⟩
  unfold Im nD at h ⊢; rw [hs,ha,hb]; exact h
theorem AO (p:bU) (x:bW):∃ y,(dM p x).bF.ls=p.bF.ls++ [y]/\y.av=x.av/\y.eQ=x.eQ/\y.aX=x.aX:=⟨_,rfl,rfl,rfl,rfl⟩
theorem ru {p t:bU} {c:Int} {q:Nat} {k:Int} {l:List aQ} {m m':aD} (h:dL p c q k l m=(t,m')):m'.aa=m.aa/\m'.aC.ls=m.aC.ls/\m'.bT=m.bT/\(∃ x,t.bF.ls=p.bF.ls++ [x]/\x.av=2)/\(mV l->jR q->Mk m->Mk m'):=by
  unfold dL iT at h
  simp only [bnd] at h
  split at h
  . obtain⟨rfl,rfl⟩:=Prod.mk.inj h
    exact⟨rfl,rfl,rfl,⟨_,rfl,rfl⟩,λ hl hq M=>⟨M.oI,M.sF,M.qz,M.uO,M.dec,M.pO,M.act,M.nK,⟨hl,hq⟩,M.nV,M.nW,M.nX⟩⟩
  split at h
  . obtain⟨rfl,rfl⟩:=Prod.mk.inj h
    exact⟨rfl,rfl,rfl,⟨_,rfl,rfl⟩,λ hl hq M=>⟨M.oI,M.sF,M.qz,M.uO,M.dec,M.pO,M.act,M.nK,M.mh,⟨hl,hq⟩,M.nW,M.nX⟩⟩
  split at h
  . obtain⟨rfl,rfl⟩:=Prod.mk.inj h
    exact⟨rfl,rfl,rfl,⟨_,rfl,rfl⟩,λ hl hq M=>⟨M.oI,M.sF,M.qz,M.uO,M.dec,M.pO,M.act,M.nK,M.mh,M.nV,⟨hl,hq⟩,M.nX⟩⟩
  . obtain⟨rfl,rfl⟩:=Prod.mk.inj h
    exact⟨rfl,rfl,rfl,⟨_,rfl,rfl⟩,λ hl hq M=>⟨M.oI,M.sF,M.qz,M.uO,M.dec,M.pO,M.act,M.nK,M.mh,M.nV,M.nW,⟨hl,hq⟩⟩⟩
theorem AP (n:Nat) (f:Bool):∀ (l:List Int) (o:List bW), ∃ q,gP n f l o=o++q/\∀ x ∈ q,x.av=5
  | [],o=>⟨[],(s6 _).symm,λ x hx=>by cases hx⟩
  | s::l,o=>by
    simp only [gP,bnd]
    obtain⟨y,e,hk,_⟩:=AO (bU.mk (E0 o)) (bW.mk 5 0 s 0 0 0 0 0 n 0 0 0 0 0 0 f (aL.mk [] []) (E0 []) (E0 []) (E0 []))
    rw [e]
    obtain⟨q,a,c⟩:=AP n f l (o++ [y])
    refine⟨y::q,by rw [a,q5]; rfl,λ x hx=> ?_⟩
    rcases u2.1 hx with rfl | hx
    . exact hk
    . exact c x hx
theorem Cx (p:bU) (n:Nat) (l:List Int) (f:Bool):∃ q,(fV p n l f).bF.ls=p.bF.ls++q/\∀ x ∈ q,x.av=5:=by
  obtain⟨q,e,h⟩:=AP n f l p.bF.ls
  exact⟨q,by unfold fV; simp only [bnd]; exact e,h⟩
theorem Tr.decide (p:bU) (n:Nat) (l:List Int) (f:Bool) (m:aD):Tr 0 p m (fV p n l f) m:=by
  obtain⟨q,e,h⟩:=Cx p n l f
  exact JY rfl rfl rfl e (λ x hx=>by rw [h x hx]; decide)
theorem Tr.answer {p t:bU} {c:Int} {q:Nat} {k:Int} {l:List aQ} {m m':aD} (h:dL p c q k l m=(t,m')):Tr 0 p m t m':=by
  obtain⟨a,d,f,⟨x,e,hx⟩,i⟩:=ru h
  exact JY a (by unfold nA; rw [d]) f e (λ y hy=>by rw [m5.1 hy,hx]; decide)
theorem GK {m':aD} {o:List aM} {d:List bH} {l:List fF} {a:List ed} (c:m'.aa.ag.ls=o) (e:m'.aa.ak.ls=d) (f:m'.aa.aK.ls=l) (h:m'.aC.ls=a):aD.mk (bZ.mk m'.aa.au m'.aa.ax m'.aa.bG m'.aa.aF (E0 o) (E0 d) (E0 l)) m'.bT (E0 a) m'.bM m'.bD m'.bA m'.bC m'.bB m'.dO m'.dG m'.dH m'.dD m'.dE=m':=by subst c e f h; rfl
theorem uX {c m':aD} {o:List aM} {d:List bH} {l:List fF} {a:List ed} (h:aD.mk (bZ.mk c.aa.au c.aa.ax c.aa.bG c.aa.aF (E0 o) (E0 d) (E0 l)) c.bT (E0 a) c.bM c.bD c.bA c.bC c.bB c.dO c.dG c.dH c.dD c.dE=m') (e:c.aa.ag.ls=o) (f:c.aa.ak.ls=d) (i:c.aa.aK.ls=l) (j:c.aC.ls=a):c=m':=(GK e f i j).symm.trans h
theorem getD_at {α:Type} [Inhabited α] {l:List α} {i:Nat} (h:i < l.length):l[i]? =some (B8 l i default):=by
  rw [L7,p7 h]; rfl
def zg (m:aD) (i:Nat):aD:= { m with aC:=E0 (r3 i m.aC.ls++r4 (i+1) m.aC.ls) }
theorem ry {α:Type} (l:List α) (i:Nat):(r3 i l++r4 (i+1) l).Sublist l:=by
  have h:(r4 (i+1) l).Sublist (r4 i l):=by rw [<- List.tail_drop]; exact List.tail_sublist _
  have:=(S6.refl (r3 i l)).append h
  rwa [List.take_append_drop] at this
theorem Mk.cut {m:aD} (M:Mk m) (i:Nat):Mk (zg m i):=⟨M.oI,M.sF,M.qz,M.uO,M.dec,M.pO,λ x hx=>M.act x ((ry _ _).subset hx),M.nK,M.mh,M.nV,M.nW,M.nX⟩
theorem Tr.cut (p:bU) (m:aD) (i:Nat):Tr 0 p m p (zg m i):=by
  have hs:=ry m.aC.ls i
  have hA:nA (zg m i)=r3 i (nA m)++r4 (i+1) (nA m):=by simp only [nA,zg,v2,S7,S8]
  refine⟨rfl,rfl,λ h=> ?_,o4 _,λ k h _ _=> ?_⟩
  . have:=hs.length_le; simp only [zg]; omega
  . have a:=h.2.sub (A':=nA (zg m i)) (hA ▸ ry (nA m) i) (S6.refl _)
    exact⟨⟨h.1,a.1⟩, [],(s6 _).symm,a.2⟩
theorem yh {m:aD} (M:Mk m) {i:Nat} (hi:i < m.aC.ls.length):Tok (B8 m.aC.ls i default):=M.act _ (D1 (getD_at hi))
theorem yj (l:List fu):s0 (gB l [])=s0 l:=(AJ l []).trans (Nat.zero_add _)
theorem yl {p t:bU} {i:Int} {m m':aD} (hi:C6 i < m.aC.ls.length) (h:iy p i m=(t,m')):m'.aa=m.aa/\Tr 0 p m t m'/\(Mk m->Mk m')/\s0 t.bF.ls=s0 p.bF.ls+1+s0 (B8 m.aC.ls (C6 i) default).aO.ls:=by
  unfold iy at h
  simp only [bnd] at h
  rcases e:dL p (B8 m.aC.ls (C6 i) default).bf (B8 m.aC.ls (C6 i) default).bi 2 [] (zg m (C6 i)) with ⟨c,d⟩
  have e':=e
  unfold zg at e'
  rw [e'] at h
  have ha:=ru e
  obtain⟨rfl,a⟩:=Prod.mk.inj h
  obtain rfl:=uX a (by rw [ha.1]; rfl) (by rw [ha.1]; rfl) (by rw [ha.1]; rfl) (by rw [ha.2.1]; rfl)
  exact⟨ha.1,(Tr.cut p m (C6 i)).trans ((Tr.answer e).trans (Tr.decide _ _ _ _ _)),λ M=>ha.2.2.2.2 l9 (yh M hi).tY (M.cut _),by
    obtain⟨x,e,_⟩:=ha.2.2.2.1
    rw [Cw rfl,e,o2,List.length_singleton]
    simp only [kr,bnd]; rw [yj]⟩
theorem Du (a b:Nat):gZ a b < 0↔a < b:=by
  unfold gZ lS
  simp only [bnd]
  by_cases h:(a:Int) < (b:Int)
  . simp [h]; omega
  . by_cases c:(a:Int) > (b:Int) <;> simp [h,c] <;> omega
theorem AQ {l:List bH} {n:Nat} (hs:∀ i j:Nat,i<=j->j < l.length->(B8 l i default).aX<=(B8 l j default).aX):∀ (f a b:Nat),a<=b->b<=l.length->b - a < f->(∀ i,i < a->(B8 l i default).aX < n)->(∀ i,b<=i->i < l.length->n<=(B8 l i default).aX)->
    ∃ r,di l n f a b=r/\r<=l.length/\(∀ i,i < r->(B8 l i default).aX < n)/\(∀ i,r<=i->i < l.length->n<=(B8 l i default).aX)
  | 0,a,b,_,_,h,_,_=>e6
  | f+1,a,b,hab,hb,hf,c,d=>by
    simp only [di,bnd]
    by_cases hlt:(a:Int) < (b:Int)
    . rw [if_pos hlt]
      by_cases hc:gZ (B8 l ((a+b) / 2) default).aX n < 0
      . rw [if_pos hc]
        rw [Du] at hc
        exact AQ hs f _ _ e6 hb e6 (λ i hi=>Nat.lt_of_le_of_lt (hs i ((a+b) / 2) e6 e6) hc) d
      . rw [if_neg hc]
        rw [Du] at hc
        exact AQ hs f _ _ e6 e6 e6 c (λ i hi hl=>L8 (Nat.le_of_not_lt hc) (hs ((a+b) / 2) i hi hl))
    . rw [if_neg hlt]
      exact⟨a,rfl,e6,c,λ i hi hl=>d i e6 hl⟩
theorem El {l:List bH} (h:S0 (· <= ·) (s5 bH.aX l)) (i j:Nat) (hij:i<=j) (hj:j < l.length):(B8 l i default).aX<=(B8 l j default).aX:=by
  rcases Nat.lt_or_eq_of_le hij with a | rfl
  . have:=List.pairwise_iff_getElem.1 h i j j2 j2 a
    rw [S9,S9] at this
    rw [L7,L7,p7 e6,p7 hj]
    exact this
  . exact o4 _
theorem Em {l:List bH} {n:Nat} {r:Int × Bool} (hr:bQ l n=r) (h:S0 (· <= ·) (s5 bH.aX l)):(∀ x ∈ r3 (C6 r.1) (s5 bH.aX l),x<=n)/\(∀ x ∈ r4 (C6 r.1) (s5 bH.aX l),n<=x):=by
  obtain⟨q,e,hl,a,c⟩:=AQ (El h) ((l.length - 0)+1) 0 l.length (Lp _) (o4 _) e6 (λ i hi=>e6) (λ i hi hl=>e6)
  have hq:C6 r.1=q:=by
    rw [<- hr]; unfold bQ
    simp only [bnd]
    rw [e]
    split <;> rfl
  rw [hq]
  have at_:∀ i (hi:i < l.length),(s5 bH.aX l)[i]'(by rw [s3]; exact hi)=(B8 l i default).aX:=λ i hi=>by
    rw [S9,L7,p7 hi]; rfl
  refine⟨λ x hx=> ?_,λ x hx=> ?_⟩
  . obtain⟨i,hi,rfl⟩:=List.mem_take_iff_getElem.1 hx
    rw [s3] at hi
    rw [at_ i e6]
    exact Nat.le_of_lt (a i e6)
  . obtain⟨i,hi,rfl⟩:=List.mem_drop_iff_getElem.1 hx
    rw [s3] at hi
    rw [at_ (q+i) e6]
    exact c _ e6 e6
def qP (m:aD) (i j:Nat) (d:bH) (L:List fF):aD:= { m with aa:=bZ.mk m.aa.au m.aa.ax m.aa.bG m.aa.aF (E0 m.aa.ag.ls) (E0 (r3 j m.aa.ak.ls++(d::r4 j m.aa.ak.ls))) (E0 L),aC:=E0 (r3 i m.aC.ls++r4 (i+1) m.aC.ls) }
theorem Tr.com (p:bU) (m:aD) {i j:Nat} {d:bH} {L:List fF} (hi:i < m.aC.ls.length) (hd:d.aX=(B8 m.aC.ls i default).bI) (hL:s0 L<=s0 m.aa.aK.ls+1)
    (hj:S0 (· <= ·) (nD m)->(∀ x ∈ r3 j (nD m),x<=d.aX)/\(∀ x ∈ r4 j (nD m),d.aX<=x)):Tr 1 p m p (qP m i j d L):=by
  have hA:nA (qP m i j d L)=r3 i (nA m)++r4 (i+1) (nA m):=by simp only [nA,qP,v2,S7,S8]
  have hD:nD (qP m i j d L)=r3 j (nD m)++d.aX::r4 j (nD m):=by simp only [nD,qP,v2,List.map_cons,S7,S8]
  have hm:d.aX ∈ nA m:=by rw [hd]; exact List.mem_map.2 ⟨_,D1 (getD_at hi),rfl⟩
  refine⟨rfl,rfl,λ h=> ?_,hL,λ k _ hl h=> ?_⟩
  . simp only [qP,o2,o0,o1,s1]; omega
  . have a:=h.2.ins (h.2.lA _ hm) (hj h.2.sD).1 (hj h.2.sD).2 (h.2.le.1 _ hm) (nA (qP m i j d L)) (hA ▸ ry (nA m) i)
    rw [<- hD] at a
    exact⟨⟨hl,a.1.mono (T0 k)⟩, [],(s6 _).symm,a.2⟩
theorem Mk.com {m:aD} (M:Mk m) {i j:Nat} {d:bH} {L:List fF} (hd:jR d.aX/\jR d.ax/\jR d.aU/\s0 d.au.ls<=1000) (hL:∀ x ∈ L,jR x.ax/\jR x.aU/\mV x.ah.ls):Mk (qP m i j d L):=
  ⟨M.oI,M.sF,M.qz,M.uO,λ x hx=>by
    rcases v3.1 hx with h | h
    . exact M.dec x (F0 h)
    . rcases u2.1 h with rfl | h
      . exact hd
      . exact M.dec x (S5 h),hL,λ x hx=>M.act x ((ry _ _).subset hx),M.nK,M.mh,M.nV,M.nW,M.nX⟩
theorem Bo {p t:bU} {i:Int} {m m':aD} (hi:C6 i < m.aC.ls.length) (h:lC p i m=(t,m')):Tr 1 p m t m'/\(Mk m->Mk m'):=by
  unfold lC at h
  simp only [bnd,kr] at h
  have hT:=λ M:Mk m=>yh M hi
  generalize hy:B8 m.aC.ls (C6 i) default=y at h hT
  rcases eg:nQ y.cB.ls y.aO.ls y.ai.ls with ⟨rs,ge⟩
  rw [eg] at h
  have hgr:=λ M:Mk m=>yf eg (hT M).ops.1 (hT M).ops.2 (hT M).Ci
  rcases es:bQ m.aa.ak.ls y.bI with ⟨j,oj⟩
  rcases el:ik m.aa.aK.ls y.bf with ⟨q,oq⟩
  rw [es,el] at h
  obtain⟨sl,hsl⟩:∃ sl,gB y.aO.ls []=sl:=⟨_,rfl⟩
  rw [hsl] at h
  have hds:=λ M:Mk m=>(show jR y.bI/\jR m.aa.ax/\jR y.bi/\s0 sl<=1000 from ⟨(hT M).num,M.oI,(hT M).tY,by have:=(hT M).len; rw [<- hsl,yj]; omega⟩)
  have go:∀ {L:List fF} {f:bU} {c:aD},dL p y.bf y.bi 1 rs (qP m (C6 i) (C6 j) (bH.mk y.bI y.bf m.aa.ax y.bi (E0 sl)) L)=(f,c)->s0 L<=s0 m.aa.aK.ls+1->(Mk m->∀ x ∈ L,jR x.ax/\jR x.aU/\mV x.ah.ls)->Tr 1 p m (fV f y.bI sl true) c/\(Mk m->Mk c):=λ {L f c} e hL hM=>by
    have ha:=ru e
    have hc:Tr 1 p m p (qP m (C6 i) (C6 j) (bH.mk y.bI y.bf m.aa.ax y.bi (E0 sl)) L):=Tr.com p m hi (by rw [hy]) hL λ hp=>Em es hp
    exact⟨hc.trans ((Tr.answer e).trans (Tr.decide _ _ _ _ _)),λ M=>ha.2.2.2.2 (hgr M) (hT M).tY (M.com (hds M) (hM M))⟩
  split at h
  . split at h
    . rcases e:dL p y.bf y.bi 1 rs (qP m (C6 i) (C6 j) (bH.mk y.bI y.bf m.aa.ax y.bi (E0 sl)) (I3 m.aa.aK.ls (C6 q) (fF.mk y.bf m.aa.ax y.bi (E0 rs)))) with ⟨f,c⟩
      have ha:=ru e
      have e':=e
      unfold qP at e'
      rw [e'] at h
      obtain⟨rfl,a⟩:=Prod.mk.inj h
      obtain rfl:=uX a (by rw [ha.1]; rfl) (by rw [ha.1]; rfl) (by rw [ha.1]; rfl) (by rw [ha.2.1]; rfl)
      refine go e (by rw [G4]; omega) λ M x hx=> ?_
      rcases O3 hx with d | rfl
      . exact M.pO x d
      . exact⟨M.oI,(hT M).tY,hgr M⟩
    . rcases e:dL p y.bf y.bi 1 rs (qP m (C6 i) (C6 j) (bH.mk y.bI y.bf m.aa.ax y.bi (E0 sl)) (r3 (C6 q) m.aa.aK.ls++((fF.mk y.bf m.aa.ax y.bi (E0 rs))::r4 (C6 q) m.aa.aK.ls))) with ⟨f,c⟩
      have ha:=ru e
      have e':=e
      unfold qP at e'
      rw [e'] at h
      obtain⟨rfl,a⟩:=Prod.mk.inj h
      obtain rfl:=uX a (by rw [ha.1]; rfl) (by rw [ha.1]; rfl) (by rw [ha.1]; rfl) (by rw [ha.2.1]; rfl)
      refine go e (by rw [o2,s1,o0,o1]; omega) λ M x hx=> ?_
      rcases v3.1 hx with d | d
      . exact M.pO x (F0 d)
      . rcases u2.1 d with rfl | d
        . exact⟨M.oI,(hT M).tY,hgr M⟩
        . exact M.pO x (S5 d)
  . rcases e:iy p i m with ⟨f,c⟩
    rw [e] at h
    have ha:=yl hi e
    obtain⟨rfl,a⟩:=Prod.mk.inj h
    obtain rfl:=uX a (by rw [ha.1]) (by rw [ha.1]) (by rw [ha.1]) rfl
    exact⟨ha.2.1.one,ha.2.2.1⟩
def Dv (m:aD) (i:Nat) (y:ed):aD:= { m with aC:=E0 (I3 m.aC.ls i y) }
theorem En {l:List ed} {i:Nat} {y:ed} (hy:y.bI=(B8 l i default).bI):s5 ed.bI (I3 l i y)=s5 ed.bI l:=by
  rw [List.map_set]
  by_cases h:i < l.length
  . have:(s5 ed.bI l)[i]'(by rw [s3]; exact h)=y.bI:=by rw [S9,hy,L7,p7 h]; rfl
    rw [<- this]; exact T1 _
  . exact T2 j2
theorem Tr.set (p:bU) (m:aD) {i:Nat} {y:ed} (hy:y.bI=(B8 m.aC.ls i default).bI):Tr 0 p m p (Dv m i y):=JY rfl (En hy) rfl (s6 _).symm (λ x hx=>by cases hx)
theorem Mk.set {m:aD} (M:Mk m) {i:Nat} {y:ed} (hy:Tok y):Mk (Dv m i y):=⟨M.oI,M.sF,M.qz,M.uO,M.dec,M.pO,qN M.act hy,M.nK,M.mh,M.nV,M.nW,M.nX⟩
theorem Gg {l:List ed} {n:Nat} {r:Int × Bool} (hr:dN l n=r) (h:r.2=true):C6 r.1 < l.length:=by
  unfold dN at hr
  simp only [bnd] at hr
  split at hr
  . subst hr; simp only [L4]; omega
  . subst hr; cases h
theorem zh {p t:bU} {x:bW} {m m':aD} (h:lq p x m=(t,m')):Tr 1 p m t m'/\(mV x.ah.ls->Mk m->Mk m'):=by
  have same:(p,m)=(t,m')->Tr 1 p m t m'/\(mV x.ah.ls->Mk m->Mk m'):=λ h=>by
    obtain⟨rfl,rfl⟩:=Prod.mk.inj h
    exact⟨(Tr.same p m).one,λ _ M=>M⟩
  unfold lq iT at h
  simp only [bnd] at h
  rcases ef:dN m.aC.ls x.aX with ⟨i,ok⟩
  rw [ef] at h
  split at h
  case isFalse=>exact same h
  rename_i hok
  have hi:=Gg ef hok
  split at h
  . exact same h
  split at h
  . exact same h
  have ab:∀ {d:bU} {a:aD},iy p i m=(d,a)->(d,aD.mk (bZ.mk a.aa.au a.aa.ax a.aa.bG a.aa.aF (E0 m.aa.ag.ls) (E0 m.aa.ak.ls) (E0 m.aa.aK.ls)) a.bT (E0 a.aC.ls) a.bM a.bD a.bA a.bC a.bB a.dO a.dG a.dH a.dD a.dE)=(t,m')->Tr 1 p m t m'/\(mV x.ah.ls->Mk m->Mk m'):=λ e h=>by
    have ha:=yl hi e
    obtain⟨rfl,c⟩:=Prod.mk.inj h
    obtain rfl:=uX c (by rw [ha.1]) (by rw [ha.1]) (by rw [ha.1]) rfl
    exact⟨ha.2.1.one,λ _=>ha.2.2.1⟩
  split at h
  . split at h
    . split at h
      . obtain⟨rfl,rfl⟩:=Prod.mk.inj h
        refine⟨Tr.one ?_,λ hr M=>M.set (i:=C6 i) (q8 (yh M hi) hr)⟩
        refine Tr.set p m (i:=C6 i) ?_
        rfl
      . rcases e:lC p i (Dv m (C6 i) (ed.mk (B8 m.aC.ls (C6 i) default).bI (B8 m.aC.ls (C6 i) default).bf (B8 m.aC.ls (C6 i) default).bi (B8 m.aC.ls (C6 i) default).fE (E0 (B8 m.aC.ls (C6 i) default).cB.ls) (E0 (B8 m.aC.ls (C6 i) default).aO.ls) (E0 (I3 (B8 m.aC.ls (C6 i) default).bL.ls (C6 (ic (B8 m.aC.ls (C6 i) default).aO.ls x)) true)) (E0 (I3 (B8 m.aC.ls (C6 i) default).ai.ls (C6 (ic (B8 m.aC.ls (C6 i) default).aO.ls x)) (E0 x.ah.ls))) (B8 m.aC.ls (C6 i) default).iI)) with ⟨d,a⟩
        have e':=e
        unfold Dv at e'
        rw [e'] at h
        have hc:=Bo (by unfold Dv; simp only [G4]; exact hi) e
        obtain⟨rfl,c⟩:=Prod.mk.inj h
        obtain rfl:=uX c (by rw [hc.1.own]; rfl) rfl rfl rfl
        refine⟨Nat.zero_add 1 ▸ Tr.trans ?_ hc.1,λ hr M=>hc.2 (M.set (q8 (yh M hi) hr))⟩
        refine Tr.set p m (i:=C6 i) ?_
        rfl
    . rcases e:iy p i m with ⟨d,a⟩
      rw [e] at h; exact ab e h
  . rcases e:iy p i m with ⟨d,a⟩
    rw [e] at h; exact ab e h
def sdX (m:aD) (D:List bH):aD:= { m with aa:=bZ.mk m.aa.au m.aa.ax m.aa.bG m.aa.aF (E0 m.aa.ag.ls) (E0 D) (E0 m.aa.aK.ls) }
theorem Tr.sdX (p:bU) (m:aD) {D:List bH} (h:(s5 bH.aX D).Sublist (nD m)):Tr 1 p m p (sdX m D):=by
  have hl:=h.length_le
  simp only [nD,s3] at hl
  refine⟨rfl,rfl,λ h=> ?_,T0 _,λ k _ hk c=> ?_⟩
  . show s0 m.aC.ls+s0 D<=8; omega
  . have a:=c.2.sub (S6.refl _) h
    exact⟨⟨hk,a.1.mono (T0 k)⟩, [],(s6 _).symm,a.2⟩
theorem Eo {l:List bH} {i:Nat} {y:bH} (hy:y.aX=(B8 l i default).aX):s5 bH.aX (I3 l i y)=s5 bH.aX l:=by
  rw [List.map_set]
  by_cases h:i < l.length
  . have:(s5 bH.aX l)[i]'(by rw [s3]; exact h)=y.aX:=by rw [S9,hy,L7,p7 h]; rfl
    rw [<- this]; exact T1 _
  . exact T2 j2
theorem xA (l:List Int) (c:bW):∀ (f:Nat) (a b:Int) (q:List Int),s0 (gJ l c f a b q).2<=s0 q
  | 0,a,b,q=>Lp _
  | f+1,a,b,q=>by
    simp only [gJ,bnd]
    split
    . split
      . exact xA l c f _ _ _
      . exact L8 (xA l c f _ _ _) (by rw [G4]; exact o4 _)
    . exact o4 _
theorem Fq (l:List Int) (c:bW):s0 (ig l c)<=s0 l:=by
  unfold ig
  simp only [bnd]
  split
  . exact o4 _
  . rw [o0]; exact L8 (S1 _ _) (xA _ _ _ _ _ _)
theorem Gh {l:List bH} {n:Nat} {r:Int × Bool} (hr:bQ l n=r) (h:r.2=true):C6 r.1 < l.length:=by
  unfold bQ at hr
  simp only [bnd] at hr
  split at hr
  . subst hr; simp only [L4]; omega
  . subst hr; cases h
theorem oH {p t:bU} {x:bW} {m m':aD} (h:lT p x m=(t,m')):(∃ D,m'=sdX m D)/\Tr 1 p m t m'/\(Mk m->Mk m'):=by
  unfold lT at h
  simp only [bnd] at h
  rcases ef:bQ m.aa.ak.ls x.aX with ⟨i,ok⟩
  rw [ef] at h
  split at h
  . rename_i hok
    have hi:=Gh ef hok
    have a:=λ M:Mk m=>M.dec _ (D1 (getD_at hi))
    generalize hy:B8 m.aa.ak.ls (C6 i) default=y at h a
    have hD:Mk m->Dk (I3 m.aa.ak.ls (C6 i) (bH.mk y.aX y.aP y.ax y.aU (E0 (ig y.au.ls x)))):=λ M z hz=>by
      rcases O3 hz with d | rfl
      . exact M.dec z d
      . have c:=a M
        exact⟨c.1,c.2.1,c.2.2.1,L8 (Fq _ _) c.2.2.2⟩
    have hmap:s5 bH.aX (I3 m.aa.ak.ls (C6 i) (bH.mk y.aX y.aP y.ax y.aU (E0 (ig y.au.ls x))))=nD m:=Eo (by rw [hy])
    generalize I3 m.aa.ak.ls (C6 i) (bH.mk y.aX y.aP y.ax y.aU (E0 (ig y.au.ls x)))=D at h hD hmap
    split at h
    . obtain⟨rfl,rfl⟩:=Prod.mk.inj h
      exact⟨⟨_,rfl⟩,Tr.sdX p m (hmap ▸ (ry D (C6 i)).map bH.aX),λ M=>⟨M.oI,M.sF,M.qz,M.uO,λ y hy=>hD M y ((ry _ _).subset hy),M.pO,M.act,M.nK,M.mh,M.nV,M.nW,M.nX⟩⟩
    . obtain⟨rfl,rfl⟩:=Prod.mk.inj h
      exact⟨⟨_,rfl⟩,Tr.sdX p m (hmap ▸ S6.refl _),λ M=>⟨M.oI,M.sF,M.qz,M.uO,hD M,M.pO,M.act,M.nK,M.mh,M.nV,M.nW,M.nX⟩⟩
  . obtain⟨rfl,rfl⟩:=Prod.mk.inj h
    exact⟨⟨_,rfl⟩,(Tr.same p m).one,id⟩
theorem Fs (p:bU) (x:bW) (m:aD):Tr 1 p m (mP p x m) m:=by
  unfold mP
  simp only [bnd]
  split
  . exact(Tr.decide _ _ _ _ _).one
  . split
    . exact(Tr.same p m).one
    . exact(Tr.decide _ _ _ _ _).one
theorem Lw.all {w n b:Nat} (hn:w<=n) (hb:w<=b):∀ {l:List bW} {a:Nat},a<=w->(∀ x ∈ l,x.av=3/\x.eQ=w/\x.aX=n)->Lw a b l
  | [],a,ha,_=>L8 ha hb
  | x::l,a,ha,h=>by
    have hx:=h x b1
    unfold Lw
    rw [if_pos hx.1,hx.2.1,hx.2.2]
    exact⟨ha,hn,Lw.all hn hb (o4 _) λ y hy=>h y (.tail _ hy)⟩
theorem Tr.tells {p t:bU} {m m':aD} {j n:Nat} {q:List bW} (h:Tr j p m p m') (ho:t.bF.ls=p.bF.ls++q) (hq:∀ z ∈ q,z.av=3/\z.eQ=gQ m'/\z.aX=n) (hn:∀ k,Im k m->k+j<=1000000->n ∈ nA m'):Tr j p m t m':=
  ⟨h.own,h.sh,h.ad,h.la,λ k c hl hk=>by
    obtain⟨a,o,e,d⟩:=h.lw k c hl hk
    have f:lo m<=lo m':=by
      have:o= []:=by have:=congrArg s0 e; rw [o2] at this; exact List.length_eq_zero_iff.1 e6
      subst this; exact d
    exact⟨a,q,ho,Lw.all (a.2.le.1 n (hn k hk hl)) (o4 _) f λ z hz=>⟨(hq z hz).1,(hq z hz).2.1.trans (Ej a),(hq z hz).2.2⟩⟩⟩
section
open Go.RowKit
def jZ (g:Nat) (m:aD):HP:=FD (λ x:(Option Addr) × Nat × (Option Addr) × Nat × (List ay) × (Option Addr) × Nat × (List aS) × (Option Addr) × Nat × (List bK) × (Option Addr) × Nat × (List af) × (Option Addr) × Nat × (List af) × (Option Addr) × Nat × (List af) × (Option Addr) × Nat × (List af) × (Option Addr) × Nat × (List af)=>s5 ay.abs x.2.2.2.2.1=m.aa.ak.ls/\s5 aS.abs x.2.2.2.2.2.2.2.1=m.aa.aK.ls/\s5 bK.abs x.2.2.2.2.2.2.2.2.2.2.1=m.aC.ls/\s5 af.abs x.2.2.2.2.2.2.2.2.2.2.2.2.2.1=m.bM.ai.ls/\s5 af.abs x.2.2.2.2.2.2.2.2.2.2.2.2.2.2.2.2.1=m.bD.ai.ls/\s5 af.abs x.2.2.2.2.2.2.2.2.2.2.2.2.2.2.2.2.2.2.2.1=m.bA.ai.ls/\s5 af.abs x.2.2.2.2.2.2.2.2.2.2.2.2.2.2.2.2.2.2.2.2.2.2.1=m.bC.ai.ls/\s5 af.abs x.2.2.2.2.2.2.2.2.2.2.2.2.2.2.2.2.2.2.2.2.2.2.2.2.2=m.bB.ai.ls) (λ x=> [mK g m x.1 m.aa.ag.ls.length x.2.1 x.2.2.1 x.2.2.2.1 x.2.2.2.2.2.1 x.2.2.2.2.2.2.1 x.2.2.2.2.2.2.2.2.1 x.2.2.2.2.2.2.2.2.2.1 x.2.2.2.2.2.2.2.2.2.2.2.1 x.2.2.2.2.2.2.2.2.2.2.2.2.1 x.2.2.2.2.2.2.2.2.2.2.2.2.2.2.1 x.2.2.2.2.2.2.2.2.2.2.2.2.2.2.2.1 x.2.2.2.2.2.2.2.2.2.2.2.2.2.2.2.2.2.1 x.2.2.2.2.2.2.2.2.2.2.2.2.2.2.2.2.2.2.1 x.2.2.2.2.2.2.2.2.2.2.2.2.2.2.2.2.2.2.2.2.1 x.2.2.2.2.2.2.2.2.2.2.2.2.2.2.2.2.2.2.2.2.2.1 x.2.2.2.2.2.2.2.2.2.2.2.2.2.2.2.2.2.2.2.2.2.2.2.1 x.2.2.2.2.2.2.2.2.2.2.2.2.2.2.2.2.2.2.2.2.2.2.2.2.1,row x.1 m.aa.ag.ls.length x.2.1 (q4 aM.cells m.aa.ag.ls) 89 2,row x.2.2.1 m.aa.ak.ls.length x.2.2.2.1 (q4 ay.cells x.2.2.2.2.1) 60 5,sepL (q4 ay.own x.2.2.2.2.1),row x.2.2.2.2.2.1 m.aa.aK.ls.length x.2.2.2.2.2.2.1 (q4 aS.cells x.2.2.2.2.2.2.2.1) 56 4,sepL (q4 aS.own x.2.2.2.2.2.2.2.1),row x.2.2.2.2.2.2.2.2.1 m.aC.ls.length x.2.2.2.2.2.2.2.2.2.1 (q4 bK.cells x.2.2.2.2.2.2.2.2.2.2.1) 107 9,sepL (q4 bK.own x.2.2.2.2.2.2.2.2.2.2.1),row x.2.2.2.2.2.2.2.2.2.2.2.1 m.bM.ai.ls.length x.2.2.2.2.2.2.2.2.2.2.2.2.1 (q4 af.cells x.2.2.2.2.2.2.2.2.2.2.2.2.2.1) 149 3,sepL (q4 af.own x.2.2.2.2.2.2.2.2.2.2.2.2.2.1),row x.2.2.2.2.2.2.2.2.2.2.2.2.2.2.1 m.bD.ai.ls.length x.2.2.2.2.2.2.2.2.2.2.2.2.2.2.2.1 (q4 af.cells x.2.2.2.2.2.2.2.2.2.2.2.2.2.2.2.2.1) 149 3,sepL (q4 af.own x.2.2.2.2.2.2.2.2.2.2.2.2.2.2.2.2.1),row x.2.2.2.2.2.2.2.2.2.2.2.2.2.2.2.2.2.1 m.bA.ai.ls.length x.2.2.2.2.2.2.2.2.2.2.2.2.2.2.2.2.2.2.1 (q4 af.cells x.2.2.2.2.2.2.2.2.2.2.2.2.2.2.2.2.2.2.2.1) 149 3,sepL (q4 af.own x.2.2.2.2.2.2.2.2.2.2.2.2.2.2.2.2.2.2.2.1),row x.2.2.2.2.2.2.2.2.2.2.2.2.2.2.2.2.2.2.2.2.1 m.bC.ai.ls.length x.2.2.2.2.2.2.2.2.2.2.2.2.2.2.2.2.2.2.2.2.2.1 (q4 af.cells x.2.2.2.2.2.2.2.2.2.2.2.2.2.2.2.2.2.2.2.2.2.2.1) 149 3,sepL (q4 af.own x.2.2.2.2.2.2.2.2.2.2.2.2.2.2.2.2.2.2.2.2.2.2.1),row x.2.2.2.2.2.2.2.2.2.2.2.2.2.2.2.2.2.2.2.2.2.2.2.1 m.bB.ai.ls.length x.2.2.2.2.2.2.2.2.2.2.2.2.2.2.2.2.2.2.2.2.2.2.2.2.1 (q4 af.cells x.2.2.2.2.2.2.2.2.2.2.2.2.2.2.2.2.2.2.2.2.2.2.2.2.2) 149 3,sepL (q4 af.own x.2.2.2.2.2.2.2.2.2.2.2.2.2.2.2.2.2.2.2.2.2.2.2.2.2)])
theorem lY {w0 w:World} {D:Nat->Prop} {L:List HP} {g:Nat} {m:aD} (H:Own w0 D w (jZ g m::L)):∃ (u:Option Addr) (a:Nat) (v:Option Addr) (b:Nat) (c:List ay) (x:Option Addr) (d:Nat) (e:List aS) (y:Option Addr) (f:Nat) (h:List bK) (z:Option Addr) (j:Nat) (k:List af) (A:Option Addr) (l:Nat) (n:List af) (B:Option Addr) (o:Nat) (p:List af) (C:Option Addr) (q:Nat) (r:List af) (E:Option Addr) (s:Nat) (t:List af),s5 ay.abs c=m.aa.ak.ls/\s5 aS.abs e=m.aa.aK.ls/\s5 bK.abs h=m.aC.ls/\s5 af.abs k=m.bM.ai.ls/\s5 af.abs n=m.bD.ai.ls/\s5 af.abs p=m.bA.ai.ls/\s5 af.abs r=m.bC.ai.ls/\s5 af.abs t=m.bB.ai.ls/\(c.length=m.aa.ak.ls.length/\e.length=m.aa.aK.ls.length/\h.length=m.aC.ls.length/\k.length=m.bM.ai.ls.length/\n.length=m.bD.ai.ls.length/\p.length=m.bA.ai.ls.length/\r.length=m.bC.ai.ls.length/\t.length=m.bB.ai.ls.length/\(m.aa.ag.ls.length<=a/\a<=9223372036854775807)/\(m.aa.ak.ls.length<=b/\b<=9223372036854775807)/\(m.aa.aK.ls.length<=d/\d<=9223372036854775807)/\(m.aC.ls.length<=f/\f<=9223372036854775807)/\(m.bM.ai.ls.length<=j/\j<=9223372036854775807)/\(m.bD.ai.ls.length<=l/\l<=9223372036854775807)/\(m.bA.ai.ls.length<=o/\o<=9223372036854775807)/\(m.bC.ai.ls.length<=q/\q<=9223372036854775807)/\(m.bB.ai.ls.length<=s/\s<=9223372036854775807))/\Own w0 D w (mK g m u m.aa.ag.ls.length a v b x d y f z j A l B o C q E s::row u m.aa.ag.ls.length a (q4 aM.cells m.aa.ag.ls) 89 2::row v m.aa.ak.ls.length b (q4 ay.cells c) 60 5::sepL (q4 ay.own c)::row x m.aa.aK.ls.length d (q4 aS.cells e) 56 4::sepL (q4 aS.own e)::row y m.aC.ls.length f (q4 bK.cells h) 107 9::sepL (q4 bK.own h)::row z m.bM.ai.ls.length j (q4 af.cells k) 149 3::sepL (q4 af.own k)::row A m.bD.ai.ls.length l (q4 af.cells n) 149 3::sepL (q4 af.own n)::row B m.bA.ai.ls.length o (q4 af.cells p) 149 3::sepL (q4 af.own p)::row C m.bC.ai.ls.length q (q4 af.cells r) 149 3::sepL (q4 af.own r)::row E m.bB.ai.ls.length s (q4 af.cells t) 149 3::sepL (q4 af.own t)::L):=by
 obtain⟨⟨u,a,v,b,c,x,d,e,y,f,h,z,j,k,A,l,n,B,o,p,C,q,r,E,s,t⟩,⟨F,G,I,J,K,M,N,O⟩,H⟩:=Kw H
 have H:Own w0 D w (mK g m u m.aa.ag.ls.length a v b x d y f z j A l B o C q E s::row u m.aa.ag.ls.length a (q4 aM.cells m.aa.ag.ls) 89 2::row v m.aa.ak.ls.length b (q4 ay.cells c) 60 5::sepL (q4 ay.own c)::row x m.aa.aK.ls.length d (q4 aS.cells e) 56 4::sepL (q4 aS.own e)::row y m.aC.ls.length f (q4 bK.cells h) 107 9::sepL (q4 bK.own h)::row z m.bM.ai.ls.length j (q4 af.cells k) 149 3::sepL (q4 af.own k)::row A m.bD.ai.ls.length l (q4 af.cells n) 149 3::sepL (q4 af.own n)::row B m.bA.ai.ls.length o (q4 af.cells p) 149 3::sepL (q4 af.own p)::row C m.bC.ai.ls.length q (q4 af.cells r) 149 3::sepL (q4 af.own r)::row E m.bB.ai.ls.length s (q4 af.cells t) 149 3::sepL (q4 af.own t)::L):=H
 refine⟨u,a,v,b,c,x,d,e,y,f,h,z,j,k,A,l,n,B,o,p,C,q,r,E,s,t,F,G,I,J,K,M,N,O,⟨aA F,aA G,aA I,aA J,aA K,aA M,aA N,aA O,H.rowC (i:=1) rfl,H.rowC (i:=2) rfl,H.rowC (i:=4) rfl,H.rowC (i:=6) rfl,H.rowC (i:=8) rfl,H.rowC (i:=10) rfl,H.rowC (i:=12) rfl,H.rowC (i:=14) rfl,H.rowC (i:=16) rfl⟩,H⟩
theorem iK {w0 w:World} {D:Nat->Prop} {L:List HP} {g:Nat} {y0:Int} {y1:Nat} {y2:Nat} {y3:Nat} {f:List aM} {B:List bH} {C:List fF} {y7:Nat} {E:List ed} {y9:Bool} {h:Nat} {i:Int} {a:List aQ} {j:Bool} {k:Nat} {l:Int} {b:List aQ} {m:Bool} {n:Nat} {o:Int} {c:List aQ} {p:Bool} {q:Nat} {r:Int} {d:List aQ} {s:Bool} {t:Nat} {u:Int} {e:List aQ} {v:Nat} {x:Nat} {y:Nat} {z:Nat} {A:Nat} {P:Option Addr} {Q:Nat} {R:Option Addr} {S:Nat} {F:List ay} {T:Option Addr} {U:Nat} {G:List aS} {V:Option Addr} {W:Nat} {I:List bK} {X:Option Addr} {Y:Nat} {J:List af} {Z:Option Addr} {c5:Nat} {K:List af} {A6:Option Addr} {c6:Nat} {M:List af} {A7:Option Addr} {c7:Nat} {N:List af} {A8:Option Addr} {c8:Nat} {O:List af} (aC:s5 ay.abs F=B) (aF:s5 aS.abs G=C) (aG:s5 bK.abs I=E) (aH:s5 af.abs J=a) (aI:s5 af.abs K=b) (aJ:s5 af.abs M=c) (aK:s5 af.abs N=d) (aL:s5 af.abs O=e) (H:Own w0 D w (blk g [.int .i64 y0, .int .u64 ((y1:Nat):Int), .int .u64 ((y2:Nat):Int), .int .u64 ((y3:Nat):Int), .slice P f.length Q, .slice R B.length S, .slice T C.length U, .int .u64 ((y7:Nat):Int), .slice V E.length W, .bool y9, .int .u64 ((h:Nat):Int), .int .i64 i, .slice X a.length Y, .bool j, .int .u64 ((k:Nat):Int), .int .i64 l, .slice Z b.length c5, .bool m, .int .u64 ((n:Nat):Int), .int .i64 o, .slice A6 c.length c6, .bool p, .int .u64 ((q:Nat):Int), .int .i64 r, .slice A7 d.length c7, .bool s, .int .u64 ((t:Nat):Int), .int .i64 u, .slice A8 e.length c8, .int .u64 ((v:Nat):Int), .int .u64 ((x:Nat):Int), .int .u64 ((y:Nat):Int), .int .u64 ((z:Nat):Int), .int .u64 ((A:Nat):Int), .pointer none] 86::row P f.length Q (q4 aM.cells f) 89 2::row R B.length S (q4 ay.cells F) 60 5::sepL (q4 ay.own F)::row T C.length U (q4 aS.cells G) 56 4::sepL (q4 aS.own G)::row V E.length W (q4 bK.cells I) 107 9::sepL (q4 bK.own I)::row X a.length Y (q4 af.cells J) 149 3::sepL (q4 af.own J)::row Z b.length c5 (q4 af.cells K) 149 3::sepL (q4 af.own K)::row A6 c.length c6 (q4 af.cells M) 149 3::sepL (q4 af.own M)::row A7 d.length c7 (q4 af.cells N) 149 3::sepL (q4 af.own N)::row A8 e.length c8 (q4 af.cells O) 149 3::sepL (q4 af.own O)::L)):Own w0 D w (jZ g (aD.mk (bZ.mk y0 y1 y2 y3 (E0 f) (E0 B) (E0 C)) y7 (E0 E) (dU.mk y9 h i (E0 a)) (dU.mk j k l (E0 b)) (dU.mk m n o (E0 c)) (dU.mk p q r (E0 d)) (dU.mk s t u (E0 e)) v x y z A)::L):=
 Ky (P,Q,R,S,F,T,U,G,V,W,I,X,Y,J,Z,c5,K,A6,c6,M,A7,c7,N,A8,c8,O) ⟨aC,aF,aG,aH,aI,aJ,aK,aL⟩ (show Own w0 D w ([blk g [vI y0,vU y1,vU y2,vU y3, .slice P f.length Q, .slice R B.length S, .slice T C.length U,vU y7, .slice V E.length W, .bool y9,vU h,vI i, .slice X a.length Y, .bool j,vU k,vI l, .slice Z b.length c5, .bool m,vU n,vI o, .slice A6 c.length c6, .bool p,vU q,vI r, .slice A7 d.length c7, .bool s,vU t,vI u, .slice A8 e.length c8,vU v,vU x,vU y,vU z,vU A, .pointer none] 86,row P f.length Q (q4 aM.cells f) 89 2,row R B.length S (q4 ay.cells F) 60 5,sepL (q4 ay.own F),row T C.length U (q4 aS.cells G) 56 4,sepL (q4 aS.own G),row V E.length W (q4 bK.cells I) 107 9,sepL (q4 bK.own I),row X a.length Y (q4 af.cells J) 149 3,sepL (q4 af.own J),row Z b.length c5 (q4 af.cells K) 149 3,sepL (q4 af.own K),row A6 c.length c6 (q4 af.cells M) 149 3,sepL (q4 af.own M),row A7 d.length c7 (q4 af.cells N) 149 3,sepL (q4 af.own N),row A8 e.length c8 (q4 af.cells O) 149 3,sepL (q4 af.own O)]++L) from H)
theorem BU {w0 w:World} {D:Nat->Prop} {L:List HP} {g:Nat} {m r:aD} (e:m=r) (H:Own w0 D w (jZ g m::L)):Own w0 D w (jZ g r::L):=e ▸ H
theorem Dw {r:aD} {o:List aM} {d:List bH} {l:List fF} {a:List ed} {b c e f g:List aQ} (h:r.aa.ag.ls=o) (i:r.aa.ak.ls=d) (j:r.aa.aK.ls=l) (k:r.aC.ls=a) (m:r.bM.ai.ls=b) (n:r.bD.ai.ls=c) (k2:r.bA.ai.ls=e) (p:r.bC.ai.ls=f) (q:r.bB.ai.ls=g):
    aD.mk (bZ.mk r.aa.au r.aa.ax r.aa.bG r.aa.aF (E0 o) (E0 d) (E0 l)) r.bT (E0 a) (dU.mk r.bM.dB r.bM.bi r.bM.dP (E0 b)) (dU.mk r.bD.dB r.bD.bi r.bD.dP (E0 c)) (dU.mk r.bA.dB r.bA.bi r.bA.dP (E0 e)) (dU.mk r.bC.dB r.bC.bi r.bC.dP (E0 f)) (dU.mk r.bB.dB r.bB.bi r.bB.dP (E0 g)) r.dO r.dG r.dH r.dD r.dE=r:=by
 subst h i j k m n k2 p q; rfl
theorem uI (w D g0) (V:bU) (n o g) (a:bW) (p F h q G j k r I l e) (b:aD) (W:bU) (r1:aD) (H:Own w D w [blk g0 [.pointer (some ⟨e,0,none⟩), .slice n V.bF.ls.length o] 98,row n V.bF.ls.length o (q4 bz.cells g) 42 21,sepL (q4 bz.own g),jZ e b]) (s:s5 bz.abs g=V.bF.ls) (P:F=a.aB.ls.length) (Q:Ro w D λ w'=>aY w' 6 p a.aB.ls.length (q4 aN.cells a.aB.ls)) (aG:a.aB.ls.length<=h/\a.aB.ls.length<=9223372036854775807) (t:s5 af.abs k=a.ah.ls) (R:G=a.ah.ls.length) (S:Ro w D λ w'=>aY w' 3 q a.ah.ls.length (q4 af.cells k)) (aI:a.ah.ls.length<=j/\a.ah.ls.length<=9223372036854775807) (u:∀ x ∈ k,Ro w D (λ w'=>aY w' 2 x.aj.A x.aj.ls.length (q4 aH.cells x.aj.ls))/\(x.aj.ls.length<=x.aj.c/\x.aj.ls.length<=9223372036854775807)) (T:I=a.ag.ls.length) (U:Ro w D λ w'=>aY w' 2 r a.ag.ls.length (q4 aM.cells a.ag.ls)) (aJ:a.ag.ls.length<=l/\a.ag.ls.length<=9223372036854775807) (dB:b.aa.ag.ls.length<=1000/\b.aa.ak.ls.length<=1000/\b.aa.aK.ls.length<=1000/\b.aC.ls.length<=1000/\V.bF.ls.length<=100000) (dC:Mk b) (dD:b.bM.ai.ls.length<=1000/\b.bD.ai.ls.length<=1000/\b.bA.ai.ls.length<=1000/\b.bC.ai.ls.length<=1000/\b.bB.ai.ls.length<=1000) (dE:11<=a.aI/\a.aI<=14) (dF:a.aB.ls.length<=24/\a.ag.ls.length<=1000/\a.ah.ls.length<=1000/\jR a.aU) (hr:iU V a b=(W,r1)):
    Calls v5 56 #[vP g0 0, .agg (iA a.av a.aI a.eO a.aP a.dK a.fA a.aU a.ax a.aX a.eQ a.bG a.aF a.eG a.cZ a.xN a.fe a.cu.aJ a.cu.aR p F h q G j r I l).toArray] w (dA λ v w'=> ∃ y z f,v= .tuple #[]/\Own w D w' [blk g0 [vP e 0, .slice y W.bF.ls.length z] 98,row y W.bF.ls.length z (q4 bz.cells f) 42 21,sepL (q4 bz.own f),jZ e r1]/\(s5 bz.abs f=W.bF.ls)):=by
 subst P R T
 have aB:=aA s
 have aC:=aA t
 have aK:=zr 1 H
 have aL:=H.pf [3]
 obtain⟨aO,aP,aQ,aR,aS,aT,aU,aV,aW,aX,aZ,bf,bg,bi,bn,bq,bu,bv,bA,bB,bC,bD,bE,bF,bG,bH,X,Y,Z,aa,ae,ag,ah,ai,di,bI⟩:=lY aL
 have bJ:=bI.pf [18,19,20]
 obtain⟨dG,aj,m,ak,dm⟩:=Jd bJ
 refine(uH _ _ g0 V n o g a p a.aB.ls.length h q a.ah.ls.length j k r a.ag.ls.length l e b aO aP aQ aR aS aT aU aV aW aX aZ bf bg bi bn bq bu bv bA bB bC bD bE bF bG bH W r1 aj s rfl (m _ Q) e6 t rfl (m _ S) e6 (λ x9 h9=>⟨m _ (u x9 h9).1,(u x9 h9).2⟩) rfl (m _ U) e6 X Y Z aa ae ag ah ai e8 f5 l2 e8 e8 hr).mono ?_
 rintro _ dH ⟨_,rfl,bK,bL,bM,dI,dJ,dK,dL,dM,dN,dO,dP,dQ,dR,dS,dU,dV,dW,dX,dY,dZ,d9,ed,ek,eu,eB,dx,eD,eF,dz,rfl,au,J,K,L,M,N,O,B,C,E⟩
 have d:=ak _ _ au
 have bN:=aA J
 have bO:=aA K
 have bP:=aA L
 have bQ:=aA M
 have bR:=aA N
 have bS:=aA O
 have bT:=aA B
 have bV:=aA C
 have bX:=aA E
 have bY:=zr 1 d
 have bZ:=zr 4 d
 have cu:=zr 5 d
 have cz:=zr 7 d
 have cB:=zr 9 d
 have cK:=zr 11 d
 have cO:=zr 13 d
 have cZ:=zr 15 d
 have df:=zr 17 d
 have dh:=zr 19 d
 have av:=d.pb [0,1,2]
 have ax:=iK K L M N O B C E av
 have ay:=ax.pb [0]
 exact⟨_,rfl,bK,bL,bM,rfl,ay,J⟩
theorem wm (w D g0) (V:bU) (n o g) (a:bW) (p F h q G j k r I l e) (b:aD) (W:bU) (r1:aD) (H:Own w D w [blk g0 [.pointer (some ⟨e,0,none⟩), .slice n V.bF.ls.length o] 98,row n V.bF.ls.length o (q4 bz.cells g) 42 21,sepL (q4 bz.own g),jZ e b]) (s:s5 bz.abs g=V.bF.ls) (P:F=a.aB.ls.length) (Q:Ro w D λ w'=>aY w' 6 p a.aB.ls.length (q4 aN.cells a.aB.ls)) (aI:a.aB.ls.length<=h/\a.aB.ls.length<=9223372036854775807) (t:s5 af.abs k=a.ah.ls) (R:G=a.ah.ls.length) (S:Ro w D λ w'=>aY w' 3 q a.ah.ls.length (q4 af.cells k)) (aJ:a.ah.ls.length<=j/\a.ah.ls.length<=9223372036854775807) (u:∀ x ∈ k,Ro w D (λ w'=>aY w' 2 x.aj.A x.aj.ls.length (q4 aH.cells x.aj.ls))/\(x.aj.ls.length<=x.aj.c/\x.aj.ls.length<=9223372036854775807)) (T:I=a.ag.ls.length) (U:Ro w D λ w'=>aY w' 2 r a.ag.ls.length (q4 aM.cells a.ag.ls)) (aK:a.ag.ls.length<=l/\a.ag.ls.length<=9223372036854775807) (dB:b.aa.ag.ls.length<=1000/\b.aa.ak.ls.length<=1000/\b.aa.aK.ls.length<=1000/\b.aC.ls.length<=1000/\V.bF.ls.length<=100000) (dC:Ak b.aC.ls) (dD:a.aB.ls.length<=24/\a.ag.ls.length<=1000/\a.ah.ls.length<=1000/\jR a.aU) (dE:mV a.ah.ls) (hr:lq V a b=(W,r1)):
    Calls v5 57 #[vP g0 0, .agg (iA a.av a.aI a.eO a.aP a.dK a.fA a.aU a.ax a.aX a.eQ a.bG a.aF a.eG a.cZ a.xN a.fe a.cu.aJ a.cu.aR p F h q G j r I l).toArray] w (dA λ v w'=> ∃ y z f,v= .tuple #[]/\Own w D w' [blk g0 [vP e 0, .slice y W.bF.ls.length z] 98,row y W.bF.ls.length z (q4 bz.cells f) 42 21,sepL (q4 bz.own f),jZ e r1]/\(s5 bz.abs f=W.bF.ls)):=by
 subst P R T
 have aC:=aA s
 have aF:=aA t
 have aL:=zr 1 H
 have aO:=H.pf [3]
 obtain⟨aP,aQ,aR,aS,aT,aU,aV,aW,aX,aZ,bf,bg,bi,bn,bq,bu,bv,bA,bB,bC,bD,bE,bF,bG,bH,bI,X,Y,Z,aa,ae,ag,ah,ai,di,bJ⟩:=lY aO
 have bK:=bJ.px [18,19,20] [] [1]
 obtain⟨dF,aj,m,ak,dm⟩:=JU bK
 refine(wh _ _ g0 V n o g a p a.aB.ls.length h q a.ah.ls.length j k r a.ag.ls.length l e b aP aQ aR aS aT aU aV aW aX aZ bf bg bi bn bq bu bv bA bB bC bD bE bF bG bH bI W r1 aj s rfl (m _ Q) e6 t rfl (m _ S) e6 (λ x9 h9=>⟨m _ (u x9 h9).1,(u x9 h9).2⟩) rfl (m _ U) e6 X Y Z aa ae ag ah ai e8 g5 e8 f5 hr).mono ?_
 rintro _ dG ⟨_,rfl,bL,bM,bN,dH,dI,dJ,dK,dL,dM,dN,dO,dP,dQ,dR,dS,dU,dV,dW,dX,dY,dZ,d9,ed,dx,ek,eu,dz,rfl,au,J,K,L,M,N,O,B,C,E⟩
 have d:=ak _ _ au
 have bO:=aA J
 have bP:=aA K
 have bQ:=aA L
 have bR:=aA M
 have bS:=aA N
 have bT:=aA O
 have bV:=aA B
 have bX:=aA C
 have bY:=aA E
 have bZ:=zr 1 d
 have cu:=zr 4 d
 have cz:=zr 6 d
 have cB:=zr 8 d
 have cK:=zr 10 d
 have cO:=zr 12 d
 have cZ:=zr 14 d
 have df:=zr 16 d
 have dh:=zr 18 d
 have av:=d.px [3,20] [] [0,1,2]
 have ax:=iK K L M N O B C E av
 have ay:=BU (Dw (zh hr).1.own rfl rfl rfl rfl rfl rfl rfl rfl) ax
 have az:=ay.pb [0]
 exact⟨_,rfl,bL,bM,bN,rfl,az,J⟩
theorem wO (w D g0) (O:bU) (m n f) (a:bW) (o z g p B h j q C k d) (b:aD) (P:bU) (r1:aD) (H:Own w D w [blk g0 [.pointer (some ⟨d,0,none⟩), .slice m O.bF.ls.length n] 98,row m O.bF.ls.length n (q4 bz.cells f) 42 21,sepL (q4 bz.own f),jZ d b]) (r:s5 bz.abs f=O.bF.ls) (G:z=a.aB.ls.length) (I:Ro w D λ w'=>aY w' 6 o a.aB.ls.length (q4 aN.cells a.aB.ls)) (aj:a.aB.ls.length<=g/\a.aB.ls.length<=9223372036854775807) (s:s5 af.abs j=a.ah.ls) (J:B=a.ah.ls.length) (K:Ro w D λ w'=>aY w' 3 p a.ah.ls.length (q4 af.cells j)) (ak:a.ah.ls.length<=h/\a.ah.ls.length<=9223372036854775807) (t:∀ x ∈ j,Ro w D (λ w'=>aY w' 2 x.aj.A x.aj.ls.length (q4 aH.cells x.aj.ls))/\(x.aj.ls.length<=x.aj.c/\x.aj.ls.length<=9223372036854775807)) (L:C=a.ag.ls.length) (M:Ro w D λ w'=>aY w' 2 q a.ag.ls.length (q4 aM.cells a.ag.ls)) (au:a.ag.ls.length<=k/\a.ag.ls.length<=9223372036854775807) (bI:b.aa.ag.ls.length<=1000/\b.aa.ak.ls.length<=1000/\b.aa.aK.ls.length<=1000/\b.aC.ls.length<=1000/\O.bF.ls.length<=100000) (bJ:Dk b.aa.ak.ls) (hr:lT O a b=(P,r1)):
    Calls v5 58 #[vP g0 0, .agg (iA a.av a.aI a.eO a.aP a.dK a.fA a.aU a.ax a.aX a.eQ a.bG a.aF a.eG a.cZ a.xN a.fe a.cu.aJ a.cu.aR o z g p B h q C k).toArray] w (dA λ v w'=> ∃ u y e,v= .tuple #[]/\Own w D w' [blk g0 [vP d 0, .slice u P.bF.ls.length y] 98,row u P.bF.ls.length y (q4 bz.cells e) 42 21,sepL (q4 bz.own e),jZ d r1]/\(s5 bz.abs e=P.bF.ls)):=by
 subst G J L
 have ag:=aA r
 have ah:=aA s
 have av:=zr 1 H
 have ax:=H.pf [3]
 obtain⟨ay,az,aB,aC,aF,aG,aI,bK,aJ,aK,bL,aL,aO,bM,aP,aQ,bN,aR,aS,bO,aT,aU,bP,aV,aW,bQ,Q,R,S,T,U,V,W,X,bA,aX⟩:=lY ax
 have aZ:=aX.pf [18,19,20,0,2,3]
 obtain⟨bR,Y,l,Z,bB⟩:=KC aZ
 refine(wN _ _ g0 O m n f a o a.aB.ls.length g p a.ah.ls.length h j q a.ag.ls.length k d b ay az aB aC aF aG aI aJ aK aL aO aP aQ aR aS aT aU aV aW P r1 Y r rfl (l _ I) e6 s rfl (l _ K) e6 (λ x9 h9=>⟨l _ (t x9 h9).1,(t x9 h9).2⟩) rfl (l _ M) e6 Q e8 j9 hr).mono ?_
 rintro _ bS ⟨_,rfl,bf,bg,bi,bT,bV,bX,rfl,aa,E,F⟩
 have N:=Z _ _ aa
 have bE:=aA E
 have bF:=aA F
 have bG:=zr 1 N
 have bH:=zr 4 N
 have bn:=N.px [3,6] [] [0,1,2]
 have bq:=iK F R S T U V W X bn
 have bu:=BU (Dw (by obtain⟨⟨_,rfl⟩,_⟩:=oH hr; rfl) rfl (by obtain⟨⟨_,rfl⟩,_⟩:=oH hr; rfl) (by obtain⟨⟨_,rfl⟩,_⟩:=oH hr; rfl) (by obtain⟨⟨_,rfl⟩,_⟩:=oH hr; rfl) (by obtain⟨⟨_,rfl⟩,_⟩:=oH hr; rfl) (by obtain⟨⟨_,rfl⟩,_⟩:=oH hr; rfl) (by obtain⟨⟨_,rfl⟩,_⟩:=oH hr; rfl) (by obtain⟨⟨_,rfl⟩,_⟩:=oH hr; rfl)) bq
 have bv:=bu.pb [0]
 exact⟨_,rfl,bf,bg,bi,rfl,bv,E⟩
theorem wP (w D g0) (U:bU) (q r k) (a:bW) (s I l t J m n u K o h) (b:aD) (V:bU) (H:Own w D w [blk g0 [.pointer (some ⟨h,0,none⟩), .slice q U.bF.ls.length r] 98,row q U.bF.ls.length r (q4 bz.cells k) 42 21,sepL (q4 bz.own k),jZ h b]) (y:s5 bz.abs k=U.bF.ls) (O:I=a.aB.ls.length) (P:Ro w D λ w'=>aY w' 6 s a.aB.ls.length (q4 aN.cells a.aB.ls)) (aB:a.aB.ls.length<=l/\a.aB.ls.length<=9223372036854775807) (z:s5 af.abs n=a.ah.ls) (Q:J=a.ah.ls.length) (R:Ro w D λ w'=>aY w' 3 t a.ah.ls.length (q4 af.cells n)) (aC:a.ah.ls.length<=m/\a.ah.ls.length<=9223372036854775807) (B:∀ x ∈ n,Ro w D (λ w'=>aY w' 2 x.aj.A x.aj.ls.length (q4 aH.cells x.aj.ls))/\(x.aj.ls.length<=x.aj.c/\x.aj.ls.length<=9223372036854775807)) (S:K=a.ag.ls.length) (T:Ro w D λ w'=>aY w' 2 u a.ag.ls.length (q4 aM.cells a.ag.ls)) (aF:a.ag.ls.length<=o/\a.ag.ls.length<=9223372036854775807) (bN:b.aa.ag.ls.length<=1000/\b.aa.ak.ls.length<=1000/\b.aa.aK.ls.length<=1000/\b.aC.ls.length<=1000/\U.bF.ls.length<=100000) (hr:mP U a b=V):
    Calls v5 59 #[vP g0 0, .agg (iA a.av a.aI a.eO a.aP a.dK a.fA a.aU a.ax a.aX a.eQ a.bG a.aF a.eG a.cZ a.xN a.fe a.cu.aJ a.cu.aR s I l t J m u K o).toArray] w (dA λ v w'=> ∃ C E j,v= .tuple #[]/\Own w D w' [blk g0 [vP h 0, .slice C V.bF.ls.length E] 98,row C V.bF.ls.length E (q4 bz.cells j) 42 21,sepL (q4 bz.own j),jZ h b]/\(s5 bz.abs j=V.bF.ls)):=by
 subst O Q S
 have ax:=aA y
 have ay:=aA z
 have aG:=zr 1 H
 have aI:=H.pf [3]
 obtain⟨aJ,aK,aL,W,aO,aP,aQ,bO,aR,X,aS,aT,aU,bP,aV,aX,bQ,aZ,bf,bR,bg,bi,bS,bu,bv,bT,L,Y,M,Z,aa,ae,ag,ah,bH,bA⟩:=lY aI
 have e:=bA.pf [18,19,20]
 have bI:=zr 5 e
 have bJ:=zr 9 e
 obtain⟨bV,ai,p,aj,d⟩:=Jf e
 refine(wM _ _ g0 U q r k a s a.aB.ls.length l t a.ah.ls.length m n u a.ag.ls.length o h b aJ aK aL W aO aP aQ aR X aS aT aU aV aX aZ bf bg bi bu bv V ai y rfl (p _ P) e6 z rfl (p _ R) e6 (λ f g=>⟨p _ (B f g).1,(B f g).2⟩) rfl (p _ T) e6 L (d _ 1 _ rfl aW) e6 (λ f g=>⟨d _ 2 _ rfl (az (Q6.2 ⟨f,g,b1⟩) aW),bq (φ:=λ _=>_) e (i:=6) rfl (az (Q6.2 ⟨f,g,b1⟩) bn)⟩) M (d _ 5 _ rfl aW) e6 (λ f g=>⟨d _ 6 _ rfl (az (Q6.2 ⟨f,g,b1⟩) aW),bq (φ:=λ _=>_) e (i:=10) rfl (az (Q6.2 ⟨f,g,b1⟩) bn),d _ 6 _ rfl (az (Q6.2 ⟨f,g, .tail _ b1⟩) aW),bq (φ:=λ _=>_) e (i:=10) rfl (az (Q6.2 ⟨f,g, .tail _ b1⟩) bn),(λ F G=>⟨d _ 6 _ rfl (az (Q6.2 ⟨f,g, .tail _ b4⟩) (az (Q6.2 ⟨F,G,b1⟩) aW)),bq (φ:=λ _=>_) e (i:=10) rfl (az (Q6.2 ⟨f,g, .tail _ b4⟩) (az (Q6.2 ⟨F,G,b1⟩) bn)),d _ 6 _ rfl (az (Q6.2 ⟨f,g, .tail _ b4⟩) (az (Q6.2 ⟨F,G, .tail _ b1⟩) aW)),bq (φ:=λ _=>_) e (i:=10) rfl (az (Q6.2 ⟨f,g, .tail _ b4⟩) (az (Q6.2 ⟨F,G, .tail _ b1⟩) bn))⟩),d _ 6 _ rfl (az (Q6.2 ⟨f,g, .tail _ b2⟩) aW),bq (φ:=λ _=>_) e (i:=10) rfl (az (Q6.2 ⟨f,g, .tail _ b2⟩) bn),d _ 6 _ rfl (az (Q6.2 ⟨f,g, .tail _ b3⟩) aW),bq (φ:=λ _=>_) e (i:=10) rfl (az (Q6.2 ⟨f,g, .tail _ b3⟩) bn),(λ F G=>⟨d _ 6 _ rfl (az (Q6.2 ⟨f,g, .tail _ b5⟩) (az (Q6.2 ⟨F,G,b1⟩) aW)),bq (φ:=λ _=>_) e (i:=10) rfl (az (Q6.2 ⟨f,g, .tail _ b5⟩) (az (Q6.2 ⟨F,G,b1⟩) bn)),(λ y2 k2=>⟨d _ 6 _ rfl (az (Q6.2 ⟨f,g, .tail _ b5⟩) (az (Q6.2 ⟨F,G, .tail _ b1⟩) (az (Q6.2 ⟨y2,k2,b1⟩) aW))),bq (φ:=λ _=>_) e (i:=10) rfl (az (Q6.2 ⟨f,g, .tail _ b5⟩) (az (Q6.2 ⟨F,G, .tail _ b1⟩) (az (Q6.2 ⟨y2,k2,b1⟩) bn)))⟩)⟩)⟩) e8 hr).mono ?_
 rintro _ bX ⟨_,rfl,bB,bC,bD,rfl,ak,N⟩
 have au:=aj _ _ ak
 have bL:=aA N
 have bM:=zr 1 au
 have bE:=au.pb [0,1,2]
 have bF:=iK L Y M Z aa ae ag ah bE
 have bG:=bF.pb [0]
 exact⟨_,rfl,bB,bC,bD,rfl,bG,N⟩
end
open _root_.Go.Proofs.Tryz renaming sizeOf28->O0
section
open Go.RowKit
def kL (c:bU) (b:bW) (a:aD):bU × aD:=
 if b.av=1 then bnd (iU c b a) λ d=>(d.1,d.2) else if b.av=4 then bnd (lq c b a) λ e=>(e.1,e.2) else if b.av=6 then bnd (lT c b a) λ f=>(f.1,f.2) else if b.av=7 then bnd (mP c b a) λ g=>(g,a) else if b.av=9 then if b.aI=1 then(c,(aD.mk a.aa a.bT (E0 a.aC.ls) a.bM a.bD a.bA a.bC a.bB a.dO (max a.dG b.bG) a.dH a.dD a.dE)) else if b.aI=2 then(c,(aD.mk a.aa a.bT (E0 a.aC.ls) a.bM a.bD a.bA a.bC a.bB a.dO a.dG (max a.dH b.bG) a.dD a.dE)) else if b.aI=3 then(c,(aD.mk a.aa a.bT (E0 a.aC.ls) a.bM a.bD a.bA a.bC a.bB a.dO a.dG a.dH (max a.dD b.bG) a.dE)) else(c,(aD.mk a.aa a.bT (E0 a.aC.ls) a.bM a.bD a.bA a.bC a.bB a.dO a.dG a.dH a.dD (max a.dE b.bG))) else if b.av=13 then(c,a) else if b.av=14 then(c,a) else(c,a)
theorem rR (w D U) (I:bU) (r s p) (b:bW) (j aB f l aC g C m aF h d) (a:aD) (r0:bU) (r1:aD) (H:Own w D w [blk U [.pointer (some ⟨d,0,none⟩), .slice r I.bF.ls.length s] 98,row r I.bF.ls.length s (q4 bz.cells p) 42 21,sepL (q4 bz.own p),jZ d a]) (n:List.map bz.abs p=I.bF.ls) (aS:aB=b.aB.ls.length) (J:Ro w D λ w'=>aY w' 6 j b.aB.ls.length (q4 aN.cells b.aB.ls)) (ek:b.aB.ls.length<=f/\b.aB.ls.length<=9223372036854775807) (E:List.map af.abs C=b.ah.ls) (aT:aC=b.ah.ls.length) (K:Ro w D λ w'=>aY w' 3 l b.ah.ls.length (q4 af.cells C)) (eu:b.ah.ls.length<=g/\b.ah.ls.length<=9223372036854775807) (t:∀ x ∈ C,Ro w D (λ w'=>aY w' 2 x.aj.A x.aj.ls.length (q4 aH.cells x.aj.ls))/\(x.aj.ls.length<=x.aj.c/\x.aj.ls.length<=9223372036854775807)) (aU:aF=b.ag.ls.length) (L:Ro w D λ w'=>aY w' 2 m b.ag.ls.length (q4 aM.cells b.ag.ls)) (eB:b.ag.ls.length<=h/\b.ag.ls.length<=9223372036854775807) (j4:a.aa.ag.ls.length<=1000/\a.aa.ak.ls.length<=1000/\a.aa.aK.ls.length<=1000/\a.aC.ls.length<=1000/\I.bF.ls.length<=100000) (j5:Mk a) (j6:b.aB.ls.length<=24/\b.ag.ls.length<=1000/\b.ah.ls.length<=1000/\jR b.aU) (kg:mV b.ah.ls) (ko:(¬ (b.av=1)\/11<=b.aI/\b.aI<=14)/\(¬ (b.av=9)\/1<=b.aI/\b.aI<=4)) (hr:kL I b a=(r0,r1)):
    Calls Tryz.prog 24 #[vP U 0, .agg (iA b.av b.aI b.eO b.aP b.dK b.fA b.aU b.ax b.aX b.eQ b.bG b.aF b.eG b.cZ b.xN b.fe b.cu.aJ b.cu.aR j aB f l aC g m aF h).toArray] w (dA λ v w'=> ∃ ak au W,v= .tuple #[]/\Own w D w' [blk U [vP d 0, .slice ak r0.bF.ls.length au] 98,row ak r0.bF.ls.length au (q4 bz.cells W) 42 21,sepL (q4 bz.own W),jZ d r1]/\(List.map bz.abs W=r0.bF.ls)):=by
 unfold kL at hr
 subst aS aT aU
 have d9:=aA n
 have ed:=aA E
 have eD:=zr 1 H
 refine cb Tryz.func24 ?_
 refine sr ?_
 refine dn (gK b j f l g m h) 42 H ?_
 intro X kr u
 refine ns (Kz (vP X 0) (Lz (vI b.av) u 0 C2 (nt (bo (sr (Kz (.bool (decide (b.av=1))) (An rfl ?_)))))))
 by_cases z:b.av=1
 refine jT (dT z) (Il (Mz rfl (La (gK b j f l g m h) u 0 N8 N9 ?_)))
 have eF:=u.pb [0]
 obtain⟨⟨bG,bH⟩,aG⟩:∃ q:bU × aD,iU I b a=q:=⟨_,rfl⟩
 obtain⟨ku,bI,Y,bJ,fK⟩:=Jf eF
 refine cl Tryz.call56 (uI _ _ U I r s p b j b.aB.ls.length f l b.ah.ls.length g C m b.ag.ls.length h d a bG bH bI n rfl (Y _ J) e6 E rfl (Y _ K) e6 (λ x9 h9=>⟨Y _ (t x9 h9).1,(t x9 h9).2⟩) rfl (Y _ L) e6 e8 f5 l2 e8 e8 aG) ?_
 rintro _ kv ⟨eG,eH,eO,rfl,bK,aI⟩
 have bL:=bJ _ _ bK
 have fM:=aA aI
 have fO:=zr 1 bL
 refine C4 (bN (IL (res0 rfl) ?_))
 have eP:=bL.px [] [4] []
 obtain⟨rfl,rfl⟩:=fD (zj hr zq2)
 exact⟨eG,eH,eO,rfl,eP,aI⟩
 refine jF (dF z) (sr (Kz (.bool (decide (b.av=4))) (An rfl ?_)))
 by_cases B:b.av=4
 refine jT (dT B) (Il (Mz rfl (La (gK b j f l g m h) u 0 N8 N9 ?_)))
 have eQ:=u.pb [0]
 obtain⟨⟨bM,bO⟩,aJ⟩:∃ q:bU × aD,lq I b a=q:=⟨_,rfl⟩
 obtain⟨kw,bP,Z,bQ,fP⟩:=Jf eQ
 refine cl Tryz.call57 (wm _ _ U I r s p b j b.aB.ls.length f l b.ah.ls.length g C m b.ag.ls.length h d a bM bO bP n rfl (Z _ J) e6 E rfl (Z _ K) e6 (λ x9 h9=>⟨Z _ (t x9 h9).1,(t x9 h9).2⟩) rfl (Z _ L) e6 e8 g5 e8 f5 aJ) ?_
 rintro _ ky ⟨eT,eU,eX,rfl,bR,aK⟩
 have bS:=bQ _ _ bR
 have fQ:=aA aK
 have fT:=zr 1 bS
 refine C4 (bN (IL (res0 rfl) ?_))
 have eY:=bS.px [] [4] []
 obtain⟨rfl,rfl⟩:=fD (zj hr zq3)
 exact⟨eT,eU,eX,rfl,eY,aK⟩
 refine jF (dF B) (sr (Kz (.bool (decide (b.av=6))) (An rfl ?_)))
 by_cases F:b.av=6
 refine jT (dT F) (Il (Mz rfl (La (gK b j f l g m h) u 0 N8 N9 ?_)))
 have eZ:=u.pb [0]
 obtain⟨⟨bT,bV⟩,aL⟩:∃ q:bU × aD,lT I b a=q:=⟨_,rfl⟩
 obtain⟨kz,bX,aa,bY,fU⟩:=Jf eZ
 refine cl Tryz.call58 (wO _ _ U I r s p b j b.aB.ls.length f l b.ah.ls.length g C m b.ag.ls.length h d a bT bV bX n rfl (aa _ J) e6 E rfl (aa _ K) e6 (λ x9 h9=>⟨aa _ (t x9 h9).1,(t x9 h9).2⟩) rfl (aa _ L) e6 e8 j9 aL) ?_
 rintro _ kC ⟨fe,fo,fq,rfl,bZ,aO⟩
 have cu:=bY _ _ bZ
 have fV:=aA aO
 have fZ:=zr 1 cu
 refine C4 (bN (IL (res0 rfl) ?_))
 have fu:=cu.px [] [4] []
 obtain⟨rfl,rfl⟩:=fD (zj hr zq4)
 exact⟨fe,fo,fq,rfl,fu,aO⟩
 refine jF (dF F) (sr (Kz (.bool (decide (b.av=7))) (An rfl ?_)))
 by_cases G:b.av=7
 refine jT (dT G) (Il (Mz rfl (La (gK b j f l g m h) u 0 N8 N9 ?_)))
 have fw:=u.pb [0]
 obtain⟨cz,aP⟩:∃ q,mP I b a=q:=⟨_,rfl⟩
 obtain⟨kD,cB,ag,cK,gm⟩:=Jf fw
 refine cl Tryz.call59 (wP _ _ U I r s p b j b.aB.ls.length f l b.ah.ls.length g C m b.ag.ls.length h d a cz cB n rfl (ag _ J) e6 E rfl (ag _ K) e6 (λ x9 h9=>⟨ag _ (t x9 h9).1,(t x9 h9).2⟩) rfl (ag _ L) e6 e8 aP) ?_
 rintro _ kE ⟨fA,fB,fC,rfl,cO,aQ⟩
 have cZ:=cK _ _ cO
 have fE:=aA aQ
 have fF:=zr 1 cZ
 refine C4 (bN (IL (res0 rfl) ?_))
 have df:=cZ.px [] [4] []
 obtain⟨rfl,rfl⟩:=fD (zj hr zq5)
 exact⟨fA,fB,fC,rfl,df,aQ⟩
 refine jF (dF G) (sr (Kz (.bool (decide (b.av=9))) (An rfl ?_)))
 by_cases y:b.av=9
 refine jT (dT y) ?_
 have dh:=u.pf [4]
 obtain⟨gp,gq,gu,gy,gz,gB,gD,gF,gG,gH,gI,gJ,gL,gM,gN,gP,gQ,gT,gU,gV,gW,gX,gY,gZ,ib,ic,M,N,O,P,Q,R,S,T,fG,di⟩:=lY dh
 refine oV 22 [22] (bv.block IQ) di ?_
 intro ig ah
 refine qv 0 rfl rfl (qp U 0 1 rfl (qp U 0 2 rfl (ql 3 rfl 19 P6 rfl rfl rfl (qp X 1 4 rfl (ql 5 rfl 18 C2 rfl rfl rfl (qv 6 rfl rfl (qp U 0 7 rfl (qp U 0 8 rfl (ql 9 rfl 19 P6 rfl rfl rfl (qp X 1 10 rfl (ql 11 rfl 18 C2 rfl rfl rfl (qp d 0 12 rfl (qp d 29 13 rfl ?_)))))))))))))
 by_cases ai:b.aI=1
 refine qt (v:=vP d 30) 14 rfl (λ _ _=>by rw [show b.aI=1 from by omega]; exact yk) (ql 15 rfl 0 D2 rfl rfl rfl (qp X 10 16 rfl (ql 17 rfl 18 D2 rfl rfl rfl (qt (v:=vU (max a.dG b.bG)) 18 rfl (λ _ _=>Ir (e:=if(b.bG:Int) > (a.dG:Int) then(b.bG:Int) else(a.dG:Int)) yk e6) (qp d 0 19 rfl (qp d 29 20 rfl (qt (v:=vP d 30) 21 rfl (λ _ _=>by rw [show b.aI=1 from by omega]; exact yk) ?_)))))))
 refine qe 22 rfl (Do.store (vs:= [vU (max a.dG b.bG)]) (o:=30) ah rfl rfl O0 rfl rfl rfl rfl ?_)
 intro ik dm
 refine⟨.inl e7, ?_⟩
 refine qn (bN (IL (res0 rfl) ?_))
 have dw:=iK M N O P Q R S T dm
 have dx:=dw.px [] [1] [0]
 obtain⟨rfl,rfl⟩:=fD (zj hr zq6)
 exact⟨r,s,p,rfl,dx,n⟩
 by_cases ay:b.aI=2
 refine qt (v:=vP d 31) 14 rfl (λ _ _=>by rw [show b.aI=2 from by omega]; exact yk) (ql 15 rfl 0 D2 rfl rfl rfl (qp X 10 16 rfl (ql 17 rfl 18 D2 rfl rfl rfl (qt (v:=vU (max a.dH b.bG)) 18 rfl (λ _ _=>Ir (e:=if(b.bG:Int) > (a.dH:Int) then(b.bG:Int) else(a.dH:Int)) yk e6) (qp d 0 19 rfl (qp d 29 20 rfl (qt (v:=vP d 31) 21 rfl (λ _ _=>by rw [show b.aI=2 from by omega]; exact yk) ?_)))))))
 refine qe 22 rfl (Do.store (vs:= [vU (max a.dH b.bG)]) (o:=31) ah rfl rfl O0 rfl rfl rfl rfl ?_)
 intro il dz
 refine⟨.inl e7, ?_⟩
 refine qn (bN (IL (res0 rfl) ?_))
 have dB:=iK M N O P Q R S T dz
 have dC:=dB.px [] [1] [0]
 obtain⟨rfl,rfl⟩:=fD (zj hr zq7)
 exact⟨r,s,p,rfl,dC,n⟩
 by_cases aR:b.aI=3
 refine qt (v:=vP d 32) 14 rfl (λ _ _=>by rw [show b.aI=3 from by omega]; exact yk) (ql 15 rfl 0 D2 rfl rfl rfl (qp X 10 16 rfl (ql 17 rfl 18 D2 rfl rfl rfl (qt (v:=vU (max a.dD b.bG)) 18 rfl (λ _ _=>Ir (e:=if(b.bG:Int) > (a.dD:Int) then(b.bG:Int) else(a.dD:Int)) yk e6) (qp d 0 19 rfl (qp d 29 20 rfl (qt (v:=vP d 32) 21 rfl (λ _ _=>by rw [show b.aI=3 from by omega]; exact yk) ?_)))))))
 refine qe 22 rfl (Do.store (vs:= [vU (max a.dD b.bG)]) (o:=32) ah rfl rfl O0 rfl rfl rfl rfl ?_)
 intro iq dD
 refine⟨.inl e7, ?_⟩
 refine qn (bN (IL (res0 rfl) ?_))
 have dE:=iK M N O P Q R S T dD
 have dG:=dE.px [] [1] [0]
 obtain⟨rfl,rfl⟩:=fD (zj hr zq8)
 exact⟨r,s,p,rfl,dG,n⟩
 refine qt (v:=vP d 33) 14 rfl (λ _ _=>by rw [show b.aI=4 from by omega]; exact yk) (ql 15 rfl 0 D2 rfl rfl rfl (qp X 10 16 rfl (ql 17 rfl 18 D2 rfl rfl rfl (qt (v:=vU (max a.dE b.bG)) 18 rfl (λ _ _=>Ir (e:=if(b.bG:Int) > (a.dE:Int) then(b.bG:Int) else(a.dE:Int)) yk e6) (qp d 0 19 rfl (qp d 29 20 rfl (qt (v:=vP d 33) 21 rfl (λ _ _=>by rw [show b.aI=4 from by omega]; exact yk) ?_)))))))
 refine qe 22 rfl (Do.store (vs:= [vU (max a.dE b.bG)]) (o:=33) ah rfl rfl O0 rfl rfl rfl rfl ?_)
 intro iw dH
 refine⟨.inl e7, ?_⟩
 refine qn (bN (IL (res0 rfl) ?_))
 have dI:=iK M N O P Q R S T dH
 have dJ:=dI.px [] [1] [0]
 obtain⟨rfl,rfl⟩:=fD (zj hr zq8)
 exact⟨r,s,p,rfl,dJ,n⟩
 refine jF (dF y) (sr (Kz (.bool (decide (b.av=13))) (An rfl ?_)))
 by_cases V:b.av=13
 refine jT (dT V) (sr (Mz rfl (La (gK b j f l g m h) u 0 N8 N9 ?_)))
 refine WL.do rfl (IP Tryz.call60 rfl ?_ (λ _ _ k=>k))
 refine cb Tryz.func60 ?_
 refine sr ?_
 refine dn (gK b j f l g m h) 42 u ?_
 intro iy iB dK
 refine An rfl (Ik ?_)
 have dL:=dK.pf [5]
 obtain⟨iC,iD,iE,iF,iG,iH,iI,iJ,iL,iM,iO,iP,iQ,iR,iT,iV,iW,iX,iY,iZ,ja,jb,jc,jd,je,jg,aV,aW,aX,aZ,bf,bg,bi,bn,fH,dM⟩:=lY dL
 refine oV 23 [] (IE IQ) dM ?_
 intro jh dN
 refine qv 0 rfl rfl (qp U 0 1 rfl (qp U 0 2 rfl (ql 3 rfl 20 P6 rfl rfl rfl (qp d 0 4 rfl (qp d 34 5 rfl (ql 6 rfl 0 Tryz.isAgg84 rfl rfl rfl (qk (.bool false) 7 rfl (qv 8 rfl rfl (Ip (rs:= []) 9 rfl rfl rfl rfl e7 (Ip (rs:= []) 10 rfl rfl rfl rfl e7 (Ip (rs:= []) 11 rfl rfl rfl rfl e7 (Ip (rs:= []) 12 rfl rfl rfl rfl e7 (Ip (rs:= []) 13 rfl rfl rfl rfl e7 (Ip (rs:= []) 14 rfl rfl rfl rfl e7 (Ip (rs:= []) 15 rfl rfl rfl rfl e7 (Ip (rs:= []) 16 rfl rfl rfl rfl e7 (Ip (rs:= []) 17 rfl rfl rfl rfl e7 (Ip (rs:= []) 18 rfl rfl rfl rfl e7 (Ip (rs:= []) 19 rfl rfl rfl rfl e7 (Ip (rs:= []) 20 rfl rfl rfl rfl e7 (Ip (rs:= []) 21 rfl rfl rfl rfl e7 (qt (v:= .bool false) 22 rfl (λ _ _=>Io rfl rfl rfl) (qv 23 rfl rfl (Ip (rs:= []) 24 rfl rfl rfl rfl e7 (Ip (rs:= []) 25 rfl rfl rfl rfl e7 (Ip (rs:= []) 26 rfl rfl rfl rfl e7 (Ip (rs:= []) 27 rfl rfl rfl rfl e7 (Ip (rs:= []) 28 rfl rfl rfl rfl e7 (Ip (rs:= []) 29 rfl rfl rfl rfl e7 (Ip (rs:= []) 30 rfl rfl rfl rfl e7 (Ip (rs:= []) 31 rfl rfl rfl rfl e7 (Ip (rs:= []) 32 rfl rfl rfl rfl e7 (Ip (rs:= []) 33 rfl rfl rfl rfl e7 (Ip (rs:= []) 34 rfl rfl rfl rfl e7 (Ip (rs:= []) 35 rfl rfl rfl rfl e7 (Ip (rs:= []) 36 rfl rfl rfl rfl e7 (qt (v:= .bool false) 37 rfl (λ _ _=>Io rfl rfl rfl) (qa 38 rfl rfl (qn ?_)))))))))))))))))))))))))))))))))))))))
 refine Iq (rt (rs (nt (jf (IU (bN (IL (res0 rfl) ?_)))))))
 have dO:=iK aV aW aX aZ bf bg bi bn dN
 have dP:=dO.pk [3,4,5,0]
 obtain⟨rfl,rfl⟩:=fD (zj hr zq6)
 exact⟨r,s,p,rfl,dP,n⟩
 refine jF (dF V) (sr (Kz (.bool (decide (b.av=14))) (An rfl ?_)))
 by_cases aj:b.av=14
 refine jT (dT aj) (Il (Mz rfl (La (gK b j f l g m h) u 0 N8 N9 ?_)))
 refine WL.do rfl (IP Tryz.call61 rfl ?_ (λ _ _ k=>k))
 refine cb Tryz.func61 ?_
 refine sr ?_
 refine dn [vP U 0] 94 u ?_
 intro ji jk dQ
 refine dn (gK b j f l g m h) 42 dQ ?_
 intro jl jm az
 refine nt (Ik (sr (Lz (vP U 0) az 1 Tryz.isAgg94 (La (gK b j f l g m h) az 0 N8 N9 ?_))))
 refine WL.do rfl (IP Tryz.call60 rfl ?_ (λ _ _ k=>k))
 refine cb Tryz.func60 ?_
 refine sr ?_
 refine dn (gK b j f l g m h) 42 az ?_
 intro jo jq dR
 refine An rfl (Ik ?_)
 have dS:=dR.pf [7]
 obtain⟨jr,jv,jw,jy,jA,jB,jC,jD,jE,jG,jH,jI,jJ,jK,jL,jM,jN,jO,jP,jQ,jS,jU,jV,jW,jX,jY,bq,bu,bA,bB,bC,bD,bE,bF,fI,dU⟩:=lY dS
 refine oV 25 [] (IE IQ) dU ?_
 intro j3 dV
 refine qv 0 rfl rfl (qp U 0 1 rfl (qp U 0 2 rfl (ql 3 rfl 22 P6 rfl rfl rfl (qp d 0 4 rfl (qp d 34 5 rfl (ql 6 rfl 0 Tryz.isAgg84 rfl rfl rfl (qk (.bool false) 7 rfl (qv 8 rfl rfl (Ip (rs:= []) 9 rfl rfl rfl rfl e7 (Ip (rs:= []) 10 rfl rfl rfl rfl e7 (Ip (rs:= []) 11 rfl rfl rfl rfl e7 (Ip (rs:= []) 12 rfl rfl rfl rfl e7 (Ip (rs:= []) 13 rfl rfl rfl rfl e7 (Ip (rs:= []) 14 rfl rfl rfl rfl e7 (Ip (rs:= []) 15 rfl rfl rfl rfl e7 (Ip (rs:= []) 16 rfl rfl rfl rfl e7 (Ip (rs:= []) 17 rfl rfl rfl rfl e7 (Ip (rs:= []) 18 rfl rfl rfl rfl e7 (Ip (rs:= []) 19 rfl rfl rfl rfl e7 (Ip (rs:= []) 20 rfl rfl rfl rfl e7 (Ip (rs:= []) 21 rfl rfl rfl rfl e7 (qt (v:= .bool false) 22 rfl (λ _ _=>Io rfl rfl rfl) (qv 23 rfl rfl (Ip (rs:= []) 24 rfl rfl rfl rfl e7 (Ip (rs:= []) 25 rfl rfl rfl rfl e7 (Ip (rs:= []) 26 rfl rfl rfl rfl e7 (Ip (rs:= []) 27 rfl rfl rfl rfl e7 (Ip (rs:= []) 28 rfl rfl rfl rfl e7 (Ip (rs:= []) 29 rfl rfl rfl rfl e7 (Ip (rs:= []) 30 rfl rfl rfl rfl e7 (Ip (rs:= []) 31 rfl rfl rfl rfl e7 (Ip (rs:= []) 32 rfl rfl rfl rfl e7 (Ip (rs:= []) 33 rfl rfl rfl rfl e7 (Ip (rs:= []) 34 rfl rfl rfl rfl e7 (Ip (rs:= []) 35 rfl rfl rfl rfl e7 (Ip (rs:= []) 36 rfl rfl rfl rfl e7 (qt (v:= .bool false) 37 rfl (λ _ _=>Io rfl rfl rfl) (qa 38 rfl rfl (qn ?_)))))))))))))))))))))))))))))))))))))))
 refine Iq (rt (rs (Kz (.bool true) (nt (jt (rt (tR (Fin.res (res0 rfl) (C4 (bN (IL (res0 rfl) ?_)))))))))))
 have dW:=iK bq bu bA bB bC bD bE bF dV
 have dX:=dW.pk [5,6,7,0]
 obtain⟨rfl,rfl⟩:=fD (zj hr zq7)
 exact⟨r,s,p,rfl,dX,n⟩
 refine jF (dF aj) (IU (bN (IL (res0 rfl) ?_)))
 have dY:=u.px [] [0] []
 obtain⟨rfl,rfl⟩:=fD (zj hr zq7)
 exact⟨r,s,p,rfl,dY,n⟩
end
open Int renaming reduceEq->T3
open List renaming length_eq_zero_iff->v4,length_replicate->H0,replicate->r7
def vB (m:aD):aD:= { m with bT:=Int.toNat (IntKind.u64.wrap (((m.bT:Nat):Int)+1)) }
theorem EO {k:Nat} {m:aD} (h:Im k m):(vB m).bT=m.bT+1:=by
  have a:=h.1
  have b:=h.2.bg
  show Int.toNat (IntKind.u64.wrap ((m.bT:Int)+1))=_
  rw [IntWalk.u64_in _ e6]; omega
theorem Mk.bu {m:aD} (M:Mk m):Mk (vB m):=⟨M.oI,M.sF,M.qz,by unfold vB; dsimp only; exact lV _,M.dec,M.pO,M.act,M.nK,M.mh,M.nV,M.nW,M.nX⟩
theorem Tr.bu (p:bU) (m:aD):Tr 1 p m p (vB m):=⟨rfl,rfl,id,Nat.le_succ _,λ k _ hl h=>by
  have a:=h.2.more
  have e:=EO h
  refine⟨⟨hl, ?_⟩, [],(s6 _).symm, ?_⟩
  . show Iv (k+1) m.aa.ax (vB m).bT (nA m) (nD m); rw [e]; exact a.2.1
  . show lo m<=sw m.aa.ax (vB m).bT (nA m) (nD m); rw [e]; exact a.2.2.2⟩
def AR (m:aD) (x:ed):aD:= { vB m with aC:=E0 (m.aC.ls++ [x]) }
theorem K6 (p:bU) (m:aD) {x:ed} (hx:x.bI=gu m) (hs:s0 m.aC.ls+s0 m.aa.ak.ls < 8):Tr 1 p m p (AR m x):=⟨rfl,rfl,λ _=>by
    show s0 (m.aC.ls++ [x])+s0 m.aa.ak.ls<=8
    rw [List.length_append,List.length_singleton]; omega,Nat.le_succ _,λ k _ hl h=>by
  have a:=h.2.more
  have e:=EO h
  have b:nA (AR m x)=nA m++ [m.aa.ax *4294967296+m.bT+1]:=by
    show List.map ed.bI (m.aC.ls++ [x])=_
    rw [List.map_append,List.map_cons,List.map_nil,hx,ze h]; rfl
  refine⟨⟨hl, ?_⟩, [],(s6 _).symm, ?_⟩
  . show Iv (k+1) m.aa.ax (vB m).bT (nA (AR m x)) (nD m); rw [e,b]; exact a.1
  . show lo m<=sw m.aa.ax (vB m).bT (nA (AR m x)) (nD m); rw [e,b]; exact a.2.2.1⟩
theorem AU (c:Int) (x:bW) (m:aD) (n:Nat) (ps:List fu):∀ (l:List fu) (k:Nat) (o:List bW), ∃ q,gD c x m n ps l k o=o++q/\∀ z ∈ q,z.av=3/\z.eQ=gQ (AR m (ed.mk n c x.aU m.aa.aF (E0 x.aB.ls) (E0 ps) (E0 (r7 (s0 ps) false)) (E0 (r7 (s0 ps) (E0 []:Ll aQ))) 0))/\z.aX=n
  | [],k,o=>⟨[],(s6 _).symm,λ z hz=>by cases hz⟩
  | y::l,k,o=>by
    simp only [gD,bnd]
    split
    . exact AU c x m n ps l (k+1) o
    . obtain⟨q,e,hq⟩:=AU c x m n ps l (k+1) (o++ [bW.mk 3 0 y.bE 0 0 0 0 0 n (gQ (AR m (ed.mk n c x.aU m.aa.aF (E0 x.aB.ls) (E0 ps) (E0 (r7 (s0 ps) false)) (E0 (r7 (s0 ps) (E0 []:Ll aQ))) 0))) 0 m.aa.aF 0 0 0 false (aL.mk [] []) (E0 y.aB.ls) (E0 []) (E0 [])])
      refine⟨_::q,e.trans (by rw [List.append_assoc]; rfl),λ z hz=> ?_⟩
      rcases u2.1 hz with rfl | hz
      . exact⟨rfl,rfl,rfl⟩
      . exact hq z hz
theorem Ep {o:aN} (h:eu o=0):o.aV<=1000:=by
  have z:∀ {a:aN},a.aV=0->(a.av=o.av/\a.aZ=o.aZ/\a.aG=o.aG/\a.aJ=o.aJ/\a.aR=o.aR/\a.aV=o.aV)->o.aV<=1000:=λ c b=>by
    have:=b.2.2.2.2.2; omega
  unfold eu at h
  simp only [bnd] at h
  split at h
  . split at h
    . rename_i b; exact z rfl b
    . cases h
  split at h
  . split at h
    . rename_i b; exact z rfl b
    . cases h
  split at h
  . split at h
    . rename_i b; exact z rfl b
    . cases h
  split at h
  . split at h
    . unfold nR at h
      simp only [bnd] at h
      split at h
      . split at h
        . cases h
        . split at h
          . cases h
          . omega
      . rename_i b c; exact absurd h c
    . cases h
  split at h
  . split at h
    . rename_i b; exact z rfl b
    . cases h
  . cases h
theorem BV:∀ {l:List aN} {r:Int},lp (iH l) (λ _=>0)=r->r=0->∀ o ∈ l,eu o=0
  | [],_,_,_,o,ho=>by cases ho
  | y::l,r,h,hr,o,ho=>by
    simp only [iH,bnd] at h
    by_cases e:eu y=0
    . rw [if_pos e] at h
      rcases u2.1 ho with rfl | ho
      . exact e
      . exact BV h hr o ho
    . rw [if_neg e] at h
      simp only [lp] at h
      omega
theorem Dx {l:List aN} (h:kC l=0):s0 l<=4/\∀ o ∈ l,o.aV<=1000:=by
  unfold kC mU at h
  simp only [bnd] at h
  split at h
  . cases h
  split at h
  . cases h
  . exact⟨e6,λ o ho=>Ep (BV rfl h o ho)⟩
theorem Dy {l:List aN} (h:kC l=0):∀ o ∈ l,o.aV<=1000:=(Dx h).2
theorem Gi {a:List aM} {l:List aN} {r:List fu} (h:ko a l=(r,0)):kC l=0:=by
  unfold ko at h
  simp only [bnd] at h
  split at h
  . split at h
    . assumption
    . rename_i b; exact absurd (Prod.mk.inj h).2 b
  . rename_i b; exact absurd (Prod.mk.inj h).2 b
theorem Cy {p t:bU} {c:Int} {x:bW} {m m':aD} (h:dS p c x m=(t,m')):Tr 1 p m t m'/\((1<=c/\c<=4)->s0 x.aB.ls<=24->jR x.aU->s0 m.aa.ag.ls<=1000->Mk m->Mk m'):=by
  unfold dS at h
  simp only [bnd] at h
  rcases ec:ko m.aa.ag.ls x.aB.ls with ⟨ps,e⟩
  rw [ec] at h
  have no:∀ {d:bU} {a:aD},dL p c x.aU 2 [] (vB m)=(d,a)->(d,aD.mk (bZ.mk a.aa.au a.aa.ax a.aa.bG a.aa.aF (E0 m.aa.ag.ls) (E0 m.aa.ak.ls) (E0 m.aa.aK.ls)) a.bT (E0 m.aC.ls) a.bM a.bD a.bA a.bC a.bB a.dO a.dG a.dH a.dD a.dE)=(t,m')->Tr 1 p m t m'/\((1<=c/\c<=4)->s0 x.aB.ls<=24->jR x.aU->s0 m.aa.ag.ls<=1000->Mk m->Mk m'):=λ {d a} e h=>by
    have ha:=ru e
    obtain⟨rfl,f⟩:=Prod.mk.inj h
    obtain rfl:=uX f (by rw [ha.1]; rfl) (by rw [ha.1]; rfl) (by rw [ha.1]; rfl) (by rw [ha.2.1]; rfl)
    exact⟨(Tr.bu p m).trans (Tr.answer e),λ _ _ hq _ M=>ha.2.2.2.2 l9 hq M.bu⟩
  rcases b:dL p c x.aU 2 [] (vB m) with ⟨d,a⟩
  have e':=b
  unfold vB at e'
  rw [e'] at h
  split at h
  . exact no b h
  split at h
  . exact no b h
  split at h
  . exact no b h
  split at h
  . rename_i j l _ i
    obtain⟨q,eq,hq⟩:=AU c x m (gu m) ps ps 0 p.bF.ls
    obtain⟨rfl,rfl⟩:=Prod.mk.inj h
    have hb:=K6 p m (x:=ed.mk (gu m) c x.aU m.aa.aF (E0 x.aB.ls) (E0 ps) (E0 (r7 (s0 ps) false)) (E0 (r7 (s0 ps) (E0 []:Ll aQ))) 0) rfl e6
    refine⟨hb.tells eq hq λ k _ _=>List.mem_map.2 ⟨_,List.mem_append_right _ b1,rfl⟩,λ hc hl hr ho M=>⟨M.oI,M.sF,M.qz,by dsimp only; exact lV _,M.dec,M.pO,λ y hy=> ?_,M.nK,M.mh,M.nV,M.nW,M.nX⟩⟩
    rcases List.mem_append.1 hy with g | g
    . exact M.act y g
    . rw [m5.1 g]
      have h0':e=0:=i
      subst h0'
      exact⟨by dsimp only; unfold gu; exact lV _,hr,M.qz,H0,H0,BL ec,hc,⟨hl,Dy (Gi ec)⟩,BO ec ho hl,λ r hr=>by rw [(List.mem_replicate.1 hr).2]; exact l9⟩
  . exact no b h
theorem rE (p:bU) (c:Int) (x:bW) (m:aD):∀ l:List fF,eU p c x m l= .inl ()\/∃ t z,eU p c x m l= .inr t/\t.bF.ls=p.bF.ls++ [z]/\z.av=2
  | []=> .inl rfl
  | y::l=>by
    simp only [eU,bnd]
    split
    . split
      . split
        . exact .inr ⟨_,_,rfl,rfl,rfl⟩
        . exact rE p c x m l
      . exact rE p c x m l
    . exact rE p c x m l
theorem Tr.two {p t:bU} {m:aD} {z:bW} (h:t.bF.ls=p.bF.ls++ [z]) (hz:z.av=2):Tr 1 p m t m:=(JY rfl rfl rfl h λ y hy=>by rw [m5.1 hy,hz]; decide).one
theorem Kj (p:bU) (c:Int) (x:bW) (m:aD):Tr 1 p m (lK p c x m) m:=by
  unfold lK
  rcases rE p c x m m.aa.aK.ls with h | ⟨t,z,h,ht,hz⟩
  . rw [mF h]; exact Tr.two rfl rfl
  . rw [gL h]; exact Tr.two ht hz
theorem AV {p t:bU} {x:bW} {m m':aD} (h:iU p x m=(t,m')) (hf:11<=x.aI/\x.aI<=14):Tr 1 p m t m'/\(s0 x.aB.ls<=24->jR x.aU->s0 m.aa.ag.ls<=1000->Mk m->Mk m'):=by
  unfold iU at h
  simp only [bnd] at h
  have sa:∀ {a:bU},Tr 1 p m a m->(a,m)=(t,m')->Tr 1 p m t m'/\(s0 x.aB.ls<=24->jR x.aU->s0 m.aa.ag.ls<=1000->Mk m->Mk m'):=λ T h=>by
    obtain⟨rfl,rfl⟩:=Prod.mk.inj h
    exact⟨T,λ _ _ _ M=>M⟩
  have sn:∀ y,(dM p y,m)=(t,m')->y.av=2->Tr 1 p m t m'/\(s0 x.aB.ls<=24->jR x.aU->s0 m.aa.ag.ls<=1000->Mk m->Mk m'):=λ y h hy=>by
    obtain⟨z,e,hk,_⟩:=AO p y
    exact sa (Tr.two e (hk.trans hy)) h
  have be:((dS p (x.aI - 10) x m).1,(dS p (x.aI - 10) x m).2)=(t,m')->Tr 1 p m t m'/\(s0 x.aB.ls<=24->jR x.aU->s0 m.aa.ag.ls<=1000->Mk m->Mk m'):=λ h=>by
    have hb:=Cy (show dS p (x.aI - 10) x m=(t,m') from h)
    exact⟨hb.1,hb.2 e6⟩
  split at h
  . split at h
    . exact sa (Tr.same p m).one h
    split at h
    . split at h
      . split at h
        . split at h
          . exact sn _ h rfl
          . exact sa (Tr.same p m).one h
        . exact be h
      . exact be h
    split at h
    . split at h
      . split at h
        . split at h
          . exact sn _ h rfl
          . exact sa (Tr.same p m).one h
        . exact be h
      . exact be h
    split at h
    . split at h
      . split at h
        . split at h
          . exact sn _ h rfl
          . exact sa (Tr.same p m).one h
        . exact be h
      . exact be h
    . split at h
      . split at h
        . split at h
          . exact sn _ h rfl
          . exact sa (Tr.same p m).one h
        . exact be h
      . exact be h
  . exact sa (Kj _ _ _ _) h
structure Gj (x:bW):Prop where
  ops:s0 x.aB.ls<=24
  own:s0 x.ag.ls<=1000
  res:mV x.ah.ls
  tY:x.av=1->11<=x.aI/\x.aI<=14
  map:x.av=9->1<=x.aI/\x.aI<=4
theorem AX {x:bW}:∀ {l:List Int},lp (jU x l) (λ _=>true)=true->∀ f ∈ l,oD x f=true
  | [],_,f,hf=>by cases hf
  | y::l,h,f,hf=>by
    simp only [jU,bnd] at h
    by_cases e:oD x y=true
    . rw [if_pos e] at h
      rcases u2.1 hf with rfl | hf
      . exact e
      . exact AX h f hf
    . rw [if_neg e] at h; cases h
theorem AY:∀ {l:List aQ},lp (gI l) (λ _=>true)=true->∀ x ∈ l,s0 x.aj.ls<=1000
  | [],_,x,hx=>by cases hx
  | y::l,h,x,hx=>by
    simp only [gI] at h
    split at h
    . cases h
    split at h
    . cases h
    . rename_i hp
      rcases e:gY y.aj.ls with u | b
      . rw [e] at h
        rcases u2.1 hx with rfl | hx
        . omega
        . exact AY h x hx
      . rw [e] at h
        simp only [sW,lp] at h
        subst h
        exact absurd e (L1f _)
where L1f:∀ l:List aH,gY l≠ .inr true
  | []=>by intro h; cases h
  | y::l=>by
    simp only [gY,bnd]
    split
    . split
      . intro h; cases h
      . exact L1f l
    . intro h; cases h
theorem Fu (p:bW) (r:fT) (x:Int) (q:List Int) (v w:Int) (y k2 z A B C D E F:Nat) (b:Bool) (G H:List UInt8) (lo:List aN) (lr:List aQ) (lw:List aM):∃ z1' z2' k1' k2' k3' k4' k5' k6' k7' k8' k9' b' s1' s2' lo' lr' lw',bV p r (x::q) v w y k2 z A B C D E F b G H lo lr lw=bV p r q z1' z2' k1' k2' k3' k4' k5' k6' k7' k8' k9' b' s1' s2' lo' lr' lw'/\(x≠7->lo'=lo)/\(x≠3->lr'=lr)/\(x≠11->lw'=lw):=by
  by_cases a:x=0
  . exact⟨_,_,_,_,_,_,_,_,_,_,_,_,_,_,_,_,_,ip a,λ _=>rfl,λ _=>rfl,λ _=>rfl⟩
  by_cases c:x=1
  . exact⟨_,_,_,_,_,_,_,_,_,_,_,_,_,_,_,_,_,et (iN a) (ip c),λ _=>rfl,λ _=>rfl,λ _=>rfl⟩
  by_cases d:x=2
  . exact⟨_,_,_,_,_,_,_,_,_,_,_,_,_,_,_,_,_,et (iN a) (et (iN c) (ip d)),λ _=>rfl,λ _=>rfl,λ _=>rfl⟩
  by_cases e:x=3
  . exact⟨_,_,_,_,_,_,_,_,_,_,_,_,_,_,_,_,_,et (iN a) (et (iN c) (et (iN d) (ip e))),λ _=>rfl,λ h=>absurd e h,λ _=>rfl⟩
  by_cases i:x=4
  . exact⟨_,_,_,_,_,_,_,_,_,_,_,_,_,_,_,_,_,et (iN a) (et (iN c) (et (iN d) (et (iN e) (ip i)))),λ _=>rfl,λ _=>rfl,λ _=>rfl⟩
  by_cases j:x=5
  . exact⟨_,_,_,_,_,_,_,_,_,_,_,_,_,_,_,_,_,et (iN a) (et (iN c) (et (iN d) (et (iN e) (et (iN i) (ip j))))),λ _=>rfl,λ _=>rfl,λ _=>rfl⟩
  by_cases k:x=6
  . exact⟨_,_,_,_,_,_,_,_,_,_,_,_,_,_,_,_,_,et (iN a) (et (iN c) (et (iN d) (et (iN e) (et (iN i) (et (iN j) (ip k)))))),λ _=>rfl,λ _=>rfl,λ _=>rfl⟩
  by_cases l:x=7
  . exact⟨_,_,_,_,_,_,_,_,_,_,_,_,_,_,_,_,_,et (iN a) (et (iN c) (et (iN d) (et (iN e) (et (iN i) (et (iN j) (et (iN k) (ip l))))))),λ h=>absurd l h,λ _=>rfl,λ _=>rfl⟩
  by_cases n:x=8
  . exact⟨_,_,_,_,_,_,_,_,_,_,_,_,_,_,_,_,_,et (iN a) (et (iN c) (et (iN d) (et (iN e) (et (iN i) (et (iN j) (et (iN k) (et (iN l) (ip n)))))))),λ _=>rfl,λ _=>rfl,λ _=>rfl⟩
  by_cases s:x=9
  . exact⟨_,_,_,_,_,_,_,_,_,_,_,_,_,_,_,_,_,et (iN a) (et (iN c) (et (iN d) (et (iN e) (et (iN i) (et (iN j) (et (iN k) (et (iN l) (et (iN n) (ip s))))))))),λ _=>rfl,λ _=>rfl,λ _=>rfl⟩
  by_cases f:x=10
  . exact⟨_,_,_,_,_,_,_,_,_,_,_,_,_,_,_,_,_,et (iN a) (et (iN c) (et (iN d) (et (iN e) (et (iN i) (et (iN j) (et (iN k) (et (iN l) (et (iN n) (et (iN s) (ip f)))))))))),λ _=>rfl,λ _=>rfl,λ _=>rfl⟩
  by_cases g:x=11
  . exact⟨_,_,_,_,_,_,_,_,_,_,_,_,_,_,_,_,_,et (iN a) (et (iN c) (et (iN d) (et (iN e) (et (iN i) (et (iN j) (et (iN k) (et (iN l) (et (iN n) (et (iN s) (et (iN f) (ip g))))))))))),λ _=>rfl,λ _=>rfl,λ h=>absurd g h⟩
  by_cases m:x=12
  . exact⟨_,_,_,_,_,_,_,_,_,_,_,_,_,_,_,_,_,et (iN a) (et (iN c) (et (iN d) (et (iN e) (et (iN i) (et (iN j) (et (iN k) (et (iN l) (et (iN n) (et (iN s) (et (iN f) (et (iN g) (ip m)))))))))))),λ _=>rfl,λ _=>rfl,λ _=>rfl⟩
  by_cases o:x=13
  . exact⟨_,_,_,_,_,_,_,_,_,_,_,_,_,_,_,_,_,et (iN a) (et (iN c) (et (iN d) (et (iN e) (et (iN i) (et (iN j) (et (iN k) (et (iN l) (et (iN n) (et (iN s) (et (iN f) (et (iN g) (et (iN m) (ip o))))))))))))),λ _=>rfl,λ _=>rfl,λ _=>rfl⟩
  by_cases t:x=14
  . exact⟨_,_,_,_,_,_,_,_,_,_,_,_,_,_,_,_,_,et (iN a) (et (iN c) (et (iN d) (et (iN e) (et (iN i) (et (iN j) (et (iN k) (et (iN l) (et (iN n) (et (iN s) (et (iN f) (et (iN g) (et (iN m) (et (iN o) (ip t)))))))))))))),λ _=>rfl,λ _=>rfl,λ _=>rfl⟩
  by_cases u:x=15
  . exact⟨_,_,_,_,_,_,_,_,_,_,_,_,_,_,_,_,_,et (iN a) (et (iN c) (et (iN d) (et (iN e) (et (iN i) (et (iN j) (et (iN k) (et (iN l) (et (iN n) (et (iN s) (et (iN f) (et (iN g) (et (iN m) (et (iN o) (et (iN t) (ip u))))))))))))))),λ _=>rfl,λ _=>rfl,λ _=>rfl⟩
  . exact⟨_,_,_,_,_,_,_,_,_,_,_,_,_,_,_,_,_,et (iN a) (et (iN c) (et (iN d) (et (iN e) (et (iN i) (et (iN j) (et (iN k) (et (iN l) (et (iN n) (et (iN s) (et (iN f) (et (iN g) (et (iN m) (et (iN o) (et (iN t) (iN u))))))))))))))),λ _=>rfl,λ _=>rfl,λ _=>rfl⟩
theorem EP (p:bW) (r:fT):∀ (q:List Int) (c d:Int) (f k2 g i j k l m n:Nat) (b:Bool) (o s:List UInt8) (lo:List aN) (lr:List aQ) (lw:List aM),
    (7 ∉ q->(bV p r q c d f k2 g i j k l m n b o s lo lr lw).2.2.2.2.2.2.2.2.2.2.2.2.2.2.1=lo)/\(3 ∉ q->(bV p r q c d f k2 g i j k l m n b o s lo lr lw).2.2.2.2.2.2.2.2.2.2.2.2.2.2.2.1=lr)/\(11 ∉ q->(bV p r q c d f k2 g i j k l m n b o s lo lr lw).2.2.2.2.2.2.2.2.2.2.2.2.2.2.2.2=lw)
  | [],c,d,f,k2,g,i,j,k,l,m,n,b,o,s,lo,lr,lw=>⟨λ _=>rfl,λ _=>rfl,λ _=>rfl⟩
  | x::q,c,d,f,k2,g,i,j,k,l,m,n,b,o,s,lo,lr,lw=>by
    obtain⟨z1',z2',k1',k2',k3',k4',k5',k6',k7',k8',k9',b',s1',s2',lo',lr',lw',e,t,u,v⟩:=Fu p r x q c d f k2 g i j k l m n b o s lo lr lw
    have ih:=EP p r q z1' z2' k1' k2' k3' k4' k5' k6' k7' k8' k9' b' s1' s2' lo' lr' lw'
    rw [e]
    exact⟨λ h=>(ih.1 λ a=>h (.tail _ a)).trans (t λ a=>h (a ▸ .head _)),λ h=>(ih.2.1 λ a=>h (.tail _ a)).trans (u λ a=>h (a ▸ .head _)),λ h=>(ih.2.2 λ a=>h (.tail _ a)).trans (v λ a=>h (a ▸ .head _))⟩
theorem Dz {x:bW} (h:qK x=true):x.aB.ls= []/\x.ah.ls= []/\x.ag.ls= []:=by
  unfold qK at h
  split at h
  . split at h
    . rename_i a
      exact⟨v4.1 e6,v4.1 e6,v4.1 e6⟩
    . cases h
  . cases h
theorem tT {x:bW} {r:Int} (h:kR x=r) (b:r=0):Gj x:=by
  subst b
  unfold kR p9 at h
  simp only [bnd] at h
  rcases el:oJ x.av with ⟨y,ok⟩
  rw [el] at h
  split at h
  case isFalse=>cases h
  split at h
  case isFalse=>cases h
  rename_i _ hfrom
  split at h
  case isFalse=>cases h
  split at h
  case isFalse=>cases h
  rename_i hb
  split at h
  case isFalse=>cases h
  rename_i hm
  have hc:=EP x y y.bX.ls x.dK x.fA x.aU x.ax x.aX x.eQ x.bG x.aF x.eG x.cZ x.xN x.fe x.cu.aJ x.cu.aR x.aB.ls x.ah.ls x.ag.ls
  have hl:=Dz hb
  simp only at hl
  have hf:=AX hm
  refine⟨?_, ?_, ?_,λ hk=> ?_,λ hk=> ?_⟩
  . by_cases a:(7:Int) ∈ y.bX.ls
    . have:=hf 7 a
      simp only [oD,p8,bnd,T3, ↓reduceIte] at this
      split at this
      . have:=(Dx (of_decide_eq_true this)).1; omega
      split at this
      . split at this
        . split at this
          . omega
          . cases this
        . cases this
      . split at this
        . omega
        . cases this
    . rw [<- hc.1 a,hl.1]; exact Lp _
  . by_cases a:(11:Int) ∈ y.bX.ls
    . have:=hf 11 a
      simp only [oD,bnd,T3, ↓reduceIte] at this
      have:=of_decide_eq_true this
      unfold jc at this
      split at this
      . cases this
      split at this
      . cases this
      . omega
    . rw [<- hc.2.2 a,hl.2.2]; exact Lp _
  . by_cases a:(3:Int) ∈ y.bX.ls
    . have:=hf 3 a
      simp only [oD,oW,bnd,T3, ↓reduceIte] at this
      split at this
      . split at this
        . cases this
        . exact⟨e6,AY this⟩
      . split at this
        . cases this
        . exact⟨e6,AY this⟩
    . rw [<- hc.2.1 a,hl.2.1]; exact l9
  . rw [hk] at el
    have:y.mi=2:=by rw [<- (Prod.mk.inj el).1]
    rw [this] at hfrom
    unfold ll at hfrom
    rw [if_neg f2,if_pos rfl] at hfrom
    split at hfrom
    . have:=of_decide_eq_true hfrom; omega
    . cases hfrom
  . rw [hk] at el
    have:y.mi=1:=by rw [<- (Prod.mk.inj el).1]
    rw [this] at hfrom
    unfold ll at hfrom
    rw [if_pos rfl] at hfrom
    split at hfrom
    . have:=of_decide_eq_true hfrom; omega
    . cases hfrom
theorem zi {p t:bU} {x:bW} {m m':aD} (h:kL p x m=(t,m')) (hx:Gj x) (hq:jR x.aU) (ho:s0 m.aa.ag.ls<=1000):Tr 1 p m t m'/\(Mk m->Mk m'):=by
  unfold kL at h
  simp only [bnd] at h
  split at h
  . rename_i hk
    have hr:=AV (show iU p x m=(t,m') from h) (hx.tY hk)
    exact⟨hr.1,hr.2 hx.ops hq ho⟩
  split at h
  . have hr:=zh (show lq p x m=(t,m') from h)
    exact⟨hr.1,hr.2 hx.res⟩
  split at h
  . exact(oH (show lT p x m=(t,m') from h)).2
  split at h
  . obtain⟨rfl,rfl⟩:=Prod.mk.inj h
    exact⟨Fs p x m,id⟩
  have mp:∀ {a:aD},(p,a)=(t,m')->a.aa=m.aa->a.aC.ls=m.aC.ls->a.bT=m.bT->(Mk m->Mk a)->Tr 1 p m t m'/\(Mk m->Mk m'):=λ h b c d e=>by
    obtain⟨rfl,rfl⟩:=Prod.mk.inj h
    exact⟨(JY b (by unfold nA; rw [c]) d (s6 _).symm λ x hx=>by cases hx).one,e⟩
  split at h
  . split at h
    . exact mp h rfl rfl rfl (λ M=>⟨M.oI,M.sF,M.qz,M.uO,M.dec,M.pO,M.act,M.nK,M.mh,M.nV,M.nW,M.nX⟩)
    split at h
    . exact mp h rfl rfl rfl (λ M=>⟨M.oI,M.sF,M.qz,M.uO,M.dec,M.pO,M.act,M.nK,M.mh,M.nV,M.nW,M.nX⟩)
    split at h
    . exact mp h rfl rfl rfl (λ M=>⟨M.oI,M.sF,M.qz,M.uO,M.dec,M.pO,M.act,M.nK,M.mh,M.nV,M.nW,M.nX⟩)
    . exact mp h rfl rfl rfl (λ M=>⟨M.oI,M.sF,M.qz,M.uO,M.dec,M.pO,M.act,M.nK,M.mh,M.nV,M.nW,M.nX⟩)
  split at h
  . exact mp h rfl rfl rfl id
  split at h
  . exact mp h rfl rfl rfl id
  . exact mp h rfl rfl rfl id
theorem DC {x:bW} {r:Int} (h:kR x=r): ¬ (r=0)\/(s0 x.aB.ls<=24/\s0 x.ag.ls<=1000/\s0 x.ah.ls<=1000/\(¬ (x.av=1)\/11<=x.aI/\x.aI<=14)/\(¬ (x.av=9)\/1<=x.aI/\x.aI<=4)):=by
  by_cases a:r=0
  . have M:=tT h a
    refine .inr ⟨M.ops,M.own,M.res.1, ?_, ?_⟩
    . by_cases k:x.av=1
      . exact .inr (M.tY k)
      . exact .inl k
    . by_cases k:x.av=9
      . exact .inr (M.map k)
      . exact .inl k
  . exact .inl a
theorem Ku {j:Nat} {p t:bU} {m m':aD} (h:Tr j p m t m') (a:s0 m.aC.ls+s0 m.aa.ak.ls<=8):s0 m'.aa.ag.ls=s0 m.aa.ag.ls/\m'.aa.au=m.aa.au/\s0 m'.aC.ls+s0 m'.aa.ak.ls<=8/\s0 m'.aa.aK.ls<=s0 m.aa.aK.ls+j:=⟨by rw [h.own],h.sh,h.ad a,h.la⟩
theorem ym {p:aD} (h:Mk p):∀ x ∈ p.aa.ak.ls,s0 x.au.ls<=1000000:=λ x hx=>Nat.le_trans (h.dec x hx).2.2.2 f2
theorem yn {p:aD} (h:Mk p):∀ x ∈ p.aa.aK.ls,s0 x.ah.ls<=1000000/\∀ y ∈ x.ah.ls,s0 y.aj.ls<=1000000:=λ x hx=>⟨Nat.le_trans (h.pO x hx).2.2.1 f2,d9 (h.pO x hx).2.2⟩
theorem j0 {p:Prop}(h:p:=by first | assumption | exact(tT (by assumption) (by assumption)).res):p:=h
open _root_.Go.Proofs.Tryz renaming call54->U1,isAgg33->U0,isAgg47->T6,sizeOf33->H2,sizeOf47->T5,underlying134->O7,underlying5->T4,underlying9->v9
section
open Go.RowKit
def bytes_Equal (l0:List UInt8) (l1:List UInt8):Bool:=
 decide (l0=l1)
theorem uJ (w D h a k l0 i b m l1 j) (H:Own w D w []) (c:Ro w D λ w'=>aY w' 1 h a (q4 eB l0)) (d:a=l0.length) (n:l0.length *1<=211106232532992) (e:Ro w D λ w'=>aY w' 1 i b (q4 eB l1)) (f:b=l1.length) (o:l1.length *1<=211106232532992) (hr:bytes_Equal l0 l1=j):
    Calls v5 55 #[.slice h a k, .slice i b m] w (dA λ v w'=>v= .bool j/\Own w D w' []):=by
 subst d f
 refine cb Tryz.func55 ?_
 refine sr (Ar rfl (Mz rfl (fw (.string ⟨List.toArray l0⟩) (JE (l:=l0) O7 T4 v9 (H.ro c) rfl) (Mz rfl (fw (.string ⟨List.toArray l1⟩) (JE (l:=l1) O7 T4 v9 (H.ro e) rfl) (fw (.bool (decide (l0=l1))) (JC rfl rfl) (An rfl (rt (rs ?_)))))))))
 have g:=H.pk []
 obtain rfl:_=decide (l0=l1):=zj hr rfl
 exact⟨rfl,g⟩
def dY (c:aD) (d:bW):kG × Int × aD:=
 if d.aI<=10 then bnd (kR d) λ k=>if k=0 then if d.eO=0 then if d.aI > c.aa.au then(kG.mk (E0 []) false,180,c) else bnd (ji c.aa) λ l=>bnd (kL (bU.mk (E0 [])) d c) λ a=>bnd (ji a.2.aa) λ e=>bnd (bytes_Equal l.1 e.1) λ f=>(kG.mk (E0 a.1.bF.ls) (!f),0,a.2) else(kG.mk (E0 []) false,180,c) else(kG.mk (E0 []) false,180,c) else bnd (kR d) λ g=>if g=0 then if d.eO=0 then bnd (ji c.aa) λ h=>bnd (kL (bU.mk (E0 [])) d c) λ b=>bnd (ji b.2.aa) λ i=>bnd (bytes_Equal h.1 i.1) λ j=>(kG.mk (E0 b.1.bF.ls) (!j),0,b.2) else(kG.mk (E0 []) false,180,c) else(kG.mk (E0 []) false,180,c)
theorem jI (w D z) (f:aD) (a:bW) (l dG g n dH h P p dI j) (r0:kG) (r1) (r2:aD) (H:Own w D w [jZ z f]) (fF:dG=a.aB.ls.length) (av:Ro w D λ w'=>aY w' 6 l a.aB.ls.length (q4 aN.cells a.aB.ls)) (kr:a.aB.ls.length<=g/\a.aB.ls.length<=9223372036854775807) (Q:s5 af.abs P=a.ah.ls) (fG:dH=a.ah.ls.length) (ax:Ro w D λ w'=>aY w' 3 n a.ah.ls.length (q4 af.cells P)) (ku:a.ah.ls.length<=h/\a.ah.ls.length<=9223372036854775807) (u:∀ x ∈ P,Ro w D (λ w'=>aY w' 2 x.aj.A x.aj.ls.length (q4 aH.cells x.aj.ls))/\(x.aj.ls.length<=x.aj.c/\x.aj.ls.length<=9223372036854775807)) (fH:dI=a.ag.ls.length) (ay:Ro w D λ w'=>aY w' 2 p a.ag.ls.length (q4 aM.cells a.ag.ls)) (kv:a.ag.ls.length<=j/\a.ag.ls.length<=9223372036854775807) (nO:f.aa.ag.ls.length<=1000/\f.aC.ls.length+f.aa.ak.ls.length<=8/\f.aa.aK.ls.length<=900/\jR a.aU/\a.aB.ls.length<=140737488355328/\a.ah.ls.length<=140737488355328/\a.ag.ls.length<=140737488355328) (nP:Mk f) (hr:dY f a=(r0,r1,r2)):
    Calls v5 13 #[vP z 0, .agg (iA a.av a.aI a.eO a.aP a.dK a.fA a.aU a.ax a.aX a.eQ a.bG a.aF a.eG a.cZ a.xN a.fe a.cu.aJ a.cu.aR l dG g n dH h p dI j).toArray] w (dA λ v w'=> ∃ dK dL bg,v= .tuple #[.agg #[.slice dK r0.cz.ls.length dL, .bool r0.jo],vI r1]/\Own w D w' [row dK r0.cz.ls.length dL (q4 bz.cells bg) 42 21,sepL (q4 bz.own bg),jZ z r2]/\(s5 bz.abs bg=r0.cz.ls)/\(r2.aa.ag.ls.length=f.aa.ag.ls.length/\r2.aa.au=f.aa.au/\r2.aC.ls.length+r2.aa.ak.ls.length<=8/\r2.aa.aK.ls.length<=f.aa.aK.ls.length+1)/\(Mk r2)):=by
 subst fF fG fH
 have ko:=aA Q
 refine cb Tryz.func13 ?_
 refine sr ?_
 refine dn (gK a l g n h p j) 42 H ?_
 intro G nQ kw
 refine dn [.slice none 0 0, .bool false] 47 kw ?_
 intro aO nR ky
 refine An rfl (Ik ?_)
 have kz:=ky.pf [2]
 obtain⟨dz,aX,dB,aZ,ig,dC,bf,ik,nS,nT,nU,nV,nW,nX,nY,nZ,og,oh,ol,om,oq,ou,ow,oz,oC,oD,B,C,R,S,T,U,V,W,lH,kC⟩:=lY kz
 refine oV 20 [] (IE IQ) kC ?_
 intro oF dD
 refine qp G 1 0 rfl (ql 1 rfl 19 C2 rfl rfl rfl (qk (.bool (decide (a.aI<=10))) 2 rfl (qv 3 rfl rfl ?_)))
 by_cases r:a.aI<=10
 refine Iy (v:=vP G 1) (rs:= []) 4 rfl rfl rfl (dT r) e7 (λ _ _=>yk) (Iy (v:=vI a.aI) (rs:= []) 5 rfl rfl rfl (dT r) e7 (λ _ ⟨_,H9⟩=>IB rfl (bJ.one C2 (I1 (H9.cls (i:=19) rfl) rfl))) (Iy (v:=vP z 0) (rs:= []) 6 rfl rfl rfl (dT r) e7 (λ _ _=>IA rfl) (Iy (v:=vP z 0) (rs:= []) 7 rfl rfl rfl (dT r) e7 (λ _ _=>yk) (Iy (v:=vP z 0) (rs:= []) 8 rfl rfl rfl (dT r) e7 (λ _ _=>yk) (Iy (v:=vP z 0) (rs:= []) 9 rfl rfl rfl (dT r) e7 (λ _ _=>yk) (Iy (v:=vI f.aa.au) (rs:= []) 10 rfl rfl rfl (dT r) e7 (λ _ ⟨_,H9⟩=>IB rfl (bJ.one C2 (I1 (H9.cls (i:=0) rfl) rfl))) (Iy (v:= .bool (decide (a.aI > f.aa.au))) (rs:= []) 11 rfl rfl rfl (dT r) e7 (λ _ _=>yk) (qt (v:= .bool (decide (a.aI > f.aa.au))) 12 rfl (λ _ _=>Iw rfl (dT r) rfl) (qa 13 rfl rfl (qn (Iq (Ik (sr (La (gK a l g n h p j) dD 19 N8 N9 ?_))))))))))))))
 obtain⟨bi,ah⟩:∃ q,kR a=q:=⟨_,rfl⟩
 obtain⟨oG,il,aS,iq,lI⟩:=Iu dD
 refine cl Tryz.call21 (vz _ _ a l a.aB.ls.length g n a.ah.ls.length h P p a.ag.ls.length j bi il rfl (aS _ av) e6 Q rfl (aS _ ax) e6 (λ s t=>⟨aS _ (u s t).1,(u s t).2⟩) rfl (aS _ ay) e6 i3 ah) ?_
 rintro _ oH ⟨rfl,iw⟩
 have bu:=iq _ _ iw
 have lJ: ¬ (bi=0)\/(a.aB.ls.length<=24/\a.ag.ls.length<=1000/\a.ah.ls.length<=1000/\(¬ (a.av=1)\/11<=a.aI/\a.aI<=14)/\(¬ (a.av=9)\/1<=a.aI/\a.aI<=4)):=DC ah
 refine fw (.bool (decide (¬ (bi=0)))) (IM (e:= !(decide (bi=0))) yk decide_not.symm) (Mz rfl ?_)
 by_cases O:bi=0
 refine gw (vP G 2) (dF (Lr O)) yk (gw (vI a.eO) (dF (Lr O)) (IB rfl (bJ.one C2 (I1 (bu.cls (i:=19) rfl) rfl))) (gw (.bool (decide (¬ (a.eO=0)))) (dF (Lr O)) (IM (e:= !(decide (a.eO=0))) yk decide_not.symm) (fw (.bool (decide (¬ (a.eO=0)))) (Io rfl (dF (Lr O)) rfl) (Mz rfl ?_))))
 by_cases aP:a.eO=0
 refine gw (.bool (decide (a.aI > f.aa.au))) (dF (Lr aP)) (IA rfl) (fw (.bool (decide (a.aI > f.aa.au))) (Io rfl (dF (Lr aP)) rfl) (nt ?_))
 by_cases dE:a.aI > f.aa.au
 refine jT (dT dE) (sr (Kz (.agg #[.slice none 0 0, .bool false]) ?_))
 have kE:=bu.pf [18]
 refine df [.slice none 0 0, .bool false] 0 kE T5 ?_
 intro iy iB
 refine An rfl (rt (tR (Fin.res (jb (vs:= [.agg #[.slice none 0 0, .bool false],vI 180]) rfl (cK.cell rfl (IJ (cs:= [.slice none 0 0, .bool false]) T6 T5 ((iB.cls (i:=0) rfl).lit (k:=0) (m:=2) rfl)) (cK.tmp rfl cK.nil)) (Lj rfl)) ?_)))
 have kF:=iB.pb [0,19]
 have kH:=iK B C R S T U V W kF
 have kI:Own w D iy [sepL (q4 bz.own []),jZ z f,blk aO [.slice none 0 0, .bool false] 47,blk G (gK a l g n h p j) 42]:=kH.sepNil
 have kJ:Own w D iy (row none 0 0 (q4 bz.cells []) 42 21::_):=kI.free (eP 42 21)
 have kK:=kJ.pk [0,1,2]
 obtain⟨rfl,rfl,rfl⟩:=zR (zj hr (show _=(kG.mk (E0 []) false,180,f) from et (ip r) (et (ae ah) (et (ip O) (et (ip aP) (ip dE))))))
 exact⟨none,0, [],rfl,kK,rfl,i2,f5⟩
 refine jF (dF dE) (sk (sr (Mz rfl (Kz (.func (.func 23) #[] #[vP G 0]) ?_))))
 refine WL.do rfl (IP Tryz.call22 rfl ?_ (λ _ _ k=>k))
 refine cb Tryz.func22 ?_
 refine sr ?_
 refine dn [.slice none 0 0, .bool false] 47 bu ?_
 intro kM oI bv
 refine ns (Mz rfl (Kz (vP z 0) (Kz (vP z 0) (La ([vI f.aa.au,vU f.aa.ax,vU f.aa.bG,vU f.aa.aF, .slice dz f.aa.ag.ls.length aX, .slice dB f.aa.ak.ls.length aZ, .slice dC f.aa.aK.ls.length bf]) bv 1 U0 H2 ?_))))
 obtain⟨⟨aG,iC⟩,dM⟩:∃ q:(List UInt8) × Int,ji f.aa=q:=⟨_,rfl⟩
 obtain⟨oJ,iD,lK,iE,ai⟩:=Iu bv
 refine cl U1 (ma _ _ f.aa dz f.aa.ag.ls.length aX dB f.aa.ak.ls.length aZ ig dC f.aa.aK.ls.length bf ik aG iC iD rfl (ai _ 2 _ rfl aW) e6 B rfl (ai _ 3 _ rfl aW) e6 (λ s t=>⟨ai _ 4 _ rfl (az (Q6.2 ⟨s,t,b1⟩) aW),bq (φ:=λ _=>_) bv (i:=4) rfl (az (Q6.2 ⟨s,t,b1⟩) bn)⟩) C rfl (ai _ 5 _ rfl aW) e6 (λ s t=>⟨ai _ 6 _ rfl (az (Q6.2 ⟨s,t,b1⟩) aW),bq (φ:=λ _=>_) bv (i:=6) rfl (az (Q6.2 ⟨s,t,b1⟩) bn),(λ y1 k1=>⟨ai _ 6 _ rfl (az (Q6.2 ⟨s,t, .tail _ b1⟩) (az (Q6.2 ⟨y1,k1,b1⟩) aW)),bq (φ:=λ _=>_) bv (i:=6) rfl (az (Q6.2 ⟨s,t, .tail _ b1⟩) (az (Q6.2 ⟨y1,k1,b1⟩) bn))⟩)⟩) e8 i9 dM) ?_
 rintro _ lL ⟨bC,bD,rfl,fI,bE⟩
 have dN:=iE _ _ fI
 have kN:=zr 0 dN
 replace bE:aG.length<=100000:=bE
 refine Mz rfl (Kz (.slice bC aG.length bD) (Kz (vI iC) (Az rfl (Ar rfl (Mz rfl (Kz (.agg #[vP z 0, .slice none 0 0]) ?_))))))
 refine dn [vP z 0, .slice none 0 0] 98 dN ?_
 intro aT dO dP
 refine Ar rfl (Mz rfl (Mz rfl ?_))
 refine WL.do rfl (IY Tryz.call23 rfl rfl ?_ (λ _ _ k=>k))
 refine cb Tryz.func23 ?_
 refine Il (Mz rfl (La (gK a l g n h p j) dP 22 N8 N9 ?_))
 have iF:=dP.pb [0,1,2,21,22]
 have iG:=iK B C R S T U V W iF
 have iH:Own w D dO [sepL (q4 bz.own []),jZ z f,blk aT [vP z 0, .slice none 0 0] 98,row bC aG.length bD (q4 eB aG) 5 1,blk kM [.slice none 0 0, .bool false] 47,blk aO [.slice none 0 0, .bool false] 47,blk G (gK a l g n h p j) 42]:=iG.sepNil
 have iI:Own w D dO (row none 0 0 (q4 bz.cells []) 42 21::_):=iH.free (eP 42 21)
 have iJ:=iI.pf [3]
 obtain⟨⟨L,b⟩,aQ⟩:∃ q:bU × aD,kL (bU.mk (E0 [])) a f=q:=⟨_,rfl⟩
 obtain⟨lM,fJ,aB,fK,kP⟩:=Jf iJ
 refine cl Tryz.call24 (rR _ _ aT (bU.mk (E0 [])) none 0 [] a l a.aB.ls.length g n a.ah.ls.length h P p a.ag.ls.length j z f L b fJ rfl rfl (aB _ av) e6 Q rfl (aB _ ax) e6 (λ s t=>⟨aB _ (u s t).1,(u s t).2⟩) rfl (aB _ ay) e6 e8 f5 e8 j0 e8 aQ) ?_
 rintro _ lN ⟨X,Y,iL,rfl,fM,bF⟩
 have dQ:=fK _ _ fM
 have kQ:=aA bF
 have kS:=zr 1 dQ
 have bG:=zi aQ (tT f5 f5) e6 e6
 have kT:Mk b:=bG.2 f5
 have kU:b.aa.ag.ls.length=f.aa.ag.ls.length/\b.aa.au=f.aa.au/\b.aC.ls.length+b.aa.ak.ls.length<=8/\b.aa.aK.ls.length<=f.aa.aK.ls.length+1:=Ku bG.1 e6
 refine WL.nil (IL (res0 rfl) (nt (Ik ?_)))
 have iM:=dQ.pf [3]
 obtain⟨dR,bH,dS,bI,iO,dU,bK,iP,lQ,lS,lT,lU,lV,lW,lX,lZ,l5,l6,l7,l8,l9,mf,mg,mh,mi,mo,bL,bM,fO,fP,fQ,fT,fU,fV,kV,aI⟩:=lY iM
 refine Il (Mz rfl (Kz (vP z 0) (Kz (vP z 0) (La ([vI b.aa.au,vU b.aa.ax,vU b.aa.bG,vU b.aa.aF, .slice dR b.aa.ag.ls.length bH, .slice dS b.aa.ak.ls.length bI, .slice dU b.aa.aK.ls.length bK]) aI 0 U0 H2 ?_))))
 obtain⟨⟨aj,dV⟩,bN⟩:∃ q:(List UInt8) × Int,ji b.aa=q:=⟨_,rfl⟩
 obtain⟨mq,fZ,kW,gm,I⟩:=Iu aI
 refine cl U1 (ma _ _ b.aa dR b.aa.ag.ls.length bH dS b.aa.ak.ls.length bI iO dU b.aa.aK.ls.length bK iP aj dV fZ rfl (I _ 1 _ rfl aW) e6 bL rfl (I _ 2 _ rfl aW) e6 (λ s t=>⟨I _ 3 _ rfl (az (Q6.2 ⟨s,t,b1⟩) aW),bq (φ:=λ _=>_) aI (i:=3) rfl (az (Q6.2 ⟨s,t,b1⟩) bn)⟩) bM rfl (I _ 4 _ rfl aW) e6 (λ s t=>⟨I _ 5 _ rfl (az (Q6.2 ⟨s,t,b1⟩) aW),bq (φ:=λ _=>_) aI (i:=5) rfl (az (Q6.2 ⟨s,t,b1⟩) bn),(λ y1 k1=>⟨I _ 5 _ rfl (az (Q6.2 ⟨s,t, .tail _ b1⟩) (az (Q6.2 ⟨y1,k1,b1⟩) aW)),bq (φ:=λ _=>_) aI (i:=5) rfl (az (Q6.2 ⟨s,t, .tail _ b1⟩) (az (Q6.2 ⟨y1,k1,b1⟩) bn))⟩)⟩) e8 i9 bN) ?_
 rintro _ mr ⟨dW,dX,rfl,gp,bO⟩
 have dZ:=gm _ _ gp
 have kX:=zr 0 dZ
 replace bO:aj.length<=100000:=bO
 refine Mz rfl (Kz (.slice dW aj.length dX) (Kz (vI dV) (Az rfl (An rfl (Ik ?_)))))
 have iQ:=dZ.pb [23]
 refine oV 25 [] (IE IQ) iQ ?_
 intro mD iR
 refine qv 0 rfl rfl (qp aT 0 1 rfl (qp aT 1 2 rfl (ql 3 rfl 19 Tryz.isAgg45 rfl rfl rfl (qv 4 rfl rfl (qv 5 rfl rfl ?_)))))
 obtain⟨E,bP⟩:∃ q,bytes_Equal aG aj=q:=⟨_,rfl⟩
 obtain⟨mE,gq,kY,gu,bQ⟩:=Iu iR
 refine qd 6 rfl (IP Tryz.call55 rfl (uJ _ _ bC aG.length bD aG dW aj.length dX aj E gq (bQ _ 22 _ rfl aW) rfl e6 (bQ _ 0 _ rfl aW) rfl e6 bP) ?_)
 rintro _ mF ⟨rfl,gy⟩
 have d9:=gu _ _ gy
 refine⟨.inr ⟨_,d9⟩, ?_⟩
 refine qk (.bool (!E)) 7 rfl (qk (.agg #[.slice X L.bF.ls.length Y, .bool (!E)]) 8 rfl ?_)
 have iT:=d9.pf [25]
 refine qe 9 rfl (Do.store (vs:= [.slice X L.bF.ls.length Y, .bool (!E)]) (o:=0) iT rfl rfl T5 rfl rfl rfl rfl ?_)
 intro mG iU
 have bR:=iU.pb [0]
 refine⟨.inr ⟨_,bR⟩, ?_⟩
 refine qn (Iq (rt (Fin.res (oo rfl rfl (IJ (cs:= [.slice X L.bF.ls.length Y, .bool (!E)]) T6 T5 ((bR.cls (i:=25) rfl).lit (k:=0) (m:=2) rfl))) ?_)))
 have iV:=bR.pf [23]
 refine df [.slice X L.bF.ls.length Y, .bool (!E)] 0 iV T5 ?_
 intro mH ed
 refine An rfl (rt (Fin.res (jb (vs:= [.agg #[.slice X L.bF.ls.length Y, .bool (!E)],vI 0]) rfl (cK.cell rfl (IJ (cs:= [.slice X L.bF.ls.length Y, .bool (!E)]) T6 T5 ((ed.cls (i:=0) rfl).lit (k:=0) (m:=2) rfl)) (cK.tmp rfl cK.nil)) (Lj rfl)) ?_))
 have iW:=ed.pb [0,1,20,21,22,23,24,25]
 have iX:=iK bL bM fO fP fQ fT fU fV iW
 have iY:=iX.pk [4,5,0]
 obtain⟨rfl,rfl,rfl⟩:=zR (zj hr (show _=(kG.mk (E0 L.bF.ls) (!E),0,b) from et (ip r) (et (ae ah) (et (ip O) (et (ip aP) (et (iN dE) (et (ae dM) (et (ae aQ) (et (ae bN) (ae bP))))))))))
 exact⟨X,Y,iL,rfl,iY,bF,i2,f5⟩
 refine Sz (dT aP) (fw (.bool true) (Iw rfl (dT aP) rfl) (nt (jt (sr (Kz (.agg #[.slice none 0 0, .bool false]) ?_)))))
 have iZ:=bu.pf [18]
 refine df [.slice none 0 0, .bool false] 0 iZ T5 ?_
 intro ek eu
 refine An rfl (rt (tR (Fin.res (jb (vs:= [.agg #[.slice none 0 0, .bool false],vI 180]) rfl (cK.cell rfl (IJ (cs:= [.slice none 0 0, .bool false]) T6 T5 ((eu.cls (i:=0) rfl).lit (k:=0) (m:=2) rfl)) (cK.tmp rfl cK.nil)) (Lj rfl)) ?_)))
 have ja:=eu.pb [0,19]
 have jc:=iK B C R S T U V W ja
 have jd:Own w D ek [sepL (q4 bz.own []),jZ z f,blk aO [.slice none 0 0, .bool false] 47,blk G (gK a l g n h p j) 42]:=jc.sepNil
 have je:Own w D ek (row none 0 0 (q4 bz.cells []) 42 21::_):=jd.free (eP 42 21)
 have jg:=je.pk [0,1,2]
 obtain⟨rfl,rfl,rfl⟩:=zR (zj hr (show _=(kG.mk (E0 []) false,180,f) from et (ip r) (et (ae ah) (et (ip O) (iN aP)))))
 exact⟨none,0, [],rfl,jg,rfl,i2,f5⟩
 refine Sz (dT O) (Sz (dT O) (Sz (dT O) (fw (.bool true) (Iw rfl (dT O) rfl) (Mz rfl (Sz rfl (fw (.bool true) (Iw rfl rfl rfl) (nt (jt (sr (Kz (.agg #[.slice none 0 0, .bool false]) ?_))))))))))
 have jh:=bu.pf [18]
 refine df [.slice none 0 0, .bool false] 0 jh T5 ?_
 intro eD eF
 refine An rfl (rt (tR (Fin.res (jb (vs:= [.agg #[.slice none 0 0, .bool false],vI 180]) rfl (cK.cell rfl (IJ (cs:= [.slice none 0 0, .bool false]) T6 T5 ((eF.cls (i:=0) rfl).lit (k:=0) (m:=2) rfl)) (cK.tmp rfl cK.nil)) (Lj rfl)) ?_)))
 have jk:=eF.pb [0,19]
 have jl:=iK B C R S T U V W jk
 have jm:Own w D eD [sepL (q4 bz.own []),jZ z f,blk aO [.slice none 0 0, .bool false] 47,blk G (gK a l g n h p j) 42]:=jl.sepNil
 have jo:Own w D eD (row none 0 0 (q4 bz.cells []) 42 21::_):=jm.free (eP 42 21)
 have jq:=jo.pk [0,1,2]
 obtain⟨rfl,rfl,rfl⟩:=zR (zj hr (show _=(kG.mk (E0 []) false,180,f) from et (ip r) (et (ae ah) (iN O))))
 exact⟨none,0, [],rfl,jq,rfl,i2,f5⟩
 refine Ip (rs:= []) 4 rfl rfl rfl (dF r) e7 (Ip (rs:= []) 5 rfl rfl rfl (dF r) e7 (Ip (rs:= []) 6 rfl rfl rfl (dF r) e7 (Ip (rs:= []) 7 rfl rfl rfl (dF r) e7 (Ip (rs:= []) 8 rfl rfl rfl (dF r) e7 (Ip (rs:= []) 9 rfl rfl rfl (dF r) e7 (Ip (rs:= []) 10 rfl rfl rfl (dF r) e7 (Ip (rs:= []) 11 rfl rfl rfl (dF r) e7 (qt (v:= .bool false) 12 rfl (λ _ _=>Io rfl (dF r) rfl) (qa 13 rfl rfl (qn (Iq (Ik (sr (La (gK a l g n h p j) dD 19 N8 N9 ?_))))))))))))))
 obtain⟨aJ,Z⟩:∃ q,kR a=q:=⟨_,rfl⟩
 obtain⟨mI,gz,aC,gB,kZ⟩:=Iu dD
 refine cl Tryz.call21 (vz _ _ a l a.aB.ls.length g n a.ah.ls.length h P p a.ag.ls.length j aJ gz rfl (aC _ av) e6 Q rfl (aC _ ax) e6 (λ s t=>⟨aC _ (u s t).1,(u s t).2⟩) rfl (aC _ ay) e6 i3 Z) ?_
 rintro _ mJ ⟨rfl,gD⟩
 have aU:=gB _ _ gD
 have lc: ¬ (aJ=0)\/(a.aB.ls.length<=24/\a.ag.ls.length<=1000/\a.ah.ls.length<=1000/\(¬ (a.av=1)\/11<=a.aI/\a.aI<=14)/\(¬ (a.av=9)\/1<=a.aI/\a.aI<=4)):=DC Z
 refine fw (.bool (decide (¬ (aJ=0)))) (IM (e:= !(decide (aJ=0))) yk decide_not.symm) (Mz rfl ?_)
 by_cases y:aJ=0
 refine gw (vP G 2) (dF (Lr y)) yk (gw (vI a.eO) (dF (Lr y)) (IB rfl (bJ.one C2 (I1 (aU.cls (i:=19) rfl) rfl))) (gw (.bool (decide (¬ (a.eO=0)))) (dF (Lr y)) (IM (e:= !(decide (a.eO=0))) yk decide_not.symm) (fw (.bool (decide (¬ (a.eO=0)))) (Io rfl (dF (Lr y)) rfl) (Mz rfl ?_))))
 by_cases ak:a.eO=0
 refine gw (.bool false) (dF (Lr ak)) (IA rfl) (fw (.bool false) (Io rfl (dF (Lr ak)) rfl) (nt (jf (sk (sr (Mz rfl (Kz (.func (.func 23) #[] #[vP G 0]) ?_)))))))
 refine WL.do rfl (IP Tryz.call22 rfl ?_ (λ _ _ k=>k))
 refine cb Tryz.func22 ?_
 refine sr ?_
 refine dn [.slice none 0 0, .bool false] 47 aU ?_
 intro jr mK aK
 refine ns (Mz rfl (Kz (vP z 0) (Kz (vP z 0) (La ([vI f.aa.au,vU f.aa.ax,vU f.aa.bG,vU f.aa.aF, .slice dz f.aa.ag.ls.length aX, .slice dB f.aa.ak.ls.length aZ, .slice dC f.aa.aK.ls.length bf]) aK 1 U0 H2 ?_))))
 obtain⟨⟨M,eG⟩,bS⟩:∃ q:(List UInt8) × Int,ji f.aa=q:=⟨_,rfl⟩
 obtain⟨mM,gF,lg,gG,J⟩:=Iu aK
 refine cl U1 (ma _ _ f.aa dz f.aa.ag.ls.length aX dB f.aa.ak.ls.length aZ ig dC f.aa.aK.ls.length bf ik M eG gF rfl (J _ 2 _ rfl aW) e6 B rfl (J _ 3 _ rfl aW) e6 (λ s t=>⟨J _ 4 _ rfl (az (Q6.2 ⟨s,t,b1⟩) aW),bq (φ:=λ _=>_) aK (i:=4) rfl (az (Q6.2 ⟨s,t,b1⟩) bn)⟩) C rfl (J _ 5 _ rfl aW) e6 (λ s t=>⟨J _ 6 _ rfl (az (Q6.2 ⟨s,t,b1⟩) aW),bq (φ:=λ _=>_) aK (i:=6) rfl (az (Q6.2 ⟨s,t,b1⟩) bn),(λ y1 k1=>⟨J _ 6 _ rfl (az (Q6.2 ⟨s,t, .tail _ b1⟩) (az (Q6.2 ⟨y1,k1,b1⟩) aW)),bq (φ:=λ _=>_) aK (i:=6) rfl (az (Q6.2 ⟨s,t, .tail _ b1⟩) (az (Q6.2 ⟨y1,k1,b1⟩) bn))⟩)⟩) e8 i9 bS) ?_
 rintro _ mO ⟨bT,bV,rfl,gH,bX⟩
 have eH:=gG _ _ gH
 have lh:=zr 0 eH
 replace bX:M.length<=100000:=bX
 refine Mz rfl (Kz (.slice bT M.length bV) (Kz (vI eG) (Az rfl (Ar rfl (Mz rfl (Kz (.agg #[vP z 0, .slice none 0 0]) ?_))))))
 refine dn [vP z 0, .slice none 0 0] 98 eH ?_
 intro aV eO eQ
 refine Ar rfl (Mz rfl (Mz rfl ?_))
 refine WL.do rfl (IY Tryz.call23 rfl rfl ?_ (λ _ _ k=>k))
 refine cb Tryz.func23 ?_
 refine Il (Mz rfl (La (gK a l g n h p j) eQ 22 N8 N9 ?_))
 have jv:=eQ.pb [0,1,2,21,22]
 have jw:=iK B C R S T U V W jv
 have jy:Own w D eO [sepL (q4 bz.own []),jZ z f,blk aV [vP z 0, .slice none 0 0] 98,row bT M.length bV (q4 eB M) 5 1,blk jr [.slice none 0 0, .bool false] 47,blk aO [.slice none 0 0, .bool false] 47,blk G (gK a l g n h p j) 42]:=jw.sepNil
 have jA:Own w D eO (row none 0 0 (q4 bz.cells []) 42 21::_):=jy.free (eP 42 21)
 have jB:=jA.pf [3]
 obtain⟨⟨N,d⟩,aR⟩:∃ q:bU × aD,kL (bU.mk (E0 [])) a f=q:=⟨_,rfl⟩
 obtain⟨mP,gI,aF,gJ,ll⟩:=Jf jB
 refine cl Tryz.call24 (rR _ _ aV (bU.mk (E0 [])) none 0 [] a l a.aB.ls.length g n a.ah.ls.length h P p a.ag.ls.length j z f N d gI rfl rfl (aF _ av) e6 Q rfl (aF _ ax) e6 (λ s t=>⟨aF _ (u s t).1,(u s t).2⟩) rfl (aF _ ay) e6 e8 f5 e8 j0 e8 aR) ?_
 rintro _ mQ ⟨aa,ag,jC,rfl,gL,bY⟩
 have eT:=gJ _ _ gL
 have lm:=aA bY
 have lq:=zr 1 eT
 have bZ:=zi aR (tT f5 f5) e6 e6
 have lu:Mk d:=bZ.2 f5
 have lv:d.aa.ag.ls.length=f.aa.ag.ls.length/\d.aa.au=f.aa.au/\d.aC.ls.length+d.aa.ak.ls.length<=8/\d.aa.aK.ls.length<=f.aa.aK.ls.length+1:=Ku bZ.1 e6
 refine WL.nil (IL (res0 rfl) (nt (Ik ?_)))
 have jD:=eT.pf [3]
 obtain⟨eU,cu,eX,cz,jE,eY,cB,jG,mR,mU,mV,mW,mX,mY,mZ,ng,ni,nk,nu,ny,nz,nA,nC,nD,nE,nG,cO,cZ,gM,gN,gP,gQ,gT,gU,lw,aL⟩:=lY jD
 refine Il (Mz rfl (Kz (vP z 0) (Kz (vP z 0) (La ([vI d.aa.au,vU d.aa.ax,vU d.aa.bG,vU d.aa.aF, .slice eU d.aa.ag.ls.length cu, .slice eX d.aa.ak.ls.length cz, .slice eY d.aa.aK.ls.length cB]) aL 0 U0 H2 ?_))))
 obtain⟨⟨au,eZ⟩,dh⟩:∃ q:(List UInt8) × Int,ji d.aa=q:=⟨_,rfl⟩
 obtain⟨nH,gV,lC,gW,K⟩:=Iu aL
 refine cl U1 (ma _ _ d.aa eU d.aa.ag.ls.length cu eX d.aa.ak.ls.length cz jE eY d.aa.aK.ls.length cB jG au eZ gV rfl (K _ 1 _ rfl aW) e6 cO rfl (K _ 2 _ rfl aW) e6 (λ s t=>⟨K _ 3 _ rfl (az (Q6.2 ⟨s,t,b1⟩) aW),bq (φ:=λ _=>_) aL (i:=3) rfl (az (Q6.2 ⟨s,t,b1⟩) bn)⟩) cZ rfl (K _ 4 _ rfl aW) e6 (λ s t=>⟨K _ 5 _ rfl (az (Q6.2 ⟨s,t,b1⟩) aW),bq (φ:=λ _=>_) aL (i:=5) rfl (az (Q6.2 ⟨s,t,b1⟩) bn),(λ y1 k1=>⟨K _ 5 _ rfl (az (Q6.2 ⟨s,t, .tail _ b1⟩) (az (Q6.2 ⟨y1,k1,b1⟩) aW)),bq (φ:=λ _=>_) aL (i:=5) rfl (az (Q6.2 ⟨s,t, .tail _ b1⟩) (az (Q6.2 ⟨y1,k1,b1⟩) bn))⟩)⟩) e8 i9 dh) ?_
 rintro _ nI ⟨fe,fo,rfl,gX,di⟩
 have fq:=gW _ _ gX
 have lD:=zr 0 fq
 replace di:au.length<=100000:=di
 refine Mz rfl (Kz (.slice fe au.length fo) (Kz (vI eZ) (Az rfl (An rfl (Ik ?_)))))
 have jH:=fq.pb [23]
 refine oV 25 [] (IE IQ) jH ?_
 intro nJ jJ
 refine qv 0 rfl rfl (qp aV 0 1 rfl (qp aV 1 2 rfl (ql 3 rfl 19 Tryz.isAgg45 rfl rfl rfl (qv 4 rfl rfl (qv 5 rfl rfl ?_)))))
 obtain⟨F,dm⟩:∃ q,bytes_Equal M au=q:=⟨_,rfl⟩
 obtain⟨nK,gY,lF,gZ,dw⟩:=Iu jJ
 refine qd 6 rfl (IP Tryz.call55 rfl (uJ _ _ bT M.length bV M fe au.length fo au F gY (dw _ 22 _ rfl aW) rfl e6 (dw _ 0 _ rfl aW) rfl e6 dm) ?_)
 rintro _ nL ⟨rfl,ib⟩
 have fu:=gZ _ _ ib
 refine⟨.inr ⟨_,fu⟩, ?_⟩
 refine qk (.bool (!F)) 7 rfl (qk (.agg #[.slice aa N.bF.ls.length ag, .bool (!F)]) 8 rfl ?_)
 have jK:=fu.pf [25]
 refine qe 9 rfl (Do.store (vs:= [.slice aa N.bF.ls.length ag, .bool (!F)]) (o:=0) jK rfl rfl T5 rfl rfl rfl rfl ?_)
 intro nM jL
 have dx:=jL.pb [0]
 refine⟨.inr ⟨_,dx⟩, ?_⟩
 refine qn (Iq (rt (Fin.res (oo rfl rfl (IJ (cs:= [.slice aa N.bF.ls.length ag, .bool (!F)]) T6 T5 ((dx.cls (i:=25) rfl).lit (k:=0) (m:=2) rfl))) ?_)))
 have jM:=dx.pf [23]
 refine df [.slice aa N.bF.ls.length ag, .bool (!F)] 0 jM T5 ?_
 intro nN fA
 refine An rfl (rt (Fin.res (jb (vs:= [.agg #[.slice aa N.bF.ls.length ag, .bool (!F)],vI 0]) rfl (cK.cell rfl (IJ (cs:= [.slice aa N.bF.ls.length ag, .bool (!F)]) T6 T5 ((fA.cls (i:=0) rfl).lit (k:=0) (m:=2) rfl)) (cK.tmp rfl cK.nil)) (Lj rfl)) ?_))
 have jN:=fA.pb [0,1,20,21,22,23,24,25]
 have jO:=iK cO cZ gM gN gP gQ gT gU jN
 have jP:=jO.pk [4,5,0]
 obtain⟨rfl,rfl,rfl⟩:=zR (zj hr (show _=(kG.mk (E0 N.bF.ls) (!F),0,d) from et (iN r) (et (ae Z) (et (ip y) (et (ip ak) (et (ae bS) (et (ae aR) (et (ae dh) (ae dm)))))))))
 exact⟨aa,ag,jC,rfl,jP,bY,i2,f5⟩
 refine Sz (dT ak) (fw (.bool true) (Iw rfl (dT ak) rfl) (nt (jt (sr (Kz (.agg #[.slice none 0 0, .bool false]) ?_)))))
 have jQ:=aU.pf [18]
 refine df [.slice none 0 0, .bool false] 0 jQ T5 ?_
 intro fB fC
 refine An rfl (rt (tR (Fin.res (jb (vs:= [.agg #[.slice none 0 0, .bool false],vI 180]) rfl (cK.cell rfl (IJ (cs:= [.slice none 0 0, .bool false]) T6 T5 ((fC.cls (i:=0) rfl).lit (k:=0) (m:=2) rfl)) (cK.tmp rfl cK.nil)) (Lj rfl)) ?_)))
 have jS:=fC.pb [0,19]
 have jU:=iK B C R S T U V W jS
 have jV:Own w D fB [sepL (q4 bz.own []),jZ z f,blk aO [.slice none 0 0, .bool false] 47,blk G (gK a l g n h p j) 42]:=jU.sepNil
 have jW:Own w D fB (row none 0 0 (q4 bz.cells []) 42 21::_):=jV.free (eP 42 21)
 have jX:=jW.pk [0,1,2]
 obtain⟨rfl,rfl,rfl⟩:=zR (zj hr (show _=(kG.mk (E0 []) false,180,f) from et (iN r) (et (ae Z) (et (ip y) (iN ak)))))
 exact⟨none,0, [],rfl,jX,rfl,i2,f5⟩
 refine Sz (dT y) (Sz (dT y) (Sz (dT y) (fw (.bool true) (Iw rfl (dT y) rfl) (Mz rfl (Sz rfl (fw (.bool true) (Iw rfl rfl rfl) (nt (jt (sr (Kz (.agg #[.slice none 0 0, .bool false]) ?_))))))))))
 have jY:=aU.pf [18]
 refine df [.slice none 0 0, .bool false] 0 jY T5 ?_
 intro fD fE
 refine An rfl (rt (tR (Fin.res (jb (vs:= [.agg #[.slice none 0 0, .bool false],vI 180]) rfl (cK.cell rfl (IJ (cs:= [.slice none 0 0, .bool false]) T6 T5 ((fE.cls (i:=0) rfl).lit (k:=0) (m:=2) rfl)) (cK.tmp rfl cK.nil)) (Lj rfl)) ?_)))
 have j3:=fE.pb [0,19]
 have j4:=iK B C R S T U V W j3
 have j5:Own w D fD [sepL (q4 bz.own []),jZ z f,blk aO [.slice none 0 0, .bool false] 47,blk G (gK a l g n h p j) 42]:=j4.sepNil
 have j6:Own w D fD (row none 0 0 (q4 bz.cells []) 42 21::_):=j5.free (eP 42 21)
 have kg:=j6.pk [0,1,2]
 obtain⟨rfl,rfl,rfl⟩:=zR (zj hr (show _=(kG.mk (E0 []) false,180,f) from et (iN r) (et (ae Z) (iN y))))
 exact⟨none,0, [],rfl,kg,rfl,i2,f5⟩
def lL (b:aD):bZ:=
 bnd (iq b.aa) λ a=>a
theorem uq (w D M) (b:aD) (d:bZ) (H:Own w D w [jZ M b]) (aL:b.aa.ag.ls.length<=1000/\b.aC.ls.length+b.aa.ak.ls.length<=8/\b.aa.aK.ls.length<=900) (aN:Mk b) (hr:lL b=d):
    Calls v5 11 #[vP M 0] w (dA λ v w'=> ∃ l n o p r s e f,v= .agg #[vI d.au,vU d.ax,vU d.bG,vU d.aF, .slice l d.ag.ls.length n, .slice o d.ak.ls.length p, .slice r d.aK.ls.length s]/\Own w D w' [row l d.ag.ls.length n (q4 aM.cells d.ag.ls) 89 2,row o d.ak.ls.length p (q4 ay.cells e) 60 5,sepL (q4 ay.own e),row r d.aK.ls.length s (q4 aS.cells f) 56 4,sepL (q4 aS.own f),jZ M b]/\(s5 ay.abs e=d.ak.ls)/\(s5 aS.abs f=d.aK.ls)):=by
 unfold lL at hr
 refine cb Tryz.func11 ?_
 obtain⟨N,A,O,B,aa,P,C,af,aO,aP,aQ,aR,aT,aU,aV,aX,aY,aZ,bf,bg,bi,bu,bv,bz,bA,bB,t,u,Q,R,S,T,U,V,ax,ag⟩:=lY H
 refine sr ?_
 refine dn [vI 0, .int .u64 0, .int .u64 0, .int .u64 0, .slice none 0 0, .slice none 0 0, .slice none 0 0] 33 ag ?_
 intro bC bD g
 refine ns (Mz rfl (Kz (vP M 0) (Kz (vP M 0) (La ([vI b.aa.au,vU b.aa.ax,vU b.aa.bG,vU b.aa.aF, .slice N b.aa.ag.ls.length A, .slice O b.aa.ak.ls.length B, .slice P b.aa.aK.ls.length C]) g 1 U0 H2 ?_))))
 obtain⟨a,x⟩:∃ q,iq b.aa=q:=⟨_,rfl⟩
 obtain⟨bE,W,aB,X,c⟩:=Iu g
 refine cl Tryz.call20 (oO _ _ b.aa N b.aa.ag.ls.length A O b.aa.ak.ls.length B aa P b.aa.aK.ls.length C af a W rfl (c _ 2 _ rfl aW) e6 t rfl (c _ 3 _ rfl aW) e6 (λ E h=>⟨c _ 4 _ rfl (az (Q6.2 ⟨E,h,b1⟩) aW),bq (φ:=λ _=>_) g (i:=4) rfl (az (Q6.2 ⟨E,h,b1⟩) bn)⟩) u rfl (c _ 5 _ rfl aW) e6 (λ E h=>⟨c _ 6 _ rfl (az (Q6.2 ⟨E,h,b1⟩) aW),bq (φ:=λ _=>_) g (i:=6) rfl (az (Q6.2 ⟨E,h,b1⟩) bn),(λ y1 k1=>⟨c _ 6 _ rfl (az (Q6.2 ⟨E,h, .tail _ b1⟩) (az (Q6.2 ⟨y1,k1,b1⟩) aW)),bq (φ:=λ _=>_) g (i:=6) rfl (az (Q6.2 ⟨E,h, .tail _ b1⟩) (az (Q6.2 ⟨y1,k1,b1⟩) bn))⟩)⟩) e8 (by first | assumption | exact ym f5 | exact λ _ h=>absurd h v7) (by first | assumption | exact yn f5 | exact λ _ h=>absurd h v7) x) ?_
 rintro _ bF ⟨F,G,I,J,K,L,ah,ai,rfl,Y,y,z⟩
 have j:=X _ _ Y
 have aG:=aA y
 have aH:=aA z
 have aI:=zr 0 j
 have aJ:=zr 1 j
 have aK:=zr 3 j
 have aj:=j.pf [5]
 refine df [vI a.au,vU a.ax,vU a.bG,vU a.aF, .slice F a.ag.ls.length G, .slice I a.ak.ls.length J, .slice K a.aK.ls.length L] 0 aj H2 ?_
 intro bG Z
 refine nt (rt (Fin.res (oo rfl rfl (IJ (cs:= [vI a.au,vU a.ax,vU a.bG,vU a.aF, .slice F a.ag.ls.length G, .slice I a.ak.ls.length J, .slice K a.aK.ls.length L]) U0 H2 ((Z.cls (i:=0) rfl).lit (k:=0) (m:=7) rfl))) ?_))
 have ak:=Z.pb [0,1,2,3,4,5]
 have au:=iK t u Q R S T U V ak
 have av:=au.px [] [1] [0]
 obtain rfl:=zj hr zq1
 exact⟨F,G,I,J,K,L,ah,ai,rfl,av,y,z⟩
end
def Er:bZ:=bZ.mk 2 0 0 1 (E0 [aM.mk [] 1,aM.mk [109] 2]) (E0 []) (E0 [])
theorem Fv {r:bZ} (h:iq Er=r):s0 r.ag.ls=2/\r.au=2/\s0 r.ak.ls=0/\s0 r.aK.ls=0:=by subst h; exact⟨rfl,rfl,rfl,rfl⟩
def rz (r:bZ):aD:=aD.mk (bZ.mk r.au (Int.toNat (IntKind.u64.wrap (((r.ax:Nat):Int)+1))) (fQ (Int.toNat (IntKind.u64.wrap (((r.ax:Nat):Int)+1))) 32) r.aF (E0 r.ag.ls) (E0 r.ak.ls) (E0 r.aK.ls)) 0 (E0 []) (dU.mk false 0 0 (E0 [])) (dU.mk false 0 0 (E0 [])) (dU.mk false 0 0 (E0 [])) (dU.mk false 0 0 (E0 [])) (dU.mk false 0 0 (E0 [])) 0 0 0 0 0
theorem Gm {r:bZ} {m:aD} (h:iq Er=r) (e:rz r=m):Mk m:=by
  subst h; subst e
  have z:mV []/\jR 0:=⟨l9,Lp _⟩
  exact⟨(by dsimp only [rz]; exact lV _),(by dsimp only [rz]; exact pq _ _),(by decide:(1:Nat)<=18446744073709551615),Lp _,λ x hx=>(by cases hx),λ x hx=>(by cases hx),λ x hx=>(by cases hx),z,z,z,z,z⟩
theorem Es {r:bZ} {m:aD} (h:iq Er=r) (e:rz r=m):s0 m.aa.ag.ls<=1000/\m.aa.au<=4/\s0 m.aC.ls+s0 m.aa.ak.ls<=8/\s0 m.aa.aK.ls<=0:=by
  subst h; subst e
  exact⟨(by decide:2<=1000),(by decide:(2:Int)<=4),(by decide:0+0<=8),(by decide:0<=0)⟩
open IntKind renaming u64->C7
open List renaming toArray->v6
open Sv renaming mk->G3
open _root_.Go.Proofs.Tryz renaming call13->U2,isAgg45->U3
section
open Go.RowKit
def uY:Bool:=
 bnd (gq (bZ.mk 2 0 0 1 (E0 ([(aM.mk [] 1),(aM.mk ([109]) 2)])) (E0 []) (E0 []))) λ n=>if n=0 then bnd (iq (bZ.mk 2 0 0 1 (E0 ([(aM.mk [] 1),(aM.mk ([109]) 2)])) (E0 []) (E0 []))) λ a=>bnd ((aD.mk (bZ.mk a.au (C6 (C7.wrap ((a.ax:Int)+1))) (fQ (C6 (C7.wrap ((a.ax:Int)+1))) 32) a.aF (E0 a.ag.ls) (E0 a.ak.ls) (E0 a.aK.ls)) 0 (E0 []) (dU.mk false 0 0 (E0 [])) (dU.mk false 0 0 (E0 [])) (dU.mk false 0 0 (E0 [])) (dU.mk false 0 0 (E0 [])) (dU.mk false 0 0 (E0 [])) 0 0 0 0 0)) λ o=>bnd (dY o (bW.mk 1 11 0 0 0 0 1 1 0 0 0 0 0 0 0 false (aL.mk [] []) (E0 ([(aN.mk 2 ([97]) ([49]) [] [] 0),(aN.mk 2 ([122]) ([50]) [] [] 0)])) (E0 []) (E0 []))) λ c=>bnd (dY c.2.2 (bW.mk 4 1 0 0 3 0 0 0 4294967297 0 0 0 0 0 0 false (aL.mk [] []) (E0 []) (E0 (r7 1 (aQ.mk false [] (E0 [])))) (E0 []))) λ d=>bnd (dY d.2.2 (bW.mk 4 2 0 0 3 0 0 0 4294967297 0 0 0 0 0 0 false (aL.mk [] []) (E0 []) (E0 (r7 1 (aQ.mk false [] (E0 [])))) (E0 []))) λ b=>bnd (dY b.2.2 (bW.mk 1 11 0 0 0 0 1 1 0 0 0 0 0 0 0 false (aL.mk [] []) (E0 ([(aN.mk 2 ([97]) ([49]) [] [] 0),(aN.mk 2 ([122]) ([50]) [] [] 0)])) (E0 []) (E0 []))) λ e=>bnd (dY e.2.2 (bW.mk 1 11 0 0 0 0 1 0 0 0 0 0 0 0 0 false (aL.mk [] []) (E0 ([(aN.mk 2 ([97]) ([49]) [] [] 0),(aN.mk 2 ([122]) ([50]) [] [] 0)])) (E0 []) (E0 []))) λ f=>bnd (dY f.2.2 (bW.mk 7 1 0 0 0 0 0 0 99 0 0 0 0 0 0 false (aL.mk [] []) (E0 []) (E0 []) (E0 []))) λ g=>if(c.1.cz.ls.length:Int)=2 then bnd (B8 c.1.cz.ls 1 default) λ h=>if h.av=3 then if(h.aX:Int)=4294967297 then if(d.1.cz.ls.length:Int)=0 then if d.1.jo=true then false else if(b.1.cz.ls.length:Int)=3 then bnd (B8 b.1.cz.ls 0 default) λ i=>if i.dK=1 then bnd (B8 b.1.cz.ls 2 default) λ j=>if j.fe=true then if b.1.jo=true then if(e.1.cz.ls.length:Int)=1 then bnd (B8 e.1.cz.ls 0 default) λ k=>if k.dK=1 then if(f.1.cz.ls.length:Int)=1 then bnd (B8 f.1.cz.ls 0 default) λ l=>if l.dK=2 then if(g.1.cz.ls.length:Int)=1 then bnd (B8 g.1.cz.ls 0 default) λ m=> !m.fe else false else false else false else false else false else false else false else false else false else false else false else false else false else false
theorem Bp (w D r0) (H:Own w D w []) (hr:uY=r0):
    Calls Tryz.prog 7 #[] w (dA λ v w'=>v= .bool r0/\Own w D w' []):=by
 refine cb Tryz.func7 ?_
 refine sr (Ar rfl ?_)
 refine WL.do rfl (IP Tryz.call9 rfl ?_ (λ _ _ k=>k))
 refine cb Tryz.func9 ?_
 refine sr ?_
 refine dn [vI 0, .int .u64 0, .int .u64 0, .int .u64 0, .slice none 0 0, .slice none 0 0, .slice none 0 0] 33 H ?_
 intro mg mh jc
 refine ns (Kz (.agg #[.string ⟨v6 []⟩,vI 1]) (Kz (.agg #[.string ⟨v6 ([109])⟩,vI 2]) ?_))
 refine jV [.string ⟨v6 []⟩,vI 1, .string ⟨v6 ([109])⟩,vI 2] 89 2 2 jc ?_
 intro aX mi ed
 replace ed:=IX (y:=row aX 2 2 (q4 aM.cells ([(aM.mk [] 1),(aM.mk ([109]) 2)])) 89 2) rfl ed
 refine Kz (.agg #[vI 2, .int .u64 0, .int .u64 0, .int .u64 1, .slice aX 2 2, .slice none 0 0, .slice none 0 0]) ?_
 have jd:=ed.pb [0]
 refine df [vI 2, .int .u64 0, .int .u64 0, .int .u64 1, .slice aX 2 2, .slice none 0 0, .slice none 0 0] 0 jd H2 ?_
 intro mo fH
 refine nt (rt (Fin.res (oo rfl rfl (IJ (cs:= [vI 2, .int .u64 0, .int .u64 0, .int .u64 1, .slice aX 2 2, .slice none 0 0, .slice none 0 0]) U0 H2 ((fH.cls (i:=0) rfl).lit (k:=0) (m:=7) rfl))) ?_))
 refine WL.do rfl (IP Tryz.call8 rfl ?_ (λ _ _ k=>k))
 refine cb Tryz.func8 ?_
 refine Ik ?_
 have je:=fH.pk [1]
 refine Il ?_
 refine dn [vI 2, .int .u64 0, .int .u64 0, .int .u64 1, .slice aX 2 2, .slice none 0 0, .slice none 0 0] 33 je ?_
 intro jg mq fI
 refine Az rfl (An rfl (Ik (sr (La ([vI 2, .int .u64 0, .int .u64 0, .int .u64 1, .slice aX 2 2, .slice none 0 0, .slice none 0 0]) fI 0 U0 H2 ?_))))
 obtain⟨cO,F⟩:∃ q,gq (bZ.mk 2 0 0 1 (E0 ([(aM.mk [] 1),(aM.mk ([109]) 2)])) (E0 []) (E0 []))=q:=⟨_,rfl⟩
 obtain⟨mr,fJ,kS,fK,fM⟩:=Iu fI
 refine cl Tryz.call19 (oC _ _ (bZ.mk 2 0 0 1 (E0 ([(aM.mk [] 1),(aM.mk ([109]) 2)])) (E0 []) (E0 [])) aX 2 2 none 0 0 [] none 0 0 [] cO fJ rfl (fM _ 1 _ rfl aW) f3 rfl rfl (λ _ _=>aY.nil _ _ _) f3 (λ _ h9=>absurd h9 v7) rfl rfl (λ _ _=>aY.nil _ _ _) f3 (λ _ h9=>absurd h9 v7) e8 F) ?_
 rintro _ mD ⟨rfl,fO⟩
 have cZ:=fK _ _ fO
 refine fw (.bool (decide (¬ (cO=0)))) (IM (e:= !(decide (cO=0))) yk decide_not.symm) (Mz rfl ?_)
 by_cases O:cO=0
 refine gw (vP jg 1) (dF (Lr O)) yk (gw (.int .u64 0) (dF (Lr O)) (IB rfl (bJ.one D2 (I1 (cZ.cls (i:=0) rfl) rfl))) (gw (.bool false) (dF (Lr O)) yk (fw (.bool false) (Io rfl (dF (Lr O)) rfl) (nt (jf (sk (sr (La ([vI 2, .int .u64 0, .int .u64 0, .int .u64 1, .slice aX 2 2, .slice none 0 0, .slice none 0 0]) cZ 0 U0 H2 ?_))))))))
 obtain⟨f,G⟩:∃ q,iq (bZ.mk 2 0 0 1 (E0 ([(aM.mk [] 1),(aM.mk ([109]) 2)])) (E0 []) (E0 []))=q:=⟨_,rfl⟩
 obtain⟨mE,fT,kT,fU,fV⟩:=Iu cZ
 refine cl Tryz.call20 (oO _ _ (bZ.mk 2 0 0 1 (E0 ([(aM.mk [] 1),(aM.mk ([109]) 2)])) (E0 []) (E0 [])) aX 2 2 none 0 0 [] none 0 0 [] f fT rfl (fV _ 1 _ rfl aW) f3 rfl rfl (λ _ _=>aY.nil _ _ _) f3 (λ _ h9=>absurd h9 v7) rfl rfl (λ _ _=>aY.nil _ _ _) f3 (λ _ h9=>absurd h9 v7) e8 (by first | assumption | exact ym f5 | exact λ _ h9=>absurd h9 v7) (by first | assumption | exact yn f5 | exact λ _ h9=>absurd h9 v7) G) ?_
 rintro _ mF ⟨fZ,gm,gp,gu,gy,gz,mG,mH,rfl,gB,dm,dw⟩
 have di:=fU _ _ gB
 have kU:=aA dm
 have kV:=aA dw
 have kW:=zr 0 di
 have kX:=zr 1 di
 have kY:=zr 3 di
 have kZ:f.ag.ls.length=2/\f.au=2/\f.ak.ls.length=0/\f.aK.ls.length=0:=Fv G
 refine Kz (.agg #[vI f.au,vU f.ax,vU f.bG,vU f.aF, .slice fZ f.ag.ls.length gm, .slice gp f.ak.ls.length gu, .slice gy f.aK.ls.length gz, .int .u64 0, .slice none 0 0, .bool false, .int .u64 0,vI 0, .slice none 0 0, .bool false, .int .u64 0,vI 0, .slice none 0 0, .bool false, .int .u64 0,vI 0, .slice none 0 0, .bool false, .int .u64 0,vI 0, .slice none 0 0, .bool false, .int .u64 0,vI 0, .slice none 0 0, .int .u64 0, .int .u64 0, .int .u64 0, .int .u64 0, .int .u64 0, .pointer none]) ?_
 refine dn [vI f.au,vU f.ax,vU f.bG,vU f.aF, .slice fZ f.ag.ls.length gm, .slice gp f.ak.ls.length gu, .slice gy f.aK.ls.length gz, .int .u64 0, .slice none 0 0, .bool false, .int .u64 0,vI 0, .slice none 0 0, .bool false, .int .u64 0,vI 0, .slice none 0 0, .bool false, .int .u64 0,vI 0, .slice none 0 0, .bool false, .int .u64 0,vI 0, .slice none 0 0, .bool false, .int .u64 0,vI 0, .slice none 0 0, .int .u64 0, .int .u64 0, .int .u64 0, .int .u64 0, .int .u64 0, .pointer none] 86 di ?_
 intro U mI jh
 refine An rfl (Ik ?_)
 have gD:=jh.px [] [6] []
 refine Il (Mz rfl (Kz (vP U 0) (Kz (vP U 0) (Kz (vP U 1) (Lz (vU f.ax) gD 0 D2 (fw (.int .u64 ((C6 (C7.wrap ((f.ax:Int)+1)):Nat):Int)) (Ir (e:=C7.wrap ((f.ax:Int)+1)) yk (fB _)) (Kz (vP U 0) (Kz (vP U 0) (Kz (vP U 1) ?_)))))))))
 refine df [.int .u64 ((C6 (C7.wrap ((f.ax:Int)+1)):Nat):Int)] 1 gD O0 ?_
 intro mJ gF
 refine ns (Mz rfl (Mz rfl (Kz (vP U 0) (Kz (vP U 0) (Kz (vP U 1) (Lz (.int .u64 ((C6 (C7.wrap ((f.ax:Int)+1)):Nat):Int)) gF 0 D2 ?_))))))
 have lc:fQ (C6 (C7.wrap ((f.ax:Int)+1))) 32<=18446744073709551615:=pq _ _
 refine fw (.int .u64 ((fQ (C6 (C7.wrap ((f.ax:Int)+1))) 32:Nat):Int)) (Ir (JO (m:=32) rfl rfl) (fB _)) (Kz (vP U 0) (Kz (vP U 0) (Kz (vP U 2) ?_)))
 refine df [.int .u64 ((fQ (C6 (C7.wrap ((f.ax:Int)+1))) 32:Nat):Int)] 2 gF O0 ?_
 intro aB ji
 refine ns (Mz rfl (Az rfl (An rfl (rt (Fin.res (lH rfl rfl rfl) ?_)))))
 have jk:Own w D aB (sepL (q4 bK.own [])::_):=ji.sepNil
 have jl:Own w D aB (row none 0 0 (q4 bK.cells []) 107 9::_):=jk.free (eP 107 9)
 have jm:Own w D aB (sepL (q4 af.own [])::_):=jl.sepNil
 have jo:Own w D aB (row none 0 0 (q4 af.cells []) 149 3::_):=jm.free (eP 149 3)
 have jq:Own w D aB (sepL (q4 af.own [])::_):=jo.sepNil
 have jr:Own w D aB (row none 0 0 (q4 af.cells []) 149 3::_):=jq.free (eP 149 3)
 have jv:Own w D aB (sepL (q4 af.own [])::_):=jr.sepNil
 have jw:Own w D aB (row none 0 0 (q4 af.cells []) 149 3::_):=jv.free (eP 149 3)
 have jy:Own w D aB (sepL (q4 af.own [])::_):=jw.sepNil
 have jA:Own w D aB (row none 0 0 (q4 af.cells []) 149 3::_):=jy.free (eP 149 3)
 have jB:Own w D aB (sepL (q4 af.own [])::_):=jA.sepNil
 have jC:Own w D aB (row none 0 0 (q4 af.cells []) 149 3::_):=jB.free (eP 149 3)
 have jD:=jC.pf [12,13,14,15,16,17,10,11]
 have jE:Own w D aB (jZ U (aD.mk (bZ.mk f.au (C6 (C7.wrap ((f.ax:Int)+1))) (fQ (C6 (C7.wrap ((f.ax:Int)+1))) 32) f.aF (E0 f.ag.ls) (E0 f.ak.ls) (E0 f.aK.ls)) 0 (E0 []) (dU.mk false 0 0 (E0 [])) (dU.mk false 0 0 (E0 [])) (dU.mk false 0 0 (E0 [])) (dU.mk false 0 0 (E0 [])) (dU.mk false 0 0 (E0 [])) 0 0 0 0 0)::_):=iK dm dw rfl rfl rfl rfl rfl rfl jD
 obtain⟨aJ,I⟩:∃ q,(aD.mk (bZ.mk f.au (C6 (C7.wrap ((f.ax:Int)+1))) (fQ (C6 (C7.wrap ((f.ax:Int)+1))) 32) f.aF (E0 f.ag.ls) (E0 f.ak.ls) (E0 f.aK.ls)) 0 (E0 []) (dU.mk false 0 0 (E0 [])) (dU.mk false 0 0 (E0 [])) (dU.mk false 0 0 (E0 [])) (dU.mk false 0 0 (E0 [])) (dU.mk false 0 0 (E0 [])) 0 0 0 0 0)=q:=⟨_,rfl⟩
 have jF:Own w D aB [jZ U aJ,row aX 2 2 (q4 aM.cells ([(aM.mk [] 1),(aM.mk ([109]) 2)])) 89 2]:=by rw [<- I]; exact jE
 have lg:Mk aJ:=Gm f5 f5
 have lh:aJ.aa.ag.ls.length<=1000/\aJ.aa.au<=4/\aJ.aC.ls.length+aJ.aa.ak.ls.length<=8/\aJ.aa.aK.ls.length<=0:=Es f5 f5
 refine Mz rfl (Kz (vP U 0) (Kz (vI 0) (Az rfl (An rfl (Ik (Ik ?_))))))
 have jG:=jF.pk [0]
 refine Il (Mz rfl (Kz (.bool false) (Mz rfl (gw (vI 0) rfl (IA rfl) (Gz (.bool false) rfl (fw (.bool false) (Io rfl rfl rfl) (nt (jf (sk (sr (Kz (.agg #[vI 2, .string ⟨v6 ([97])⟩, .string ⟨v6 ([49])⟩, .string ⟨v6 []⟩, .string ⟨v6 []⟩,vI 0]) (Kz (.agg #[vI 2, .string ⟨v6 ([122])⟩, .string ⟨v6 ([50])⟩, .string ⟨v6 []⟩, .string ⟨v6 []⟩,vI 0]) ?_))))))))))))
 refine jV [vI 2, .string ⟨v6 ([97])⟩, .string ⟨v6 ([49])⟩, .string ⟨v6 []⟩, .string ⟨v6 []⟩,vI 0,vI 2, .string ⟨v6 ([122])⟩, .string ⟨v6 ([50])⟩, .string ⟨v6 []⟩, .string ⟨v6 []⟩,vI 0] 72 6 2 jG ?_
 intro aC ll bE
 replace bE:=IX (y:=row aC 2 2 (q4 aN.cells ([(aN.mk 2 ([97]) ([49]) [] [] 0),(aN.mk 2 ([122]) ([50]) [] [] 0)])) 72 6) rfl bE
 refine Kz (.agg (iA 1 11 0 0 0 0 1 1 0 0 0 0 0 0 0 false [] [] aC 2 2 none 0 0 none 0 0).toArray) ?_
 refine dn (iA 0 0 0 0 0 0 0 0 0 0 0 0 0 0 0 false [] [] none 0 0 none 0 0 none 0 0) 42 bE ?_
 intro gG lm gH
 refine df (iA 1 11 0 0 0 0 1 1 0 0 0 0 0 0 0 false [] [] aC 2 2 none 0 0 none 0 0) 0 gH N9 ?_
 intro lq dx
 refine ns (Mz rfl (La (iA 1 11 0 0 0 0 1 1 0 0 0 0 0 0 0 false [] [] aC 2 2 none 0 0 none 0 0) dx 0 N8 N9 ?_))
 have gI:=dx.pf [2]
 obtain⟨⟨aj,dz,Z⟩,l⟩:∃ q:kG × Int × aD,dY aJ (bW.mk 1 11 0 0 0 0 1 1 0 0 0 0 0 0 0 false (aL.mk [] []) (E0 ([(aN.mk 2 ([97]) ([49]) [] [] 0),(aN.mk 2 ([122]) ([50]) [] [] 0)])) (E0 []) (E0 []))=q:=⟨_,rfl⟩
 obtain⟨lu,ek,jH,eu,eB⟩:=IZ gI
 refine cl U2 (jI _ _ U aJ (bW.mk 1 11 0 0 0 0 1 1 0 0 0 0 0 0 0 false (aL.mk [] []) (E0 ([(aN.mk 2 ([97]) ([49]) [] [] 0),(aN.mk 2 ([122]) ([50]) [] [] 0)])) (E0 []) (E0 [])) aC 2 2 none 0 0 [] none 0 0 aj dz Z ek rfl (eB _ 1 _ rfl aW) f3 rfl rfl (λ _ _=>aY.nil _ _ _) f3 (λ _ h9=>absurd h9 v7) rfl (λ _ _=>aY.nil _ _ _) f3 f8 f5 l) ?_
 rintro _ lv ⟨V,bg,gJ,rfl,eD,bF,bG,bH⟩
 have dB:=eu _ _ eD
 have jJ:=aA bF
 have jK:=zr 0 dB
 replace bG:Z.aa.ag.ls.length=aJ.aa.ag.ls.length/\Z.aa.au=aJ.aa.au/\Z.aC.ls.length+Z.aa.ak.ls.length<=8/\Z.aa.aK.ls.length<=aJ.aa.aK.ls.length+1:=bG
 replace bH:Mk Z:=bH
 refine Mz rfl (Kz (.agg #[.slice V aj.cz.ls.length bg, .bool aj.jo]) (Kz (vI dz) ?_))
 refine dn [.slice none 0 0, .bool false] 47 dB ?_
 intro bI lw gK
 refine df [.slice V aj.cz.ls.length bg, .bool aj.jo] 0 gK T5 ?_
 intro lC gL
 refine Ar rfl ?_
 refine WL.do rfl (Jt (x0:=(af.mk false [] (G3 none 0 []))) (z:= .agg #[.bool false, .string ⟨v6 []⟩, .slice none 0 0]) (k:=1) (size:=3) (bytes:=48) af.len f2 rfl Tryz.underlying40 e7 gL rfl rfl e6 (by unfold maxLen; omega) ?_)
 intro aZ gM gN
 have bf:List.map af.abs (r7 1 (af.mk false [] (G3 none 0 [])))=(r7 1 (aQ.mk false [] (E0 []))):=List.map_replicate
 have gP:Own w D gM (sepL (q4 af.own (r7 1 (af.mk false [] (G3 none 0 []))))::_):=gN.free (uQ (wX (eP 153 2)))
 have jL:s0 (r7 1 (af.mk false [] (G3 none 0 [])))=1:=H0
 have jM:s0 (r7 1 (aQ.mk false [] (E0 [])))=1:=H0
 refine Kz (.agg (iA 4 1 0 0 3 0 0 0 4294967297 0 0 0 0 0 0 false [] [] none 0 0 aZ 1 1 none 0 0).toArray) ?_
 refine dn (iA 0 0 0 0 0 0 0 0 0 0 0 0 0 0 0 false [] [] none 0 0 none 0 0 none 0 0) 42 gP ?_
 intro gQ lD gT
 refine df (iA 4 1 0 0 3 0 0 0 4294967297 0 0 0 0 0 0 false [] [] none 0 0 aZ 1 1 none 0 0) 0 gT N9 ?_
 intro lF dC
 refine ns (Mz rfl (La (iA 4 1 0 0 3 0 0 0 4294967297 0 0 0 0 0 0 false [] [] none 0 0 aZ 1 1 none 0 0) dC 0 N8 N9 ?_))
 have dD:=dC.pf [6]
 obtain⟨⟨T,dE,aa⟩,n⟩:∃ q:kG × Int × aD,dY Z (bW.mk 4 1 0 0 3 0 0 0 4294967297 0 0 0 0 0 0 false (aL.mk [] []) (E0 []) (E0 (r7 1 (aQ.mk false [] (E0 [])))) (E0 []))=q:=⟨_,rfl⟩
 obtain⟨lG,eF,jN,eG,bL⟩:=IZ dD
 refine cl U2 (jI _ _ U Z (bW.mk 4 1 0 0 3 0 0 0 4294967297 0 0 0 0 0 0 false (aL.mk [] []) (E0 []) (E0 (r7 1 (aQ.mk false [] (E0 [])))) (E0 [])) none 0 0 aZ 1 1 (r7 1 (af.mk false [] (G3 none 0 []))) none 0 0 T dE aa eF rfl (λ _ _=>aY.nil _ _ _) f3 bf f1 (λ w9 h9=>sZ (aA bf) ((bL _ 2 _ rfl aW) w9 h9)) e6 (λ x9 h9=>⟨bL _ 1 _ rfl (az (Q6.2 ⟨x9,h9,b1⟩) aW),bq (φ:=λ _=>_) dD (i:=2) rfl (az (Q6.2 ⟨x9,h9,b1⟩) bn)⟩) rfl (λ _ _=>aY.nil _ _ _) f3 f8 f5 n) ?_
 rintro _ lI ⟨bM,bN,lJ,rfl,eH,eO,bO,bP⟩
 have dG:=eG _ _ eH
 have jP:=aA eO
 have jQ:=zr 0 dG
 replace bO:aa.aa.ag.ls.length=Z.aa.ag.ls.length/\aa.aa.au=Z.aa.au/\aa.aC.ls.length+aa.aa.ak.ls.length<=8/\aa.aa.aK.ls.length<=Z.aa.aK.ls.length+1:=bO
 replace bP:Mk aa:=bP
 refine Mz rfl (Kz (.agg #[.slice bM T.cz.ls.length bN, .bool T.jo]) (Kz (vI dE) ?_))
 refine dn [.slice none 0 0, .bool false] 47 dG ?_
 intro dH lK gV
 refine df [.slice bM T.cz.ls.length bN, .bool T.jo] 0 gV T5 ?_
 intro lL gW
 refine Ar rfl (Kz (vP gQ 1) ?_)
 have gX:=gW.pf [4]
 refine df [vI 2] 1 gX Tryz.sizeOf3 ?_
 intro lM dI
 refine ns (Mz rfl (La (iA 4 2 0 0 3 0 0 0 4294967297 0 0 0 0 0 0 false [] [] none 0 0 aZ 1 1 none 0 0) dI 0 N8 N9 ?_))
 have dJ:=dI.pf [4]
 obtain⟨⟨P,dK,ag⟩,o⟩:∃ q:kG × Int × aD,dY aa (bW.mk 4 2 0 0 3 0 0 0 4294967297 0 0 0 0 0 0 false (aL.mk [] []) (E0 []) (E0 (r7 1 (aQ.mk false [] (E0 [])))) (E0 []))=q:=⟨_,rfl⟩
 obtain⟨lN,eQ,jS,eT,bQ⟩:=IZ dJ
 refine cl U2 (jI _ _ U aa (bW.mk 4 2 0 0 3 0 0 0 4294967297 0 0 0 0 0 0 false (aL.mk [] []) (E0 []) (E0 (r7 1 (aQ.mk false [] (E0 [])))) (E0 [])) none 0 0 aZ 1 1 (r7 1 (af.mk false [] (G3 none 0 []))) none 0 0 P dK ag eQ rfl (λ _ _=>aY.nil _ _ _) f3 bf f1 (λ w9 h9=>sZ (aA bf) ((bQ _ 5 _ rfl aW) w9 h9)) e6 (λ x9 h9=>⟨bQ _ 4 _ rfl (az (Q6.2 ⟨x9,h9,b1⟩) aW),bq (φ:=λ _=>_) dJ (i:=5) rfl (az (Q6.2 ⟨x9,h9,b1⟩) bn)⟩) rfl (λ _ _=>aY.nil _ _ _) f3 f8 f5 o) ?_
 rintro _ lQ ⟨W,bi,dL,rfl,eU,bu,bR,bS⟩
 have dM:=eT _ _ eU
 have jT:=aA bu
 have jU:=zr 0 dM
 replace bR:ag.aa.ag.ls.length=aa.aa.ag.ls.length/\ag.aa.au=aa.aa.au/\ag.aC.ls.length+ag.aa.ak.ls.length<=8/\ag.aa.aK.ls.length<=aa.aa.aK.ls.length+1:=bR
 replace bS:Mk ag:=bS
 refine Mz rfl (Kz (.agg #[.slice W P.cz.ls.length bi, .bool P.jo]) (Kz (vI dK) ?_))
 refine dn [.slice none 0 0, .bool false] 47 dM ?_
 intro bA lS gY
 refine df [.slice W P.cz.ls.length bi, .bool P.jo] 0 gY T5 ?_
 intro lT gZ
 refine An rfl (Ik ?_)
 have dN:=gZ.px [] [4,8,9] []
 refine Il (Mz rfl (La (iA 1 11 0 0 0 0 1 1 0 0 0 0 0 0 0 false [] [] aC 2 2 none 0 0 none 0 0) dN 10 N8 N9 ?_))
 have ib:=dN.pf [3]
 obtain⟨⟨ak,dO,ah⟩,p⟩:∃ q:kG × Int × aD,dY ag (bW.mk 1 11 0 0 0 0 1 1 0 0 0 0 0 0 0 false (aL.mk [] []) (E0 ([(aN.mk 2 ([97]) ([49]) [] [] 0),(aN.mk 2 ([122]) ([50]) [] [] 0)])) (E0 []) (E0 []))=q:=⟨_,rfl⟩
 obtain⟨lU,eX,jW,eZ,fe⟩:=IZ ib
 refine cl U2 (jI _ _ U ag (bW.mk 1 11 0 0 0 0 1 1 0 0 0 0 0 0 0 false (aL.mk [] []) (E0 ([(aN.mk 2 ([97]) ([49]) [] [] 0),(aN.mk 2 ([122]) ([50]) [] [] 0)])) (E0 []) (E0 [])) aC 2 2 none 0 0 [] none 0 0 ak dO ah eX rfl (fe _ 10 _ rfl aW) f3 rfl rfl (λ _ _=>aY.nil _ _ _) f3 (λ _ h9=>absurd h9 v7) rfl (λ _ _=>aY.nil _ _ _) f3 f8 f5 p) ?_
 rintro _ lV ⟨aG,bB,ic,rfl,fo,bT,bU,bV⟩
 have dP:=eZ _ _ fo
 have jX:=aA bT
 have jY:=zr 0 dP
 replace bU:ah.aa.ag.ls.length=ag.aa.ag.ls.length/\ah.aa.au=ag.aa.au/\ah.aC.ls.length+ah.aa.ak.ls.length<=8/\ah.aa.aK.ls.length<=ag.aa.aK.ls.length+1:=bU
 replace bV:Mk ah:=bV
 refine Mz rfl (Kz (.agg #[.slice aG ak.cz.ls.length bB, .bool ak.jo]) (Kz (vI dO) ?_))
 refine dn [.slice none 0 0, .bool false] 47 dP ?_
 intro dQ lW ig
 refine df [.slice aG ak.cz.ls.length bB, .bool ak.jo] 0 ig T5 ?_
 intro lX ik
 refine Ar rfl (Kz (vP gG 7) ?_)
 have il:=ik.pf [13]
 refine df [.int .u64 0] 7 il O0 ?_
 intro lY dR
 refine ns (Mz rfl (La (iA 1 11 0 0 0 0 1 0 0 0 0 0 0 0 0 false [] [] aC 2 2 none 0 0 none 0 0) dR 0 N8 N9 ?_))
 have iw:=dR.pf [4]
 obtain⟨⟨au,dS,ai⟩,r⟩:∃ q:kG × Int × aD,dY ah (bW.mk 1 11 0 0 0 0 1 0 0 0 0 0 0 0 0 false (aL.mk [] []) (E0 ([(aN.mk 2 ([97]) ([49]) [] [] 0),(aN.mk 2 ([122]) ([50]) [] [] 0)])) (E0 []) (E0 []))=q:=⟨_,rfl⟩
 obtain⟨lZ,fq,j3,fu,fA⟩:=IZ iw
 refine cl U2 (jI _ _ U ah (bW.mk 1 11 0 0 0 0 1 0 0 0 0 0 0 0 0 false (aL.mk [] []) (E0 ([(aN.mk 2 ([97]) ([49]) [] [] 0),(aN.mk 2 ([122]) ([50]) [] [] 0)])) (E0 []) (E0 [])) aC 2 2 none 0 0 [] none 0 0 au dS ai fq rfl (fA _ 13 _ rfl aW) f3 rfl rfl (λ _ _=>aY.nil _ _ _) f3 (λ _ h9=>absurd h9 v7) rfl (λ _ _=>aY.nil _ _ _) f3 f8 f5 r) ?_
 rintro _ l5 ⟨aH,bC,iy,rfl,fC,bX,bY,cu⟩
 have dV:=fu _ _ fC
 have j4:=aA bX
 have j5:=zr 0 dV
 replace bY:ai.aa.ag.ls.length=ah.aa.ag.ls.length/\ai.aa.au=ah.aa.au/\ai.aC.ls.length+ai.aa.ak.ls.length<=8/\ai.aa.aK.ls.length<=ah.aa.aK.ls.length+1:=bY
 replace cu:Mk ai:=cu
 refine Mz rfl (Kz (.agg #[.slice aH au.cz.ls.length bC, .bool au.jo]) (Kz (vI dS) ?_))
 refine dn [.slice none 0 0, .bool false] 47 dV ?_
 intro dW l6 iB
 refine df [.slice aH au.cz.ls.length bC, .bool au.jo] 0 iB T5 ?_
 intro l7 iC
 refine An rfl (Ik ?_)
 have iD:=iC.px [] [4,17] []
 refine Il (Mz rfl (Kz (.agg (iA 7 1 0 0 0 0 0 0 99 0 0 0 0 0 0 false [] [] none 0 0 none 0 0 none 0 0).toArray) ?_))
 have iE:=iD.pf [3]
 obtain⟨⟨av,dX,aK⟩,s⟩:∃ q:kG × Int × aD,dY ai (bW.mk 7 1 0 0 0 0 0 0 99 0 0 0 0 0 0 false (aL.mk [] []) (E0 []) (E0 []) (E0 []))=q:=⟨_,rfl⟩
 obtain⟨l8,fD,j6,fE,kg⟩:=IZ iE
 refine cl U2 (jI _ _ U ai (bW.mk 7 1 0 0 0 0 0 0 99 0 0 0 0 0 0 false (aL.mk [] []) (E0 []) (E0 []) (E0 [])) none 0 0 none 0 0 [] none 0 0 av dX aK fD rfl (λ _ _=>aY.nil _ _ _) f3 rfl rfl (λ _ _=>aY.nil _ _ _) f3 (λ _ h9=>absurd h9 v7) rfl (λ _ _=>aY.nil _ _ _) f3 f8 f5 s) ?_
 rintro _ l9 ⟨aI,bD,iF,rfl,fF,cz,cB,cK⟩
 have dZ:=fE _ _ fF
 have ko:=aA cz
 have kr:=zr 0 dZ
 replace cB:aK.aa.ag.ls.length=ai.aa.ag.ls.length/\aK.aa.au=ai.aa.au/\aK.aC.ls.length+aK.aa.ak.ls.length<=8/\aK.aa.aK.ls.length<=ai.aa.aK.ls.length+1:=cB
 replace cK:Mk aK:=cK
 refine Mz rfl (Kz (.agg #[.slice aI av.cz.ls.length bD, .bool av.jo]) (Kz (vI dX) ?_))
 refine dn [.slice none 0 0, .bool false] 47 dZ ?_
 intro d9 ma iG
 refine df [.slice aI av.cz.ls.length bD, .bool av.jo] 0 iG T5 ?_
 intro mf iH
 refine An rfl (Ik ?_)
 have a:=iH.px [] [3] []
 refine Il (Kz (vP bI 0) (Lz (.slice V aj.cz.ls.length bg) a 15 U3 (Kz (vJ aj.cz.ls.length) (Kz (.bool (decide ((aj.cz.ls.length:Int)=2))) (Mz rfl ?_)))))
 by_cases b:(aj.cz.ls.length:Int)=2
 refine Gz (vP bI 0) (dT b) (Gl (.slice V aj.cz.ls.length bg) (dT b) a 15 U3 ?_)
 obtain⟨u,aF⟩:=dh (ls:=gJ) (i:=1) bz.len f2 (a.rds (i:=16) rfl) e9
 have B:=eY bF aF
 have ku:u.aB.ls.length<=u.aB.c/\u.aB.ls.length<=9223372036854775807:=bq a (i:=17) rfl (φ:=λ _=>_) (az (Q6.2 ⟨u,D1 aF,b1⟩) bn)
 have kv:u.ah.ls.length<=u.ah.c/\u.ah.ls.length<=9223372036854775807:=bq a (i:=17) rfl (φ:=λ _=>_) (az (Q6.2 ⟨u,D1 aF, .tail _ b1⟩) bn)
 have kw:u.ag.ls.length<=u.ag.c/\u.ag.ls.length<=9223372036854775807:=bq a (i:=17) rfl (φ:=λ _=>_) (az (Q6.2 ⟨u,D1 aF, .tail _ b2⟩) bn)
 refine gw (.pointer (some ⟨ab V,ao V+1 *21,none⟩)) (dT b) (Iz (rY) rfl rfl ((a.rds (i:=16) rfl).addr (i:=1) e6) e6) (Gz (.pointer (some ⟨ab V,ao V+1 *21,none⟩)) (dT b) (gw (vI u.av) (dT b) (IB rfl (bJ.one C2 (((a.rds (i:=16) rfl).elem bz.len aF f2).at_ (k:=0) rfl))) (Gz (.bool (decide (u.av=3))) (dT b) (fw (.bool (decide (u.av=3))) (Iw rfl (dT b) rfl) (Mz rfl ?_)))))
 by_cases d:u.av=3
 refine Gz (vP bI 0) (dT d) (Gl (.slice V aj.cz.ls.length bg) (dT d) a 15 U3 (gw (.pointer (some ⟨ab V,ao V+1 *21,none⟩)) (dT d) (Iz (rY) rfl rfl ((a.rds (i:=16) rfl).addr (i:=1) e6) e6) (Gz (.pointer (some ⟨ab V,ao V+1 *21+8,none⟩)) (dT d) (gw (vU u.aX) (dT d) (IB rfl (bJ.one D2 (((a.rds (i:=16) rfl).elem bz.len aF f2).at_ (k:=8) rfl))) (Gz (.bool (decide ((u.aX:Int)=4294967297))) (dT d) (fw (.bool (decide ((u.aX:Int)=4294967297))) (Iw rfl (dT d) rfl) (Mz rfl ?_)))))))
 by_cases h:(u.aX:Int)=4294967297
 refine Gz (vP dH 0) (dT h) (Gl (.slice bM T.cz.ls.length bN) (dT h) a 12 U3 (Gz (vJ T.cz.ls.length) (dT h) (Gz (.bool (decide ((T.cz.ls.length:Int)=0))) (dT h) (fw (.bool (decide ((T.cz.ls.length:Int)=0))) (Iw rfl (dT h) rfl) (Mz rfl ?_)))))
 by_cases x:(T.cz.ls.length:Int)=0
 refine Gz (vP dH 1) (dT x) (Gl (.bool T.jo) (dT x) a 12 N6 (Gz (.bool (!T.jo)) (dT x) (fw (.bool (!T.jo)) (Iw rfl (dT x) rfl) (Mz rfl ?_))))
 rcases Ls (T.jo) with j | j
 refine Sz (cn j) (Sz (cn j) (Sz (cn j) (Sz (cn j) (fw (.bool false) (Io rfl (cn j) rfl) (Mz rfl (Sz rfl (Sz rfl (Sz rfl (Sz rfl (Sz rfl (Sz rfl (fw (.bool false) (Io rfl rfl rfl) (Mz rfl (Sz rfl (Sz rfl (Sz rfl (Sz rfl (Sz rfl (fw (.bool false) (Io rfl rfl rfl) (Mz rfl (Sz rfl (Sz rfl (fw (.bool false) (Io rfl rfl rfl) (Mz rfl (Sz rfl (Sz rfl (Sz rfl (Sz rfl (fw (.bool false) (Io rfl rfl rfl) (Mz rfl (Sz rfl (Sz rfl (Sz rfl (Sz rfl (Sz rfl (Sz rfl (fw (.bool false) (Io rfl rfl rfl) (Mz rfl (Sz rfl ?_)))))))))))))))))))))))))))))))))))))))
 refine Sz rfl (Sz rfl (Sz rfl (fw (.bool false) (Io rfl rfl rfl) (Mz rfl (Sz rfl (Sz rfl (Sz rfl (Sz rfl (Sz rfl (Sz rfl (fw (.bool false) (Io rfl rfl rfl) (Mz rfl (Sz rfl (Sz rfl (Sz rfl (Sz rfl (fw (.bool false) (Io rfl rfl rfl) (Mz rfl (Sz rfl (Sz rfl (Sz rfl (Sz rfl (Sz rfl (Sz rfl (fw (.bool false) (Io rfl rfl rfl) (An rfl (rt (rs ?_))))))))))))))))))))))))))))
 have iI:=a.pk []
 obtain rfl:_=false:=zj hr (et (ae F) (et (ip O) (et (ae G) (et (ae I) (et (ae l) (et (ae n) (et (ae o) (et (ae p) (et (ae r) (et (ae s) (et (ip b) (et (ae (aT B)) (et (ip d) (et (ip h) (et (ip x) (ip j))))))))))))))))
 exact⟨rfl,iI⟩
 refine Gz (vP bA 0) (cn j) (Gl (.slice W P.cz.ls.length bi) (cn j) a 9 U3 (Gz (vJ P.cz.ls.length) (cn j) (Gz (.bool (decide ((P.cz.ls.length:Int)=3))) (cn j) (fw (.bool (decide ((P.cz.ls.length:Int)=3))) (Iw rfl (cn j) rfl) (Mz rfl ?_)))))
 by_cases g:(P.cz.ls.length:Int)=3
 refine Gz (vP bA 0) (dT g) (Gl (.slice W P.cz.ls.length bi) (dT g) a 9 U3 ?_)
 obtain⟨J,aO⟩:=dh (ls:=dL) (i:=0) bz.len f2 (a.rds (i:=10) rfl) e9
 have Y:=eY bu aO
 have ky:J.aB.ls.length<=J.aB.c/\J.aB.ls.length<=9223372036854775807:=bq a (i:=11) rfl (φ:=λ _=>_) (az (Q6.2 ⟨J,D1 aO,b1⟩) bn)
 have kz:J.ah.ls.length<=J.ah.c/\J.ah.ls.length<=9223372036854775807:=bq a (i:=11) rfl (φ:=λ _=>_) (az (Q6.2 ⟨J,D1 aO, .tail _ b1⟩) bn)
 have kC:J.ag.ls.length<=J.ag.c/\J.ag.ls.length<=9223372036854775807:=bq a (i:=11) rfl (φ:=λ _=>_) (az (Q6.2 ⟨J,D1 aO, .tail _ b2⟩) bn)
 refine gw (.pointer (some ⟨ab W,ao W+0 *21,none⟩)) (dT g) (Iz (rY) rfl rfl ((a.rds (i:=10) rfl).addr (i:=0) e6) e6) (Gz (.pointer (some ⟨ab W,ao W+0 *21+4,none⟩)) (dT g) (gw (vI J.dK) (dT g) (IB rfl (bJ.one C2 (((a.rds (i:=10) rfl).elem bz.len aO f2).at_ (k:=4) rfl))) (Gz (.bool (decide (J.dK=1))) (dT g) (fw (.bool (decide (J.dK=1))) (Iw rfl (dT g) rfl) (Mz rfl ?_)))))
 by_cases t:J.dK=1
 refine Gz (vP bA 0) (dT t) (Gl (.slice W P.cz.ls.length bi) (dT t) a 9 U3 ?_)
 obtain⟨Q,aP⟩:=dh (ls:=dL) (i:=2) bz.len f2 (a.rds (i:=10) rfl) e9
 have ax:=eY bu aP
 have kD:Q.aB.ls.length<=Q.aB.c/\Q.aB.ls.length<=9223372036854775807:=bq a (i:=11) rfl (φ:=λ _=>_) (az (Q6.2 ⟨Q,D1 aP,b1⟩) bn)
 have kE:Q.ah.ls.length<=Q.ah.c/\Q.ah.ls.length<=9223372036854775807:=bq a (i:=11) rfl (φ:=λ _=>_) (az (Q6.2 ⟨Q,D1 aP, .tail _ b1⟩) bn)
 have kF:Q.ag.ls.length<=Q.ag.c/\Q.ag.ls.length<=9223372036854775807:=bq a (i:=11) rfl (φ:=λ _=>_) (az (Q6.2 ⟨Q,D1 aP, .tail _ b2⟩) bn)
 refine gw (.pointer (some ⟨ab W,ao W+2 *21,none⟩)) (dT t) (Iz (rY) rfl rfl ((a.rds (i:=10) rfl).addr (i:=2) e6) e6) (Gz (.pointer (some ⟨ab W,ao W+2 *21+15,none⟩)) (dT t) (gw (.bool Q.fe) (dT t) (IB rfl (bJ.one N6 (((a.rds (i:=10) rfl).elem bz.len aP f2).at_ (k:=15) rfl))) (fw (.bool Q.fe) (Iw rfl (dT t) rfl) (Mz rfl ?_))))
 rcases Ls (Q.fe) with R | R
 refine Gz (vP bA 1) R (Gl (.bool P.jo) R a 9 N6 (fw (.bool P.jo) (Iw rfl R rfl) (Mz rfl ?_)))
 rcases Ls (P.jo) with C | C
 refine Gz (vP dQ 0) C (Gl (.slice aG ak.cz.ls.length bB) C a 6 U3 (Gz (vJ ak.cz.ls.length) C (Gz (.bool (decide ((ak.cz.ls.length:Int)=1))) C (fw (.bool (decide ((ak.cz.ls.length:Int)=1))) (Iw rfl C rfl) (Mz rfl ?_)))))
 by_cases A:(ak.cz.ls.length:Int)=1
 refine Gz (vP dQ 0) (dT A) (Gl (.slice aG ak.cz.ls.length bB) (dT A) a 6 U3 ?_)
 obtain⟨K,aR⟩:=dh (ls:=ic) (i:=0) bz.len f2 (a.rds (i:=7) rfl) e9
 have aS:=eY bT aR
 have kH:K.aB.ls.length<=K.aB.c/\K.aB.ls.length<=9223372036854775807:=bq a (i:=8) rfl (φ:=λ _=>_) (az (Q6.2 ⟨K,D1 aR,b1⟩) bn)
 have kI:K.ah.ls.length<=K.ah.c/\K.ah.ls.length<=9223372036854775807:=bq a (i:=8) rfl (φ:=λ _=>_) (az (Q6.2 ⟨K,D1 aR, .tail _ b1⟩) bn)
 have kJ:K.ag.ls.length<=K.ag.c/\K.ag.ls.length<=9223372036854775807:=bq a (i:=8) rfl (φ:=λ _=>_) (az (Q6.2 ⟨K,D1 aR, .tail _ b2⟩) bn)
 refine gw (.pointer (some ⟨ab aG,ao aG+0 *21,none⟩)) (dT A) (Iz (rY) rfl rfl ((a.rds (i:=7) rfl).addr (i:=0) e6) e6) (Gz (.pointer (some ⟨ab aG,ao aG+0 *21+4,none⟩)) (dT A) (gw (vI K.dK) (dT A) (IB rfl (bJ.one C2 (((a.rds (i:=7) rfl).elem bz.len aR f2).at_ (k:=4) rfl))) (Gz (.bool (decide (K.dK=1))) (dT A) (fw (.bool (decide (K.dK=1))) (Iw rfl (dT A) rfl) (Mz rfl ?_)))))
 by_cases S:K.dK=1
 refine Gz (vP dW 0) (dT S) (Gl (.slice aH au.cz.ls.length bC) (dT S) a 3 U3 (Gz (vJ au.cz.ls.length) (dT S) (Gz (.bool (decide ((au.cz.ls.length:Int)=1))) (dT S) (fw (.bool (decide ((au.cz.ls.length:Int)=1))) (Iw rfl (dT S) rfl) (Mz rfl ?_)))))
 by_cases E:(au.cz.ls.length:Int)=1
 refine Gz (vP dW 0) (dT E) (Gl (.slice aH au.cz.ls.length bC) (dT E) a 3 U3 ?_)
 obtain⟨L,aU⟩:=dh (ls:=iy) (i:=0) bz.len f2 (a.rds (i:=4) rfl) e9
 have bv:=eY bX aU
 have kK:L.aB.ls.length<=L.aB.c/\L.aB.ls.length<=9223372036854775807:=bq a (i:=5) rfl (φ:=λ _=>_) (az (Q6.2 ⟨L,D1 aU,b1⟩) bn)
 have kL:L.ah.ls.length<=L.ah.c/\L.ah.ls.length<=9223372036854775807:=bq a (i:=5) rfl (φ:=λ _=>_) (az (Q6.2 ⟨L,D1 aU, .tail _ b1⟩) bn)
 have kM:L.ag.ls.length<=L.ag.c/\L.ag.ls.length<=9223372036854775807:=bq a (i:=5) rfl (φ:=λ _=>_) (az (Q6.2 ⟨L,D1 aU, .tail _ b2⟩) bn)
 refine gw (.pointer (some ⟨ab aH,ao aH+0 *21,none⟩)) (dT E) (Iz (rY) rfl rfl ((a.rds (i:=4) rfl).addr (i:=0) e6) e6) (Gz (.pointer (some ⟨ab aH,ao aH+0 *21+4,none⟩)) (dT E) (gw (vI L.dK) (dT E) (IB rfl (bJ.one C2 (((a.rds (i:=4) rfl).elem bz.len aU f2).at_ (k:=4) rfl))) (Gz (.bool (decide (L.dK=2))) (dT E) (fw (.bool (decide (L.dK=2))) (Iw rfl (dT E) rfl) (Mz rfl ?_)))))
 by_cases X:L.dK=2
 refine Gz (vP d9 0) (dT X) (Gl (.slice aI av.cz.ls.length bD) (dT X) a 0 U3 (Gz (vJ av.cz.ls.length) (dT X) (Gz (.bool (decide ((av.cz.ls.length:Int)=1))) (dT X) (fw (.bool (decide ((av.cz.ls.length:Int)=1))) (Iw rfl (dT X) rfl) (Mz rfl ?_)))))
 by_cases M:(av.cz.ls.length:Int)=1
 refine Gz (vP d9 0) (dT M) (Gl (.slice aI av.cz.ls.length bD) (dT M) a 0 U3 ?_)
 obtain⟨N,aV⟩:=dh (ls:=iF) (i:=0) bz.len f2 (a.rds (i:=1) rfl) e9
 have fG:=eY cz aV
 have kN:N.aB.ls.length<=N.aB.c/\N.aB.ls.length<=9223372036854775807:=bq a (i:=2) rfl (φ:=λ _=>_) (az (Q6.2 ⟨N,D1 aV,b1⟩) bn)
 have kP:N.ah.ls.length<=N.ah.c/\N.ah.ls.length<=9223372036854775807:=bq a (i:=2) rfl (φ:=λ _=>_) (az (Q6.2 ⟨N,D1 aV, .tail _ b1⟩) bn)
 have kQ:N.ag.ls.length<=N.ag.c/\N.ag.ls.length<=9223372036854775807:=bq a (i:=2) rfl (φ:=λ _=>_) (az (Q6.2 ⟨N,D1 aV, .tail _ b2⟩) bn)
 refine gw (.pointer (some ⟨ab aI,ao aI+0 *21,none⟩)) (dT M) (Iz (rY) rfl rfl ((a.rds (i:=1) rfl).addr (i:=0) e6) e6) (Gz (.pointer (some ⟨ab aI,ao aI+0 *21+15,none⟩)) (dT M) (gw (.bool N.fe) (dT M) (IB rfl (bJ.one N6 (((a.rds (i:=1) rfl).elem bz.len aV f2).at_ (k:=15) rfl))) (Gz (.bool (!N.fe)) (dT M) (fw (.bool (!N.fe)) (Iw rfl (dT M) rfl) (An rfl (rt (rs ?_)))))))
 have iJ:=a.pk []
 obtain rfl:_= !N.fe:=zj hr (et (ae F) (et (ip O) (et (ae G) (et (ae I) (et (ae l) (et (ae n) (et (ae o) (et (ae p) (et (ae r) (et (ae s) (et (ip b) (et (ae (aT B)) (et (ip d) (et (ip h) (et (ip x) (et (fP j) (et (ip g) (et (ae (aT Y)) (et (ip t) (et (ae (aT ax)) (et (ip R) (et (ip C) (et (ip A) (et (ae (aT aS)) (et (ip S) (et (ip E) (et (ae (aT bv)) (et (ip X) (et (ip M) (ae (aT fG)))))))))))))))))))))))))))))))
 exact⟨rfl,iJ⟩
 refine Sz (dF M) (Sz (dF M) (Sz (dF M) (Sz (dF M) (Sz (dF M) (Sz (dF M) (fw (.bool false) (Io rfl (dF M) rfl) (An rfl (rt (rs ?_)))))))))
 have iL:=a.pk []
 obtain rfl:_=false:=zj hr (et (ae F) (et (ip O) (et (ae G) (et (ae I) (et (ae l) (et (ae n) (et (ae o) (et (ae p) (et (ae r) (et (ae s) (et (ip b) (et (ae (aT B)) (et (ip d) (et (ip h) (et (ip x) (et (fP j) (et (ip g) (et (ae (aT Y)) (et (ip t) (et (ae (aT ax)) (et (ip R) (et (ip C) (et (ip A) (et (ae (aT aS)) (et (ip S) (et (ip E) (et (ae (aT bv)) (et (ip X) (iN M)))))))))))))))))))))))))))))
 exact⟨rfl,iL⟩
 refine Sz (dF X) (Sz (dF X) (Sz (dF X) (Sz (dF X) (fw (.bool false) (Io rfl (dF X) rfl) (Mz rfl (Sz rfl (Sz rfl (Sz rfl (Sz rfl (Sz rfl (Sz rfl (fw (.bool false) (Io rfl rfl rfl) (An rfl (rt (rs ?_)))))))))))))))
 have iM:=a.pk []
 obtain rfl:_=false:=zj hr (et (ae F) (et (ip O) (et (ae G) (et (ae I) (et (ae l) (et (ae n) (et (ae o) (et (ae p) (et (ae r) (et (ae s) (et (ip b) (et (ae (aT B)) (et (ip d) (et (ip h) (et (ip x) (et (fP j) (et (ip g) (et (ae (aT Y)) (et (ip t) (et (ae (aT ax)) (et (ip R) (et (ip C) (et (ip A) (et (ae (aT aS)) (et (ip S) (et (ip E) (et (ae (aT bv)) (iN X))))))))))))))))))))))))))))
 exact⟨rfl,iM⟩
 refine Sz (dF E) (Sz (dF E) (Sz (dF E) (Sz (dF E) (Sz (dF E) (Sz (dF E) (fw (.bool false) (Io rfl (dF E) rfl) (Mz rfl (Sz rfl (Sz rfl (Sz rfl (Sz rfl (fw (.bool false) (Io rfl rfl rfl) (Mz rfl (Sz rfl (Sz rfl (Sz rfl (Sz rfl (Sz rfl (Sz rfl (fw (.bool false) (Io rfl rfl rfl) (An rfl (rt (rs ?_)))))))))))))))))))))))
 have iO:=a.pk []
 obtain rfl:_=false:=zj hr (et (ae F) (et (ip O) (et (ae G) (et (ae I) (et (ae l) (et (ae n) (et (ae o) (et (ae p) (et (ae r) (et (ae s) (et (ip b) (et (ae (aT B)) (et (ip d) (et (ip h) (et (ip x) (et (fP j) (et (ip g) (et (ae (aT Y)) (et (ip t) (et (ae (aT ax)) (et (ip R) (et (ip C) (et (ip A) (et (ae (aT aS)) (et (ip S) (iN E))))))))))))))))))))))))))
 exact⟨rfl,iO⟩
 refine Sz (dF S) (Sz (dF S) (Sz (dF S) (Sz (dF S) (fw (.bool false) (Io rfl (dF S) rfl) (Mz rfl (Sz rfl (Sz rfl (Sz rfl (Sz rfl (Sz rfl (Sz rfl (fw (.bool false) (Io rfl rfl rfl) (Mz rfl (Sz rfl (Sz rfl (Sz rfl (Sz rfl (fw (.bool false) (Io rfl rfl rfl) (Mz rfl (Sz rfl (Sz rfl (Sz rfl (Sz rfl (Sz rfl (Sz rfl (fw (.bool false) (Io rfl rfl rfl) (An rfl (rt (rs ?_)))))))))))))))))))))))))))))
 have iP:=a.pk []
 obtain rfl:_=false:=zj hr (et (ae F) (et (ip O) (et (ae G) (et (ae I) (et (ae l) (et (ae n) (et (ae o) (et (ae p) (et (ae r) (et (ae s) (et (ip b) (et (ae (aT B)) (et (ip d) (et (ip h) (et (ip x) (et (fP j) (et (ip g) (et (ae (aT Y)) (et (ip t) (et (ae (aT ax)) (et (ip R) (et (ip C) (et (ip A) (et (ae (aT aS)) (iN S)))))))))))))))))))))))))
 exact⟨rfl,iP⟩
 refine Sz (dF A) (Sz (dF A) (Sz (dF A) (Sz (dF A) (Sz (dF A) (Sz (dF A) (fw (.bool false) (Io rfl (dF A) rfl) (Mz rfl (Sz rfl (Sz rfl (Sz rfl (Sz rfl (fw (.bool false) (Io rfl rfl rfl) (Mz rfl (Sz rfl (Sz rfl (Sz rfl (Sz rfl (Sz rfl (Sz rfl (fw (.bool false) (Io rfl rfl rfl) (Mz rfl (Sz rfl (Sz rfl (Sz rfl (Sz rfl (fw (.bool false) (Io rfl rfl rfl) (Mz rfl (Sz rfl (Sz rfl (Sz rfl (Sz rfl (Sz rfl (Sz rfl (fw (.bool false) (Io rfl rfl rfl) (An rfl (rt (rs ?_)))))))))))))))))))))))))))))))))))))
 have iQ:=a.pk []
 obtain rfl:_=false:=zj hr (et (ae F) (et (ip O) (et (ae G) (et (ae I) (et (ae l) (et (ae n) (et (ae o) (et (ae p) (et (ae r) (et (ae s) (et (ip b) (et (ae (aT B)) (et (ip d) (et (ip h) (et (ip x) (et (fP j) (et (ip g) (et (ae (aT Y)) (et (ip t) (et (ae (aT ax)) (et (ip R) (et (ip C) (iN A)))))))))))))))))))))))
 exact⟨rfl,iQ⟩
 refine Sz C (Sz C (Sz C (Sz C (fw (.bool false) (Io rfl C rfl) (Mz rfl (Sz rfl (Sz rfl (Sz rfl (Sz rfl (Sz rfl (Sz rfl (fw (.bool false) (Io rfl rfl rfl) (Mz rfl (Sz rfl (Sz rfl (Sz rfl (Sz rfl (fw (.bool false) (Io rfl rfl rfl) (Mz rfl (Sz rfl (Sz rfl (Sz rfl (Sz rfl (Sz rfl (Sz rfl (fw (.bool false) (Io rfl rfl rfl) (Mz rfl (Sz rfl (Sz rfl (Sz rfl (Sz rfl (fw (.bool false) (Io rfl rfl rfl) (Mz rfl (Sz rfl (Sz rfl (Sz rfl (Sz rfl (Sz rfl (Sz rfl ?_)))))))))))))))))))))))))))))))))))))))
 refine fw (.bool false) (Io rfl rfl rfl) (An rfl (rt (rs ?_)))
 have iR:=a.pk []
 obtain rfl:_=false:=zj hr (et (ae F) (et (ip O) (et (ae G) (et (ae I) (et (ae l) (et (ae n) (et (ae o) (et (ae p) (et (ae r) (et (ae s) (et (ip b) (et (ae (aT B)) (et (ip d) (et (ip h) (et (ip x) (et (fP j) (et (ip g) (et (ae (aT Y)) (et (ip t) (et (ae (aT ax)) (et (ip R) (fP C))))))))))))))))))))))
 exact⟨rfl,iR⟩
 refine Sz R (Sz R (fw (.bool false) (Io rfl R rfl) (Mz rfl (Sz rfl (Sz rfl (Sz rfl (Sz rfl (fw (.bool false) (Io rfl rfl rfl) (Mz rfl (Sz rfl (Sz rfl (Sz rfl (Sz rfl (Sz rfl (Sz rfl (fw (.bool false) (Io rfl rfl rfl) (Mz rfl (Sz rfl (Sz rfl (Sz rfl (Sz rfl (fw (.bool false) (Io rfl rfl rfl) (Mz rfl (Sz rfl (Sz rfl (Sz rfl (Sz rfl (Sz rfl (Sz rfl (fw (.bool false) (Io rfl rfl rfl) (Mz rfl (Sz rfl (Sz rfl (Sz rfl (Sz rfl (fw (.bool false) (Io rfl rfl rfl) (Mz rfl (Sz rfl (Sz rfl ?_)))))))))))))))))))))))))))))))))))))))
 refine Sz rfl (Sz rfl (Sz rfl (Sz rfl (fw (.bool false) (Io rfl rfl rfl) (An rfl (rt (rs ?_)))))))
 have iT:=a.pk []
 obtain rfl:_=false:=zj hr (et (ae F) (et (ip O) (et (ae G) (et (ae I) (et (ae l) (et (ae n) (et (ae o) (et (ae p) (et (ae r) (et (ae s) (et (ip b) (et (ae (aT B)) (et (ip d) (et (ip h) (et (ip x) (et (fP j) (et (ip g) (et (ae (aT Y)) (et (ip t) (et (ae (aT ax)) (fP R)))))))))))))))))))))
 exact⟨rfl,iT⟩
 refine Sz (dF t) (Sz (dF t) (Sz (dF t) (Sz (dF t) (Sz (dF t) (fw (.bool false) (Io rfl (dF t) rfl) (Mz rfl (Sz rfl (Sz rfl (fw (.bool false) (Io rfl rfl rfl) (Mz rfl (Sz rfl (Sz rfl (Sz rfl (Sz rfl (fw (.bool false) (Io rfl rfl rfl) (Mz rfl (Sz rfl (Sz rfl (Sz rfl (Sz rfl (Sz rfl (Sz rfl (fw (.bool false) (Io rfl rfl rfl) (Mz rfl (Sz rfl (Sz rfl (Sz rfl (Sz rfl (fw (.bool false) (Io rfl rfl rfl) (Mz rfl (Sz rfl (Sz rfl (Sz rfl (Sz rfl (Sz rfl (Sz rfl (fw (.bool false) (Io rfl rfl rfl) (Mz rfl (Sz rfl ?_)))))))))))))))))))))))))))))))))))))))
 refine Sz rfl (Sz rfl (Sz rfl (fw (.bool false) (Io rfl rfl rfl) (Mz rfl (Sz rfl (Sz rfl (Sz rfl (Sz rfl (Sz rfl (Sz rfl (fw (.bool false) (Io rfl rfl rfl) (An rfl (rt (rs ?_))))))))))))))
 have iU:=a.pk []
 obtain rfl:_=false:=zj hr (et (ae F) (et (ip O) (et (ae G) (et (ae I) (et (ae l) (et (ae n) (et (ae o) (et (ae p) (et (ae r) (et (ae s) (et (ip b) (et (ae (aT B)) (et (ip d) (et (ip h) (et (ip x) (et (fP j) (et (ip g) (et (ae (aT Y)) (iN t)))))))))))))))))))
 exact⟨rfl,iU⟩
 refine Sz (dF g) (Sz (dF g) (Sz (dF g) (Sz (dF g) (Sz (dF g) (Sz (dF g) (fw (.bool false) (Io rfl (dF g) rfl) (Mz rfl (Sz rfl (Sz rfl (Sz rfl (Sz rfl (Sz rfl (fw (.bool false) (Io rfl rfl rfl) (Mz rfl (Sz rfl (Sz rfl (fw (.bool false) (Io rfl rfl rfl) (Mz rfl (Sz rfl (Sz rfl (Sz rfl (Sz rfl (fw (.bool false) (Io rfl rfl rfl) (Mz rfl (Sz rfl (Sz rfl (Sz rfl (Sz rfl (Sz rfl (Sz rfl (fw (.bool false) (Io rfl rfl rfl) (Mz rfl (Sz rfl (Sz rfl (Sz rfl (Sz rfl (fw (.bool false) (Io rfl rfl rfl) (Mz rfl (Sz rfl ?_)))))))))))))))))))))))))))))))))))))))
 refine Sz rfl (Sz rfl (Sz rfl (Sz rfl (Sz rfl (fw (.bool false) (Io rfl rfl rfl) (Mz rfl (Sz rfl (Sz rfl (Sz rfl (Sz rfl (fw (.bool false) (Io rfl rfl rfl) (Mz rfl (Sz rfl (Sz rfl (Sz rfl (Sz rfl (Sz rfl (Sz rfl (fw (.bool false) (Io rfl rfl rfl) (An rfl (rt (rs ?_))))))))))))))))))))))
 have iV:=a.pk []
 obtain rfl:_=false:=zj hr (et (ae F) (et (ip O) (et (ae G) (et (ae I) (et (ae l) (et (ae n) (et (ae o) (et (ae p) (et (ae r) (et (ae s) (et (ip b) (et (ae (aT B)) (et (ip d) (et (ip h) (et (ip x) (et (fP j) (iN g)))))))))))))))))
 exact⟨rfl,iV⟩
 refine Sz (dF x) (Sz (dF x) (Sz (dF x) (fw (.bool false) (Io rfl (dF x) rfl) (Mz rfl (Sz rfl (Sz rfl (Sz rfl (Sz rfl (fw (.bool false) (Io rfl rfl rfl) (Mz rfl (Sz rfl (Sz rfl (Sz rfl (Sz rfl (Sz rfl (Sz rfl (fw (.bool false) (Io rfl rfl rfl) (Mz rfl (Sz rfl (Sz rfl (Sz rfl (Sz rfl (Sz rfl (fw (.bool false) (Io rfl rfl rfl) (Mz rfl (Sz rfl (Sz rfl (fw (.bool false) (Io rfl rfl rfl) (Mz rfl (Sz rfl (Sz rfl (Sz rfl (Sz rfl (fw (.bool false) (Io rfl rfl rfl) (Mz rfl (Sz rfl (Sz rfl (Sz rfl (Sz rfl ?_)))))))))))))))))))))))))))))))))))))))
 refine Sz rfl (Sz rfl (fw (.bool false) (Io rfl rfl rfl) (Mz rfl (Sz rfl (Sz rfl (Sz rfl (Sz rfl (fw (.bool false) (Io rfl rfl rfl) (Mz rfl (Sz rfl (Sz rfl (Sz rfl (Sz rfl (Sz rfl (Sz rfl (fw (.bool false) (Io rfl rfl rfl) (Mz rfl (Sz rfl (Sz rfl (Sz rfl (Sz rfl (fw (.bool false) (Io rfl rfl rfl) (Mz rfl (Sz rfl (Sz rfl (Sz rfl (Sz rfl (Sz rfl (Sz rfl (fw (.bool false) (Io rfl rfl rfl) (An rfl (rt (rs ?_)))))))))))))))))))))))))))))))))
 have iW:=a.pk []
 obtain rfl:_=false:=zj hr (et (ae F) (et (ip O) (et (ae G) (et (ae I) (et (ae l) (et (ae n) (et (ae o) (et (ae p) (et (ae r) (et (ae s) (et (ip b) (et (ae (aT B)) (et (ip d) (et (ip h) (iN x)))))))))))))))
 exact⟨rfl,iW⟩
 refine Sz (dF h) (Sz (dF h) (Sz (dF h) (Sz (dF h) (fw (.bool false) (Io rfl (dF h) rfl) (Mz rfl (Sz rfl (Sz rfl (Sz rfl (fw (.bool false) (Io rfl rfl rfl) (Mz rfl (Sz rfl (Sz rfl (Sz rfl (Sz rfl (fw (.bool false) (Io rfl rfl rfl) (Mz rfl (Sz rfl (Sz rfl (Sz rfl (Sz rfl (Sz rfl (Sz rfl (fw (.bool false) (Io rfl rfl rfl) (Mz rfl (Sz rfl (Sz rfl (Sz rfl (Sz rfl (Sz rfl (fw (.bool false) (Io rfl rfl rfl) (Mz rfl (Sz rfl (Sz rfl (fw (.bool false) (Io rfl rfl rfl) (Mz rfl (Sz rfl (Sz rfl (Sz rfl (Sz rfl ?_)))))))))))))))))))))))))))))))))))))))
 refine fw (.bool false) (Io rfl rfl rfl) (Mz rfl (Sz rfl (Sz rfl (Sz rfl (Sz rfl (Sz rfl (Sz rfl (fw (.bool false) (Io rfl rfl rfl) (Mz rfl (Sz rfl (Sz rfl (Sz rfl (Sz rfl (fw (.bool false) (Io rfl rfl rfl) (Mz rfl (Sz rfl (Sz rfl (Sz rfl (Sz rfl (Sz rfl (Sz rfl (fw (.bool false) (Io rfl rfl rfl) (Mz rfl (Sz rfl (Sz rfl (Sz rfl (Sz rfl (fw (.bool false) (Io rfl rfl rfl) (Mz rfl (Sz rfl (Sz rfl (Sz rfl (Sz rfl (Sz rfl (Sz rfl (fw (.bool false) (Io rfl rfl rfl) (An rfl ?_)))))))))))))))))))))))))))))))))))))
 refine rt (rs ?_)
 have iX:=a.pk []
 obtain rfl:_=false:=zj hr (et (ae F) (et (ip O) (et (ae G) (et (ae I) (et (ae l) (et (ae n) (et (ae o) (et (ae p) (et (ae r) (et (ae s) (et (ip b) (et (ae (aT B)) (et (ip d) (iN h))))))))))))))
 exact⟨rfl,iX⟩
 refine Sz (dF d) (Sz (dF d) (Sz (dF d) (Sz (dF d) (Sz (dF d) (Sz (dF d) (fw (.bool false) (Io rfl (dF d) rfl) (Mz rfl (Sz rfl (Sz rfl (Sz rfl (Sz rfl (fw (.bool false) (Io rfl rfl rfl) (Mz rfl (Sz rfl (Sz rfl (Sz rfl (fw (.bool false) (Io rfl rfl rfl) (Mz rfl (Sz rfl (Sz rfl (Sz rfl (Sz rfl (fw (.bool false) (Io rfl rfl rfl) (Mz rfl (Sz rfl (Sz rfl (Sz rfl (Sz rfl (Sz rfl (Sz rfl (fw (.bool false) (Io rfl rfl rfl) (Mz rfl (Sz rfl (Sz rfl (Sz rfl (Sz rfl (Sz rfl (fw (.bool false) (Io rfl rfl rfl) (Mz rfl ?_)))))))))))))))))))))))))))))))))))))))
 refine Sz rfl (Sz rfl (fw (.bool false) (Io rfl rfl rfl) (Mz rfl (Sz rfl (Sz rfl (Sz rfl (Sz rfl (fw (.bool false) (Io rfl rfl rfl) (Mz rfl (Sz rfl (Sz rfl (Sz rfl (Sz rfl (Sz rfl (Sz rfl (fw (.bool false) (Io rfl rfl rfl) (Mz rfl (Sz rfl (Sz rfl (Sz rfl (Sz rfl (fw (.bool false) (Io rfl rfl rfl) (Mz rfl (Sz rfl (Sz rfl (Sz rfl (Sz rfl (Sz rfl (Sz rfl (fw (.bool false) (Io rfl rfl rfl) (Mz rfl (Sz rfl (Sz rfl (Sz rfl (Sz rfl (fw (.bool false) (Io rfl rfl rfl) (Mz rfl (Sz rfl (Sz rfl ?_)))))))))))))))))))))))))))))))))))))))
 refine Sz rfl (Sz rfl (Sz rfl (Sz rfl (fw (.bool false) (Io rfl rfl rfl) (An rfl (rt (rs ?_)))))))
 have iY:=a.pk []
 obtain rfl:_=false:=zj hr (et (ae F) (et (ip O) (et (ae G) (et (ae I) (et (ae l) (et (ae n) (et (ae o) (et (ae p) (et (ae r) (et (ae s) (et (ip b) (et (ae (aT B)) (iN d)))))))))))))
 exact⟨rfl,iY⟩
 refine Sz (dF b) (Sz (dF b) (Sz (dF b) (Sz (dF b) (Sz (dF b) (Sz (dF b) (fw (.bool false) (Io rfl (dF b) rfl) (Mz rfl (Sz rfl (Sz rfl (Sz rfl (Sz rfl (Sz rfl (Sz rfl (fw (.bool false) (Io rfl rfl rfl) (Mz rfl (Sz rfl (Sz rfl (Sz rfl (Sz rfl (fw (.bool false) (Io rfl rfl rfl) (Mz rfl (Sz rfl (Sz rfl (Sz rfl (fw (.bool false) (Io rfl rfl rfl) (Mz rfl (Sz rfl (Sz rfl (Sz rfl (Sz rfl (fw (.bool false) (Io rfl rfl rfl) (Mz rfl (Sz rfl (Sz rfl (Sz rfl (Sz rfl (Sz rfl (Sz rfl (fw (.bool false) (Io rfl rfl rfl) ?_)))))))))))))))))))))))))))))))))))))))
 refine Mz rfl (Sz rfl (Sz rfl (Sz rfl (Sz rfl (Sz rfl (fw (.bool false) (Io rfl rfl rfl) (Mz rfl (Sz rfl (Sz rfl (fw (.bool false) (Io rfl rfl rfl) (Mz rfl (Sz rfl (Sz rfl (Sz rfl (Sz rfl (fw (.bool false) (Io rfl rfl rfl) (Mz rfl (Sz rfl (Sz rfl (Sz rfl (Sz rfl (Sz rfl (Sz rfl (fw (.bool false) (Io rfl rfl rfl) (Mz rfl (Sz rfl (Sz rfl (Sz rfl (Sz rfl (fw (.bool false) (Io rfl rfl rfl) (Mz rfl (Sz rfl (Sz rfl (Sz rfl (Sz rfl (Sz rfl (Sz rfl (fw (.bool false) (Io rfl rfl rfl) (Mz rfl ?_)))))))))))))))))))))))))))))))))))))))
 refine Sz rfl (Sz rfl (Sz rfl (Sz rfl (fw (.bool false) (Io rfl rfl rfl) (Mz rfl (Sz rfl (Sz rfl (Sz rfl (Sz rfl (Sz rfl (Sz rfl (fw (.bool false) (Io rfl rfl rfl) (An rfl (rt (rs ?_)))))))))))))))
 have iZ:=a.pk []
 obtain rfl:_=false:=zj hr (et (ae F) (et (ip O) (et (ae G) (et (ae I) (et (ae l) (et (ae n) (et (ae o) (et (ae p) (et (ae r) (et (ae s) (iN b)))))))))))
 exact⟨rfl,iZ⟩
 refine Sz (dT O) (Sz (dT O) (Sz (dT O) (fw (.bool true) (Iw rfl (dT O) rfl) (nt (jt (sr (Az rfl (An rfl (rt (tR (Fin.res (lH rfl rfl rfl) (Mz rfl (Kz (.pointer none) (Kz (vI 1) (Az rfl (An rfl (Ik (Ik ?_))))))))))))))))))
 have ja:=cZ.pk []
 refine Il (Mz rfl (Kz (.bool true) (Mz rfl (Sz rfl (Sz rfl (fw (.bool true) (Iw rfl rfl rfl) (nt (jt (sr (An rfl (rt (tR (rs ?_)))))))))))))
 have jb:=ja.pk []
 obtain rfl:_=false:=zj hr (et (ae F) (iN O))
 exact⟨rfl,jb⟩
end
end Go.Proofs.YtbkagebjhbphaaaGreat
