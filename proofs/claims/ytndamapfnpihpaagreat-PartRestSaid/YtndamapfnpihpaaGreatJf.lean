/- The layers told, part 6. Conditions: none beyond each law's own. -/
import Derived.Test.YtndamapfnpihpaaGreatJe
namespace Go.Proofs.YtndamapfnpihpaaGreat
set_option maxHeartbeats 4000000
set_option maxRecDepth 100000
set_option linter.unusedVariables false
set_option linter.unusedSimpArgs false
set_option linter.unusedSectionVars false
open IntKind renaming i64->B5
open List renaming flatMap->q2,map->s1,mem_flatMap->O3,not_mem_nil->v1,toArray->v0
open Ll renaming mk->F2
open _root_.Go.Proofs.Tryz renaming call18->U1,isAgg3->B3,isAgg41->E6,isAgg47->H5,isAgg52->U4,prog->u9,sizeOf4->U3,sizeOf41->E7,sizeOf47->I0,sizeOf52->U5,underlying3->v6,underlying86->U2
section
open Go.RowKit
def lZ (b:ax):bA:=
 bnd (iU b.aa) λ a=>a
theorem qK (w D V) (a:ax) (f b g d j h e t u y z) (B:bA) (H:Own w D w [blk V (kB a f a.aa.ah.ls.length b g a.aa.ak.ls.length d h a.aa.af.ls.length e a.aa.bi y t a.ag.ls.length u z) 80]) (M:Ro w D λ w'=>bO w' 2 f a.aa.ah.ls.length (q2 bM.cells a.aa.ah.ls)) (ah:a.aa.ah.ls.length<=b/\a.aa.ah.ls.length<=9223372036854775807) (n:s1 bf.abs j=a.aa.ak.ls) (N:Ro w D λ w'=>bO w' 2 g a.aa.ak.ls.length (q2 bf.cells j)) (ai:a.aa.ak.ls.length<=d/\a.aa.ak.ls.length<=9223372036854775807) (o:∀ x ∈ j,Ro w D (λ w'=>bO w' 6 x.aK.A x.aK.ls.length (q2 aX.cells x.aK.ls))/\(x.aK.ls.length<=x.aK.c/\x.aK.ls.length<=9223372036854775807)) (O:Ro w D λ w'=>bO w' 1 h a.aa.af.ls.length (q2 (eN .u64) a.aa.af.ls)) (aj:a.aa.af.ls.length<=e/\a.aa.af.ls.length<=9223372036854775807) (aF:a.aa.ah.ls.length<=1000000/\a.aa.ak.ls.length<=1000000/\a.aa.af.ls.length<=1000000) (aG:(∀ x ∈ a.aa.ak.ls,x.aK.ls.length<=1000000)) (hr:lZ a=B):
    Calls u9 11 #[vP V 0] w (dI λ v w'=> ∃ C E F G I J p,v= .agg (iV B C E F G I J).toArray/\Own w D w' [row C B.ah.ls.length E (q2 bM.cells B.ah.ls) 83 2,row F B.ak.ls.length G (q2 bf.cells p) 60 2,sepL (q2 IK p),row I B.af.ls.length J (q2 (eN .u64) B.af.ls) 32 1,blk V (kB a f a.aa.ah.ls.length b g a.aa.ak.ls.length d h a.aa.af.ls.length e a.aa.bi y t a.ag.ls.length u z) 80]/\(s1 bf.abs p=B.ak.ls)):=by
 unfold lZ at hr
 have af:=aY n
 refine cb Tryz.func11 ?_
 refine sr ?_
 refine bW (gV 0 0 0 0 0 none 0 0 none 0 0 none 0 0 0 0 [] [] 0 0 0 [] []) 41 H ?_
 intro aH aI W
 refine ns (Mz rfl (Kz (vP V 0) (Kz (vP V 0) (La (gV a.aa.bC a.aa.aQ a.aa.bq a.aa.aJ a.aa.aD f a.aa.ah.ls.length b g a.aa.ak.ls.length d h a.aa.af.ls.length e a.aa.bi a.aa.aI a.aa.aH.aN a.aa.aH.aT a.aa.aC.aD a.aa.aC.bv a.aa.aC.di a.aa.aC.aA.aN a.aa.aC.aA.aT) W 1 E6 E7 ?_))))
 obtain⟨r,K⟩:∃ q,iU a.aa=q:=⟨_,rfl⟩
 obtain⟨aJ,X,l,Y,ay⟩:=Ia W
 refine cl U1 (lY _ _ a.aa f a.aa.ah.ls.length b g a.aa.ak.ls.length d j h a.aa.af.ls.length e r X rfl (l _ M) e8 n rfl (l _ N) e8 (λ x9 h9=>⟨l _ (o x9 h9).1,(o x9 h9).2⟩) rfl (l _ O) e8 g4 (by first | assumption | exact λ _ h9=>absurd h9 v1 | exact Tk.hops f6) K) ?_
 rintro _ aK ⟨P,Q,R,S,T,U,ak,rfl,Z,L⟩
 have s:=Y _ _ Z
 have aA:=aY L
 have aB:=zr 0 s
 have aC:=zr 1 s
 have aD:=zr 3 s
 have au:=s.pf [4]
 refine cu (iV r P Q R S T U) 0 au E7 ?_
 intro aL aa
 refine nt (rt (Ir (oZ rfl rfl (Io (cs:=(iV r P Q R S T U)) E6 E7 ((aa.cls (i:=0) rfl).lit (k:=0) (m:=17) rfl))) ?_))
 have av:=aa.px [] [0] []
 obtain rfl:=zj hr zq1
 exact⟨P,Q,R,S,T,U,ak,rfl,av,L⟩
def mH (a:ax):Bool:=
 if B5.wrap ((a.ag.ls.length:Int)+(a.aa.ak.ls.length:Int))=0 then if(a.aa.aI:Int)=0 then decide ((a.aa.aC.aD:Int)=0) else false else false
theorem vH (w D d) (a:ax) (f g h j k l m n o p u) (H:Own w D w [blk d (kB a f a.aa.ah.ls.length g h a.aa.ak.ls.length j k a.aa.af.ls.length l a.aa.bi o m a.ag.ls.length n p) 80]) (hr:mH a=u):
    Calls u9 13 #[vP d 0] w (dI λ v w'=>v= .bool u/\Own w D w' [blk d (kB a f a.aa.ah.ls.length g h a.aa.ak.ls.length j k a.aa.af.ls.length l a.aa.bi o m a.ag.ls.length n p) 80]):=by
 unfold mH at hr
 refine cb Tryz.func13 ?_
 refine sr (An rfl (H7 ?_))
 have e:=H.drew
 refine Jm [] (λ W=> ∃ L',Own w D W ([blk d (kB a f a.aa.ah.ls.length g h a.aa.ak.ls.length j k a.aa.af.ls.length l a.aa.bi o m a.ag.ls.length n p) 80]++L')) e9 e9 (Ik Iw) ⟨_,e⟩ ?_
 revert e
 generalize World.drew w=x
 intro e
 refine qv 0 rfl rfl (qp d 0 1 rfl (qp d 18 2 rfl (ql 3 rfl 0 Tryz.isAgg77 rfl rfl rfl (qk (vJ a.ag.ls.length) 4 rfl (qv 5 rfl rfl (qp d 0 6 rfl (qp d 0 7 rfl (qp d 6 8 rfl (ql 9 rfl 0 Tryz.isAgg34 rfl rfl rfl (qk (vJ a.aa.ak.ls.length) 10 rfl (qk (vI (B5.wrap ((a.ag.ls.length:Int)+(a.aa.ak.ls.length:Int)))) 11 rfl (qk (.bool (decide (B5.wrap ((a.ag.ls.length:Int)+(a.aa.ak.ls.length:Int))=0))) 12 rfl (qv 13 rfl rfl ?_)))))))))))))
 by_cases c:B5.wrap ((a.ag.ls.length:Int)+(a.aa.ak.ls.length:Int))=0
 refine Ii (v:=vP d 0) (rs:= []) 14 rfl rfl rfl (dT c) e9 (λ _ _=>Ie rfl) (Ii (v:=vP d 0) (rs:= []) 15 rfl rfl rfl (dT c) e9 (λ _ _=>yk) (Ii (v:=vP d 20) (rs:= []) 16 rfl rfl rfl (dT c) e9 (λ _ _=>yk) (Ii (v:= .pointer none) (rs:= []) 17 rfl rfl rfl (dT c) e9 (λ _ ⟨_,q⟩=>Il rfl (bQ.one Tryz.isAgg78 (IU (q.cls (i:=0) rfl) rfl))) (Ii (v:= .bool true) (rs:= []) 18 rfl rfl rfl (dT c) e9 (λ _ _=>yk) (qt (v:= .bool true) 19 rfl (λ _ _=>Ic rfl (dT c) rfl) (qv 20 rfl rfl (Ii (v:=vP d 0) (rs:= []) 21 rfl rfl rfl rfl e9 (λ _ _=>Ie rfl) (Ii (v:=vP d 0) (rs:= []) 22 rfl rfl rfl rfl e9 (λ _ _=>yk) (Ii (v:=vP d 0) (rs:= []) 23 rfl rfl rfl rfl e9 (λ _ _=>yk) (Ii (v:=vP d 9) (rs:= []) 24 rfl rfl rfl rfl e9 (λ _ _=>yk) (Ii (v:=vU a.aa.aI) (rs:= []) 25 rfl rfl rfl rfl e9 (λ _ ⟨_,q⟩=>Il rfl (bQ.one Tryz.isAgg32 (IU (q.cls (i:=0) rfl) rfl))) (Ii (v:= .bool (decide ((a.aa.aI:Int)=0))) (rs:= []) 26 rfl rfl rfl rfl e9 (λ _ _=>yk) (qt (v:= .bool (decide ((a.aa.aI:Int)=0))) 27 rfl (λ _ _=>Ic rfl rfl rfl) (qv 28 rfl rfl ?_))))))))))))))
 by_cases b:(a.aa.aI:Int)=0
 refine Ii (v:=vP d 0) (rs:= []) 29 rfl rfl rfl (dT b) e9 (λ _ _=>Ie rfl) (Ii (v:=vP d 0) (rs:= []) 30 rfl rfl rfl (dT b) e9 (λ _ _=>yk) (Ii (v:=vP d 0) (rs:= []) 31 rfl rfl rfl (dT b) e9 (λ _ _=>yk) (Ii (v:=vP d 12) (rs:= []) 32 rfl rfl rfl (dT b) e9 (λ _ _=>yk) (Ii (v:=vP d 12) (rs:= []) 33 rfl rfl rfl (dT b) e9 (λ _ _=>yk) (Ii (v:=vU a.aa.aC.aD) (rs:= []) 34 rfl rfl rfl (dT b) e9 (λ _ ⟨_,q⟩=>Il rfl (bQ.one Tryz.isAgg32 (IU (q.cls (i:=0) rfl) rfl))) (Ii (v:= .bool (decide ((a.aa.aC.aD:Int)=0))) (rs:= []) 35 rfl rfl rfl (dT b) e9 (λ _ _=>yk) (qt (v:= .bool (decide ((a.aa.aC.aD:Int)=0))) 36 rfl (λ _ _=>Ic rfl (dT b) rfl) (qa 37 rfl rfl (qn (Ib (rt (rs ?_))))))))))))
 have r:=e.pf []
 obtain rfl:=zj hr zq2
 exact⟨rfl,r⟩
 refine Ih (rs:= []) 29 rfl rfl rfl (dF b) e9 (Ih (rs:= []) 30 rfl rfl rfl (dF b) e9 (Ih (rs:= []) 31 rfl rfl rfl (dF b) e9 (Ih (rs:= []) 32 rfl rfl rfl (dF b) e9 (Ih (rs:= []) 33 rfl rfl rfl (dF b) e9 (Ih (rs:= []) 34 rfl rfl rfl (dF b) e9 (Ih (rs:= []) 35 rfl rfl rfl (dF b) e9 (qt (v:= .bool false) 36 rfl (λ _ _=>H6 rfl (dF b) rfl) (qa 37 rfl rfl (qn (Ib (rt (rs ?_))))))))))))
 have s:=e.pf []
 obtain rfl:=zj hr zq2
 exact⟨rfl,s⟩
 refine Ih (rs:= []) 14 rfl rfl rfl (dF c) e9 (Ih (rs:= []) 15 rfl rfl rfl (dF c) e9 (Ih (rs:= []) 16 rfl rfl rfl (dF c) e9 (Ih (rs:= []) 17 rfl rfl rfl (dF c) e9 (Ih (rs:= []) 18 rfl rfl rfl (dF c) e9 (qt (v:= .bool false) 19 rfl (λ _ _=>H6 rfl (dF c) rfl) (qv 20 rfl rfl (Ih (rs:= []) 21 rfl rfl rfl rfl e9 (Ih (rs:= []) 22 rfl rfl rfl rfl e9 (Ih (rs:= []) 23 rfl rfl rfl rfl e9 (Ih (rs:= []) 24 rfl rfl rfl rfl e9 (Ih (rs:= []) 25 rfl rfl rfl rfl e9 (Ih (rs:= []) 26 rfl rfl rfl rfl e9 (qt (v:= .bool false) 27 rfl (λ _ _=>H6 rfl rfl rfl) (qv 28 rfl rfl (Ih (rs:= []) 29 rfl rfl rfl rfl e9 (Ih (rs:= []) 30 rfl rfl rfl rfl e9 (Ih (rs:= []) 31 rfl rfl rfl rfl e9 (Ih (rs:= []) 32 rfl rfl rfl rfl e9 (Ih (rs:= []) 33 rfl rfl rfl rfl e9 (Ih (rs:= []) 34 rfl rfl rfl rfl e9 (Ih (rs:= []) 35 rfl rfl rfl rfl e9 (qt (v:= .bool false) 36 rfl (λ _ _=>H6 rfl rfl rfl) (qa 37 rfl rfl (qn (Ib (rt (rs ?_)))))))))))))))))))))))))))
 have t:=e.pf []
 obtain rfl:=zj hr zq1
 exact⟨rfl,t⟩
def dN (b:ax) (e:dL) (f:StoreT) (d:aW):dH × Int × ax × aW:=
 if e.aB=5 then bnd (kG e) λ k=>if k=0 then if e.jU=b.aa.bC then bnd (iU b.aa) λ l=>bnd (iY (bI.mk (dH.mk (F2 []) (F2 []) false) (F2 [])) e b f d) λ a=>if a.1=0 then if(a.2.1.av.aL.ls.length:Int) > 0 then(dH.mk (F2 a.2.1.av.bD.ls) (F2 a.2.1.av.aL.ls) true,0,ax.mk (bA.mk b.aa.bC b.aa.aQ b.aa.bq b.aa.aJ b.aa.aD (F2 b.aa.ah.ls) (F2 a.2.2.1.aa.ak.ls) (F2 a.2.2.1.aa.af.ls) b.aa.bi b.aa.aI b.aa.aH b.aa.aC) (F2 a.2.2.1.ag.ls),a.2.2.2) else bnd (nV l (bA.mk b.aa.bC b.aa.aQ b.aa.bq b.aa.aJ b.aa.aD (F2 b.aa.ah.ls) (F2 a.2.2.1.aa.ak.ls) (F2 a.2.2.1.aa.af.ls) b.aa.bi b.aa.aI b.aa.aH b.aa.aC)) λ g=>(dH.mk (F2 a.2.1.av.bD.ls) (F2 a.2.1.av.aL.ls) (!g),0,ax.mk (bA.mk b.aa.bC b.aa.aQ b.aa.bq b.aa.aJ b.aa.aD (F2 b.aa.ah.ls) (F2 a.2.2.1.aa.ak.ls) (F2 a.2.2.1.aa.af.ls) b.aa.bi b.aa.aI b.aa.aH b.aa.aC) (F2 a.2.2.1.ag.ls),a.2.2.2) else(dH.mk (F2 []) (F2 []) false,a.1,ax.mk (bA.mk b.aa.bC b.aa.aQ b.aa.bq b.aa.aJ b.aa.aD (F2 b.aa.ah.ls) (F2 a.2.2.1.aa.ak.ls) (F2 a.2.2.1.aa.af.ls) b.aa.bi b.aa.aI b.aa.aH b.aa.aC) (F2 a.2.2.1.ag.ls),a.2.2.2) else(dH.mk (F2 []) (F2 []) false,180,b,d) else(dH.mk (F2 []) (F2 []) false,180,b,d) else if e.aB=3 then bnd (kG e) λ h=>if h=0 then if e.jU=b.aa.bC then bnd (iU b.aa) λ i=>bnd (kJ (bI.mk (dH.mk (F2 []) (F2 []) false) (F2 [])) e b f d) λ c=>if c.1=0 then bnd (nV i (bA.mk b.aa.bC b.aa.aQ b.aa.bq b.aa.aJ b.aa.aD (F2 b.aa.ah.ls) (F2 c.2.2.1.aa.ak.ls) (F2 c.2.2.1.aa.af.ls) c.2.2.1.aa.bi b.aa.aI b.aa.aH b.aa.aC)) λ j=>(dH.mk (F2 c.2.1.av.bD.ls) (F2 []) (!j),0,ax.mk (bA.mk b.aa.bC b.aa.aQ b.aa.bq b.aa.aJ b.aa.aD (F2 b.aa.ah.ls) (F2 c.2.2.1.aa.ak.ls) (F2 c.2.2.1.aa.af.ls) c.2.2.1.aa.bi b.aa.aI b.aa.aH b.aa.aC) (F2 c.2.2.1.ag.ls),c.2.2.2) else(dH.mk (F2 []) (F2 []) false,c.1,ax.mk (bA.mk b.aa.bC b.aa.aQ b.aa.bq b.aa.aJ b.aa.aD (F2 b.aa.ah.ls) (F2 c.2.2.1.aa.ak.ls) (F2 c.2.2.1.aa.af.ls) c.2.2.1.aa.bi b.aa.aI b.aa.aH b.aa.aC) (F2 c.2.2.1.ag.ls),c.2.2.2) else(dH.mk (F2 []) (F2 []) false,180,b,d) else(dH.mk (F2 []) (F2 []) false,180,b,d) else(dH.mk (F2 []) (F2 []) false,180,b,d)
theorem jm (w D g0) (a:ax) (I r E t J F u R S N) (b:dL) (O gy z P gz B aM Q gB C Y) (G:StoreT) (V L Z) (y:aW) (g j d) (r0:dH) (r1) (r2:ax) (r3:aW) (H:Own w D w [blk g0 (kB a I a.aa.ah.ls.length r E a.aa.ak.ls.length t F a.aa.af.ls.length u a.aa.bi Y R a.ag.ls.length S Z) 80,row E a.aa.ak.ls.length t (q2 bf.cells J) 60 2,sepL (q2 IK J),row F a.aa.af.ls.length u (q2 (eN .u64) a.aa.af.ls) 32 1,row R a.ag.ls.length S (q2 aP.cells N) 99 4,sepL (q2 IA N),blk Y [.slice V G.xM.ls.length L] 27,blk Z [.slice g y.ai.ls.length j] 114,row g y.ai.ls.length j (q2 ay.cells d) 164 6,sepL (q2 Iy d)]) (aN:Ro w D λ w'=>bO w' 2 I a.aa.ah.ls.length (q2 bM.cells a.aa.ah.ls)) (lw:a.aa.ah.ls.length<=r/\a.aa.ah.ls.length<=9223372036854775807) (X:s1 bf.abs J=a.aa.ak.ls) (aa:s1 aP.abs N=a.ag.ls) (iJ:gy=b.aK.ls.length) (bC:Ro w D λ w'=>bO w' 6 O b.aK.ls.length (q2 aX.cells b.aK.ls)) (lC:b.aK.ls.length<=z/\b.aK.ls.length<=9223372036854775807) (aO:s1 aR.abs aM=b.aV.ls) (iK:gz=b.aV.ls.length) (bD:Ro w D λ w'=>bO w' 3 P b.aV.ls.length (q2 aR.cells aM)) (lD:b.aV.ls.length<=B/\b.aV.ls.length<=9223372036854775807) (af:∀ x ∈ aM,Ro w D (λ w'=>bO w' 2 x.bz.A x.bz.ls.length (q2 az.cells x.bz.ls))/\(x.bz.ls.length<=x.bz.c/\x.bz.ls.length<=9223372036854775807)) (iL:gB=b.ah.ls.length) (bE:Ro w D λ w'=>bO w' 2 Q b.ah.ls.length (q2 bM.cells b.ah.ls)) (lF:b.ah.ls.length<=C/\b.ah.ls.length<=9223372036854775807) (bN:Ro w D λ w'=>bO w' 2 V G.xM.ls.length (q2 az.cells G.xM.ls)) (jw:G.xM.ls.length<=L/\G.xM.ls.length<=9223372036854775807) (M:s1 ay.abs d=y.ai.ls) (oF:Tk a.ag.ls a.aa.ak.ls y.ai.ls) (oG:Gt a.ag.ls) (oH:a.ag.ls.length+a.aa.ak.ls.length<=6) (oI:y.ai.ls.length<=6) (oJ:G.xM.ls.length<=4000/\a.aa.ah.ls.length<=1000/\a.aa.af.ls.length<=999) (oK:b.aB=3\/b.aB=5\/b.aB=6) (oL:b.aK.ls.length<=140737488355328/\b.aV.ls.length<=140737488355328/\b.ah.ls.length<=140737488355328) (hr:dN a b G y=(r0,r1,r2,r3)):
    Calls u9 9 #[vP g0 0, .agg (iy b.aB b.jo b.jU b.iq b.gp b.iZ b.gN b.aQ b.aU b.bi b.bq b.aJ b.aD b.bv b.xN b.ik b.aA.aN b.aA.aT O gy z P gz B Q gB C).toArray] w (dI λ v w'=> ∃ gF gG gI gJ ek eu eB dh eD eF eG eH di eO eP dm,v= .tuple #[.agg #[.slice gF r0.bD.ls.length gG, .slice gI r0.aL.ls.length gJ, .bool r0.bU],vI r1]/\Own w D w' [row gF r0.bD.ls.length gG (q2 bV.cells ek) 47 21,sepL (q2 IR ek),row gI r0.aL.ls.length gJ (q2 aX.cells r0.aL.ls) 68 6,blk g0 (kB a I a.aa.ah.ls.length r eu r2.aa.ak.ls.length eB eD r2.aa.af.ls.length eF r2.aa.bi Y eG r2.ag.ls.length eH Z) 80,row eu r2.aa.ak.ls.length eB (q2 bf.cells dh) 60 2,sepL (q2 IK dh),row eD r2.aa.af.ls.length eF (q2 (eN .u64) r2.aa.af.ls) 32 1,row eG r2.ag.ls.length eH (q2 aP.cells di) 99 4,sepL (q2 IA di),blk Y [.slice V G.xM.ls.length L] 27,blk Z [.slice eO r3.ai.ls.length eP] 114,row eO r3.ai.ls.length eP (q2 ay.cells dm) 164 6,sepL (q2 Iy dm)]/\(s1 bV.abs ek=r0.bD.ls)/\(s1 bf.abs dh=r2.aa.ak.ls)/\(s1 aP.abs di=r2.ag.ls)/\(s1 ay.abs dm=r3.ai.ls)):=by
 subst iJ iK iL
 have lq:=aY X
 have lu:=aY aa
 have lv:=aY aO
 have jr:=aY M
 have lG:=zr 1 H
 have lH:=zr 3 H
 have lI:=zr 4 H
 have jy:=zr 8 H
 refine cb Tryz.func9 ?_
 refine sr ?_
 refine bW (lX b O z P B Q C) 47 H ?_
 intro dX oM lJ
 refine bW [.slice none 0 0, .slice none 0 0, .bool false] 52 lJ ?_
 intro iM oN lK
 refine An rfl (H7 ?_)
 refine mJ 12 [] (Ik Iw) lK ?_
 intro oO lL
 refine qp dX 0 1 rfl (ql 2 rfl 1 B3 rfl rfl rfl ?_)
 refine GX.do 0 rfl e9 (IB Tryz.call21 rfl ?_ (λ _ _ k=>k))
 refine cb Tryz.func21 ?_
 refine sr (Ar rfl ?_)
 refine WL.do rfl (Kk (κ:=Int) (ν:=Option Nat) kI vF lL ?_)
 intro dY oP lM
 refine I5 (Jo (k:=3) (v:=(some 39)) lM (qN v6) U2 rfl rfl rfl ?_)
 intro oQ lN
 refine I5 (Jo (k:=5) (v:=(some 40)) lN (qN v6) U2 rfl rfl rfl ?_)
 intro oU lQ
 refine I5 (Jo (k:=8) (v:=(some 41)) lQ (qN v6) U2 rfl rfl rfl ?_)
 intro oV lS
 refine I5 (Jo (k:=10) (v:=(some 42)) lS (qN v6) U2 rfl rfl rfl ?_)
 intro oW lT
 refine I5 (Jo (k:=11) (v:=(some 43)) lT (qN v6) U2 rfl rfl rfl ?_)
 intro oZ lU
 refine I5 (Jo (k:=12) (v:=(some 44)) lU (qN v6) U2 rfl rfl rfl ?_)
 intro o5 lV
 refine Mz rfl (An rfl (rt (rs ?_)))
 have dn:=lV.pb [0]
 refine⟨.inr ⟨_,dn⟩, ?_⟩
 by_cases aZ:b.aB=5
 refine JN (Good':=λ W=> ∃ L',Own w D W ([blk iM [.slice none 0 0, .slice none 0 0, .bool false] 52,blk dX (lX b O z P B Q C) 47,blk g0 (kB a I a.aa.ah.ls.length r E a.aa.ak.ls.length t F a.aa.af.ls.length u a.aa.bi Y R a.ag.ls.length S Z) 80,row E a.aa.ak.ls.length t (q2 bf.cells J) 60 2,sepL (q2 IK J),row F a.aa.af.ls.length u (q2 (eN .u64) a.aa.af.ls) 32 1,row R a.ag.ls.length S (q2 aP.cells N) 99 4,sepL (q2 IA N),blk Y [.slice V G.xM.ls.length L] 27,blk Z [.slice g y.ai.ls.length j] 114,row g y.ai.ls.length j (q2 ay.cells d) 164 6,sepL (q2 Iy d),pV dY kI vF (gU (gU (gU (gU (gU (gU [] 3 (some 39)) 5 (some 40)) 8 (some 41)) 10 (some 42)) 11 (some 43)) 12 (some 44))]++L')) (λ _ ⟨L',h⟩=>⟨[pV dY kI vF (gU (gU (gU (gU (gU (gU [] 3 (some 39)) 5 (some 40)) 8 (some 41)) 10 (some 42)) 11 (some 43)) 12 (some 44))]++L',h⟩) ⟨_,dn⟩ (qt (v:= .tuple #[.func (.func 40) #[] #[], .bool true]) 3 rfl (λ _ ⟨_,H9⟩=>Jz (k:=b.aB) (d0:=(none:Option Nat)) (o:=(some (some 40))) (i:=12) H9 rfl (qN v6) U2 (λ _=>by kernel_rfl) rfl rfl (by rw [show b.aB=5 from by omega]; rfl)) (qv 4 rfl rfl (qk (.func (.func 40) #[] #[]) 5 rfl (qk (.bool true) 6 rfl (qa 7 rfl rfl (qa 8 rfl rfl (qn (Ib (H7 (H7 ?_))))))))))
 have lW:=dn.px [] [12] []
 refine mJ 12 [] (Ik (Ik Iw)) lW ?_
 intro o6 lZ
 refine qv 0 rfl rfl (qk (.bool false) 1 rfl (qv 2 rfl rfl (Ii (v:= .agg (lX b O z P B Q C).toArray) (rs:= []) 3 rfl rfl rfl rfl e9 (λ _ ⟨_,H9⟩=>Il rfl (Io (cs:=(lX b O z P B Q C)) H5 I0 ((H9.cls (i:=1) rfl).lit (k:=0) (m:=21) rfl))) ?_)))
 obtain⟨dZ,aQ⟩:∃ q,kG b=q:=⟨_,rfl⟩
 obtain⟨o7,jA,dG,jB,nC⟩:=Ia lZ
 refine Ja 4 rfl rfl rfl rfl e9 (IB Tryz.call22 rfl (vR _ _ b O b.aK.ls.length z P b.aV.ls.length B aM Q b.ah.ls.length C dZ jA rfl (dG _ bC) e8 aO rfl (dG _ bD) e8 (λ x9 h9=>⟨dG _ (af x9 h9).1,(af x9 h9).2⟩) rfl (dG _ bE) e8 f8 aQ) ?_)
 rintro _ o8 ⟨rfl,jC⟩
 have fU:=jB _ _ jC
 have nD: ¬ (dZ=0)\/¬ (b.aB=3)\/b.aK.ls.length<=24:=xm aQ
 refine⟨.inr ⟨_,fU⟩, ?_⟩
 refine Ii (v:= .bool (decide (¬ (dZ=0)))) (rs:= []) 5 rfl rfl rfl rfl e9 (λ _ _=>Iu (e:= !(decide (dZ=0))) yk decide_not.symm) (qt (v:= .bool (decide (¬ (dZ=0)))) 6 rfl (λ _ _=>H6 rfl rfl rfl) (qv 7 rfl rfl ?_))
 by_cases T:dZ=0
 refine Ii (v:=vP dX 2) (rs:= []) 8 rfl rfl rfl (dF (Lp T)) e9 (λ _ _=>yk) (Ii (v:=vI b.jU) (rs:= []) 9 rfl rfl rfl (dF (Lp T)) e9 (λ _ ⟨_,H9⟩=>Il rfl (bQ.one B3 (IU (H9.cls (i:=1) rfl) rfl))) (Ii (v:=vP g0 0) (rs:= []) 10 rfl rfl rfl (dF (Lp T)) e9 (λ _ _=>Ie rfl) (Ii (v:=vP g0 0) (rs:= []) 11 rfl rfl rfl (dF (Lp T)) e9 (λ _ _=>yk) (Ii (v:=vP g0 0) (rs:= []) 12 rfl rfl rfl (dF (Lp T)) e9 (λ _ _=>yk) (Ii (v:=vP g0 0) (rs:= []) 13 rfl rfl rfl (dF (Lp T)) e9 (λ _ _=>yk) (Ii (v:=vI a.aa.bC) (rs:= []) 14 rfl rfl rfl (dF (Lp T)) e9 (λ _ ⟨_,H9⟩=>Il rfl (bQ.one B3 (IU (H9.cls (i:=2) rfl) rfl))) (Ii (v:= .bool (decide (¬ (b.jU=a.aa.bC)))) (rs:= []) 15 rfl rfl rfl (dF (Lp T)) e9 (λ _ _=>Iu (e:= !(decide (b.jU=a.aa.bC))) yk decide_not.symm) (qt (v:= .bool (decide (¬ (b.jU=a.aa.bC)))) 16 rfl (λ _ _=>H6 rfl (dF (Lp T)) rfl) (qn (Ib ?_))))))))))
 by_cases d9:b.jU=a.aa.bC
 refine jF (dF (Lp d9)) (sk (sr (Mz rfl (Kz (.agg #[vP g0 0, .slice none 0 0, .slice none 0 0, .bool false, .slice none 0 0]) ?_))))
 refine bW [vP g0 0, .slice none 0 0, .slice none 0 0, .bool false, .slice none 0 0] 92 fU ?_
 intro aD o9 iO
 refine Ar rfl (Mz rfl (Kz (vP g0 0) (Kz (vP g0 0) (La (gV a.aa.bC a.aa.aQ a.aa.bq a.aa.aJ a.aa.aD I a.aa.ah.ls.length r E a.aa.ak.ls.length t F a.aa.af.ls.length u a.aa.bi a.aa.aI a.aa.aH.aN a.aa.aH.aT a.aa.aC.aD a.aa.aC.bv a.aa.aC.di a.aa.aC.aA.aN a.aa.aC.aA.aT) iO 3 E6 E7 ?_))))
 obtain⟨au,dJ⟩:∃ q,iU a.aa=q:=⟨_,rfl⟩
 obtain⟨pg,jD,jE,jG,eQ⟩:=Ia iO
 refine cl U1 (lY _ _ a.aa I a.aa.ah.ls.length r E a.aa.ak.ls.length t J F a.aa.af.ls.length u au jD rfl (jE _ aN) e8 X rfl (eQ _ 4 _ rfl bP) e8 (λ x9 h9=>⟨eQ _ 5 _ rfl (bL (O3.2 ⟨x9,h9,b3⟩) bP),dC (φ:=λ _=>_) iO (i:=5) rfl (bL (O3.2 ⟨x9,h9,b3⟩) dK)⟩) rfl (eQ _ 6 _ rfl bP) e8 g4 (by first | assumption | exact λ _ h9=>absurd h9 v1 | exact Tk.hops f6) dJ) ?_
 rintro _ pq ⟨fV,eT,fZ,eU,gm,eX,l5,rfl,jH,gK⟩
 have gp:=jG _ _ jH
 have nE:=aY gK
 have nG:=zr 0 gp
 have nH:=zr 1 gp
 have nI:=zr 3 gp
 refine bW (gV 0 0 0 0 0 none 0 0 none 0 0 none 0 0 0 0 [] [] 0 0 0 [] []) 41 gp ?_
 intro pu pz l6
 refine cu (iV au fV eT fZ eU gm eX) 0 l6 E7 ?_
 intro gu jI
 refine nt (H7 (sr (Mz rfl (Mz rfl (La (lX b O z P B Q C) jI 7 H5 I0 ?_)))))
 have l7:Own w D gu (sepL (q2 IR [])::_):=jI.sepNil
 have l8:Own w D gu (row none 0 0 (q2 bV.cells []) 47 21::_):=l7.free (bZ 47 21)
 have l9:Own w D gu (row none 0 0 (q2 aX.cells []) 68 6::_):=l8.free (bZ 68 6)
 have ma:Own w D gu (jv none 0 0 (q2 dB.cells []) 216 2::_):=Own.upQ (l9.free (bZ 216 2))
 have mf:=ma.px [9,2,3,1] [] [4,5,6,7,8,10,11]
 obtain⟨⟨bg,l,p,dM⟩,bF⟩:∃ q:Int × bI × ax × aW,iY (bI.mk (dH.mk (F2 []) (F2 []) false) (F2 [])) b a G y=q:=⟨_,rfl⟩
 obtain⟨pE,jJ,bR,iP,mg⟩:=Kc mf
 refine WL.do rfl (IM Tryz.call40 rfl rfl (vZ _ _ aD (bI.mk (dH.mk (F2 []) (F2 []) false) (F2 [])) none 0 [] none 0 none 0 b O b.aK.ls.length z P b.aV.ls.length B aM Q b.ah.ls.length C g0 a I r E t J F u R S N Y G V L Z y g j d bg l p dM jJ rfl rfl (bR _ bC) e8 aO rfl (bR _ bD) e8 (λ x9 h9=>⟨bR _ (af x9 h9).1,(af x9 h9).2⟩) rfl (bR _ bE) e8 X aa (bR _ bN) e8 M f6 f6 i8 (by first | omega | exact Tk.n f6) (by first | omega | exact Tk.rows f6) f0 f0 bF) ?_)
 rintro _ nJ ⟨ah,ai,gL,aj,ak,nK,nL,bi,aS,dO,bn,aT,eY,eZ,fe,fo,fq,fu,rfl,iQ,dw,aU,bG,bH⟩
 have aK:=iP _ _ iQ
 have mh:=aY dw
 have mi:=aY aU
 have mo:=aY bG
 have mq:=aY bH
 have mr:=zr 1 aK
 have mD:=zr 3 aK
 have mE:=aK.rowCQ (i:=4) rfl
 have mF:=zr 6 aK
 have mG:=zr 8 aK
 have mH:=zr 9 aK
 have mI:=zr 13 aK
 refine An rfl (H7 ?_)
 have gM:=aK.px [] [21] []
 refine H8 (Mz rfl (fw (.bool (decide (¬ (bg=0)))) (Iu (e:= !(decide (bg=0))) yk decide_not.symm) (nt ?_)))
 by_cases bS:bg=0
 refine jF (dF (Lp bS)) (sk (H7 ?_))
 refine mJ 21 [20] (Ik Iw) gM ?_
 intro nM dP
 refine qv 0 rfl rfl (qv 1 rfl rfl (qp aD 0 2 rfl (qp aD 1 3 rfl (qp aD 2 4 rfl (ql 5 rfl 0 Tryz.isAgg44 rfl rfl rfl (qk (vJ l.av.aL.ls.length) 6 rfl (qk (.bool (decide ((l.av.aL.ls.length:Int) > 0))) 7 rfl (qv 8 rfl rfl ?_))))))))
 by_cases K:(l.av.aL.ls.length:Int) > 0
 refine Ih (rs:= [[]]) 9 rfl rfl rfl (dT K) e9 (Ih (rs:= [[]]) 10 rfl rfl rfl (dT K) e9 (Ih (rs:= [[]]) 11 rfl rfl rfl (dT K) e9 (Ih (rs:= [[]]) 12 rfl rfl rfl (dT K) e9 (Ih (rs:= [[]]) 13 rfl rfl rfl (dT K) e9 (Ih (rs:= [[]]) 14 rfl rfl rfl (dT K) e9 (Ih (rs:= [[]]) 15 rfl rfl rfl (dT K) e9 (qt (v:= .bool true) 16 rfl (λ _ _=>Ic rfl (dT K) rfl) (qp aD 0 17 rfl (qp aD 1 18 rfl (qp aD 3 19 rfl ?_))))))))))
 refine qe 20 rfl (Do.store (vs:= [.bool true]) (o:=3) dP rfl rfl U3 rfl rfl rfl rfl ?_)
 intro nN jK
 refine⟨.inl e9, ?_⟩
 refine qn (Ib (H7 ?_))
 have gN:=jK.px [] [15,16,17,18,19] []
 refine H8 (Mz rfl (Kz (vP aD 0) (Kz (vP aD 1) (La ([.slice ah l.av.bD.ls.length ai, .slice aj l.av.aL.ls.length ak, .bool true]) gN 0 U4 U5 ?_))))
 have jL:=gN.pf [15]
 refine cu [.slice ah l.av.bD.ls.length ai, .slice aj l.av.aL.ls.length ak, .bool true] 0 jL U5 ?_
 intro nO gP
 refine An rfl (rt (Ir (gq (vs:= [.agg #[.slice ah l.av.bD.ls.length ai, .slice aj l.av.aL.ls.length ak, .bool true],vI 0]) rfl (bT.cell rfl (Io (cs:= [.slice ah l.av.bD.ls.length ai, .slice aj l.av.aL.ls.length ak, .bool true]) U4 U5 ((gP.cls (i:=0) rfl).lit (k:=0) (m:=3) rfl)) (bT.tmp rfl bT.nil)) (Lh rfl)) ?_))
 have jM:=gP.px [] [0,1,5] []
 obtain⟨rfl,rfl,rfl,rfl⟩:=gH (zj hr (show _=(dH.mk (F2 l.av.bD.ls) (F2 l.av.aL.ls) true,0,ax.mk (bA.mk a.aa.bC a.aa.aQ a.aa.bq a.aa.aJ a.aa.aD (F2 a.aa.ah.ls) (F2 p.aa.ak.ls) (F2 p.aa.af.ls) a.aa.bi a.aa.aI a.aa.aH a.aa.aC) (F2 p.ag.ls),dM) from et (ip aZ) (et (ae aQ) (et (ip T) (et (ip d9) (et (ae dJ) (et (ae bF) (et (ip bS) (ip K)))))))))
 exact⟨ah,ai,aj,ak,gL,bi,aS,dO,bn,aT,eY,eZ,fe,fo,fq,fu,rfl,jM,dw,aU,bG,bH⟩
 refine Ii (v:= .agg (iV au fV eT fZ eU gm eX).toArray) (rs:= [[]]) 9 rfl rfl rfl (dF K) e9 (λ _ ⟨_,H9⟩=>Il rfl (Io (cs:=(iV au fV eT fZ eU gm eX)) E6 E7 ((H9.cls (i:=15) rfl).lit (k:=0) (m:=17) rfl))) (Ii (v:=vP g0 0) (rs:= [[]]) 10 rfl rfl rfl (dF K) e9 (λ _ _=>Ie rfl) (Ii (v:=vP g0 0) (rs:= [[]]) 11 rfl rfl rfl (dF K) e9 (λ _ _=>yk) (Ii (v:=vP g0 0) (rs:= [[]]) 12 rfl rfl rfl (dF K) e9 (λ _ _=>yk) (Ii (v:= .agg (gV a.aa.bC a.aa.aQ a.aa.bq a.aa.aJ a.aa.aD I a.aa.ah.ls.length r bi p.aa.ak.ls.length aS bn p.aa.af.ls.length aT a.aa.bi a.aa.aI a.aa.aH.aN a.aa.aH.aT a.aa.aC.aD a.aa.aC.bv a.aa.aC.di a.aa.aC.aA.aN a.aa.aC.aA.aT).toArray) (rs:= [[]]) 13 rfl rfl rfl (dF K) e9 (λ _ ⟨_,H9⟩=>Il rfl (Io (cs:=(gV a.aa.bC a.aa.aQ a.aa.bq a.aa.aJ a.aa.aD I a.aa.ah.ls.length r bi p.aa.ak.ls.length aS bn p.aa.af.ls.length aT a.aa.bi a.aa.aI a.aa.aH.aN a.aa.aH.aT a.aa.aC.aD a.aa.aC.bv a.aa.aC.di a.aa.aC.aA.aN a.aa.aC.aA.aT)) E6 E7 ((H9.cls (i:=5) rfl).lit (k:=0) (m:=17) rfl))) ?_))))
 obtain⟨aF,fA⟩:∃ q,nV au (bA.mk a.aa.bC a.aa.aQ a.aa.bq a.aa.aJ a.aa.aD (F2 a.aa.ah.ls) (F2 p.aa.ak.ls) (F2 p.aa.af.ls) a.aa.bi a.aa.aI a.aa.aH a.aa.aC)=q:=⟨_,rfl⟩
 obtain⟨nP,iR,iT,iW,av⟩:=Ia dP
 refine Ja 14 rfl rfl rfl (dF K) e9 (IB Tryz.call23 rfl (sM _ _ au fV au.ah.ls.length eT fZ au.ak.ls.length eU l5 gm au.af.ls.length eX (bA.mk a.aa.bC a.aa.aQ a.aa.bq a.aa.aJ a.aa.aD (F2 a.aa.ah.ls) (F2 p.aa.ak.ls) (F2 p.aa.af.ls) a.aa.bi a.aa.aI a.aa.aH a.aa.aC) I a.aa.ah.ls.length r bi p.aa.ak.ls.length aS dO bn p.aa.af.ls.length aT aF iR rfl (av _ 16 _ rfl bP) e8 gK rfl (av _ 17 _ rfl bP) e8 (λ x9 h9=>⟨av _ 18 _ rfl (bL (O3.2 ⟨x9,h9,b3⟩) bP),dC (φ:=λ _=>_) dP (i:=18) rfl (bL (O3.2 ⟨x9,h9,b3⟩) dK)⟩) rfl (av _ 19 _ rfl bP) e8 rfl (iT _ aN) e8 aU rfl (av _ 6 _ rfl bP) e8 (λ x9 h9=>⟨av _ 7 _ rfl (bL (O3.2 ⟨x9,h9,b3⟩) bP),dC (φ:=λ _=>_) dP (i:=7) rfl (bL (O3.2 ⟨x9,h9,b3⟩) dK)⟩) rfl (av _ 8 _ rfl bP) e8 fA) ?_)
 rintro _ nQ ⟨rfl,iX⟩
 have gQ:=iW _ _ iX
 refine⟨.inr ⟨_,gQ⟩, ?_⟩
 refine Ii (v:= .bool (!aF)) (rs:= [[]]) 15 rfl rfl rfl (dF K) e9 (λ _ _=>yk) (qt (v:= .bool (!aF)) 16 rfl (λ _ _=>H6 rfl (dF K) rfl) (qp aD 0 17 rfl (qp aD 1 18 rfl (qp aD 3 19 rfl ?_))))
 refine qe 20 rfl (Do.store (vs:= [.bool (!aF)]) (o:=3) gQ rfl rfl U3 rfl rfl rfl rfl ?_)
 intro nR jN
 refine⟨.inl e9, ?_⟩
 refine qn (Ib (H7 ?_))
 have gT:=jN.px [] [15,16,17,18,19] []
 refine H8 (Mz rfl (Kz (vP aD 0) (Kz (vP aD 1) (La ([.slice ah l.av.bD.ls.length ai, .slice aj l.av.aL.ls.length ak, .bool (!aF)]) gT 0 U4 U5 ?_))))
 have jO:=gT.pf [15]
 refine cu [.slice ah l.av.bD.ls.length ai, .slice aj l.av.aL.ls.length ak, .bool (!aF)] 0 jO U5 ?_
 intro nS gW
 refine An rfl (rt (Ir (gq (vs:= [.agg #[.slice ah l.av.bD.ls.length ai, .slice aj l.av.aL.ls.length ak, .bool (!aF)],vI 0]) rfl (bT.cell rfl (Io (cs:= [.slice ah l.av.bD.ls.length ai, .slice aj l.av.aL.ls.length ak, .bool (!aF)]) U4 U5 ((gW.cls (i:=0) rfl).lit (k:=0) (m:=3) rfl)) (bT.tmp rfl bT.nil)) (Lh rfl)) ?_))
 have jP:=gW.px [] [0,1,5] []
 obtain⟨rfl,rfl,rfl,rfl⟩:=gH (zj hr (show _=(dH.mk (F2 l.av.bD.ls) (F2 l.av.aL.ls) (!aF),0,ax.mk (bA.mk a.aa.bC a.aa.aQ a.aa.bq a.aa.aJ a.aa.aD (F2 a.aa.ah.ls) (F2 p.aa.ak.ls) (F2 p.aa.af.ls) a.aa.bi a.aa.aI a.aa.aH a.aa.aC) (F2 p.ag.ls),dM) from et (ip aZ) (et (ae aQ) (et (ip T) (et (ip d9) (et (ae dJ) (et (ae bF) (et (ip bS) (et (iN K) (ae fA))))))))))
 exact⟨ah,ai,aj,ak,gL,bi,aS,dO,bn,aT,eY,eZ,fe,fo,fq,fu,rfl,jP,dw,aU,bG,bH⟩
 refine jT (dT bS) (sr (Kz (.agg #[.slice none 0 0, .slice none 0 0, .bool false]) (Mz rfl ?_)))
 have jQ:=gM.pf [20]
 refine cu [.slice none 0 0, .slice none 0 0, .bool false] 0 jQ U5 ?_
 intro fB gX
 refine An rfl (rt (tR (Ir (gq (vs:= [.agg #[.slice none 0 0, .slice none 0 0, .bool false],vI bg]) rfl (bT.cell rfl (Io (cs:= [.slice none 0 0, .slice none 0 0, .bool false]) U4 U5 ((gX.cls (i:=0) rfl).lit (k:=0) (m:=3) rfl)) (bT.tmp rfl bT.nil)) (Lh rfl)) ?_)))
 have jR:Own w D fB (sepL (q2 IR [])::_):=gX.sepNil
 have jS:Own w D fB (row none 0 0 (q2 bV.cells []) 47 21::_):=jR.free (bZ 47 21)
 have jU:Own w D fB (row none 0 0 (q2 aX.cells []) 68 6::_):=jS.free (bZ 68 6)
 have jV:=jU.pk [1,2,0,9,10,11,12,13,14,15,16,17,18]
 obtain⟨rfl,rfl,rfl,rfl⟩:=gH (zj hr (show _=(dH.mk (F2 []) (F2 []) false,bg,ax.mk (bA.mk a.aa.bC a.aa.aQ a.aa.bq a.aa.aJ a.aa.aD (F2 a.aa.ah.ls) (F2 p.aa.ak.ls) (F2 p.aa.af.ls) a.aa.bi a.aa.aI a.aa.aH a.aa.aC) (F2 p.ag.ls),dM) from et (ip aZ) (et (ae aQ) (et (ip T) (et (ip d9) (et (ae dJ) (et (ae bF) (iN bS))))))))
 exact⟨none,0,none,0, [],bi,aS,dO,bn,aT,eY,eZ,fe,fo,fq,fu,rfl,jV,rfl,aU,bG,bH⟩
 refine jT (dT d9) (sr (Kz (.agg #[.slice none 0 0, .slice none 0 0, .bool false]) ?_))
 refine cu [.slice none 0 0, .slice none 0 0, .bool false] 0 fU U5 ?_
 intro fC gY
 refine An rfl (rt (tR (Ir (gq (vs:= [.agg #[.slice none 0 0, .slice none 0 0, .bool false],vI 180]) rfl (bT.cell rfl (Io (cs:= [.slice none 0 0, .slice none 0 0, .bool false]) U4 U5 ((gY.cls (i:=0) rfl).lit (k:=0) (m:=3) rfl)) (bT.tmp rfl bT.nil)) (Lh rfl)) ?_)))
 have jW:Own w D fC (sepL (q2 IR [])::_):=gY.sepNil
 have jX:Own w D fC (row none 0 0 (q2 bV.cells []) 47 21::_):=jW.free (bZ 47 21)
 have jY:Own w D fC (row none 0 0 (q2 aX.cells []) 68 6::_):=jX.free (bZ 68 6)
 have jZ:=jY.px [1,2] [3,4] []
 obtain⟨rfl,rfl,rfl,rfl⟩:=gH (zj hr (show _=(dH.mk (F2 []) (F2 []) false,180,a,y) from et (ip aZ) (et (ae aQ) (et (ip T) (iN d9))))).symm
 exact⟨none,0,none,0, [],E,t,J,F,u,R,S,N,g,j,d,rfl,jZ,rfl,X,aa,M⟩
 refine Ih (rs:= []) 8 rfl rfl rfl (dT T) e9 (Ih (rs:= []) 9 rfl rfl rfl (dT T) e9 (Ih (rs:= []) 10 rfl rfl rfl (dT T) e9 (Ih (rs:= []) 11 rfl rfl rfl (dT T) e9 (Ih (rs:= []) 12 rfl rfl rfl (dT T) e9 (Ih (rs:= []) 13 rfl rfl rfl (dT T) e9 (Ih (rs:= []) 14 rfl rfl rfl (dT T) e9 (Ih (rs:= []) 15 rfl rfl rfl (dT T) e9 (qt (v:= .bool true) 16 rfl (λ _ _=>Ic rfl (dT T) rfl) (qn (Ib (jt (sr (Kz (.agg #[.slice none 0 0, .slice none 0 0, .bool false]) ?_)))))))))))))
 refine cu [.slice none 0 0, .slice none 0 0, .bool false] 0 fU U5 ?_
 intro fD gZ
 refine An rfl (rt (tR (Ir (gq (vs:= [.agg #[.slice none 0 0, .slice none 0 0, .bool false],vI 180]) rfl (bT.cell rfl (Io (cs:= [.slice none 0 0, .slice none 0 0, .bool false]) U4 U5 ((gZ.cls (i:=0) rfl).lit (k:=0) (m:=3) rfl)) (bT.tmp rfl bT.nil)) (Lh rfl)) ?_)))
 have j3:Own w D fD (sepL (q2 IR [])::_):=gZ.sepNil
 have j4:Own w D fD (row none 0 0 (q2 bV.cells []) 47 21::_):=j3.free (bZ 47 21)
 have j5:Own w D fD (row none 0 0 (q2 aX.cells []) 68 6::_):=j4.free (bZ 68 6)
 have j6:=j5.px [1,2] [3,4] []
 obtain⟨rfl,rfl,rfl,rfl⟩:=gH (zj hr (show _=(dH.mk (F2 []) (F2 []) false,180,a,y) from et (ip aZ) (et (ae aQ) (iN T)))).symm
 exact⟨none,0,none,0, [],E,t,J,F,u,R,S,N,g,j,d,rfl,j6,rfl,X,aa,M⟩
 by_cases bU:b.aB=3
 refine JN (Good':=λ W=> ∃ L',Own w D W ([blk iM [.slice none 0 0, .slice none 0 0, .bool false] 52,blk dX (lX b O z P B Q C) 47,blk g0 (kB a I a.aa.ah.ls.length r E a.aa.ak.ls.length t F a.aa.af.ls.length u a.aa.bi Y R a.ag.ls.length S Z) 80,row E a.aa.ak.ls.length t (q2 bf.cells J) 60 2,sepL (q2 IK J),row F a.aa.af.ls.length u (q2 (eN .u64) a.aa.af.ls) 32 1,row R a.ag.ls.length S (q2 aP.cells N) 99 4,sepL (q2 IA N),blk Y [.slice V G.xM.ls.length L] 27,blk Z [.slice g y.ai.ls.length j] 114,row g y.ai.ls.length j (q2 ay.cells d) 164 6,sepL (q2 Iy d),pV dY kI vF (gU (gU (gU (gU (gU (gU [] 3 (some 39)) 5 (some 40)) 8 (some 41)) 10 (some 42)) 11 (some 43)) 12 (some 44))]++L')) (λ _ ⟨L',h⟩=>⟨[pV dY kI vF (gU (gU (gU (gU (gU (gU [] 3 (some 39)) 5 (some 40)) 8 (some 41)) 10 (some 42)) 11 (some 43)) 12 (some 44))]++L',h⟩) ⟨_,dn⟩ (qt (v:= .tuple #[.func (.func 39) #[] #[], .bool true]) 3 rfl (λ _ ⟨_,H9⟩=>Jz (k:=b.aB) (d0:=(none:Option Nat)) (o:=(some (some 39))) (i:=12) H9 rfl (qN v6) U2 (λ _=>by kernel_rfl) rfl rfl (by rw [show b.aB=3 from by omega]; rfl)) (qv 4 rfl rfl (qk (.func (.func 39) #[] #[]) 5 rfl (qk (.bool true) 6 rfl (qa 7 rfl rfl (qa 8 rfl rfl (qn (Ib (H7 (H7 ?_))))))))))
 have kg:=dn.px [] [12] []
 refine mJ 12 [] (Ik (Ik Iw)) kg ?_
 intro nT ko
 refine qv 0 rfl rfl (qk (.bool false) 1 rfl (qv 2 rfl rfl (Ii (v:= .agg (lX b O z P B Q C).toArray) (rs:= []) 3 rfl rfl rfl rfl e9 (λ _ ⟨_,H9⟩=>Il rfl (Io (cs:=(lX b O z P B Q C)) H5 I0 ((H9.cls (i:=1) rfl).lit (k:=0) (m:=21) rfl))) ?_)))
 obtain⟨bq,aI⟩:∃ q,kG b=q:=⟨_,rfl⟩
 obtain⟨nU,iZ,bJ,ja,mK⟩:=Ia ko
 refine Ja 4 rfl rfl rfl rfl e9 (IB Tryz.call22 rfl (vR _ _ b O b.aK.ls.length z P b.aV.ls.length B aM Q b.ah.ls.length C bq iZ rfl (bJ _ bC) e8 aO rfl (bJ _ bD) e8 (λ x9 h9=>⟨bJ _ (af x9 h9).1,(af x9 h9).2⟩) rfl (bJ _ bE) e8 f8 aI) ?_)
 rintro _ nW ⟨rfl,jb⟩
 have dQ:=ja _ _ jb
 have mM: ¬ (bq=0)\/¬ (b.aB=3)\/b.aK.ls.length<=24:=xm aI
 refine⟨.inr ⟨_,dQ⟩, ?_⟩
 refine Ii (v:= .bool (decide (¬ (bq=0)))) (rs:= []) 5 rfl rfl rfl rfl e9 (λ _ _=>Iu (e:= !(decide (bq=0))) yk decide_not.symm) (qt (v:= .bool (decide (¬ (bq=0)))) 6 rfl (λ _ _=>H6 rfl rfl rfl) (qv 7 rfl rfl ?_))
 by_cases s:bq=0
 refine Ii (v:=vP dX 2) (rs:= []) 8 rfl rfl rfl (dF (Lp s)) e9 (λ _ _=>yk) (Ii (v:=vI b.jU) (rs:= []) 9 rfl rfl rfl (dF (Lp s)) e9 (λ _ ⟨_,H9⟩=>Il rfl (bQ.one B3 (IU (H9.cls (i:=1) rfl) rfl))) (Ii (v:=vP g0 0) (rs:= []) 10 rfl rfl rfl (dF (Lp s)) e9 (λ _ _=>Ie rfl) (Ii (v:=vP g0 0) (rs:= []) 11 rfl rfl rfl (dF (Lp s)) e9 (λ _ _=>yk) (Ii (v:=vP g0 0) (rs:= []) 12 rfl rfl rfl (dF (Lp s)) e9 (λ _ _=>yk) (Ii (v:=vP g0 0) (rs:= []) 13 rfl rfl rfl (dF (Lp s)) e9 (λ _ _=>yk) (Ii (v:=vI a.aa.bC) (rs:= []) 14 rfl rfl rfl (dF (Lp s)) e9 (λ _ ⟨_,H9⟩=>Il rfl (bQ.one B3 (IU (H9.cls (i:=2) rfl) rfl))) (Ii (v:= .bool (decide (¬ (b.jU=a.aa.bC)))) (rs:= []) 15 rfl rfl rfl (dF (Lp s)) e9 (λ _ _=>Iu (e:= !(decide (b.jU=a.aa.bC))) yk decide_not.symm) (qt (v:= .bool (decide (¬ (b.jU=a.aa.bC)))) 16 rfl (λ _ _=>H6 rfl (dF (Lp s)) rfl) (qn (Ib ?_))))))))))
 by_cases bX:b.jU=a.aa.bC
 refine jF (dF (Lp bX)) (sk (sr (Mz rfl (Kz (.agg #[vP g0 0, .slice none 0 0, .slice none 0 0, .bool false, .slice none 0 0]) ?_))))
 refine bW [vP g0 0, .slice none 0 0, .slice none 0 0, .bool false, .slice none 0 0] 92 dQ ?_
 intro aG nX fE
 refine Ar rfl (Mz rfl (Kz (vP g0 0) (Kz (vP g0 0) (La (gV a.aa.bC a.aa.aQ a.aa.bq a.aa.aJ a.aa.aD I a.aa.ah.ls.length r E a.aa.ak.ls.length t F a.aa.af.ls.length u a.aa.bi a.aa.aI a.aa.aH.aN a.aa.aH.aT a.aa.aC.aD a.aa.aC.bv a.aa.aC.di a.aa.aC.aA.aN a.aa.aC.aA.aT) fE 3 E6 E7 ?_))))
 obtain⟨U,dx⟩:∃ q,iU a.aa=q:=⟨_,rfl⟩
 obtain⟨nY,jc,jd,je,dz⟩:=Ia fE
 refine cl U1 (lY _ _ a.aa I a.aa.ah.ls.length r E a.aa.ak.ls.length t J F a.aa.af.ls.length u U jc rfl (jd _ aN) e8 X rfl (dz _ 4 _ rfl bP) e8 (λ x9 h9=>⟨dz _ 5 _ rfl (bL (O3.2 ⟨x9,h9,b3⟩) bP),dC (φ:=λ _=>_) fE (i:=5) rfl (bL (O3.2 ⟨x9,h9,b3⟩) dK)⟩) rfl (dz _ 6 _ rfl bP) e8 g4 (by first | assumption | exact λ _ h9=>absurd h9 v1 | exact Tk.hops f6) dx) ?_
 rintro _ nZ ⟨dR,bY,dS,cz,dU,cB,kr,rfl,jf,fF⟩
 have dV:=je _ _ jf
 have mO:=aY fF
 have mP:=zr 0 dV
 have mQ:=zr 1 dV
 have mR:=zr 3 dV
 refine bW (gV 0 0 0 0 0 none 0 0 none 0 0 none 0 0 0 0 [] [] 0 0 0 [] []) 41 dV ?_
 intro og oh ku
 refine cu (iV U dR bY dS cz dU cB) 0 ku E7 ?_
 intro fG ib
 refine nt (H7 (sr (Mz rfl (Mz rfl (La (lX b O z P B Q C) ib 7 H5 I0 ?_)))))
 have kv:Own w D fG (sepL (q2 IR [])::_):=ib.sepNil
 have kw:Own w D fG (row none 0 0 (q2 bV.cells []) 47 21::_):=kv.free (bZ 47 21)
 have ky:Own w D fG (jv none 0 0 (q2 dB.cells []) 216 2::_):=Own.upQ (kw.free (bZ 216 2))
 have ic:=ky.px [8,1,2] [] [3,4,5,6,7,9,10]
 have mU:=zr 1 ic
 obtain⟨⟨bu,bv,f,fH⟩,dA⟩:∃ q:Int × bI × ax × aW,kJ (bI.mk (dH.mk (F2 []) (F2 []) false) (F2 [])) b a G y=q:=⟨_,rfl⟩
 obtain⟨ol,jg,aJ,jh,mV⟩:=Kb ic
 refine WL.do rfl (IM Tryz.call39 rfl rfl (xw _ _ aG (bI.mk (dH.mk (F2 []) (F2 []) false) (F2 [])) none 0 [] none 0 none 0 b O b.aK.ls.length z P b.aV.ls.length B aM Q b.ah.ls.length C g0 a I r E t J F u R S N Y G V L Z y g j d bu bv f fH jg rfl (λ _ _=>bO.nil _ _ _) e8 rfl (aJ _ bC) e8 aO rfl (aJ _ bD) e8 (λ x9 h9=>⟨aJ _ (af x9 h9).1,(af x9 h9).2⟩) rfl (aJ _ bE) e8 (aJ _ aN) e8 X aa (aJ _ bN) e8 M f6 f6 i8 (by first | omega | exact Tk.n f6) (by first | omega | exact Tk.rows f6) f0 f0 f0 dA) ?_)
 rintro _ om ⟨cK,cO,kz,oo,oq,cZ,bz,fI,df,bB,ig,ik,il,iq,iw,iA,rfl,ji,fJ,bK,dD,dE⟩
 have aV:=jh _ _ ji
 have mW:=aY fJ
 have mX:=aY bK
 have mY:=aY dD
 have mZ:=aY dE
 have ng:=zr 1 aV
 have ni:=aV.rowCQ (i:=3) rfl
 have nk:=zr 5 aV
 have nu:=zr 7 aV
 have ny:=zr 8 aV
 have nz:=zr 12 aV
 refine An rfl (H7 ?_)
 have iB:=aV.px [] [20] []
 refine H8 (Mz rfl (fw (.bool (decide (¬ (bu=0)))) (Iu (e:= !(decide (bu=0))) yk decide_not.symm) (nt ?_)))
 by_cases dW:bu=0
 refine jF (dF (Lp dW)) (sk (H7 ?_))
 refine mJ 20 [20] (Ik Iw) iB ?_
 intro ou fK
 refine qv 0 rfl rfl (qv 1 rfl rfl (qp aG 0 2 rfl (qp aG 1 3 rfl (qp aG 2 4 rfl (ql 5 rfl 0 Tryz.isAgg44 rfl rfl rfl (qk (vI 0) 6 rfl (qk (.bool false) 7 rfl (qv 8 rfl rfl (Ii (v:= .agg (iV U dR bY dS cz dU cB).toArray) (rs:= [[]]) 9 rfl rfl rfl rfl e9 (λ _ ⟨_,H9⟩=>Il rfl (Io (cs:=(iV U dR bY dS cz dU cB)) E6 E7 ((H9.cls (i:=14) rfl).lit (k:=0) (m:=17) rfl))) (Ii (v:=vP g0 0) (rs:= [[]]) 10 rfl rfl rfl rfl e9 (λ _ _=>Ie rfl) (Ii (v:=vP g0 0) (rs:= [[]]) 11 rfl rfl rfl rfl e9 (λ _ _=>yk) (Ii (v:=vP g0 0) (rs:= [[]]) 12 rfl rfl rfl rfl e9 (λ _ _=>yk) (Ii (v:= .agg (gV a.aa.bC a.aa.aQ a.aa.bq a.aa.aJ a.aa.aD I a.aa.ah.ls.length r cZ f.aa.ak.ls.length bz df f.aa.af.ls.length bB f.aa.bi a.aa.aI a.aa.aH.aN a.aa.aH.aT a.aa.aC.aD a.aa.aC.bv a.aa.aC.di a.aa.aC.aA.aN a.aa.aC.aA.aT).toArray) (rs:= [[]]) 13 rfl rfl rfl rfl e9 (λ _ ⟨_,H9⟩=>Il rfl (Io (cs:=(gV a.aa.bC a.aa.aQ a.aa.bq a.aa.aJ a.aa.aD I a.aa.ah.ls.length r cZ f.aa.ak.ls.length bz df f.aa.af.ls.length bB f.aa.bi a.aa.aI a.aa.aH.aN a.aa.aH.aT a.aa.aC.aD a.aa.aC.bv a.aa.aC.di a.aa.aC.aA.aN a.aa.aC.aA.aT)) E6 E7 ((H9.cls (i:=4) rfl).lit (k:=0) (m:=17) rfl))) ?_)))))))))))))
 obtain⟨aH,fM⟩:∃ q,nV U (bA.mk a.aa.bC a.aa.aQ a.aa.bq a.aa.aJ a.aa.aD (F2 a.aa.ah.ls) (F2 f.aa.ak.ls) (F2 f.aa.af.ls) f.aa.bi a.aa.aI a.aa.aH a.aa.aC)=q:=⟨_,rfl⟩
 obtain⟨ow,jk,jl,jo,aA⟩:=Ia fK
 refine Ja 14 rfl rfl rfl rfl e9 (IB Tryz.call23 rfl (sM _ _ U dR U.ah.ls.length bY dS U.ak.ls.length cz kr dU U.af.ls.length cB (bA.mk a.aa.bC a.aa.aQ a.aa.bq a.aa.aJ a.aa.aD (F2 a.aa.ah.ls) (F2 f.aa.ak.ls) (F2 f.aa.af.ls) f.aa.bi a.aa.aI a.aa.aH a.aa.aC) I a.aa.ah.ls.length r cZ f.aa.ak.ls.length bz fI df f.aa.af.ls.length bB aH jk rfl (aA _ 15 _ rfl bP) e8 fF rfl (aA _ 16 _ rfl bP) e8 (λ x9 h9=>⟨aA _ 17 _ rfl (bL (O3.2 ⟨x9,h9,b3⟩) bP),dC (φ:=λ _=>_) fK (i:=17) rfl (bL (O3.2 ⟨x9,h9,b3⟩) dK)⟩) rfl (aA _ 18 _ rfl bP) e8 rfl (jl _ aN) e8 bK rfl (aA _ 5 _ rfl bP) e8 (λ x9 h9=>⟨aA _ 6 _ rfl (bL (O3.2 ⟨x9,h9,b3⟩) bP),dC (φ:=λ _=>_) fK (i:=6) rfl (bL (O3.2 ⟨x9,h9,b3⟩) dK)⟩) rfl (aA _ 7 _ rfl bP) e8 fM) ?_)
 rintro _ oz ⟨rfl,jq⟩
 have iC:=jo _ _ jq
 refine⟨.inr ⟨_,iC⟩, ?_⟩
 refine Ii (v:= .bool (!aH)) (rs:= [[]]) 15 rfl rfl rfl rfl e9 (λ _ _=>yk) (qt (v:= .bool (!aH)) 16 rfl (λ _ _=>H6 rfl rfl rfl) (qp aG 0 17 rfl (qp aG 1 18 rfl (qp aG 3 19 rfl ?_))))
 refine qe 20 rfl (Do.store (vs:= [.bool (!aH)]) (o:=3) iC rfl rfl U3 rfl rfl rfl rfl ?_)
 intro oC kC
 refine⟨.inl e9, ?_⟩
 refine qn (Ib (H7 ?_))
 have iD:=kC.px [] [14,15,16,17,18] []
 refine H8 (Mz rfl (Kz (vP aG 0) (Kz (vP aG 1) (La ([.slice cK bv.av.bD.ls.length cO, .slice none 0 0, .bool (!aH)]) iD 0 U4 U5 ?_))))
 have kD:=iD.pf [14]
 refine cu [.slice cK bv.av.bD.ls.length cO, .slice none 0 0, .bool (!aH)] 0 kD U5 ?_
 intro kE iE
 refine An rfl (rt (Ir (gq (vs:= [.agg #[.slice cK bv.av.bD.ls.length cO, .slice none 0 0, .bool (!aH)],vI 0]) rfl (bT.cell rfl (Io (cs:= [.slice cK bv.av.bD.ls.length cO, .slice none 0 0, .bool (!aH)]) U4 U5 ((iE.cls (i:=0) rfl).lit (k:=0) (m:=3) rfl)) (bT.tmp rfl bT.nil)) (Lh rfl)) ?_))
 have kF:Own w D kE (row none 0 0 (q2 aX.cells []) 68 6::_):=iE.free (bZ 68 6)
 have kH:=kF.px [3,4] [1,2,5] []
 obtain⟨rfl,rfl,rfl,rfl⟩:=gH (zj hr (show _=(dH.mk (F2 bv.av.bD.ls) (F2 []) (!aH),0,ax.mk (bA.mk a.aa.bC a.aa.aQ a.aa.bq a.aa.aJ a.aa.aD (F2 a.aa.ah.ls) (F2 f.aa.ak.ls) (F2 f.aa.af.ls) f.aa.bi a.aa.aI a.aa.aH a.aa.aC) (F2 f.ag.ls),fH) from et (iN aZ) (et (ip bU) (et (ae aI) (et (ip s) (et (ip bX) (et (ae dx) (et (ae dA) (et (ip dW) (ae fM))))))))))
 exact⟨cK,cO,none,0,kz,cZ,bz,fI,df,bB,ig,ik,il,iq,iw,iA,rfl,kH,fJ,bK,dD,dE⟩
 refine jT (dT dW) (sr (Kz (.agg #[.slice none 0 0, .slice none 0 0, .bool false]) (Mz rfl ?_)))
 have kK:=iB.pf [19]
 refine cu [.slice none 0 0, .slice none 0 0, .bool false] 0 kK U5 ?_
 intro fO iF
 refine An rfl (rt (tR (Ir (gq (vs:= [.agg #[.slice none 0 0, .slice none 0 0, .bool false],vI bu]) rfl (bT.cell rfl (Io (cs:= [.slice none 0 0, .slice none 0 0, .bool false]) U4 U5 ((iF.cls (i:=0) rfl).lit (k:=0) (m:=3) rfl)) (bT.tmp rfl bT.nil)) (Lh rfl)) ?_)))
 have kL:Own w D fO (sepL (q2 IR [])::_):=iF.sepNil
 have kM:Own w D fO (row none 0 0 (q2 bV.cells []) 47 21::_):=kL.free (bZ 47 21)
 have kN:Own w D fO (row none 0 0 (q2 aX.cells []) 68 6::_):=kM.free (bZ 68 6)
 have kP:=kN.px [1,2] [3,4,5,6,7,18,19,20,21,22] []
 obtain⟨rfl,rfl,rfl,rfl⟩:=gH (zj hr (show _=(dH.mk (F2 []) (F2 []) false,bu,ax.mk (bA.mk a.aa.bC a.aa.aQ a.aa.bq a.aa.aJ a.aa.aD (F2 a.aa.ah.ls) (F2 f.aa.ak.ls) (F2 f.aa.af.ls) f.aa.bi a.aa.aI a.aa.aH a.aa.aC) (F2 f.ag.ls),fH) from et (iN aZ) (et (ip bU) (et (ae aI) (et (ip s) (et (ip bX) (et (ae dx) (et (ae dA) (iN dW)))))))))
 exact⟨none,0,none,0, [],cZ,bz,fI,df,bB,ig,ik,il,iq,iw,iA,rfl,kP,rfl,bK,dD,dE⟩
 refine jT (dT bX) (sr (Kz (.agg #[.slice none 0 0, .slice none 0 0, .bool false]) ?_))
 refine cu [.slice none 0 0, .slice none 0 0, .bool false] 0 dQ U5 ?_
 intro fP iG
 refine An rfl (rt (tR (Ir (gq (vs:= [.agg #[.slice none 0 0, .slice none 0 0, .bool false],vI 180]) rfl (bT.cell rfl (Io (cs:= [.slice none 0 0, .slice none 0 0, .bool false]) U4 U5 ((iG.cls (i:=0) rfl).lit (k:=0) (m:=3) rfl)) (bT.tmp rfl bT.nil)) (Lh rfl)) ?_)))
 have kQ:Own w D fP (sepL (q2 IR [])::_):=iG.sepNil
 have kR:Own w D fP (row none 0 0 (q2 bV.cells []) 47 21::_):=kQ.free (bZ 47 21)
 have kS:Own w D fP (row none 0 0 (q2 aX.cells []) 68 6::_):=kR.free (bZ 68 6)
 have kT:=kS.px [1,2] [3,4] []
 obtain⟨rfl,rfl,rfl,rfl⟩:=gH (zj hr (show _=(dH.mk (F2 []) (F2 []) false,180,a,y) from et (iN aZ) (et (ip bU) (et (ae aI) (et (ip s) (iN bX)))))).symm
 exact⟨none,0,none,0, [],E,t,J,F,u,R,S,N,g,j,d,rfl,kT,rfl,X,aa,M⟩
 refine Ih (rs:= []) 8 rfl rfl rfl (dT s) e9 (Ih (rs:= []) 9 rfl rfl rfl (dT s) e9 (Ih (rs:= []) 10 rfl rfl rfl (dT s) e9 (Ih (rs:= []) 11 rfl rfl rfl (dT s) e9 (Ih (rs:= []) 12 rfl rfl rfl (dT s) e9 (Ih (rs:= []) 13 rfl rfl rfl (dT s) e9 (Ih (rs:= []) 14 rfl rfl rfl (dT s) e9 (Ih (rs:= []) 15 rfl rfl rfl (dT s) e9 (qt (v:= .bool true) 16 rfl (λ _ _=>Ic rfl (dT s) rfl) (qn (Ib (jt (sr (Kz (.agg #[.slice none 0 0, .slice none 0 0, .bool false]) ?_)))))))))))))
 refine cu [.slice none 0 0, .slice none 0 0, .bool false] 0 dQ U5 ?_
 intro fQ iH
 refine An rfl (rt (tR (Ir (gq (vs:= [.agg #[.slice none 0 0, .slice none 0 0, .bool false],vI 180]) rfl (bT.cell rfl (Io (cs:= [.slice none 0 0, .slice none 0 0, .bool false]) U4 U5 ((iH.cls (i:=0) rfl).lit (k:=0) (m:=3) rfl)) (bT.tmp rfl bT.nil)) (Lh rfl)) ?_)))
 have kU:Own w D fQ (sepL (q2 IR [])::_):=iH.sepNil
 have kV:Own w D fQ (row none 0 0 (q2 bV.cells []) 47 21::_):=kU.free (bZ 47 21)
 have kW:Own w D fQ (row none 0 0 (q2 aX.cells []) 68 6::_):=kV.free (bZ 68 6)
 have kX:=kW.px [1,2] [3,4] []
 obtain⟨rfl,rfl,rfl,rfl⟩:=gH (zj hr (show _=(dH.mk (F2 []) (F2 []) false,180,a,y) from et (iN aZ) (et (ip bU) (et (ae aI) (iN s))))).symm
 exact⟨none,0,none,0, [],E,t,J,F,u,R,S,N,g,j,d,rfl,kX,rfl,X,aa,M⟩
 refine JN (Good':=λ W=> ∃ L',Own w D W ([blk iM [.slice none 0 0, .slice none 0 0, .bool false] 52,blk dX (lX b O z P B Q C) 47,blk g0 (kB a I a.aa.ah.ls.length r E a.aa.ak.ls.length t F a.aa.af.ls.length u a.aa.bi Y R a.ag.ls.length S Z) 80,row E a.aa.ak.ls.length t (q2 bf.cells J) 60 2,sepL (q2 IK J),row F a.aa.af.ls.length u (q2 (eN .u64) a.aa.af.ls) 32 1,row R a.ag.ls.length S (q2 aP.cells N) 99 4,sepL (q2 IA N),blk Y [.slice V G.xM.ls.length L] 27,blk Z [.slice g y.ai.ls.length j] 114,row g y.ai.ls.length j (q2 ay.cells d) 164 6,sepL (q2 Iy d),pV dY kI vF (gU (gU (gU (gU (gU (gU [] 3 (some 39)) 5 (some 40)) 8 (some 41)) 10 (some 42)) 11 (some 43)) 12 (some 44))]++L')) (λ _ ⟨L',h⟩=>⟨[pV dY kI vF (gU (gU (gU (gU (gU (gU [] 3 (some 39)) 5 (some 40)) 8 (some 41)) 10 (some 42)) 11 (some 43)) 12 (some 44))]++L',h⟩) ⟨_,dn⟩ (qt (v:= .tuple #[.nilFunc, .bool false]) 3 rfl (λ _ ⟨_,H9⟩=>Jz (k:=b.aB) (d0:=(none:Option Nat)) (o:=(none:Option (Option Nat))) (i:=12) H9 rfl (qN v6) U2 (λ _=>by kernel_rfl) rfl rfl (Fz e8 e8 e8 e8 e8 e8)) (qv 4 rfl rfl (qk .nilFunc 5 rfl (qk (.bool false) 6 rfl (qa 7 rfl rfl (qa 8 rfl rfl (qn (Ib (H7 (H7 ?_))))))))))
 have kY:=dn.px [] [12] []
 refine mJ 12 [] (Ik (Ik Iw)) kY ?_
 intro oD kZ
 refine qv 0 rfl rfl (qk (.bool true) 1 rfl (qv 2 rfl rfl (Ih (rs:= []) 3 rfl rfl rfl rfl e9 (Ih (rs:= []) 4 rfl rfl rfl rfl e9 (Ih (rs:= []) 5 rfl rfl rfl rfl e9 (qt (v:= .bool true) 6 rfl (λ _ _=>Ic rfl rfl rfl) (qv 7 rfl rfl (Ih (rs:= []) 8 rfl rfl rfl rfl e9 (Ih (rs:= []) 9 rfl rfl rfl rfl e9 (Ih (rs:= []) 10 rfl rfl rfl rfl e9 (Ih (rs:= []) 11 rfl rfl rfl rfl e9 (Ih (rs:= []) 12 rfl rfl rfl rfl e9 (Ih (rs:= []) 13 rfl rfl rfl rfl e9 (Ih (rs:= []) 14 rfl rfl rfl rfl e9 (Ih (rs:= []) 15 rfl rfl rfl rfl e9 (qt (v:= .bool true) 16 rfl (λ _ _=>Ic rfl rfl rfl) (qn (Ib (jt (sr (Kz (.agg #[.slice none 0 0, .slice none 0 0, .bool false]) ?_)))))))))))))))))))))
 refine cu [.slice none 0 0, .slice none 0 0, .bool false] 0 kZ U5 ?_
 intro fT iI
 refine An rfl (rt (tR (Ir (gq (vs:= [.agg #[.slice none 0 0, .slice none 0 0, .bool false],vI 180]) rfl (bT.cell rfl (Io (cs:= [.slice none 0 0, .slice none 0 0, .bool false]) U4 U5 ((iI.cls (i:=0) rfl).lit (k:=0) (m:=3) rfl)) (bT.tmp rfl bT.nil)) (Lh rfl)) ?_)))
 have lc:Own w D fT (sepL (q2 IR [])::_):=iI.sepNil
 have lg:Own w D fT (row none 0 0 (q2 bV.cells []) 47 21::_):=lc.free (bZ 47 21)
 have lh:Own w D fT (row none 0 0 (q2 aX.cells []) 68 6::_):=lg.free (bZ 68 6)
 have ll:=lh.px [1,2] [3,4] []
 obtain⟨rfl,rfl,rfl,rfl⟩:=gH (zj hr (show _=(dH.mk (F2 []) (F2 []) false,180,a,y) from et (iN aZ) (iN bU))).symm
 exact⟨none,0,none,0, [],E,t,J,F,u,R,S,N,g,j,d,rfl,ll,rfl,X,aa,M⟩
end
open Int renaming toNat->G0,toNat_natCast->M7
open List renaming Pairwise->U6,drop->s0,drop_left'->U7,eq_nil_of_length_eq_zero->o3,getElem?_eq_getElem->p5,getElem?_eq_some_iff->p4,length->q7,length_append->o0,length_cons->r5,mem_append->S1,mem_append_right->u6,mem_filter->P0,mem_iff_getElem?->M6,pairwise_append->O5,take->t6
open Nat renaming le_succ->T1
def zO (l:List Nat):Prop:=l.Pairwise (· < ·)
theorem Bq {l:List Nat} (hs:zO l) {i j a b:Nat} (ha:l[i]? =some a) (hb:l[j]? =some b) (h:i < j):a < b:=by
  obtain⟨c,rfl⟩:=p4.1 ha
  obtain⟨d,rfl⟩:=p4.1 hb
  exact List.pairwise_iff_getElem.1 hs i j c d h
theorem FB (a b:Nat):lF a b=decide (a < b):=by
  unfold lF iX
  simp only [bK]
  rw [if_neg f5]
  exact decide_eq_decide.2 e8
theorem yc {m:List Nat} (hs:zO m) (k:Nat):∀ (f i j:Nat),j - i < f->i<=j->j<=m.length->(∀ q p,m[q]? =some p->q < i->p < k)->(∀ q p,m[q]? =some p->j<=q->¬ p < k)->
    ∃ r,fe m k f i j=r/\r<=m.length/\(∀ q p,m[q]? =some p->q < r->p < k)/\(∀ q p,m[q]? =some p->r<=q->¬ p < k)
  | 0,i,j,h,_,_,_,_=>e8
  | f+1,i,j,h,hij,hj,hl,hg=>by
    unfold fe
    by_cases b:(i:Int) < (j:Int)
    . obtain⟨x,hx⟩:∃ x,m[(i+j) / 2]? =some x:=⟨_,p5 e8⟩
      rw [if_pos b,bK,bK,bu hx,FB]
      by_cases a:x < k
      . rw [if_pos (decide_eq_true a)]
        refine yc hs k f _ j e8 e8 hj (λ q p hq hlt=> ?_) hg
        rcases Nat.lt_or_ge q ((i+j) / 2) with e | e
        . exact Nat.lt_trans (Bq hs hq hx e) a
        . have:q=(i+j) / 2:=e8
          subst this
          rw [hx] at hq; cases hq
          exact a
      . rw [if_neg (by rw [decide_eq_false a]; decide)]
        refine yc hs k f i _ e8 e8 e8 hl (λ q p hq hge hlt=> ?_)
        rcases Nat.lt_or_ge ((i+j) / 2) q with e | e
        . exact a (Nat.lt_trans (Bq hs hx hq e) hlt)
        . have:q=(i+j) / 2:=e8
          subst this
          rw [hx] at hq; cases hq
          exact a hlt
    . rw [if_neg b]
      have:i=j:=e8
      subst this
      exact⟨i,rfl,hj,hl,hg⟩
theorem Gf {m:List Nat} (hs:zO m) (k:Nat):∃ a b f,m=a++b/\(∀ x ∈ a,x < k)/\(∀ x ∈ b,k<=x)/\eu m k=((a.length:Int),f)/\(f=true->k ∈ m)/\(f=false->k ∉ m):=by
  obtain⟨r,l,t,c,g⟩:=yc hs k (G0 ((m.length:Int) - 0)+1) 0 m.length e8 e8 (Nat.le_refl _) (λ q p _ h=>e8) (λ q p hq h=>by have:=(p4.1 hq).1; omega)
  have hlen:(t6 r m).length=r:=by rw [List.length_take]; omega
  have ha:∀ x ∈ t6 r m,x < k:=λ p hp=>by
    obtain⟨j,hj⟩:=M6.1 hp
    have hjr:j < r:=by have:=(p4.1 hj).1; omega
    rw [List.getElem?_take,if_pos hjr] at hj
    exact c j p hj hjr
  have hb:∀ x ∈ s0 r m,k<=x:=λ p hp=>by
    obtain⟨j,hj⟩:=M6.1 hp
    rw [List.getElem?_drop] at hj
    exact Nat.le_of_not_lt (g _ p hj e8)
  have key:∃ f,eu m k=((r:Int),f)/\(f=true->k ∈ m)/\(f=false->k ∉ m):=by
    unfold eu kV
    simp only [bK,l]
    by_cases i:(r:Int) < ((q7 m:Nat):Int)
    . obtain⟨x,hx⟩:∃ x,m[r]? =some x:=⟨_,p5 e8⟩
      rw [if_pos i,bu hx]
      by_cases d:(x:Int)=(k:Int)
      . rw [if_pos d]
        have:x=k:=e8
        subst this
        exact⟨true,rfl,λ _=>List.mem_of_getElem? hx,λ h=>Bool.noConfusion h⟩
      . rw [if_neg d]
        simp only [Bool.false_eq_true,if_false]
        refine⟨false,rfl,λ h=>Bool.noConfusion h,λ _ hk=> ?_⟩
        obtain⟨j,hj⟩:=M6.1 hk
        rcases Nat.lt_trichotomy j r with e | e | e
        . have:=c j k hj e; omega
        . subst e; rw [hx] at hj; cases hj; exact d rfl
        . have:=Bq hs hx hj e
          have:=g r x hx (Nat.le_refl _)
          omega
    . rw [if_neg i]
      refine⟨false,rfl,λ h=>Bool.noConfusion h,λ _ hk=> ?_⟩
      obtain⟨j,hj⟩:=M6.1 hk
      have n:=(p4.1 hj).1
      have:=c j k hj e8
      omega
  obtain⟨f,o,k2,s⟩:=key
  exact⟨t6 r m,s0 r m,f,(List.take_append_drop r m).symm,ha,hb,by rw [hlen]; exact o,k2,s⟩
structure Rs (ws:List bB) (hs:List dA) (fin:List Nat) (rs:List aM):Prop where
  tk:Tk ws hs rs
  gt:Gt ws
  fu:zO fin
theorem Gg:Tk [] [] []:=⟨U6.nil,U6.nil,λ _ h=>absurd h v1,Lm _,λ _ h=>absurd h v1,λ _ h=>absurd h v1,DV,λ _ h=>absurd h v1⟩
theorem eD {p r:bA} (h:iU p=r) (a:p.ak.ls= []:=by rfl) (b:p.af.ls= []:=by rfl):Rs [] r.ak.ls r.af.ls []:=by
  have e:p=r:=h
  subst e
  rw [a,b]
  exact⟨Gg,λ _ h=>absurd h v1,U6.nil⟩
def Dn (m:ax) (n:Nat):Prop:=(n < m.aa.bi\/n ∈ m.aa.af.ls)/\¬ Tx m.ag.ls m.aa.ak.ls n
theorem yU {m r:ax} {low:Nat} (hs:zO m.aa.af.ls) (h:jD m low=r):
    r.ag=m.ag/\r.aa= { m.aa with af:=r.aa.af,bi:=r.aa.bi } /\zO r.aa.af.ls/\q7 r.aa.af.ls<=q7 m.aa.af.ls/\m.aa.bi<=r.aa.bi/\
      (∀ n ∈ m.aa.af.ls,n < r.aa.bi\/n ∈ r.aa.af.ls):=by
  obtain⟨a,b,f,d,ha,hb,hk,_,_⟩:=Gf hs (max m.aa.bi low)
  unfold jD kU at h
  rw [hk] at h
  simp only [bK] at h
  have g:(if(0:Int)=(a.length:Int) then m.aa.af.ls else t6 (G0 0) m.aa.af.ls++s0 (G0 (a.length:Int)) m.aa.af.ls)=b:=by
    rw [d]
    by_cases c:(0:Int)=(a.length:Int)
    . rw [if_pos c]
      have:a= []:=o3 e8
      rw [this]; rfl
    . rw [if_neg c,M7,U7 rfl]; rfl
  rw [g] at h
  subst h
  refine⟨rfl,rfl, ?_, ?_,Nat.le_max_left _ _,λ n hn=> ?_⟩
  . rw [d] at hs; exact(O5.1 hs).2.1
  . show q7 b<=_; rw [d,o0]; omega
  . rw [d] at hn
    rcases S1.1 hn with e | e
    . exact .inl (ha n e)
    . exact .inr e
theorem BJ {m r:ax} {k:Nat} (hs:zO m.aa.af.ls) (h:gQ m k=r):
    zO r.aa.af.ls/\r.aa.bi=m.aa.bi/\(∀ n ∈ m.aa.af.ls,n ∈ r.aa.af.ls)/\(k < m.aa.bi\/k ∈ r.aa.af.ls)/\q7 r.aa.af.ls<=q7 m.aa.af.ls+1:=by
  unfold gQ at h
  by_cases c:(k:Int) < (m.aa.bi:Int)
  . rw [if_pos c] at h
    subst h
    exact⟨hs,rfl,λ _ h=>h, .inl e8,T1 _⟩
  . rw [if_neg c] at h
    obtain⟨a,b,f,d,ha,hb,hk,j,l⟩:=Gf hs k
    rw [hk] at h
    simp only [bK] at h
    cases f with
    | true=>
      rw [if_pos rfl] at h
      subst h
      exact⟨hs,rfl,λ _ h=>h, .inr (j rfl),T1 _⟩
    | false=>
      rw [if_neg f5] at h
      have hn:=l rfl
      have o:jH m.aa.af.ls (a.length:Int) k=a++k::b:=by
        unfold jH
        rw [M7,d]
        by_cases g:(a.length:Int)=(((a++b).length:Nat):Int)
        . rw [if_pos g]
          have:b= []:=o3 (by rw [o0] at g; omega)
          rw [this]; simp
        . rw [if_neg g,List.take_left' rfl,U7 rfl]
      rw [o] at h
      subst h
      have i:∀ x ∈ b,k < x:=λ x hx=>Nat.lt_of_le_of_ne (hb x hx) λ e=>hn (by rw [d,e]; exact u6 _ hx)
      rw [d] at hs
      obtain⟨p,q,s⟩:=O5.1 hs
      refine⟨O5.2 ⟨p,List.pairwise_cons.2 ⟨i,q⟩,λ x hx y hy=> ?_⟩,rfl,λ n hn=> ?_, .inr (u6 _ b3), ?_⟩
      . rcases List.mem_cons.1 hy with e | e
        . rw [e]; exact ha x hx
        . exact s x hx y e
      . rw [d] at hn
        rcases S1.1 hn with e | e
        . exact List.mem_append_left _ e
        . exact u6 _ (.tail _ e)
      . show q7 (a++k::b)<=_
        rw [d]; simp only [o0,r5]; omega
theorem zD {p:bI} {m:ax} {s:StoreT} {tb:aW} {e:Int} {t:bI} {m':ax} {tb':aW} (h:ed p m s tb=(e,t,m',tb')) (hk:Tk m.ag.ls m.aa.ak.ls tb.ai.ls) (hg:Gt m.ag.ls) (hli:Li p.bE.ls tb.ai.ls):Gc p m t m' tb':=Eb hk hg hli h
structure Kp (m m':ax) (tb':aW):Prop where
  rs:Rs m'.ag.ls m'.aa.ak.ls m'.aa.af.ls tb'.ai.ls
  ow:m'.aa.ah=m.aa.ah
  fl:q7 m'.aa.af.ls<=q7 m.aa.af.ls+1
  dn:∀ n,Dn m n->Dn m' n
theorem Kp.same {m:ax} {tb:aW} (h:Rs m.ag.ls m.aa.ak.ls m.aa.af.ls tb.ai.ls):Kp m m tb:=⟨h,rfl,T1 _,λ _ h=>h⟩
theorem Ee {p t:bI} {x:dL} {m m':ax} {s:StoreT} {tb tb':aW} {e:Int} (hR:Rs m.ag.ls m.aa.ak.ls m.aa.af.ls tb.ai.ls) (hf:q7 m.aa.af.ls<=999) (ho:q7 x.aK.ls<=24) (hl:p.bE.ls= [])
    (h:kJ p x m s tb=(e,t,m',tb')):Kp m m' tb'/\t.av.aL=p.av.aL:=by
  unfold kJ at h
  rw [bK] at h
  generalize hr:jD m x.bi=r at h
  obtain⟨O,P,k,Q,R,G⟩:=yU hR.fu hr
  obtain⟨a,b,f,S,ha,hb,hk,T,H⟩:=Gf k x.aU
  rw [hk] at h
  simp only [bK] at h
  generalize c:ax.mk (bA.mk m.aa.bC m.aa.aQ m.aa.bq m.aa.aJ m.aa.aD (F2 m.aa.ah.ls) (F2 m.aa.ak.ls) (F2 r.aa.af.ls) r.aa.bi m.aa.aI m.aa.aH m.aa.aC) (F2 m.ag.ls)=m1 at h
  have q:∀ n,Dn m n->n < r.aa.bi\/n ∈ r.aa.af.ls:=λ n hn=>by
    rcases hn.1 with e | e
    . exact .inl e8
    . exact G n e
  have d:Kp m m1 tb:=by
    subst c
    exact⟨⟨hR.tk,hR.gt,k⟩,rfl,by show q7 r.aa.af.ls<=_; omega,λ n hn=>⟨q n hn,hn.2⟩⟩
  have u:m1.ag.ls=m.ag.ls:=by rw [<- c]
  have A:m1.aa.ak.ls=m.aa.ak.ls:=by rw [<- c]
  have I:m1.aa.af.ls=r.aa.af.ls:=by rw [<- c]
  by_cases y:f=true
  . rw [if_pos y] at h
    obtain⟨_,rfl,rfl,rfl⟩:=gH h
    exact⟨d,rfl⟩
  rw [if_neg y] at h
  have hnf:x.aU ∉ r.aa.af.ls:=H (Bool.eq_false_iff.2 y)
  by_cases B:(x.aU:Int) < (r.aa.bi:Int)
  . rw [if_pos B] at h
    obtain⟨_,rfl,rfl,rfl⟩:=gH h
    exact⟨d,rfl⟩
  rw [if_neg B] at h
  cases hh:d9 m1 x.aU with
  | mk j bh=>
    rw [hh] at h
    cases bh with
    | true=>
      rw [if_pos rfl] at h
      generalize hv:ib _ _ _ _=v at h
      obtain⟨g,U⟩:=v
      obtain⟨_,rfl,rfl,rfl⟩:=gH h
      exact⟨d,rfl⟩
    | false=>
      simp only [Bool.false_eq_true,if_false] at h
      cases hw:bX m1 x.aU with
      | mk i bw=>
        rw [hw] at h
        cases bw with
        | true=>
          rw [if_pos rfl] at h
          obtain⟨_,rfl,rfl,rfl⟩:=gH h
          exact⟨d,rfl⟩
        | false=>
          simp only [Bool.false_eq_true,if_false] at h
          cases hrf:jM m1 x with
          | true=>
            rw [hrf,if_pos rfl] at h
            obtain⟨_,rfl,rfl,rfl⟩:=gH h
            exact⟨d,rfl⟩
          | false=>
            rw [hrf] at h
            simp only [Bool.false_eq_true,if_false] at h
            cases hlk:oq x.aK.ls with
            | mk l J=>
              rw [hlk] at h
              by_cases C:J=0
              . rw [if_pos C] at h
                have z:=(vG hrf rfl (by rw [A]; have:=hR.tk.n; omega) (by rw [u]; have:=hR.tk.n; omega) (by rw [I]; omega)).1
                have hll:=wW hlk
                obtain⟨D,E⟩:=Bp (o:=x.aK.ls) (l:=l) d.rs.tk d.rs.gt hh rfl hw rfl z ho e8
                rw [u,A] at D
                rw [u] at E
                have txn:∀ n,Tx (t6 (G0 i) m.ag.ls++((bB.mk x.aU (F2 x.aK.ls) (F2 l) 0)::s0 (G0 i) m.ag.ls)) m.aa.ak.ls n->n=x.aU\/Tx m.ag.ls m.aa.ak.ls n:=λ n hn=>by
                  rcases hn with ⟨w,hw,e⟩ | hn
                  . rcases nz.1 hw with g | g
                    . exact .inl (by rw [<- e,g])
                    . exact .inr (.inl ⟨w,g,e⟩)
                  . exact .inr (.inr hn)
                have dead:∀ n,Dn m n->¬ (n=x.aU\/Tx m.ag.ls m.aa.ak.ls n):=λ n hn hc=>by
                  rcases hc with e | e
                  . rcases q n hn with g | g
                    . omega
                    . exact hnf (by rw [<- e]; exact g)
                  . exact hn.2 e
                cases hg:fH p x.aU (ax.mk (bA.mk m.aa.bC m.aa.aQ m.aa.bq m.aa.aJ m.aa.aD (F2 m.aa.ah.ls) (F2 m.aa.ak.ls) (F2 r.aa.af.ls) r.aa.bi m.aa.aI m.aa.aH m.aa.aC) (F2 (t6 (G0 i) m.ag.ls++((bB.mk x.aU (F2 x.aK.ls) (F2 l) 0)::s0 (G0 i) m.ag.ls)))) s tb with
                | mk K L=>
                  obtain⟨V,W,M⟩:=L
                  rw [hg] at h
                  have hG:=(rQ D (by rw [hl]; exact yQ _) (by rw [hl]; exact λ _ h=>absurd h v1) E hg).1
                  by_cases F:K=0
                  . rw [if_pos F] at h
                    simp only at h
                    generalize hlo:ed _ _ _ _=v at h
                    obtain⟨X,Y,Z,N⟩:=v
                    have hL:=zD hlo hG.tk hG.gt hG.li
                    obtain⟨_,rfl,rfl,rfl⟩:=gH h
                    exact⟨⟨⟨hL.tk,hL.gt,k⟩,rfl,by show q7 r.aa.af.ls<=_; omega,λ n hn=>⟨q n hn,λ hc=>dead n hn (txn n (hG.tx n (hL.tx n hc)))⟩⟩,rfl⟩
                  . rw [if_neg F] at h
                    obtain⟨_,rfl,rfl,rfl⟩:=gH h
                    exact⟨⟨⟨hG.tk,hG.gt,k⟩,rfl,by show q7 r.aa.af.ls<=_; omega,λ n hn=>⟨q n hn,λ hc=>dead n hn (txn n (hG.tx n hc))⟩⟩,rfl⟩
              . rw [if_neg C] at h
                obtain⟨_,rfl,rfl,rfl⟩:=gH h
                exact⟨d,rfl⟩
theorem yf (p:bI):∀ (o w:List aX),q7 (fZ p o w)<=q7 w+q7 o
  | [],w=>Nat.le_add_right _ _
  | x::o,w=>by
    unfold fZ
    rw [bK]
    have a:=yf p o (w++ [x])
    have b:=yf p o w
    simp only [o0,r5,List.length_nil] at *
    by_cases c:pg x=true
    . rw [if_pos c]; omega
    . rw [if_neg c]; omega
theorem FC {p:bI} {o:List aX} {m:ax} {r:bI} (h:jw p o m=r):q7 r.av.aL.ls<=q7 p.av.aL.ls+q7 o:=by
  unfold jw at h
  rw [bK] at h
  subst h
  exact yf p o p.av.aL.ls
theorem EX {m m1 r:ax} {rs:List aM} {k:Nat} {j:Int} {b:Bool} {hs':List dA} (h:Tk m.ag.ls m.aa.ak.ls rs) (hf:d9 m k=(j,b))
    (c:(b=true/\hs'=t6 (G0 j) m.aa.ak.ls++s0 (G0 j+1) m.aa.ak.ls)\/(b=false/\hs'=m.aa.ak.ls)) (hm:m1.ag=m.ag) (hd:dZ m1 k=r):
    ∀ n,Tx r.ag.ls hs' n->n≠k/\Tx m.ag.ls m.aa.ak.ls n:=by
  have hw:r9 m1.ag.ls:=by rw [hm]; exact h.wu
  rw [sw hw] at hd
  subst hd
  rw [hfind] at hf
  have e:hs'=x8 k m.aa.ak.ls:=by
    rcases c with ⟨rfl,e⟩ | ⟨rfl,e⟩
    . rw [e]; exact Ct h.hu hf
    . rw [e]; exact(Cu (hnot h.hu hf)).symm
  rw [e]
  rintro n (⟨w,hw,a⟩ | ⟨z,hz,a⟩)
  . have d:w ∈ qE k m.ag.ls:=by rw [<- hm]; exact hw
    obtain⟨f,g⟩:=P0.1 d
    exact⟨by rw [<- a]; exact of_decide_eq_true g, .inl ⟨w,f,a⟩⟩
  . obtain⟨f,g⟩:=P0.1 hz
    exact⟨by rw [<- a]; exact of_decide_eq_true g, .inr ⟨z,f,a⟩⟩
theorem Cv {p k l t:bI} {x:dL} {m m1 r rf g h m' mr:ax} {s:StoreT} {tb d tb':aW} {e j:Int} {b:Bool} {hs':List dA}
    (hd:dZ m1 x.aU=r) (hfi:gQ g x.aU=rf) (hrl:fo p x.aU mr tb=(l,d)) (hlo:ed k h s d=(e,t,m',tb'))
    (hR:Rs m.ag.ls m.aa.ak.ls m.aa.af.ls tb.ai.ls) (hl:p.bE.ls= []) (hf:d9 m x.aU=(j,b))
    (f:(b=true/\hs'=t6 (G0 j) m.aa.ak.ls++s0 (G0 j+1) m.aa.ak.ls)\/(b=false/\hs'=m.aa.ak.ls))
    (hm:m1.ag=m.ag) (c:g.aa.af.ls=m.aa.af.ls/\g.aa.bi=m.aa.bi) (i:k.bE.ls=l.bE.ls) (a:h.ag.ls=r.ag.ls/\h.aa.ak.ls=hs'):
    Kp m (ax.mk (bA.mk m.aa.bC m.aa.aQ m.aa.bq m.aa.aJ m.aa.aD (F2 m.aa.ah.ls) (F2 m'.aa.ak.ls) (F2 rf.aa.af.ls) m.aa.bi m.aa.aI m.aa.aH m.aa.aC) (F2 m'.ag.ls)) tb'/\
      Dn (ax.mk (bA.mk m.aa.bC m.aa.aQ m.aa.bq m.aa.aJ m.aa.aD (F2 m.aa.ah.ls) (F2 m'.aa.ak.ls) (F2 rf.aa.af.ls) m.aa.bi m.aa.aI m.aa.aH m.aa.aC) (F2 m'.ag.ls)) x.aU:=by
  obtain⟨u,v,w,z⟩:=yS (hs':=hs') hR.tk hR.gt hf f hm hd hl hrl
  have dx:=EX (hs':=hs') hR.tk hf f hm hd
  obtain⟨y,A,o,f4,q⟩:=BJ (by rw [c.1]; exact hR.fu) hfi
  have hL:=zD hlo (by rw [a.1,a.2]; exact u) (by rw [a.1]; exact v) (by rw [i]; exact w)
  have tx:∀ n,Tx m'.ag.ls m'.aa.ak.ls n->n≠x.aU/\Tx m.ag.ls m.aa.ak.ls n:=λ n hn=>by
    have:=hL.tx n hn
    rw [a.1,a.2] at this
    exact dx n this
  rw [c.1] at o q
  rw [c.2] at f4
  refine⟨⟨⟨hL.tk,hL.gt,y⟩,rfl,q,λ n hn=>⟨?_,λ hc=>hn.2 (tx n hc).2⟩⟩,⟨f4,λ hc=>(tx _ hc).1 rfl⟩⟩
  rcases hn.1 with e | e
  . exact .inl e
  . exact .inr (o n e)
theorem BK {p t:bI} {x:dL} {m m':ax} {s:StoreT} {tb tb':aW} {e:Int} (hR:Rs m.ag.ls m.aa.ak.ls m.aa.af.ls tb.ai.ls) (hl:p.bE.ls= []) (hw:p.av.aL.ls= [])
    (h:iY p x m s tb=(e,t,m',tb')):
    Kp m m' tb'/\q7 t.av.aL.ls<=24/\(t.av.aL.ls≠ []->x.ik=true/\Tx m.ag.ls m.aa.ak.ls x.aU/\Dn m' x.aU):=by
  unfold iY at h
  simp only [bK] at h
  cases hf:d9 m x.aU with
  | mk j b=>
    rw [hf] at h
    cases b with
    | true=>
      rw [if_pos rfl] at h
      generalize hwr:(if x.ik=true then _ else p.av.aL.ls)=W at h
      generalize hd:dZ _ _=r at h
      generalize hfi:gQ _ _=rf at h
      generalize hrl:fo _ _ _ _=v at h
      obtain⟨w,l⟩:=v
      generalize hlo:ed _ _ _ _=v at h
      obtain⟨y,A,B,n⟩:=v
      obtain⟨_,rfl,rfl,rfl⟩:=gH h
      obtain⟨o,k2⟩:=Cv hd hfi hrl hlo hR hl hf (.inl ⟨rfl,rfl⟩) rfl ⟨rfl,rfl⟩ rfl ⟨rfl,rfl⟩
      obtain⟨a,z,q,f,hz,ha⟩:∃ a z q,m.aa.ak.ls=a++z::q/\z.aU=x.aU/\List.getD m.aa.ak.ls (G0 j) default=z:=by
        rw [hfind] at hf
        rcases sj hR.tk.hu x.aU with ⟨a,z,q,f,hp,ha,hq,k⟩ | ⟨a,q,f,ha,hq,k⟩
        . rw [k] at hf
          have:j=(a.length:Int):=(congrArg Prod.fst hf).symm
          refine⟨a,z,q,f,hp, ?_⟩
          rw [this,M7,f]
          simp
        . rw [k] at hf; exact Ec (congrArg Prod.snd hf).symm
      have g:z ∈ m.aa.ak.ls:=by rw [f]; exact u6 _ b3
      refine⟨o, ?_,λ hne=>⟨?_, .inr ⟨z,g,hz⟩,k2⟩⟩
      . show q7 W<=24
        rw [<- hwr]
        by_cases c:x.ik=true
        . rw [if_pos c]
          generalize hcm:jw _ _ _=cm
          have u:=FC hcm
          rw [ha] at u
          have k:=hR.tk.ho z g
          have C:q7 p.av.aL.ls=0:=by rw [hw]; rfl
          simp only at u
          omega
        . rw [if_neg c,hw]; decide
      . by_cases c:x.ik=true
        . exact c
        . refine(hne ?_).elim
          show W= []
          rw [<- hwr,if_neg c,hw]
    | false=>
      simp only [Bool.false_eq_true,if_false] at h
      cases hwa:bX m x.aU with
      | mk i bw=>
        rw [hwa] at h
        cases bw with
        | true=>
          rw [if_pos rfl] at h
          generalize hd:dZ _ _=r at h
          generalize hfi:gQ _ _=rf at h
          generalize hrl:fo _ _ _ _=v at h
          obtain⟨w,l⟩:=v
          generalize hlo:ed _ _ _ _=v at h
          obtain⟨y,A,B,n⟩:=v
          obtain⟨_,rfl,rfl,rfl⟩:=gH h
          obtain⟨o,k2⟩:=Cv hd hfi hrl hlo hR hl hf (.inr ⟨rfl,rfl⟩) rfl ⟨rfl,rfl⟩ rfl ⟨rfl,rfl⟩
          have d:p.av.aL.ls= []:=hw
          exact⟨o,by show q7 p.av.aL.ls<=24; rw [hw]; decide,λ hne=>(hne d).elim⟩
        | false=>
          simp only [Bool.false_eq_true,if_false] at h
          obtain⟨_,rfl,rfl,rfl⟩:=gH h
          have d:p.av.aL.ls= []:=hw
          exact⟨Kp.same hR,by show q7 p.av.aL.ls<=24; rw [hw]; decide,λ hne=>(hne d).elim⟩
theorem FD {p t:bI} {x:dL} {m m':ax} {s:StoreT} {tb tb':aW} {e:Int} (hR:Rs m.ag.ls m.aa.ak.ls m.aa.af.ls tb.ai.ls) (h:iY p x m s tb=(e,t,m',tb')):m'.aa.bi=m.aa.bi:=by
  unfold iY at h
  simp only [bK] at h
  cases hf:d9 m x.aU with
  | mk j b=>
    rw [hf] at h
    cases b with
    | true=>
      rw [if_pos rfl] at h
      obtain⟨_,rfl,rfl,rfl⟩:=gH h
      rfl
    | false=>
      simp only [Bool.false_eq_true,if_false] at h
      by_cases c:(bX m x.aU).2=true
      . rw [if_pos c] at h
        obtain⟨_,rfl,rfl,rfl⟩:=gH h
        rfl
      . rw [if_neg c] at h
        obtain⟨_,rfl,rfl,rfl⟩:=gH h
        rfl
theorem zP {m m':ax} {x:dL} {s:StoreT} {tb tb':aW} {d:dH} {e:Int} (hR:Rs m.ag.ls m.aa.ak.ls m.aa.af.ls tb.ai.ls) (hf:q7 m.aa.af.ls<=999)
    (h:dN m x s tb=(d,e,m',tb')):
    Kp m m' tb'/\q7 d.aL.ls<=24/\(d.aL.ls≠ []->x.aB=5/\x.ik=true/\Tx m.ag.ls m.aa.ak.ls x.aU/\Dn m' x.aU):=by
  unfold dN at h
  simp only [bK] at h
  have no:(dH.mk (F2 []) (F2 []) false,(180:Int),m,tb)=(d,e,m',tb')->Kp m m' tb'/\q7 d.aL.ls<=24/\(d.aL.ls≠ []->x.aB=5/\x.ik=true/\Tx m.ag.ls m.aa.ak.ls x.aU/\Dn m' x.aU):=λ h=>by
    obtain⟨rfl,rfl,rfl,rfl⟩:=gH h
    exact⟨Kp.same hR,f5,λ h=>absurd rfl h⟩
  by_cases k:x.aB=5
  . rw [if_pos k] at h
    by_cases g:kG x=0
    . rw [if_pos g] at h
      by_cases j:x.jU=m.aa.bC
      . rw [if_pos j] at h
        generalize hdc:iY _ _ _ _ _=v at h
        obtain⟨l,r,a,f⟩:=v
        obtain⟨b,k2,i⟩:=BK hR rfl rfl hdc
        have hlow:a.aa.bi=m.aa.bi:=FD hR hdc
        have hk:∀ (mm:ax),mm=ax.mk (bA.mk m.aa.bC m.aa.aQ m.aa.bq m.aa.aJ m.aa.aD (F2 m.aa.ah.ls) (F2 a.aa.ak.ls) (F2 a.aa.af.ls) m.aa.bi m.aa.aI m.aa.aH m.aa.aC) (F2 a.ag.ls)->Kp m mm f/\(Dn a x.aU->Dn mm x.aU):=λ mm hmm=>by
          subst hmm
          have dd:∀ n,Dn a n->Dn (ax.mk (bA.mk m.aa.bC m.aa.aQ m.aa.bq m.aa.aJ m.aa.aD (F2 m.aa.ah.ls) (F2 a.aa.ak.ls) (F2 a.aa.af.ls) m.aa.bi m.aa.aI m.aa.aH m.aa.aC) (F2 a.ag.ls)) n:=λ n hn=>⟨by rcases hn.1 with q | q; exact .inl (by rw [hlow] at q; exact q); exact .inr q,hn.2⟩
          exact⟨⟨⟨b.rs.tk,b.rs.gt,b.rs.fu⟩,rfl,b.fl,λ n hn=>dd n (b.dn n hn)⟩,dd x.aU⟩
        by_cases c:l=0
        . rw [if_pos c] at h
          by_cases t:(r.av.aL.ls.length:Int) > 0
          . rw [if_pos t] at h
            obtain⟨rfl,rfl,rfl,rfl⟩:=gH h
            obtain⟨o,p⟩:=hk _ rfl
            exact⟨o,k2,λ hne=>⟨k,(i hne).1,(i hne).2.1,p (i hne).2.2⟩⟩
          . rw [if_neg t] at h
            obtain⟨rfl,rfl,rfl,rfl⟩:=gH h
            obtain⟨o,p⟩:=hk _ rfl
            exact⟨o,k2,λ hne=>⟨k,(i hne).1,(i hne).2.1,p (i hne).2.2⟩⟩
        . rw [if_neg c] at h
          obtain⟨rfl,rfl,rfl,rfl⟩:=gH h
          exact⟨(hk _ rfl).1,Lm 24,λ h=>absurd rfl h⟩
      . rw [if_neg j] at h; exact no h
    . rw [if_neg g] at h; exact no h
  . rw [if_neg k] at h
    by_cases c:x.aB=3
    . rw [if_pos c] at h
      by_cases g:kG x=0
      . rw [if_pos g] at h
        by_cases j:x.jU=m.aa.bC
        . rw [if_pos j] at h
          generalize hdc:kJ _ _ _ _ _=v at h
          obtain⟨l,r,a,f⟩:=v
          have ho:q7 x.aK.ls<=24:=by
            rcases xm (x:=x) rfl with q | q | q
            . exact absurd g q
            . exact absurd c q
            . exact q
          obtain⟨b,k2⟩:=Ee hR hf ho rfl hdc
          have hk:Kp m (ax.mk (bA.mk m.aa.bC m.aa.aQ m.aa.bq m.aa.aJ m.aa.aD (F2 m.aa.ah.ls) (F2 a.aa.ak.ls) (F2 a.aa.af.ls) a.aa.bi m.aa.aI m.aa.aH m.aa.aC) (F2 a.ag.ls)) f:=⟨⟨b.rs.tk,b.rs.gt,b.rs.fu⟩,rfl,b.fl,λ n hn=>⟨(b.dn n hn).1,(b.dn n hn).2⟩⟩
          by_cases c:l=0
          . rw [if_pos c] at h
            obtain⟨rfl,rfl,rfl,rfl⟩:=gH h
            exact⟨hk,Lm 24,λ h=>absurd rfl h⟩
          . rw [if_neg c] at h
            obtain⟨rfl,rfl,rfl,rfl⟩:=gH h
            exact⟨hk,Lm 24,λ h=>absurd rfl h⟩
        . rw [if_neg j] at h; exact no h
      . rw [if_neg g] at h; exact no h
    . rw [if_neg c] at h; exact no h
theorem om {m m':ax} {x:dL} {s:StoreT} {tb tb':aW} {d:dH} {e:Int} (hR:Rs m.ag.ls m.aa.ak.ls m.aa.af.ls tb.ai.ls) (hf:q7 m.aa.af.ls<=999)
    (h:dN m x s tb=(d,e,m',tb')):
    Rs m'.ag.ls m'.aa.ak.ls m'.aa.af.ls tb'.ai.ls/\(q7 m'.aa.ah.ls=q7 m.aa.ah.ls/\q7 m'.aa.af.ls<=q7 m.aa.af.ls+1/\q7 d.aL.ls<=24/\q7 m'.ag.ls+q7 m'.aa.ak.ls<=6):=by
  obtain⟨k,w,_⟩:=zP hR hf h
  exact⟨k.rs,by rw [k.ow],k.fl,w,k.rs.tk.n⟩
theorem g8 {p:Prop}(h:p:=by first | assumption | (dsimp only; exact eD (by assumption))):p:=h
open IntKind renaming u64->H3
open List renaming getD->y2,mem_of_getElem?->D4
open _root_.Go.Proofs.Tryz renaming call16->U8,call9->V0,func16->U9,isAgg32->E1,isAgg50->V1,isAgg68->C4,sizeOf68->C2
section
open Go.RowKit
def vK:Bool:=
 bnd (lG (bA.mk 1 0 0 1 0 (F2 ([(bM.mk [] 1),(bM.mk ([109]) 2)])) (F2 []) (F2 []) 0 0 (aj.mk [] []) (iO.mk 0 0 0 (aj.mk [] [])))) λ p=>if p=0 then bnd (iU (bA.mk 1 0 0 1 0 (F2 ([(bM.mk [] 1),(bM.mk ([109]) 2)])) (F2 []) (F2 []) 0 0 (aj.mk [] []) (iO.mk 0 0 0 (aj.mk [] [])))) λ a=>bnd (dN (ax.mk (bA.mk a.bC (G0 (H3.wrap ((a.aQ:Int)+1))) a.bq a.aJ a.aD (F2 a.ah.ls) (F2 a.ak.ls) (F2 a.af.ls) a.bi a.aI a.aH a.aC) (F2 [])) (dL.mk 3 0 1 0 0 0 0 0 5 0 0 1 0 0 0 false (aj.mk [] []) (F2 ([(aX.mk 2 ([97]) ([120]) [] [] 0)])) (F2 []) (F2 [])) (StoreT.mk (F2 [])) (aW.mk (F2 []))) λ d=>bnd (dN (ax.mk (bA.mk a.bC (G0 (H3.wrap ((a.aQ:Int)+1))) a.bq a.aJ a.aD (F2 a.ah.ls) (F2 d.2.2.1.aa.ak.ls) (F2 d.2.2.1.aa.af.ls) d.2.2.1.aa.bi a.aI a.aH a.aC) (F2 d.2.2.1.ag.ls)) (dL.mk 3 0 1 0 0 0 0 0 6 0 0 1 0 0 0 false (aj.mk [] []) (F2 ([(aX.mk 1 ([97]) [] [] [] 0)])) (F2 []) (F2 [])) (StoreT.mk (F2 [])) d.2.2.2) λ e=>bnd (dN (ax.mk (bA.mk a.bC (G0 (H3.wrap ((a.aQ:Int)+1))) a.bq a.aJ a.aD (F2 a.ah.ls) (F2 e.2.2.1.aa.ak.ls) (F2 e.2.2.1.aa.af.ls) e.2.2.1.aa.bi a.aI a.aH a.aC) (F2 e.2.2.1.ag.ls)) (dL.mk 3 0 1 0 0 0 0 0 4 0 0 1 0 0 0 false (aj.mk [] []) (F2 ([(aX.mk 1 ([97]) [] [] [] 0)])) (F2 []) (F2 [])) (StoreT.mk (F2 [])) e.2.2.2) λ b=>bnd (jG (ax.mk (bA.mk a.bC (G0 (H3.wrap ((a.aQ:Int)+1))) a.bq a.aJ a.aD (F2 a.ah.ls) (F2 b.2.2.1.aa.ak.ls) (F2 b.2.2.1.aa.af.ls) b.2.2.1.aa.bi a.aI a.aH a.aC) (F2 b.2.2.1.ag.ls))) λ j=>bnd (dN (ax.mk (bA.mk a.bC (G0 (H3.wrap ((a.aQ:Int)+1))) a.bq a.aJ a.aD (F2 a.ah.ls) (F2 b.2.2.1.aa.ak.ls) (F2 b.2.2.1.aa.af.ls) b.2.2.1.aa.bi a.aI a.aH a.aC) (F2 b.2.2.1.ag.ls)) (dL.mk 5 0 1 0 0 0 0 0 5 0 0 0 0 0 0 true (aj.mk [] []) (F2 []) (F2 []) (F2 [])) (StoreT.mk (F2 [])) b.2.2.2) λ c=>bnd (dN (ax.mk (bA.mk a.bC (G0 (H3.wrap ((a.aQ:Int)+1))) a.bq a.aJ a.aD (F2 a.ah.ls) (F2 c.2.2.1.aa.ak.ls) (F2 c.2.2.1.aa.af.ls) c.2.2.1.aa.bi a.aI a.aH a.aC) (F2 c.2.2.1.ag.ls)) (dL.mk 3 0 1 0 0 0 0 0 7 0 0 1 0 0 0 false (aj.mk [] []) (F2 ([(aX.mk 2 ([122]) [] [] [] 0)])) (F2 []) (F2 [])) (StoreT.mk (F2 [])) c.2.2.2) λ f=>bnd (dN (ax.mk (bA.mk a.bC (G0 (H3.wrap ((a.aQ:Int)+1))) a.bq a.aJ a.aD (F2 a.ah.ls) (F2 f.2.2.1.aa.ak.ls) (F2 f.2.2.1.aa.af.ls) f.2.2.1.aa.bi a.aI a.aH a.aC) (F2 f.2.2.1.ag.ls)) (dL.mk 6 1 0 0 0 0 0 0 0 0 0 0 0 0 0 false (aj.mk [] []) (F2 []) (F2 []) (F2 [])) (StoreT.mk (F2 [])) f.2.2.2) λ g=>bnd (lZ (ax.mk (bA.mk a.bC (G0 (H3.wrap ((a.aQ:Int)+1))) a.bq a.aJ a.aD (F2 a.ah.ls) (F2 g.2.2.1.aa.ak.ls) (F2 g.2.2.1.aa.af.ls) g.2.2.1.aa.bi a.aI a.aH a.aC) (F2 g.2.2.1.ag.ls))) λ i=>if(d.1.bD.ls.length:Int)=1 then bnd (y2 d.1.bD.ls 0 default) λ k=>if k.gp=3 then if d.1.bU=true then if(e.1.bD.ls.length:Int)=1 then bnd (y2 e.1.bD.ls 0 default) λ l=>if l.gp=5 then if(b.1.bD.ls.length:Int)=0 then if(j.length:Int)=1 then if(c.1.aL.ls.length:Int)=1 then if(c.1.bD.ls.length:Int)=2 then bnd (y2 c.1.bD.ls 0 default) λ m=>if m.aB=6 then bnd (y2 c.1.bD.ls 1 default) λ h=>if(h.aU:Int)=4 then if(h.aV.ls.length:Int)=1 then bnd (y2 h.aV.ls 0 default) λ n=>if n.aO=([120]) then if(f.1.bD.ls.length:Int)=1 then bnd (y2 f.1.bD.ls 0 default) λ o=>if o.gp=4 then if g.2.1=180 then if(i.ak.ls.length:Int)=1 then decide ((i.aQ:Int)=1) else false else false else false else false else false else false else false else false else false else false else false else false else false else false else false else false else false else false
theorem BL (w D r0) (H:Own w D w []) (hr:vK=r0):
    Calls Tryz.prog 6 #[] w (dI λ v w'=>v= .bool r0/\Own w D w' []):=by
 refine cb Tryz.func6 ?_
 refine sr (Ar rfl ?_)
 refine WL.do rfl (IB Tryz.call8 rfl ?_ (λ _ _ k=>k))
 refine cb Tryz.func8 ?_
 refine sr ?_
 refine bW (gV 0 0 0 0 0 none 0 0 none 0 0 none 0 0 0 0 [] [] 0 0 0 [] []) 41 H ?_
 intro uz uA nG
 refine ns (Kz (.agg #[.string ⟨v0 []⟩,vI 1]) (Kz (.agg #[.string ⟨v0 ([109])⟩,vI 2]) ?_))
 refine jN [.string ⟨v0 []⟩,vI 1, .string ⟨v0 ([109])⟩,vI 2] 83 2 2 nG ?_
 intro bF uB iB
 replace iB:=IL (y:=row bF 2 2 (q2 bM.cells ([(bM.mk [] 1),(bM.mk ([109]) 2)])) 83 2) rfl iB
 refine Kz (.agg (gV 1 0 0 1 0 bF 2 2 none 0 0 none 0 0 0 0 [] [] 0 0 0 [] []).toArray) ?_
 have nH:=iB.pb [0]
 refine cu (gV 1 0 0 1 0 bF 2 2 none 0 0 none 0 0 0 0 [] [] 0 0 0 [] []) 0 nH E7 ?_
 intro uC jE
 refine nt (rt (Ir (oZ rfl rfl (Io (cs:=(gV 1 0 0 1 0 bF 2 2 none 0 0 none 0 0 0 0 [] [] 0 0 0 [] [])) E6 E7 ((jE.cls (i:=0) rfl).lit (k:=0) (m:=17) rfl))) (Kz (.agg #[.slice none 0 0]) ?_)))
 refine bW [.slice none 0 0] 27 jE ?_
 intro aO uD nI
 refine Kz (.iface 24 (vP aO 0)) ?_
 refine WL.do rfl (IB Tryz.call7 rfl ?_ (λ _ _ k=>k))
 refine cb Tryz.func7 ?_
 refine H7 ?_
 have nJ:=nI.pk [0,2]
 refine H8 ?_
 refine bW (gV 1 0 0 1 0 bF 2 2 none 0 0 none 0 0 0 0 [] [] 0 0 0 [] []) 41 nJ ?_
 intro nK uE jF
 refine Az rfl (An rfl (H7 (sr (La (gV 1 0 0 1 0 bF 2 2 none 0 0 none 0 0 0 0 [] [] 0 0 0 [] []) jF 0 E6 E7 ?_))))
 obtain⟨fD,T⟩:∃ q,lG (bA.mk 1 0 0 1 0 (F2 ([(bM.mk [] 1),(bM.mk ([109]) 2)])) (F2 []) (F2 []) 0 0 (aj.mk [] []) (iO.mk 0 0 0 (aj.mk [] [])))=q:=⟨_,rfl⟩
 obtain⟨uF,jH,rG,jI,jJ⟩:=Ia jF
 refine cl Tryz.call17 (qQ _ _ (bA.mk 1 0 0 1 0 (F2 ([(bM.mk [] 1),(bM.mk ([109]) 2)])) (F2 []) (F2 []) 0 0 (aj.mk [] []) (iO.mk 0 0 0 (aj.mk [] []))) bF 2 2 none 0 0 [] none 0 0 fD jH rfl (jJ _ 2 _ rfl bP) f7 rfl rfl (λ _ _=>bO.nil _ _ _) f7 (λ _ h9=>absurd h9 v1) rfl (λ _ _=>bO.nil _ _ _) f7 g4 T) ?_
 rintro _ uG ⟨rfl,jK⟩
 have iC:=jI _ _ jK
 refine fw (.bool (decide (¬ (fD=0)))) (Iu (e:= !(decide (fD=0))) yk decide_not.symm) (Mz rfl ?_)
 by_cases af:fD=0
 refine gw (.iface 24 (vP aO 0)) (dF (Lp af)) (Ie rfl) (gw (.bool false) (dF (Lp af)) yk (fw (.bool false) (H6 rfl (dF (Lp af)) rfl) (nt (jf (sk (sr (La (gV 1 0 0 1 0 bF 2 2 none 0 0 none 0 0 0 0 [] [] 0 0 0 [] []) iC 0 E6 E7 ?_)))))))
 obtain⟨a,K⟩:∃ q,iU (bA.mk 1 0 0 1 0 (F2 ([(bM.mk [] 1),(bM.mk ([109]) 2)])) (F2 []) (F2 []) 0 0 (aj.mk [] []) (iO.mk 0 0 0 (aj.mk [] [])))=q:=⟨_,rfl⟩
 obtain⟨uH,jL,rH,jM,jO⟩:=Ia iC
 refine cl Tryz.call18 (lY _ _ (bA.mk 1 0 0 1 0 (F2 ([(bM.mk [] 1),(bM.mk ([109]) 2)])) (F2 []) (F2 []) 0 0 (aj.mk [] []) (iO.mk 0 0 0 (aj.mk [] []))) bF 2 2 none 0 0 [] none 0 0 a jL rfl (jO _ 2 _ rfl bP) f7 rfl rfl (λ _ _=>bO.nil _ _ _) f7 (λ _ h9=>absurd h9 v1) rfl (λ _ _=>bO.nil _ _ _) f7 g4 (by first | assumption | exact λ _ h9=>absurd h9 v1 | exact Tk.hops f6) K) ?_
 rintro _ uI ⟨bz,aB,iD,iE,iF,iG,nL,rfl,jP,fG⟩
 have fE:=jM _ _ jP
 have rJ:=aY fG
 have rM:=zr 0 fE
 have rO:=zr 1 fE
 have rP:=zr 3 fE
 have rQ:a.ah.ls.length=2:=congrArg (λ q=>q.ah.ls.length) K.symm
 have rR:a.ak.ls.length=0:=congrArg (λ q=>q.ak.ls.length) K.symm
 have rT:a.af.ls.length=0:=congrArg (λ q=>q.af.ls.length) K.symm
 refine Mz rfl ?_
 refine WL.do rfl (IB Tryz.call19 rfl ?_ (λ _ _ k=>k))
 refine cb Tryz.func19 ?_
 refine sr (Ar rfl (Kz (.agg #[.slice none 0 0]) ?_))
 refine bW [.slice none 0 0] 114 fE ?_
 intro bB uJ nM
 refine An rfl (rt (rs (Kz (.agg #[vI a.bC,vU a.aQ,vU a.bq,vU a.aJ,vU a.aD, .slice bz a.ah.ls.length aB, .slice iD a.ak.ls.length iE, .slice iF a.af.ls.length iG,vU a.bi,vU a.aI, .string ⟨v0 a.aH.aN⟩, .string ⟨v0 a.aH.aT⟩,vU a.aC.aD,vU a.aC.bv,vU a.aC.di, .string ⟨v0 a.aC.aA.aN⟩, .string ⟨v0 a.aC.aA.aT⟩, .iface 24 (vP aO 0), .slice none 0 0,vP bB 0, .pointer none]) ?_)))
 refine bW [vI a.bC,vU a.aQ,vU a.bq,vU a.aJ,vU a.aD, .slice bz a.ah.ls.length aB, .slice iD a.ak.ls.length iE, .slice iF a.af.ls.length iG,vU a.bi,vU a.aI, .string ⟨v0 a.aH.aN⟩, .string ⟨v0 a.aH.aT⟩,vU a.aC.aD,vU a.aC.bv,vU a.aC.di, .string ⟨v0 a.aC.aA.aN⟩, .string ⟨v0 a.aC.aA.aT⟩, .iface 24 (vP aO 0), .slice none 0 0,vP bB 0, .pointer none] 80 nM ?_
 intro aH uK jQ
 refine Ar rfl (Mz rfl (Kz (vP aH 0) (Kz (vP aH 0) (Kz (vP aH 1) (Lz (vU a.aQ) jQ 0 E1 (fw (.int .u64 ((G0 (H3.wrap ((a.aQ:Int)+1)):Nat):Int)) (Ig (e:=H3.wrap ((a.aQ:Int)+1)) yk (kX _)) (Kz (vP aH 0) (Kz (vP aH 0) (Kz (vP aH 1) ?_)))))))))
 refine cu [.int .u64 ((G0 (H3.wrap ((a.aQ:Int)+1)):Nat):Int)] 1 jQ Tryz.sizeOf32 ?_
 intro uL jR
 refine nt (H7 (sr (Kz (vP nK 6) (Lz (.slice none 0 0) jR 6 Tryz.isAgg34 (Kz (vI 0) (Mn rfl (bo (JK 200 (H7 ?_)))))))))
 have nN:=jR.px [] [6] []
 refine H8 (Kz (.bool false) (nt (H7 (jf (Wp.exit (Ip (Ip (Iz (Ib (sr (Mz rfl (Az rfl (An rfl (rt (Ir (kD rfl rfl rfl) (Mz rfl (Kz (vP aH 0) (Kz (vI 0) (Az rfl (An rfl (H7 (H7 ?_))))))))))))))))))))))
 have nO:=nN.px [] [7] []
 refine H8 (Mz rfl (Kz (.bool false) (Mz rfl (gw (vI 0) rfl (Ie rfl) (Gz (.bool false) rfl (fw (.bool false) (H6 rfl rfl rfl) (nt (jf (sk (sr (Mz rfl (Kz (.agg #[vI 2, .string ⟨v0 ([97])⟩, .string ⟨v0 ([120])⟩, .string ⟨v0 []⟩, .string ⟨v0 []⟩,vI 0]) ?_))))))))))))
 refine WL.do rfl (IB U8 rfl ?_ (λ _ _ k=>k))
 refine cb U9 ?_
 refine sr ?_
 refine bW [vI 2, .string ⟨v0 ([97])⟩, .string ⟨v0 ([120])⟩, .string ⟨v0 []⟩, .string ⟨v0 []⟩,vI 0] 68 nO ?_
 intro uM uN nP
 refine bW (iy 0 0 0 0 0 0 0 0 0 0 0 0 0 0 0 false [] [] none 0 0 none 0 0 none 0 0) 47 nP ?_
 intro uO uP jS
 refine ns (Mz rfl (La ([vI 2, .string ⟨v0 ([97])⟩, .string ⟨v0 ([120])⟩, .string ⟨v0 []⟩, .string ⟨v0 []⟩,vI 0]) jS 1 C4 C2 ?_))
 refine jN [vI 2, .string ⟨v0 ([97])⟩, .string ⟨v0 ([120])⟩, .string ⟨v0 []⟩, .string ⟨v0 []⟩,vI 0] 68 6 1 jS ?_
 intro dm uQ iH
 replace iH:=IL (y:=row dm 1 1 (q2 aX.cells ([(aX.mk 2 ([97]) ([120]) [] [] 0)])) 68 6) rfl iH
 refine Kz (.agg (iy 3 0 1 0 0 0 0 0 5 0 0 1 0 0 0 false [] [] dm 1 1 none 0 0 none 0 0).toArray) ?_
 have nQ:=iH.pf [1]
 refine cu (iy 3 0 1 0 0 0 0 0 5 0 0 1 0 0 0 false [] [] dm 1 1 none 0 0 none 0 0) 0 nQ I0 ?_
 intro fF jT
 refine nt (rt (Ir (oZ rfl rfl (Io (cs:=(iy 3 0 1 0 0 0 0 0 5 0 0 1 0 0 0 false [] [] dm 1 1 none 0 0 none 0 0)) H5 I0 ((jT.cls (i:=0) rfl).lit (k:=0) (m:=21) rfl))) ?_))
 have nR:Own w D fF (sepL (q2 IA [])::_):=jT.sepNil
 have nS:Own w D fF (row none 0 0 (q2 aP.cells []) 99 4::_):=nR.free (bZ 99 4)
 have nT:Own w D fF (sepL (q2 Iy [])::_):=nS.sepNil
 have nU:Own w D fF (row none 0 0 (q2 ay.cells []) 164 6::_):=nT.free (bZ 164 6)
 have iI:=nU.pf [7,10,11,12,2,3,13,8]
 have nV:=zr 13 iI
 have nW:=zr 4 iI
 obtain⟨⟨ag,fH,N,bI⟩,j⟩:∃ q:dH × Int × ax × aW,dN (ax.mk (bA.mk a.bC (G0 (H3.wrap ((a.aQ:Int)+1))) a.bq a.aJ a.aD (F2 a.ah.ls) (F2 a.ak.ls) (F2 a.af.ls) a.bi a.aI a.aH a.aC) (F2 [])) (dL.mk 3 0 1 0 0 0 0 0 5 0 0 1 0 0 0 false (aj.mk [] []) (F2 ([(aX.mk 2 ([97]) ([120]) [] [] 0)])) (F2 []) (F2 [])) (StoreT.mk (F2 [])) (aW.mk (F2 []))=q:=⟨_,rfl⟩
 obtain⟨rU,iJ,nX,iK,dn⟩:=Jf iI
 refine cl V0 (jm _ _ aH (ax.mk (bA.mk a.bC (G0 (H3.wrap ((a.aQ:Int)+1))) a.bq a.aJ a.aD (F2 a.ah.ls) (F2 a.ak.ls) (F2 a.af.ls) a.bi a.aI a.aH a.aC) (F2 [])) bz aB iD iE nL iF iG none 0 [] (dL.mk 3 0 1 0 0 0 0 0 5 0 0 1 0 0 0 false (aj.mk [] []) (F2 ([(aX.mk 2 ([97]) ([120]) [] [] 0)])) (F2 []) (F2 [])) dm 1 1 none 0 0 [] none 0 0 aO (StoreT.mk (F2 [])) none 0 bB (aW.mk (F2 [])) none 0 [] ag fH N bI iJ (dn _ 3 _ rfl bP) e8 fG rfl rfl (dn _ 1 _ rfl bP) f7 rfl rfl (λ _ _=>bO.nil _ _ _) f7 (λ _ h9=>absurd h9 v1) rfl (λ _ _=>bO.nil _ _ _) f7 (λ _ _=>bO.nil _ _ _) e8 rfl (by first | assumption | exact Rs.tk f6 | (dsimp only; exact(eD f6).tk)) (by first | assumption | exact Rs.gt f6 | (dsimp only; exact(eD f6).gt)) (by first | omega | exact Tk.n f6 | exact(Rs.tk f6).n | (dsimp only; exact(eD f6).tk.n)) (by first | omega | exact Tk.rows f6 | exact(Rs.tk f6).rows | (dsimp only; exact(eD f6).tk.rows)) f0 f0 f0 j) ?_
 rintro _ rV ⟨aJ,cO,fI,fJ,jU,jV,jW,jX,jY,jZ,j3,j4,j5,j6,kg,ko,rfl,iL,dw,dx,dz,dA⟩
 have aS:=iK _ _ iL
 have nY:=aY dw
 have nZ:=aY dx
 have og:=aY dz
 have oh:=aY dA
 have ol:=zr 0 aS
 have oo:=zr 2 aS
 have oq:=zr 4 aS
 have ou:=zr 6 aS
 have ow:=zr 7 aS
 have oz:=zr 11 aS
 obtain⟨dB,dD⟩:=om (m:=(ax.mk (bA.mk a.bC (G0 (H3.wrap ((a.aQ:Int)+1))) a.bq a.aJ a.aD (F2 a.ah.ls) (F2 a.ak.ls) (F2 a.af.ls) a.bi a.aI a.aH a.aC) (F2 []))) (tb:=(aW.mk (F2 []))) g8 f9 j
 replace dB:Rs N.ag.ls N.aa.ak.ls N.aa.af.ls bI.ai.ls:=dB
 replace dD:N.aa.ah.ls.length=a.ah.ls.length/\N.aa.af.ls.length<=a.af.ls.length+1/\ag.aL.ls.length<=24/\N.ag.ls.length+N.aa.ak.ls.length<=6:=dD
 refine Mz rfl (Kz (.agg #[.slice aJ ag.bD.ls.length cO, .slice fI ag.aL.ls.length fJ, .bool ag.bU]) (Kz (vI fH) ?_))
 refine bW [.slice none 0 0, .slice none 0 0, .bool false] 52 aS ?_
 intro dE rW kr
 refine cu [.slice aJ ag.bD.ls.length cO, .slice fI ag.aL.ls.length fJ, .bool ag.bU] 0 kr U5 ?_
 intro rX ku
 refine An rfl (H7 ?_)
 have kv:=ku.px [] [14,15,16] []
 refine H8 (Mz rfl (Kz (.agg #[vI 1, .string ⟨v0 ([97])⟩, .string ⟨v0 []⟩, .string ⟨v0 []⟩, .string ⟨v0 []⟩,vI 0]) ?_))
 refine WL.do rfl (IB U8 rfl ?_ (λ _ _ k=>k))
 refine cb U9 ?_
 refine sr ?_
 refine bW [vI 1, .string ⟨v0 ([97])⟩, .string ⟨v0 []⟩, .string ⟨v0 []⟩, .string ⟨v0 []⟩,vI 0] 68 kv ?_
 intro rY rZ kw
 refine bW (iy 0 0 0 0 0 0 0 0 0 0 0 0 0 0 0 false [] [] none 0 0 none 0 0 none 0 0) 47 kw ?_
 intro r9 si fK
 refine ns (Mz rfl (La ([vI 1, .string ⟨v0 ([97])⟩, .string ⟨v0 []⟩, .string ⟨v0 []⟩, .string ⟨v0 []⟩,vI 0]) fK 1 C4 C2 ?_))
 refine jN [vI 1, .string ⟨v0 ([97])⟩, .string ⟨v0 []⟩, .string ⟨v0 []⟩, .string ⟨v0 []⟩,vI 0] 68 6 1 fK ?_
 intro bJ sj dJ
 replace dJ:=IL (y:=row bJ 1 1 (q2 aX.cells ([(aX.mk 1 ([97]) [] [] [] 0)])) 68 6) rfl dJ
 refine Kz (.agg (iy 3 0 1 0 0 0 0 0 6 0 0 1 0 0 0 false [] [] bJ 1 1 none 0 0 none 0 0).toArray) ?_
 have ky:=dJ.pf [1]
 refine cu (iy 3 0 1 0 0 0 0 0 6 0 0 1 0 0 0 false [] [] bJ 1 1 none 0 0 none 0 0) 0 ky I0 ?_
 intro su fM
 refine nt (rt (Ir (oZ rfl rfl (Io (cs:=(iy 3 0 1 0 0 0 0 0 6 0 0 1 0 0 0 false [] [] bJ 1 1 none 0 0 none 0 0)) H5 I0 ((fM.cls (i:=0) rfl).lit (k:=0) (m:=21) rfl))) ?_))
 have fP:=fM.pb [0,1,2,3,4,5,6,17]
 have oC:=zr 17 fP
 obtain⟨⟨ak,fQ,O,bK⟩,l⟩:∃ q:dH × Int × ax × aW,dN (ax.mk (bA.mk a.bC (G0 (H3.wrap ((a.aQ:Int)+1))) a.bq a.aJ a.aD (F2 a.ah.ls) (F2 N.aa.ak.ls) (F2 N.aa.af.ls) N.aa.bi a.aI a.aH a.aC) (F2 N.ag.ls)) (dL.mk 3 0 1 0 0 0 0 0 6 0 0 1 0 0 0 false (aj.mk [] []) (F2 ([(aX.mk 1 ([97]) [] [] [] 0)])) (F2 []) (F2 [])) (StoreT.mk (F2 [])) bI=q:=⟨_,rfl⟩
 obtain⟨sw,iM,oD,iP,dM⟩:=Jf fP
 refine cl V0 (jm _ _ aH (ax.mk (bA.mk a.bC (G0 (H3.wrap ((a.aQ:Int)+1))) a.bq a.aJ a.aD (F2 a.ah.ls) (F2 N.aa.ak.ls) (F2 N.aa.af.ls) N.aa.bi a.aI a.aH a.aC) (F2 N.ag.ls)) bz aB jV jW jX jY jZ j3 j4 j5 (dL.mk 3 0 1 0 0 0 0 0 6 0 0 1 0 0 0 false (aj.mk [] []) (F2 ([(aX.mk 1 ([97]) [] [] [] 0)])) (F2 []) (F2 [])) bJ 1 1 none 0 0 [] none 0 0 aO (StoreT.mk (F2 [])) none 0 bB bI j6 kg ko ak fQ O bK iM (dM _ 7 _ rfl bP) e8 dx dz rfl (dM _ 1 _ rfl bP) f7 rfl rfl (λ _ _=>bO.nil _ _ _) f7 (λ _ h9=>absurd h9 v1) rfl (λ _ _=>bO.nil _ _ _) f7 (λ _ _=>bO.nil _ _ _) e8 dA (by first | assumption | exact Rs.tk f6 | (dsimp only; exact(eD f6).tk)) (by first | assumption | exact Rs.gt f6 | (dsimp only; exact(eD f6).gt)) (by first | omega | exact Tk.n f6 | exact(Rs.tk f6).n | (dsimp only; exact(eD f6).tk.n)) (by first | omega | exact Tk.rows f6 | exact(Rs.tk f6).rows | (dsimp only; exact(eD f6).tk.rows)) f0 f0 f0 l) ?_
 rintro _ sD ⟨aK,cZ,fT,fU,kz,kC,kE,kF,kG,kH,kI,kJ,kK,kL,kM,kN,rfl,iQ,dO,dP,dQ,dR⟩
 have aT:=iP _ _ iQ
 have oF:=aY dO
 have oG:=aY dP
 have oH:=aY dQ
 have oI:=aY dR
 have oJ:=zr 0 aT
 have oK:=zr 2 aT
 have oL:=zr 4 aT
 have oM:=zr 6 aT
 have oN:=zr 7 aT
 have oO:=zr 11 aT
 obtain⟨dS,dU⟩:=om (m:=(ax.mk (bA.mk a.bC (G0 (H3.wrap ((a.aQ:Int)+1))) a.bq a.aJ a.aD (F2 a.ah.ls) (F2 N.aa.ak.ls) (F2 N.aa.af.ls) N.aa.bi a.aI a.aH a.aC) (F2 N.ag.ls))) (tb:=bI) g8 f9 l
 replace dS:Rs O.ag.ls O.aa.ak.ls O.aa.af.ls bK.ai.ls:=dS
 replace dU:O.aa.ah.ls.length=a.ah.ls.length/\O.aa.af.ls.length<=N.aa.af.ls.length+1/\ak.aL.ls.length<=24/\O.ag.ls.length+O.aa.ak.ls.length<=6:=dU
 refine Mz rfl (Kz (.agg #[.slice aK ak.bD.ls.length cZ, .slice fT ak.aL.ls.length fU, .bool ak.bU]) (Kz (vI fQ) ?_))
 refine bW [.slice none 0 0, .slice none 0 0, .bool false] 52 aT ?_
 intro fV sF kP
 refine cu [.slice aK ak.bD.ls.length cZ, .slice fT ak.aL.ls.length fU, .bool ak.bU] 0 kP U5 ?_
 intro sG kQ
 refine An rfl (H7 ?_)
 have kR:=kQ.px [] [14,15,16] []
 refine H8 (Mz rfl (Kz (.agg #[vI 1, .string ⟨v0 ([97])⟩, .string ⟨v0 []⟩, .string ⟨v0 []⟩, .string ⟨v0 []⟩,vI 0]) ?_))
 refine WL.do rfl (IB U8 rfl ?_ (λ _ _ k=>k))
 refine cb U9 ?_
 refine sr ?_
 refine bW [vI 1, .string ⟨v0 ([97])⟩, .string ⟨v0 []⟩, .string ⟨v0 []⟩, .string ⟨v0 []⟩,vI 0] 68 kR ?_
 intro sH sI kS
 refine bW (iy 0 0 0 0 0 0 0 0 0 0 0 0 0 0 0 false [] [] none 0 0 none 0 0 none 0 0) 47 kS ?_
 intro sJ sM fZ
 refine ns (Mz rfl (La ([vI 1, .string ⟨v0 ([97])⟩, .string ⟨v0 []⟩, .string ⟨v0 []⟩, .string ⟨v0 []⟩,vI 0]) fZ 1 C4 C2 ?_))
 refine jN [vI 1, .string ⟨v0 ([97])⟩, .string ⟨v0 []⟩, .string ⟨v0 []⟩, .string ⟨v0 []⟩,vI 0] 68 6 1 fZ ?_
 intro bN sN dV
 replace dV:=IL (y:=row bN 1 1 (q2 aX.cells ([(aX.mk 1 ([97]) [] [] [] 0)])) 68 6) rfl dV
 refine Kz (.agg (iy 3 0 1 0 0 0 0 0 4 0 0 1 0 0 0 false [] [] bN 1 1 none 0 0 none 0 0).toArray) ?_
 have kT:=dV.pf [1]
 refine cu (iy 3 0 1 0 0 0 0 0 4 0 0 1 0 0 0 false [] [] bN 1 1 none 0 0 none 0 0) 0 kT I0 ?_
 intro sO gm
 refine nt (rt (Ir (oZ rfl rfl (Io (cs:=(iy 3 0 1 0 0 0 0 0 4 0 0 1 0 0 0 false [] [] bN 1 1 none 0 0 none 0 0)) H5 I0 ((gm.cls (i:=0) rfl).lit (k:=0) (m:=21) rfl))) ?_))
 have gp:=gm.pf [7,8,9,10,11,12,13,14,15,16]
 have oP:=zr 21 gp
 obtain⟨⟨av,gq,g,bR⟩,o⟩:∃ q:dH × Int × ax × aW,dN (ax.mk (bA.mk a.bC (G0 (H3.wrap ((a.aQ:Int)+1))) a.bq a.aJ a.aD (F2 a.ah.ls) (F2 O.aa.ak.ls) (F2 O.aa.af.ls) O.aa.bi a.aI a.aH a.aC) (F2 O.ag.ls)) (dL.mk 3 0 1 0 0 0 0 0 4 0 0 1 0 0 0 false (aj.mk [] []) (F2 ([(aX.mk 1 ([97]) [] [] [] 0)])) (F2 []) (F2 [])) (StoreT.mk (F2 [])) bK=q:=⟨_,rfl⟩
 obtain⟨sP,iR,oQ,iT,dW⟩:=Jf gp
 refine cl V0 (jm _ _ aH (ax.mk (bA.mk a.bC (G0 (H3.wrap ((a.aQ:Int)+1))) a.bq a.aJ a.aD (F2 a.ah.ls) (F2 O.aa.ak.ls) (F2 O.aa.af.ls) O.aa.bi a.aI a.aH a.aC) (F2 O.ag.ls)) bz aB kC kE kF kG kH kI kJ kK (dL.mk 3 0 1 0 0 0 0 0 4 0 0 1 0 0 0 false (aj.mk [] []) (F2 ([(aX.mk 1 ([97]) [] [] [] 0)])) (F2 []) (F2 [])) bN 1 1 none 0 0 [] none 0 0 aO (StoreT.mk (F2 [])) none 0 bB bK kL kM kN av gq g bR iR (dW _ 11 _ rfl bP) e8 dP dQ rfl (dW _ 1 _ rfl bP) f7 rfl rfl (λ _ _=>bO.nil _ _ _) f7 (λ _ h9=>absurd h9 v1) rfl (λ _ _=>bO.nil _ _ _) f7 (λ _ _=>bO.nil _ _ _) e8 dR (by first | assumption | exact Rs.tk f6 | (dsimp only; exact(eD f6).tk)) (by first | assumption | exact Rs.gt f6 | (dsimp only; exact(eD f6).gt)) (by first | omega | exact Tk.n f6 | exact(Rs.tk f6).n | (dsimp only; exact(eD f6).tk.n)) (by first | omega | exact Tk.rows f6 | exact(Rs.tk f6).rows | (dsimp only; exact(eD f6).tk.rows)) f0 f0 f0 o) ?_
 rintro _ sQ ⟨dX,dY,gu,gy,sS,gz,gB,kU,gD,gF,gG,dZ,gH,kV,kW,kY,rfl,iW,iX,d9,bY,ed⟩
 have aU:=iT _ _ iW
 have oU:=aY iX
 have oV:=aY d9
 have oW:=aY bY
 have o5:=aY ed
 have o6:=zr 0 aU
 have o7:=zr 2 aU
 have o8:=zr 4 aU
 have o9:=zr 6 aU
 have pg:=zr 7 aU
 have pq:=zr 11 aU
 obtain⟨ek,eu⟩:=om (m:=(ax.mk (bA.mk a.bC (G0 (H3.wrap ((a.aQ:Int)+1))) a.bq a.aJ a.aD (F2 a.ah.ls) (F2 O.aa.ak.ls) (F2 O.aa.af.ls) O.aa.bi a.aI a.aH a.aC) (F2 O.ag.ls))) (tb:=bK) g8 f9 o
 replace ek:Rs g.ag.ls g.aa.ak.ls g.aa.af.ls bR.ai.ls:=ek
 replace eu:g.aa.ah.ls.length=a.ah.ls.length/\g.aa.af.ls.length<=O.aa.af.ls.length+1/\av.aL.ls.length<=24/\g.ag.ls.length+g.aa.ak.ls.length<=6:=eu
 refine Mz rfl (Kz (.agg #[.slice dX av.bD.ls.length dY, .slice gu av.aL.ls.length gy, .bool av.bU]) (Kz (vI gq) ?_))
 refine bW [.slice none 0 0, .slice none 0 0, .bool false] 52 aU ?_
 intro kZ sU lc
 refine cu [.slice dX av.bD.ls.length dY, .slice gu av.aL.ls.length gy, .bool av.bU] 0 lc U5 ?_
 intro sV lg
 refine An rfl (H7 ?_)
 have lh:=lg.px [] [14,15,16] []
 refine H8 (Mz rfl ?_)
 have df:=lh.pf [4]
 have pu:=zr 8 df
 obtain⟨bC,x⟩:∃ q,jG (ax.mk (bA.mk a.bC (G0 (H3.wrap ((a.aQ:Int)+1))) a.bq a.aJ a.aD (F2 a.ah.ls) (F2 g.aa.ak.ls) (F2 g.aa.af.ls) g.aa.bi a.aI a.aH a.aC) (F2 g.ag.ls))=q:=⟨_,rfl⟩
 obtain⟨sW,iY,pz,iZ,cz⟩:=IE df
 refine cl Tryz.call12 (qJ _ _ aH (ax.mk (bA.mk a.bC (G0 (H3.wrap ((a.aQ:Int)+1))) a.bq a.aJ a.aD (F2 a.ah.ls) (F2 g.aa.ak.ls) (F2 g.aa.af.ls) g.aa.bi a.aI a.aH a.aC) (F2 g.ag.ls)) bz aB gz gB gD gF gG dZ gH aO bB bC iY bY (cz _ 7 _ rfl bP) e8 (λ x9 h9=>⟨cz _ 8 _ rfl (bL (O3.2 ⟨x9,h9,b3⟩) bP),dC (φ:=λ _=>_) df (i:=9) rfl (bL (O3.2 ⟨x9,h9,b3⟩) dK),cz _ 8 _ rfl (bL (O3.2 ⟨x9,h9, .tail _ b3⟩) bP),dC (φ:=λ _=>_) df (i:=9) rfl (bL (O3.2 ⟨x9,h9, .tail _ b3⟩) dK)⟩) f0 x) ?_
 rintro _ sZ ⟨ll,lm,rfl,jb⟩
 have gI:=iZ _ _ jb
 have pE:=zr 0 gI
 refine Ar rfl (Mz rfl (Kz (.agg (iy 5 0 1 0 0 0 0 0 5 0 0 0 0 0 0 true [] [] none 0 0 none 0 0 none 0 0).toArray) ?_))
 have gJ:=gI.pf [1,6,7,8,9,10,11,12,13,14]
 have pF:=zr 23 gJ
 obtain⟨⟨L,gK,P,bS⟩,p⟩:∃ q:dH × Int × ax × aW,dN (ax.mk (bA.mk a.bC (G0 (H3.wrap ((a.aQ:Int)+1))) a.bq a.aJ a.aD (F2 a.ah.ls) (F2 g.aa.ak.ls) (F2 g.aa.af.ls) g.aa.bi a.aI a.aH a.aC) (F2 g.ag.ls)) (dL.mk 5 0 1 0 0 0 0 0 5 0 0 0 0 0 0 true (aj.mk [] []) (F2 []) (F2 []) (F2 [])) (StoreT.mk (F2 [])) bR=q:=⟨_,rfl⟩
 obtain⟨tq,jc,pG,jd,je⟩:=Jf gJ
 refine cl V0 (jm _ _ aH (ax.mk (bA.mk a.bC (G0 (H3.wrap ((a.aQ:Int)+1))) a.bq a.aJ a.aD (F2 a.ah.ls) (F2 g.aa.ak.ls) (F2 g.aa.af.ls) g.aa.bi a.aI a.aH a.aC) (F2 g.ag.ls)) bz aB gz gB kU gD gF gG dZ gH (dL.mk 5 0 1 0 0 0 0 0 5 0 0 0 0 0 0 true (aj.mk [] []) (F2 []) (F2 []) (F2 [])) none 0 0 none 0 0 [] none 0 0 aO (StoreT.mk (F2 [])) none 0 bB bR kV kW kY L gK P bS jc (je _ 13 _ rfl bP) e8 d9 bY rfl (λ _ _=>bO.nil _ _ _) f7 rfl rfl (λ _ _=>bO.nil _ _ _) f7 (λ _ h9=>absurd h9 v1) rfl (λ _ _=>bO.nil _ _ _) f7 (λ _ _=>bO.nil _ _ _) e8 ed (by first | assumption | exact Rs.tk f6 | (dsimp only; exact(eD f6).tk)) (by first | assumption | exact Rs.gt f6 | (dsimp only; exact(eD f6).gt)) (by first | omega | exact Tk.n f6 | exact(Rs.tk f6).n | (dsimp only; exact(eD f6).tk.n)) (by first | omega | exact Tk.rows f6 | exact(Rs.tk f6).rows | (dsimp only; exact(eD f6).tk.rows)) f0 f0 f0 p) ?_
 rintro _ tu ⟨F,aV,eB,eG,gL,lq,lu,lv,lw,lC,lD,lF,lH,lI,lJ,lK,rfl,jg,cB,eH,eO,eP⟩
 have aZ:=jd _ _ jg
 have pI:=aY cB
 have pJ:=aY eH
 have pK:=aY eO
 have pM:=aY eP
 have pO:=zr 0 aZ
 have pQ:=zr 2 aZ
 have pR:=zr 4 aZ
 have pU:=zr 6 aZ
 have pV:=zr 7 aZ
 have pW:=zr 11 aZ
 obtain⟨eQ,eT⟩:=om (m:=(ax.mk (bA.mk a.bC (G0 (H3.wrap ((a.aQ:Int)+1))) a.bq a.aJ a.aD (F2 a.ah.ls) (F2 g.aa.ak.ls) (F2 g.aa.af.ls) g.aa.bi a.aI a.aH a.aC) (F2 g.ag.ls))) (tb:=bR) g8 f9 p
 replace eQ:Rs P.ag.ls P.aa.ak.ls P.aa.af.ls bS.ai.ls:=eQ
 replace eT:P.aa.ah.ls.length=a.ah.ls.length/\P.aa.af.ls.length<=g.aa.af.ls.length+1/\L.aL.ls.length<=24/\P.ag.ls.length+P.aa.ak.ls.length<=6:=eT
 refine Mz rfl (Kz (.agg #[.slice F L.bD.ls.length aV, .slice eB L.aL.ls.length eG, .bool L.bU]) (Kz (vI gK) ?_))
 refine bW [.slice none 0 0, .slice none 0 0, .bool false] 52 aZ ?_
 intro bD tC lL
 refine cu [.slice F L.bD.ls.length aV, .slice eB L.aL.ls.length eG, .bool L.bU] 0 lL U5 ?_
 intro tF lM
 refine Ar rfl (Mz rfl (Kz (.agg #[vI 2, .string ⟨v0 ([122])⟩, .string ⟨v0 []⟩, .string ⟨v0 []⟩, .string ⟨v0 []⟩,vI 0]) ?_))
 refine WL.do rfl (IB U8 rfl ?_ (λ _ _ k=>k))
 refine cb U9 ?_
 refine sr ?_
 refine bW [vI 2, .string ⟨v0 ([122])⟩, .string ⟨v0 []⟩, .string ⟨v0 []⟩, .string ⟨v0 []⟩,vI 0] 68 lM ?_
 intro tH tJ lN
 refine bW (iy 0 0 0 0 0 0 0 0 0 0 0 0 0 0 0 false [] [] none 0 0 none 0 0 none 0 0) 47 lN ?_
 intro tK tL gM
 refine ns (Mz rfl (La ([vI 2, .string ⟨v0 ([122])⟩, .string ⟨v0 []⟩, .string ⟨v0 []⟩, .string ⟨v0 []⟩,vI 0]) gM 1 C4 C2 ?_))
 refine jN [vI 2, .string ⟨v0 ([122])⟩, .string ⟨v0 []⟩, .string ⟨v0 []⟩, .string ⟨v0 []⟩,vI 0] 68 6 1 gM ?_
 intro bT tN eU
 replace eU:=IL (y:=row bT 1 1 (q2 aX.cells ([(aX.mk 2 ([122]) [] [] [] 0)])) 68 6) rfl eU
 refine Kz (.agg (iy 3 0 1 0 0 0 0 0 7 0 0 1 0 0 0 false [] [] bT 1 1 none 0 0 none 0 0).toArray) ?_
 have lQ:=eU.pf [1]
 refine cu (iy 3 0 1 0 0 0 0 0 7 0 0 1 0 0 0 false [] [] bT 1 1 none 0 0 none 0 0) 0 lQ I0 ?_
 intro tO gN
 refine nt (rt (Ir (oZ rfl rfl (Io (cs:=(iy 3 0 1 0 0 0 0 0 7 0 0 1 0 0 0 false [] [] bT 1 1 none 0 0 none 0 0)) H5 I0 ((gN.cls (i:=0) rfl).lit (k:=0) (m:=21) rfl))) ?_))
 have gP:=gN.pf [7,8,9,10,11,12,13,14,15,16]
 have pX:=zr 30 gP
 obtain⟨⟨au,gQ,Q,bU⟩,r⟩:∃ q:dH × Int × ax × aW,dN (ax.mk (bA.mk a.bC (G0 (H3.wrap ((a.aQ:Int)+1))) a.bq a.aJ a.aD (F2 a.ah.ls) (F2 P.aa.ak.ls) (F2 P.aa.af.ls) P.aa.bi a.aI a.aH a.aC) (F2 P.ag.ls)) (dL.mk 3 0 1 0 0 0 0 0 7 0 0 1 0 0 0 false (aj.mk [] []) (F2 ([(aX.mk 2 ([122]) [] [] [] 0)])) (F2 []) (F2 [])) (StoreT.mk (F2 [])) bS=q:=⟨_,rfl⟩
 obtain⟨tQ,jh,pY,ji,eX⟩:=Jf gP
 refine cl V0 (jm _ _ aH (ax.mk (bA.mk a.bC (G0 (H3.wrap ((a.aQ:Int)+1))) a.bq a.aJ a.aD (F2 a.ah.ls) (F2 P.aa.ak.ls) (F2 P.aa.af.ls) P.aa.bi a.aI a.aH a.aC) (F2 P.ag.ls)) bz aB lq lu lv lw lC lD lF lH (dL.mk 3 0 1 0 0 0 0 0 7 0 0 1 0 0 0 false (aj.mk [] []) (F2 ([(aX.mk 2 ([122]) [] [] [] 0)])) (F2 []) (F2 [])) bT 1 1 none 0 0 [] none 0 0 aO (StoreT.mk (F2 [])) none 0 bB bS lI lJ lK au gQ Q bU jh (eX _ 20 _ rfl bP) e8 eH eO rfl (eX _ 1 _ rfl bP) f7 rfl rfl (λ _ _=>bO.nil _ _ _) f7 (λ _ h9=>absurd h9 v1) rfl (λ _ _=>bO.nil _ _ _) f7 (λ _ _=>bO.nil _ _ _) e8 eP (by first | assumption | exact Rs.tk f6 | (dsimp only; exact(eD f6).tk)) (by first | assumption | exact Rs.gt f6 | (dsimp only; exact(eD f6).gt)) (by first | omega | exact Tk.n f6 | exact(Rs.tk f6).n | (dsimp only; exact(eD f6).tk.n)) (by first | omega | exact Tk.rows f6 | exact(Rs.tk f6).rows | (dsimp only; exact(eD f6).tk.rows)) f0 f0 f0 r) ?_
 rintro _ tT ⟨aL,dh,gT,gU,lS,lT,lU,lV,lW,lX,l5,l6,l7,l8,l9,ma,rfl,jk,eY,eZ,fe,fo⟩
 have bf:=ji _ _ jk
 have p8:=aY eY
 have p9:=aY eZ
 have qa:=aY fe
 have qb:=aY fo
 have qc:=zr 0 bf
 have qd:=zr 2 bf
 have qf:=zr 4 bf
 have qg:=zr 6 bf
 have qh:=zr 7 bf
 have qi:=zr 11 bf
 obtain⟨fq,fu⟩:=om (m:=(ax.mk (bA.mk a.bC (G0 (H3.wrap ((a.aQ:Int)+1))) a.bq a.aJ a.aD (F2 a.ah.ls) (F2 P.aa.ak.ls) (F2 P.aa.af.ls) P.aa.bi a.aI a.aH a.aC) (F2 P.ag.ls))) (tb:=bS) g8 f9 r
 replace fq:Rs Q.ag.ls Q.aa.ak.ls Q.aa.af.ls bU.ai.ls:=fq
 replace fu:Q.aa.ah.ls.length=a.ah.ls.length/\Q.aa.af.ls.length<=P.aa.af.ls.length+1/\au.aL.ls.length<=24/\Q.ag.ls.length+Q.aa.ak.ls.length<=6:=fu
 refine Mz rfl (Kz (.agg #[.slice aL au.bD.ls.length dh, .slice gT au.aL.ls.length gU, .bool au.bU]) (Kz (vI gQ) ?_))
 refine bW [.slice none 0 0, .slice none 0 0, .bool false] 52 bf ?_
 intro gW tV mf
 refine cu [.slice aL au.bD.ls.length dh, .slice gT au.aL.ls.length gU, .bool au.bU] 0 mf U5 ?_
 intro tX mg
 refine An rfl (H7 ?_)
 have mh:=mg.px [] [14,15,16] []
 refine H8 (Mz rfl (Kz (.agg (iy 6 1 0 0 0 0 0 0 0 0 0 0 0 0 0 false [] [] none 0 0 none 0 0 none 0 0).toArray) ?_))
 have gX:=mh.pf [4,5,6,7,8,9,10,11,12,13]
 have qj:=zr 31 gX
 obtain⟨⟨aM,bE,U,gY⟩,s⟩:∃ q:dH × Int × ax × aW,dN (ax.mk (bA.mk a.bC (G0 (H3.wrap ((a.aQ:Int)+1))) a.bq a.aJ a.aD (F2 a.ah.ls) (F2 Q.aa.ak.ls) (F2 Q.aa.af.ls) Q.aa.bi a.aI a.aH a.aC) (F2 Q.ag.ls)) (dL.mk 6 1 0 0 0 0 0 0 0 0 0 0 0 0 0 false (aj.mk [] []) (F2 []) (F2 []) (F2 [])) (StoreT.mk (F2 [])) bU=q:=⟨_,rfl⟩
 obtain⟨tY,jl,ql,jo,jq⟩:=Jf gX
 refine cl V0 (jm _ _ aH (ax.mk (bA.mk a.bC (G0 (H3.wrap ((a.aQ:Int)+1))) a.bq a.aJ a.aD (F2 a.ah.ls) (F2 Q.aa.ak.ls) (F2 Q.aa.af.ls) Q.aa.bi a.aI a.aH a.aC) (F2 Q.ag.ls)) bz aB lT lU lV lW lX l5 l6 l7 (dL.mk 6 1 0 0 0 0 0 0 0 0 0 0 0 0 0 false (aj.mk [] []) (F2 []) (F2 []) (F2 [])) none 0 0 none 0 0 [] none 0 0 aO (StoreT.mk (F2 [])) none 0 bB bU l8 l9 ma aM bE U gY jl (jq _ 21 _ rfl bP) e8 eZ fe rfl (λ _ _=>bO.nil _ _ _) f7 rfl rfl (λ _ _=>bO.nil _ _ _) f7 (λ _ h9=>absurd h9 v1) rfl (λ _ _=>bO.nil _ _ _) f7 (λ _ _=>bO.nil _ _ _) e8 fo (by first | assumption | exact Rs.tk f6 | (dsimp only; exact(eD f6).tk)) (by first | assumption | exact Rs.gt f6 | (dsimp only; exact(eD f6).gt)) (by first | omega | exact Tk.n f6 | exact(Rs.tk f6).n | (dsimp only; exact(eD f6).tk.n)) (by first | omega | exact Tk.rows f6 | exact(Rs.tk f6).rows | (dsimp only; exact(eD f6).tk.rows)) f0 f0 f0 s) ?_
 rintro _ tZ ⟨gZ,ib,ic,ig,uf,mi,ik,mo,mq,il,mr,mD,ug,uh,ui,uj,rfl,jr,jv,fA,jw,jy⟩
 have bg:=jo _ _ jr
 have qm:=aY jv
 have qo:=aY fA
 have qp:=aY jw
 have qw:=aY jy
 have qx:=zr 0 bg
 have qy:=zr 2 bg
 have qz:=zr 4 bg
 have qA:=zr 6 bg
 have qB:=zr 7 bg
 have qC:=zr 11 bg
 obtain⟨fB,fC⟩:=om (m:=(ax.mk (bA.mk a.bC (G0 (H3.wrap ((a.aQ:Int)+1))) a.bq a.aJ a.aD (F2 a.ah.ls) (F2 Q.aa.ak.ls) (F2 Q.aa.af.ls) Q.aa.bi a.aI a.aH a.aC) (F2 Q.ag.ls))) (tb:=bU) g8 f9 s
 replace fB:Rs U.ag.ls U.aa.ak.ls U.aa.af.ls gY.ai.ls:=fB
 replace fC:U.aa.ah.ls.length=a.ah.ls.length/\U.aa.af.ls.length<=Q.aa.af.ls.length+1/\aM.aL.ls.length<=24/\U.ag.ls.length+U.aa.ak.ls.length<=6:=fC
 refine Mz rfl (Kz (.agg #[.slice gZ aM.bD.ls.length ib, .slice ic aM.aL.ls.length ig, .bool aM.bU]) (Kz (vI bE) ?_))
 refine bW [.slice none 0 0, .slice none 0 0, .bool false] 52 bg ?_
 intro uk ul mE
 refine cu [.slice gZ aM.bD.ls.length ib, .slice ic aM.aL.ls.length ig, .bool aM.bU] 0 mE U5 ?_
 intro um mF
 refine An rfl (H7 ?_)
 have bX:=mF.px [] [0,1,2,3] []
 refine H8 (Mz rfl ?_)
 have qD:=zr 31 bX
 have qE:=zr 1 bX
 have qF:=zr 3 bX
 obtain⟨aC,z⟩:∃ q,lZ (ax.mk (bA.mk a.bC (G0 (H3.wrap ((a.aQ:Int)+1))) a.bq a.aJ a.aD (F2 a.ah.ls) (F2 U.aa.ak.ls) (F2 U.aa.af.ls) U.aa.bi a.aI a.aH a.aC) (F2 U.ag.ls))=q:=⟨_,rfl⟩
 obtain⟨uo,jA,qG,jB,bG⟩:=IE bX
 refine cl Tryz.call11 (qK _ _ aH (ax.mk (bA.mk a.bC (G0 (H3.wrap ((a.aQ:Int)+1))) a.bq a.aJ a.aD (F2 a.ah.ls) (F2 U.aa.ak.ls) (F2 U.aa.af.ls) U.aa.bi a.aI a.aH a.aC) (F2 U.ag.ls)) bz aB mi ik mo mq il mr mD aO bB aC jA (bG _ 30 _ rfl bP) e8 fA (bG _ 0 _ rfl bP) e8 (λ x9 h9=>⟨bG _ 1 _ rfl (bL (O3.2 ⟨x9,h9,b3⟩) bP),dC (φ:=λ _=>_) bX (i:=2) rfl (bL (O3.2 ⟨x9,h9,b3⟩) dK)⟩) (bG _ 2 _ rfl bP) e8 g4 (by first | assumption | exact Tk.hops f6 | exact(Rs.tk f6).hops) z) ?_
 rintro _ uq ⟨mG,mH,iq,iw,mI,mJ,ut,rfl,jC,jD⟩
 have di:=jB _ _ jC
 have qH:=aY jD
 have qI:=zr 0 di
 have qL:=zr 1 di
 have qM:=zr 3 di
 refine bW (gV 0 0 0 0 0 none 0 0 none 0 0 none 0 0 0 0 [] [] 0 0 0 [] []) 41 di ?_
 intro iA uu mK
 refine cu (iV aC mG mH iq iw mI mJ) 0 mK E7 ?_
 intro uy mM
 refine nt (H7 ?_)
 have b:=mM.px [] [5,6,7,8,9,10,11,12,13,14,36] []
 refine H8 (Kz (vP dE 0) (Lz (.slice aJ ag.bD.ls.length cO) b 22 V1 (Kz (vJ ag.bD.ls.length) (Kz (.bool (decide ((ag.bD.ls.length:Int)=1))) (Mz rfl ?_)))))
 by_cases f:(ag.bD.ls.length:Int)=1
 refine Gz (vP dE 0) (dT f) (Gl (.slice aJ ag.bD.ls.length cO) (dT f) b 22 V1 ?_)
 obtain⟨V,bi⟩:=dG (ls:=jU) (i:=0) bV.len f5 (b.rds (i:=23) rfl) f2
 have G:=fO dw bi
 have qN:V.aK.ls.length<=V.aK.c/\V.aK.ls.length<=9223372036854775807:=dC b (i:=24) rfl (φ:=λ _=>_) (bL (O3.2 ⟨V,D4 bi,b3⟩) dK)
 have qO:V.aV.ls.length=q7 (s1 aR.abs V.aV.ls):=aY (rfl:s1 aR.abs V.aV.ls=s1 aR.abs V.aV.ls)
 have qP:V.aV.ls.length<=V.aV.c/\V.aV.ls.length<=9223372036854775807:=dC b (i:=24) rfl (φ:=λ _=>_) (bL (O3.2 ⟨V,D4 bi, .tail _ b3⟩) dK)
 have qR:V.ah.ls.length<=V.ah.c/\V.ah.ls.length<=9223372036854775807:=dC b (i:=24) rfl (φ:=λ _=>_) (bL (O3.2 ⟨V,D4 bi, .tail _ b4⟩) dK)
 refine gw (.pointer (some ⟨ab aJ,ao aJ+0 *21,none⟩)) (dT f) (Im (sK) rfl rfl ((b.rds (i:=23) rfl).addr (i:=0) e8) e8) (Gz (.pointer (some ⟨ab aJ,ao aJ+0 *21+4,none⟩)) (dT f) (gw (vI V.gp) (dT f) (Il rfl (bQ.one B3 (((b.rds (i:=23) rfl).elem bV.len bi f5).at_ (k:=4) rfl))) (Gz (.bool (decide (V.gp=3))) (dT f) (fw (.bool (decide (V.gp=3))) (Ic rfl (dT f) rfl) (Mz rfl ?_)))))
 by_cases I:V.gp=3
 refine Gz (vP dE 2) (dT I) (Gl (.bool ag.bU) (dT I) b 22 Tryz.isAgg4 (fw (.bool ag.bU) (Ic rfl (dT I) rfl) (Mz rfl ?_)))
 rcases Lr (ag.bU) with t | t
 refine Gz (vP fV 0) t (Gl (.slice aK ak.bD.ls.length cZ) t b 18 V1 (Gz (vJ ak.bD.ls.length) t (Gz (.bool (decide ((ak.bD.ls.length:Int)=1))) t (fw (.bool (decide ((ak.bD.ls.length:Int)=1))) (Ic rfl t rfl) (Mz rfl ?_)))))
 by_cases h:(ak.bD.ls.length:Int)=1
 refine Gz (vP fV 0) (dT h) (Gl (.slice aK ak.bD.ls.length cZ) (dT h) b 18 V1 ?_)
 obtain⟨W,bn⟩:=dG (ls:=kz) (i:=0) bV.len f5 (b.rds (i:=19) rfl) f2
 have Z:=fO dO bn
 have qU:W.aK.ls.length<=W.aK.c/\W.aK.ls.length<=9223372036854775807:=dC b (i:=20) rfl (φ:=λ _=>_) (bL (O3.2 ⟨W,D4 bn,b3⟩) dK)
 have qV:W.aV.ls.length=q7 (s1 aR.abs W.aV.ls):=aY (rfl:s1 aR.abs W.aV.ls=s1 aR.abs W.aV.ls)
 have qW:W.aV.ls.length<=W.aV.c/\W.aV.ls.length<=9223372036854775807:=dC b (i:=20) rfl (φ:=λ _=>_) (bL (O3.2 ⟨W,D4 bn, .tail _ b3⟩) dK)
 have qX:W.ah.ls.length<=W.ah.c/\W.ah.ls.length<=9223372036854775807:=dC b (i:=20) rfl (φ:=λ _=>_) (bL (O3.2 ⟨W,D4 bn, .tail _ b4⟩) dK)
 refine gw (.pointer (some ⟨ab aK,ao aK+0 *21,none⟩)) (dT h) (Im (sK) rfl rfl ((b.rds (i:=19) rfl).addr (i:=0) e8) e8) (Gz (.pointer (some ⟨ab aK,ao aK+0 *21+4,none⟩)) (dT h) (gw (vI W.gp) (dT h) (Il rfl (bQ.one B3 (((b.rds (i:=19) rfl).elem bV.len bn f5).at_ (k:=4) rfl))) (Gz (.bool (decide (W.gp=5))) (dT h) (fw (.bool (decide (W.gp=5))) (Ic rfl (dT h) rfl) (Mz rfl ?_)))))
 by_cases B:W.gp=5
 refine Gz (vP kZ 0) (dT B) (Gl (.slice dX av.bD.ls.length dY) (dT B) b 14 V1 (Gz (vJ av.bD.ls.length) (dT B) (Gz (.bool (decide ((av.bD.ls.length:Int)=0))) (dT B) (fw (.bool (decide ((av.bD.ls.length:Int)=0))) (Ic rfl (dT B) rfl) (Mz rfl ?_)))))
 by_cases R:(av.bD.ls.length:Int)=0
 refine gw (.slice ll bC.length lm) (dT R) (Ie rfl) (Gz (vJ bC.length) (dT R) (Gz (.bool (decide ((bC.length:Int)=1))) (dT R) (fw (.bool (decide ((bC.length:Int)=1))) (Ic rfl (dT R) rfl) (Mz rfl ?_))))
 by_cases M:(bC.length:Int)=1
 refine Gz (vP bD 1) (dT M) (Gl (.slice eB L.aL.ls.length eG) (dT M) b 9 Tryz.isAgg44 (Gz (vJ L.aL.ls.length) (dT M) (Gz (.bool (decide ((L.aL.ls.length:Int)=1))) (dT M) (fw (.bool (decide ((L.aL.ls.length:Int)=1))) (Ic rfl (dT M) rfl) (Mz rfl ?_)))))
 by_cases S:(L.aL.ls.length:Int)=1
 refine Gz (vP bD 0) (dT S) (Gl (.slice F L.bD.ls.length aV) (dT S) b 9 V1 (Gz (vJ L.bD.ls.length) (dT S) (Gz (.bool (decide ((L.bD.ls.length:Int)=2))) (dT S) (fw (.bool (decide ((L.bD.ls.length:Int)=2))) (Ic rfl (dT S) rfl) (Mz rfl ?_)))))
 by_cases C:(L.bD.ls.length:Int)=2
 refine Gz (vP bD 0) (dT C) (Gl (.slice F L.bD.ls.length aV) (dT C) b 9 V1 ?_)
 obtain⟨X,bq⟩:=dG (ls:=gL) (i:=0) bV.len f5 (b.rds (i:=10) rfl) f2
 have aA:=fO cB bq
 have qY:X.aK.ls.length<=X.aK.c/\X.aK.ls.length<=9223372036854775807:=dC b (i:=11) rfl (φ:=λ _=>_) (bL (O3.2 ⟨X,D4 bq,b3⟩) dK)
 have qZ:X.aV.ls.length=q7 (s1 aR.abs X.aV.ls):=aY (rfl:s1 aR.abs X.aV.ls=s1 aR.abs X.aV.ls)
 have q8:X.aV.ls.length<=X.aV.c/\X.aV.ls.length<=9223372036854775807:=dC b (i:=11) rfl (φ:=λ _=>_) (bL (O3.2 ⟨X,D4 bq, .tail _ b3⟩) dK)
 have q9:X.ah.ls.length<=X.ah.c/\X.ah.ls.length<=9223372036854775807:=dC b (i:=11) rfl (φ:=λ _=>_) (bL (O3.2 ⟨X,D4 bq, .tail _ b4⟩) dK)
 refine gw (.pointer (some ⟨ab F,ao F+0 *21,none⟩)) (dT C) (Im (sK) rfl rfl ((b.rds (i:=10) rfl).addr (i:=0) e8) e8) (Gz (.pointer (some ⟨ab F,ao F+0 *21,none⟩)) (dT C) (gw (vI X.aB) (dT C) (Il rfl (bQ.one B3 (((b.rds (i:=10) rfl).elem bV.len bq f5).at_ (k:=0) rfl))) (Gz (.bool (decide (X.aB=6))) (dT C) (fw (.bool (decide (X.aB=6))) (Ic rfl (dT C) rfl) (Mz rfl ?_)))))
 by_cases J:X.aB=6
 refine Gz (vP bD 0) (dT J) (Gl (.slice F L.bD.ls.length aV) (dT J) b 9 V1 ?_)
 obtain⟨d,ai⟩:=dG (ls:=gL) (i:=1) bV.len f5 (b.rds (i:=10) rfl) f2
 have aD:=fO cB ai
 have rf:d.aK.ls.length<=d.aK.c/\d.aK.ls.length<=9223372036854775807:=dC b (i:=11) rfl (φ:=λ _=>_) (bL (O3.2 ⟨d,D4 ai,b3⟩) dK)
 have rq:d.aV.ls.length=q7 (s1 aR.abs d.aV.ls):=aY (rfl:s1 aR.abs d.aV.ls=s1 aR.abs d.aV.ls)
 have ru:d.aV.ls.length<=d.aV.c/\d.aV.ls.length<=9223372036854775807:=dC b (i:=11) rfl (φ:=λ _=>_) (bL (O3.2 ⟨d,D4 ai, .tail _ b3⟩) dK)
 have ry:d.ah.ls.length<=d.ah.c/\d.ah.ls.length<=9223372036854775807:=dC b (i:=11) rfl (φ:=λ _=>_) (bL (O3.2 ⟨d,D4 ai, .tail _ b4⟩) dK)
 refine gw (.pointer (some ⟨ab F,ao F+1 *21,none⟩)) (dT J) (Im (sK) rfl rfl ((b.rds (i:=10) rfl).addr (i:=1) e8) e8) (Gz (.pointer (some ⟨ab F,ao F+1 *21+8,none⟩)) (dT J) (gw (vU d.aU) (dT J) (Il rfl (bQ.one E1 (((b.rds (i:=10) rfl).elem bV.len ai f5).at_ (k:=8) rfl))) (Gz (.bool (decide ((d.aU:Int)=4))) (dT J) (fw (.bool (decide ((d.aU:Int)=4))) (Ic rfl (dT J) rfl) (Mz rfl ?_)))))
 by_cases E:(d.aU:Int)=4
 refine Gz (vP bD 0) (dT E) (Gl (.slice F L.bD.ls.length aV) (dT E) b 9 V1 (gw (.pointer (some ⟨ab F,ao F+1 *21,none⟩)) (dT E) (Im (sK) rfl rfl ((b.rds (i:=10) rfl).addr (i:=1) e8) e8) (Gz (.pointer (some ⟨ab F,ao F+1 *21+19,none⟩)) (dT E) (gw (.slice d.aV.A d.aV.ls.length d.aV.c) (dT E) (Il rfl (bQ.one Tryz.isAgg45 (((b.rds (i:=10) rfl).elem bV.len ai f5).at_ (k:=19) rfl))) (gw (vJ (q7 (s1 aR.abs d.aV.ls))) (dT E) (Ig (e:=(d.aV.ls.length:Int)) yk (by rw [List.length_map])) (Gz (.bool (decide (((q7 (s1 aR.abs d.aV.ls):Nat):Int)=1))) (dT E) (fw (.bool (decide (((q7 (s1 aR.abs d.aV.ls):Nat):Int)=1))) (Ic rfl (dT E) rfl) (Mz rfl ?_))))))))
 by_cases u:((q7 (s1 aR.abs d.aV.ls):Nat):Int)=1
 refine Gz (vP bD 0) (dT u) (Gl (.slice F L.bD.ls.length aV) (dT u) b 9 V1 (gw (.pointer (some ⟨ab F,ao F+1 *21,none⟩)) (dT u) (Im (sK) rfl rfl ((b.rds (i:=10) rfl).addr (i:=1) e8) e8) (Gz (.pointer (some ⟨ab F,ao F+1 *21+19,none⟩)) (dT u) (gw (.slice d.aV.A d.aV.ls.length d.aV.c) (dT u) (Il rfl (bQ.one Tryz.isAgg45 (((b.rds (i:=10) rfl).elem bV.len ai f5).at_ (k:=19) rfl))) ?_))))
 obtain⟨aN,cK⟩:=dG (ls:=d.aV.ls) (i:=0) aR.len f5 (show bO _ 3 d.aV.A d.aV.ls.length (q2 aR.cells d.aV.ls) from (dC b (i:=11) rfl (bL (O3.2 ⟨d,D4 ai, .tail _ b3⟩) bP))) f2
 have aI:=fO (rfl:s1 aR.abs d.aV.ls=s1 aR.abs d.aV.ls) cK
 have rz:aN.bz.ls.length<=aN.bz.c/\aN.bz.ls.length<=9223372036854775807:=dC b (i:=11) rfl (φ:=λ _=>_) (bL (O3.2 ⟨d,D4 ai, .tail _ b5⟩) (bL (O3.2 ⟨aN,D4 cK,b3⟩) dK))
 refine gw (.pointer (some ⟨ab d.aV.A,ao d.aV.A+0 *3,none⟩)) (dT u) (Im (uw) rfl rfl ((show bO _ 3 d.aV.A d.aV.ls.length (q2 aR.cells d.aV.ls) from (dC b (i:=11) rfl (bL (O3.2 ⟨d,D4 ai, .tail _ b3⟩) bP))).addr (i:=0) e8) e8) (Gz (.pointer (some ⟨ab d.aV.A,ao d.aV.A+0 *3+1,none⟩)) (dT u) (gw (.string ⟨v0 aN.aO⟩) (dT u) (Il rfl (bQ.one Tryz.isAgg9 (((show bO _ 3 d.aV.A d.aV.ls.length (q2 aR.cells d.aV.ls) from (dC b (i:=11) rfl (bL (O3.2 ⟨d,D4 ai, .tail _ b3⟩) bP))).elem aR.len cK f5).at_ (k:=1) rfl))) (gw (.bool (decide (aN.aO=([120])))) (dT u) (Jq rfl rfl) (fw (.bool (decide (aN.aO=([120])))) (Ic rfl (dT u) rfl) (Mz rfl ?_)))))
 by_cases ah:aN.aO=([120])
 refine Gz (vP gW 0) (dT ah) (Gl (.slice aL au.bD.ls.length dh) (dT ah) b 5 V1 (Gz (vJ au.bD.ls.length) (dT ah) (Gz (.bool (decide ((au.bD.ls.length:Int)=1))) (dT ah) (fw (.bool (decide ((au.bD.ls.length:Int)=1))) (Ic rfl (dT ah) rfl) (Mz rfl ?_)))))
 by_cases aa:(au.bD.ls.length:Int)=1
 refine Gz (vP gW 0) (dT aa) (Gl (.slice aL au.bD.ls.length dh) (dT aa) b 5 V1 ?_)
 obtain⟨Y,bv⟩:=dG (ls:=lS) (i:=0) bV.len f5 (b.rds (i:=6) rfl) f2
 have bH:=fO eY bv
 have rA:Y.aK.ls.length<=Y.aK.c/\Y.aK.ls.length<=9223372036854775807:=dC b (i:=7) rfl (φ:=λ _=>_) (bL (O3.2 ⟨Y,D4 bv,b3⟩) dK)
 have rC:Y.aV.ls.length=q7 (s1 aR.abs Y.aV.ls):=aY (rfl:s1 aR.abs Y.aV.ls=s1 aR.abs Y.aV.ls)
 have rD:Y.aV.ls.length<=Y.aV.c/\Y.aV.ls.length<=9223372036854775807:=dC b (i:=7) rfl (φ:=λ _=>_) (bL (O3.2 ⟨Y,D4 bv, .tail _ b3⟩) dK)
 have rE:Y.ah.ls.length<=Y.ah.c/\Y.ah.ls.length<=9223372036854775807:=dC b (i:=7) rfl (φ:=λ _=>_) (bL (O3.2 ⟨Y,D4 bv, .tail _ b4⟩) dK)
 refine gw (.pointer (some ⟨ab aL,ao aL+0 *21,none⟩)) (dT aa) (Im (sK) rfl rfl ((b.rds (i:=6) rfl).addr (i:=0) e8) e8) (Gz (.pointer (some ⟨ab aL,ao aL+0 *21+4,none⟩)) (dT aa) (gw (vI Y.gp) (dT aa) (Il rfl (bQ.one B3 (((b.rds (i:=6) rfl).elem bV.len bv f5).at_ (k:=4) rfl))) (Gz (.bool (decide (Y.gp=4))) (dT aa) (fw (.bool (decide (Y.gp=4))) (Ic rfl (dT aa) rfl) (Mz rfl ?_)))))
 by_cases aF:Y.gp=4
 refine gw (vI bE) (dT aF) (Ie rfl) (Gz (.bool (decide (bE=180))) (dT aF) (fw (.bool (decide (bE=180))) (Ic rfl (dT aF) rfl) (Mz rfl ?_)))
 by_cases az:bE=180
 refine Gz (vP iA 6) (dT az) (Gl (.slice iq aC.ak.ls.length iw) (dT az) b 0 Tryz.isAgg34 (Gz (vJ aC.ak.ls.length) (dT az) (Gz (.bool (decide ((aC.ak.ls.length:Int)=1))) (dT az) (fw (.bool (decide ((aC.ak.ls.length:Int)=1))) (Ic rfl (dT az) rfl) (Mz rfl ?_)))))
 by_cases aG:(aC.ak.ls.length:Int)=1
 refine Gz (vP iA 1) (dT aG) (Gl (vU aC.aQ) (dT aG) b 0 E1 (Gz (.bool (decide ((aC.aQ:Int)=1))) (dT aG) (fw (.bool (decide ((aC.aQ:Int)=1))) (Ic rfl (dT aG) rfl) (An rfl (rt (rs ?_))))))
 have mO:=b.pk []
 obtain rfl:_=decide ((aC.aQ:Int)=1):=zj hr (et (ae T) (et (ip af) (et (ae K) (et (ae j) (et (ae l) (et (ae o) (et (ae x) (et (ae p) (et (ae r) (et (ae s) (et (ae z) (et (ip f) (et (ae (bu G)) (et (ip I) (et (ip t) (et (ip h) (et (ae (bu Z)) (et (ip B) (et (ip R) (et (ip M) (et (ip S) (et (ip C) (et (ae (bu aA)) (et (ip J) (et (ae (bu aD)) (et (ip E) (et (ip u) (et (ae (bu aI)) (et (ip ah) (et (ip aa) (et (ae (bu bH)) (et (ip aF) (et (ip az) (ip aG))))))))))))))))))))))))))))))))))
 exact⟨rfl,mO⟩
 refine Sz (dF aG) (Sz (dF aG) (Sz (dF aG) (fw (.bool false) (H6 rfl (dF aG) rfl) (An rfl (rt (rs ?_))))))
 have mP:=b.pk []
 obtain rfl:_=false:=zj hr (et (ae T) (et (ip af) (et (ae K) (et (ae j) (et (ae l) (et (ae o) (et (ae x) (et (ae p) (et (ae r) (et (ae s) (et (ae z) (et (ip f) (et (ae (bu G)) (et (ip I) (et (ip t) (et (ip h) (et (ae (bu Z)) (et (ip B) (et (ip R) (et (ip M) (et (ip S) (et (ip C) (et (ae (bu aA)) (et (ip J) (et (ae (bu aD)) (et (ip E) (et (ip u) (et (ae (bu aI)) (et (ip ah) (et (ip aa) (et (ae (bu bH)) (et (ip aF) (et (ip az) (iN aG))))))))))))))))))))))))))))))))))
 exact⟨rfl,mP⟩
 refine Sz (dF az) (Sz (dF az) (Sz (dF az) (Sz (dF az) (fw (.bool false) (H6 rfl (dF az) rfl) (Mz rfl (Sz rfl (Sz rfl (Sz rfl (fw (.bool false) (H6 rfl rfl rfl) (An rfl (rt (rs ?_))))))))))))
 have mQ:=b.pk []
 obtain rfl:_=false:=zj hr (et (ae T) (et (ip af) (et (ae K) (et (ae j) (et (ae l) (et (ae o) (et (ae x) (et (ae p) (et (ae r) (et (ae s) (et (ae z) (et (ip f) (et (ae (bu G)) (et (ip I) (et (ip t) (et (ip h) (et (ae (bu Z)) (et (ip B) (et (ip R) (et (ip M) (et (ip S) (et (ip C) (et (ae (bu aA)) (et (ip J) (et (ae (bu aD)) (et (ip E) (et (ip u) (et (ae (bu aI)) (et (ip ah) (et (ip aa) (et (ae (bu bH)) (et (ip aF) (iN az)))))))))))))))))))))))))))))))))
 exact⟨rfl,mQ⟩
 refine Sz (dF aF) (Sz (dF aF) (fw (.bool false) (H6 rfl (dF aF) rfl) (Mz rfl (Sz rfl (Sz rfl (Sz rfl (Sz rfl (fw (.bool false) (H6 rfl rfl rfl) (Mz rfl (Sz rfl (Sz rfl (Sz rfl (fw (.bool false) (H6 rfl rfl rfl) (An rfl (rt (rs ?_))))))))))))))))
 have mR:=b.pk []
 obtain rfl:_=false:=zj hr (et (ae T) (et (ip af) (et (ae K) (et (ae j) (et (ae l) (et (ae o) (et (ae x) (et (ae p) (et (ae r) (et (ae s) (et (ae z) (et (ip f) (et (ae (bu G)) (et (ip I) (et (ip t) (et (ip h) (et (ae (bu Z)) (et (ip B) (et (ip R) (et (ip M) (et (ip S) (et (ip C) (et (ae (bu aA)) (et (ip J) (et (ae (bu aD)) (et (ip E) (et (ip u) (et (ae (bu aI)) (et (ip ah) (et (ip aa) (et (ae (bu bH)) (iN aF))))))))))))))))))))))))))))))))
 exact⟨rfl,mR⟩
 refine Sz (dF aa) (Sz (dF aa) (Sz (dF aa) (Sz (dF aa) (Sz (dF aa) (Sz (dF aa) (fw (.bool false) (H6 rfl (dF aa) rfl) (Mz rfl (Sz rfl (Sz rfl (fw (.bool false) (H6 rfl rfl rfl) (Mz rfl (Sz rfl (Sz rfl (Sz rfl (Sz rfl (fw (.bool false) (H6 rfl rfl rfl) (Mz rfl (Sz rfl (Sz rfl (Sz rfl (fw (.bool false) (H6 rfl rfl rfl) (An rfl (rt (rs ?_))))))))))))))))))))))))
 have mU:=b.pk []
 obtain rfl:_=false:=zj hr (et (ae T) (et (ip af) (et (ae K) (et (ae j) (et (ae l) (et (ae o) (et (ae x) (et (ae p) (et (ae r) (et (ae s) (et (ae z) (et (ip f) (et (ae (bu G)) (et (ip I) (et (ip t) (et (ip h) (et (ae (bu Z)) (et (ip B) (et (ip R) (et (ip M) (et (ip S) (et (ip C) (et (ae (bu aA)) (et (ip J) (et (ae (bu aD)) (et (ip E) (et (ip u) (et (ae (bu aI)) (et (ip ah) (iN aa))))))))))))))))))))))))))))))
 exact⟨rfl,mU⟩
 refine Sz (dF ah) (Sz (dF ah) (Sz (dF ah) (Sz (dF ah) (fw (.bool false) (H6 rfl (dF ah) rfl) (Mz rfl (Sz rfl (Sz rfl (Sz rfl (Sz rfl (Sz rfl (Sz rfl (fw (.bool false) (H6 rfl rfl rfl) (Mz rfl (Sz rfl (Sz rfl (fw (.bool false) (H6 rfl rfl rfl) (Mz rfl (Sz rfl (Sz rfl (Sz rfl (Sz rfl (fw (.bool false) (H6 rfl rfl rfl) (Mz rfl (Sz rfl (Sz rfl (Sz rfl (fw (.bool false) (H6 rfl rfl rfl) (An rfl (rt (rs ?_))))))))))))))))))))))))))))))
 have mV:=b.pk []
 obtain rfl:_=false:=zj hr (et (ae T) (et (ip af) (et (ae K) (et (ae j) (et (ae l) (et (ae o) (et (ae x) (et (ae p) (et (ae r) (et (ae s) (et (ae z) (et (ip f) (et (ae (bu G)) (et (ip I) (et (ip t) (et (ip h) (et (ae (bu Z)) (et (ip B) (et (ip R) (et (ip M) (et (ip S) (et (ip C) (et (ae (bu aA)) (et (ip J) (et (ae (bu aD)) (et (ip E) (et (ip u) (et (ae (bu aI)) (iN ah)))))))))))))))))))))))))))))
 exact⟨rfl,mV⟩
 refine Sz (dF u) (Sz (dF u) (Sz (dF u) (Sz (dF u) (Sz (dF u) (Sz (dF u) (Sz (dF u) (Sz (dF u) (Sz (dF u) (fw (.bool false) (H6 rfl (dF u) rfl) (Mz rfl (Sz rfl (Sz rfl (Sz rfl (Sz rfl (fw (.bool false) (H6 rfl rfl rfl) (Mz rfl (Sz rfl (Sz rfl (Sz rfl (Sz rfl (Sz rfl (Sz rfl (fw (.bool false) (H6 rfl rfl rfl) (Mz rfl (Sz rfl (Sz rfl (fw (.bool false) (H6 rfl rfl rfl) (Mz rfl (Sz rfl (Sz rfl (Sz rfl (Sz rfl (fw (.bool false) (H6 rfl rfl rfl) (Mz rfl (Sz rfl (Sz rfl (Sz rfl (fw (.bool false) (H6 rfl rfl rfl) (Az rfl ?_)))))))))))))))))))))))))))))))))))))))
 refine nt (rt (rs ?_))
 have mW:=b.pk []
 obtain rfl:_=false:=zj hr (et (ae T) (et (ip af) (et (ae K) (et (ae j) (et (ae l) (et (ae o) (et (ae x) (et (ae p) (et (ae r) (et (ae s) (et (ae z) (et (ip f) (et (ae (bu G)) (et (ip I) (et (ip t) (et (ip h) (et (ae (bu Z)) (et (ip B) (et (ip R) (et (ip M) (et (ip S) (et (ip C) (et (ae (bu aA)) (et (ip J) (et (ae (bu aD)) (et (ip E) (iN u)))))))))))))))))))))))))))
 exact⟨rfl,mW⟩
 refine Sz (dF E) (Sz (dF E) (Sz (dF E) (Sz (dF E) (Sz (dF E) (Sz (dF E) (Sz (dF E) (fw (.bool false) (H6 rfl (dF E) rfl) (Mz rfl (Sz rfl (Sz rfl (Sz rfl (Sz rfl (Sz rfl (Sz rfl (Sz rfl (Sz rfl (Sz rfl (fw (.bool false) (H6 rfl rfl rfl) (Mz rfl (Sz rfl (Sz rfl (Sz rfl (Sz rfl (fw (.bool false) (H6 rfl rfl rfl) (Mz rfl (Sz rfl (Sz rfl (Sz rfl (Sz rfl (Sz rfl (Sz rfl (fw (.bool false) (H6 rfl rfl rfl) (Mz rfl (Sz rfl (Sz rfl (fw (.bool false) (H6 rfl rfl rfl) (Mz rfl (Sz rfl (Sz rfl ?_)))))))))))))))))))))))))))))))))))))))
 refine Sz rfl (Sz rfl (fw (.bool false) (H6 rfl rfl rfl) (Mz rfl (Sz rfl (Sz rfl (Sz rfl (fw (.bool false) (H6 rfl rfl rfl) (An rfl (rt (rs ?_))))))))))
 have mX:=b.pk []
 obtain rfl:_=false:=zj hr (et (ae T) (et (ip af) (et (ae K) (et (ae j) (et (ae l) (et (ae o) (et (ae x) (et (ae p) (et (ae r) (et (ae s) (et (ae z) (et (ip f) (et (ae (bu G)) (et (ip I) (et (ip t) (et (ip h) (et (ae (bu Z)) (et (ip B) (et (ip R) (et (ip M) (et (ip S) (et (ip C) (et (ae (bu aA)) (et (ip J) (et (ae (bu aD)) (iN E))))))))))))))))))))))))))
 exact⟨rfl,mX⟩
 refine Sz (dF J) (Sz (dF J) (Sz (dF J) (Sz (dF J) (Sz (dF J) (Sz (dF J) (fw (.bool false) (H6 rfl (dF J) rfl) (Mz rfl (Sz rfl (Sz rfl (Sz rfl (Sz rfl (Sz rfl (Sz rfl (Sz rfl (fw (.bool false) (H6 rfl rfl rfl) (Mz rfl (Sz rfl (Sz rfl (Sz rfl (Sz rfl (Sz rfl (Sz rfl (Sz rfl (Sz rfl (Sz rfl (fw (.bool false) (H6 rfl rfl rfl) (Mz rfl (Sz rfl (Sz rfl (Sz rfl (Sz rfl (fw (.bool false) (H6 rfl rfl rfl) (Mz rfl (Sz rfl (Sz rfl (Sz rfl (Sz rfl (Sz rfl (Sz rfl ?_)))))))))))))))))))))))))))))))))))))))
 refine fw (.bool false) (H6 rfl rfl rfl) (Mz rfl (Sz rfl (Sz rfl (fw (.bool false) (H6 rfl rfl rfl) (Mz rfl (Sz rfl (Sz rfl (Sz rfl (Sz rfl (fw (.bool false) (H6 rfl rfl rfl) (Mz rfl (Sz rfl (Sz rfl (Sz rfl (fw (.bool false) (H6 rfl rfl rfl) (An rfl (rt (rs ?_))))))))))))))))))
 have mY:=b.pk []
 obtain rfl:_=false:=zj hr (et (ae T) (et (ip af) (et (ae K) (et (ae j) (et (ae l) (et (ae o) (et (ae x) (et (ae p) (et (ae r) (et (ae s) (et (ae z) (et (ip f) (et (ae (bu G)) (et (ip I) (et (ip t) (et (ip h) (et (ae (bu Z)) (et (ip B) (et (ip R) (et (ip M) (et (ip S) (et (ip C) (et (ae (bu aA)) (iN J))))))))))))))))))))))))
 exact⟨rfl,mY⟩
 refine Sz (dF C) (Sz (dF C) (Sz (dF C) (Sz (dF C) (Sz (dF C) (Sz (dF C) (fw (.bool false) (H6 rfl (dF C) rfl) (Mz rfl (Sz rfl (Sz rfl (Sz rfl (Sz rfl (Sz rfl (Sz rfl (fw (.bool false) (H6 rfl rfl rfl) (Mz rfl (Sz rfl (Sz rfl (Sz rfl (Sz rfl (Sz rfl (Sz rfl (Sz rfl (fw (.bool false) (H6 rfl rfl rfl) (Mz rfl (Sz rfl (Sz rfl (Sz rfl (Sz rfl (Sz rfl (Sz rfl (Sz rfl (Sz rfl (Sz rfl (fw (.bool false) (H6 rfl rfl rfl) (Mz rfl (Sz rfl (Sz rfl (Sz rfl (Sz rfl ?_)))))))))))))))))))))))))))))))))))))))
 refine fw (.bool false) (H6 rfl rfl rfl) (Mz rfl (Sz rfl (Sz rfl (Sz rfl (Sz rfl (Sz rfl (Sz rfl (fw (.bool false) (H6 rfl rfl rfl) (Mz rfl (Sz rfl (Sz rfl (fw (.bool false) (H6 rfl rfl rfl) (Mz rfl (Sz rfl (Sz rfl (Sz rfl (Sz rfl (fw (.bool false) (H6 rfl rfl rfl) (Mz rfl (Sz rfl (Sz rfl (Sz rfl (fw (.bool false) (H6 rfl rfl rfl) (An rfl (rt (rs ?_))))))))))))))))))))))))))
 have mZ:=b.pk []
 obtain rfl:_=false:=zj hr (et (ae T) (et (ip af) (et (ae K) (et (ae j) (et (ae l) (et (ae o) (et (ae x) (et (ae p) (et (ae r) (et (ae s) (et (ae z) (et (ip f) (et (ae (bu G)) (et (ip I) (et (ip t) (et (ip h) (et (ae (bu Z)) (et (ip B) (et (ip R) (et (ip M) (et (ip S) (iN C))))))))))))))))))))))
 exact⟨rfl,mZ⟩
 refine Sz (dF S) (Sz (dF S) (Sz (dF S) (Sz (dF S) (fw (.bool false) (H6 rfl (dF S) rfl) (Mz rfl (Sz rfl (Sz rfl (Sz rfl (Sz rfl (Sz rfl (Sz rfl (fw (.bool false) (H6 rfl rfl rfl) (Mz rfl (Sz rfl (Sz rfl (Sz rfl (Sz rfl (Sz rfl (Sz rfl (fw (.bool false) (H6 rfl rfl rfl) (Mz rfl (Sz rfl (Sz rfl (Sz rfl (Sz rfl (Sz rfl (Sz rfl (Sz rfl (fw (.bool false) (H6 rfl rfl rfl) (Mz rfl (Sz rfl (Sz rfl (Sz rfl (Sz rfl (Sz rfl (Sz rfl (Sz rfl (Sz rfl (Sz rfl ?_)))))))))))))))))))))))))))))))))))))))
 refine fw (.bool false) (H6 rfl rfl rfl) (Mz rfl (Sz rfl (Sz rfl (Sz rfl (Sz rfl (fw (.bool false) (H6 rfl rfl rfl) (Mz rfl (Sz rfl (Sz rfl (Sz rfl (Sz rfl (Sz rfl (Sz rfl (fw (.bool false) (H6 rfl rfl rfl) (Mz rfl (Sz rfl (Sz rfl (fw (.bool false) (H6 rfl rfl rfl) (Mz rfl (Sz rfl (Sz rfl (Sz rfl (Sz rfl (fw (.bool false) (H6 rfl rfl rfl) (Mz rfl (Sz rfl (Sz rfl (Sz rfl (fw (.bool false) (H6 rfl rfl rfl) (An rfl (rt (rs ?_))))))))))))))))))))))))))))))))
 have ng:=b.pk []
 obtain rfl:_=false:=zj hr (et (ae T) (et (ip af) (et (ae K) (et (ae j) (et (ae l) (et (ae o) (et (ae x) (et (ae p) (et (ae r) (et (ae s) (et (ae z) (et (ip f) (et (ae (bu G)) (et (ip I) (et (ip t) (et (ip h) (et (ae (bu Z)) (et (ip B) (et (ip R) (et (ip M) (iN S)))))))))))))))))))))
 exact⟨rfl,ng⟩
 refine Sz (dF M) (Sz (dF M) (Sz (dF M) (Sz (dF M) (fw (.bool false) (H6 rfl (dF M) rfl) (Mz rfl (Sz rfl (Sz rfl (Sz rfl (Sz rfl (fw (.bool false) (H6 rfl rfl rfl) (Mz rfl (Sz rfl (Sz rfl (Sz rfl (Sz rfl (Sz rfl (Sz rfl (fw (.bool false) (H6 rfl rfl rfl) (Mz rfl (Sz rfl (Sz rfl (Sz rfl (Sz rfl (Sz rfl (Sz rfl (fw (.bool false) (H6 rfl rfl rfl) (Mz rfl (Sz rfl (Sz rfl (Sz rfl (Sz rfl (Sz rfl (Sz rfl (Sz rfl (fw (.bool false) (H6 rfl rfl rfl) (Mz rfl (Sz rfl (Sz rfl (Sz rfl ?_)))))))))))))))))))))))))))))))))))))))
 refine Sz rfl (Sz rfl (Sz rfl (Sz rfl (Sz rfl (Sz rfl (fw (.bool false) (H6 rfl rfl rfl) (Mz rfl (Sz rfl (Sz rfl (Sz rfl (Sz rfl (fw (.bool false) (H6 rfl rfl rfl) (Mz rfl (Sz rfl (Sz rfl (Sz rfl (Sz rfl (Sz rfl (Sz rfl (fw (.bool false) (H6 rfl rfl rfl) (Mz rfl (Sz rfl (Sz rfl (fw (.bool false) (H6 rfl rfl rfl) (Mz rfl (Sz rfl (Sz rfl (Sz rfl (Sz rfl (fw (.bool false) (H6 rfl rfl rfl) (Mz rfl (Sz rfl (Sz rfl (Sz rfl (fw (.bool false) (H6 rfl rfl rfl) (An rfl (rt ?_)))))))))))))))))))))))))))))))))))))
 refine rs ?_
 have ni:=b.pk []
 obtain rfl:_=false:=zj hr (et (ae T) (et (ip af) (et (ae K) (et (ae j) (et (ae l) (et (ae o) (et (ae x) (et (ae p) (et (ae r) (et (ae s) (et (ae z) (et (ip f) (et (ae (bu G)) (et (ip I) (et (ip t) (et (ip h) (et (ae (bu Z)) (et (ip B) (et (ip R) (iN M))))))))))))))))))))
 exact⟨rfl,ni⟩
 refine Sz (dF R) (Sz (dF R) (Sz (dF R) (fw (.bool false) (H6 rfl (dF R) rfl) (Mz rfl (Sz rfl (Sz rfl (Sz rfl (Sz rfl (fw (.bool false) (H6 rfl rfl rfl) (Mz rfl (Sz rfl (Sz rfl (Sz rfl (Sz rfl (fw (.bool false) (H6 rfl rfl rfl) (Mz rfl (Sz rfl (Sz rfl (Sz rfl (Sz rfl (Sz rfl (Sz rfl (fw (.bool false) (H6 rfl rfl rfl) (Mz rfl (Sz rfl (Sz rfl (Sz rfl (Sz rfl (Sz rfl (Sz rfl (fw (.bool false) (H6 rfl rfl rfl) (Mz rfl (Sz rfl (Sz rfl (Sz rfl (Sz rfl (Sz rfl (Sz rfl (Sz rfl ?_)))))))))))))))))))))))))))))))))))))))
 refine fw (.bool false) (H6 rfl rfl rfl) (Mz rfl (Sz rfl (Sz rfl (Sz rfl (Sz rfl (Sz rfl (Sz rfl (Sz rfl (Sz rfl (Sz rfl (fw (.bool false) (H6 rfl rfl rfl) (Mz rfl (Sz rfl (Sz rfl (Sz rfl (Sz rfl (fw (.bool false) (H6 rfl rfl rfl) (Mz rfl (Sz rfl (Sz rfl (Sz rfl (Sz rfl (Sz rfl (Sz rfl (fw (.bool false) (H6 rfl rfl rfl) (Mz rfl (Sz rfl (Sz rfl (fw (.bool false) (H6 rfl rfl rfl) (Mz rfl (Sz rfl (Sz rfl (Sz rfl (Sz rfl (fw (.bool false) (H6 rfl rfl rfl) (Mz rfl (Sz rfl (Sz rfl (Sz rfl ?_)))))))))))))))))))))))))))))))))))))))
 refine fw (.bool false) (H6 rfl rfl rfl) (An rfl (rt (rs ?_)))
 have nk:=b.pk []
 obtain rfl:_=false:=zj hr (et (ae T) (et (ip af) (et (ae K) (et (ae j) (et (ae l) (et (ae o) (et (ae x) (et (ae p) (et (ae r) (et (ae s) (et (ae z) (et (ip f) (et (ae (bu G)) (et (ip I) (et (ip t) (et (ip h) (et (ae (bu Z)) (et (ip B) (iN R)))))))))))))))))))
 exact⟨rfl,nk⟩
 refine Sz (dF B) (Sz (dF B) (Sz (dF B) (Sz (dF B) (fw (.bool false) (H6 rfl (dF B) rfl) (Mz rfl (Sz rfl (Sz rfl (Sz rfl (fw (.bool false) (H6 rfl rfl rfl) (Mz rfl (Sz rfl (Sz rfl (Sz rfl (Sz rfl (fw (.bool false) (H6 rfl rfl rfl) (Mz rfl (Sz rfl (Sz rfl (Sz rfl (Sz rfl (fw (.bool false) (H6 rfl rfl rfl) (Mz rfl (Sz rfl (Sz rfl (Sz rfl (Sz rfl (Sz rfl (Sz rfl (fw (.bool false) (H6 rfl rfl rfl) (Mz rfl (Sz rfl (Sz rfl (Sz rfl (Sz rfl (Sz rfl (Sz rfl (fw (.bool false) (H6 rfl rfl rfl) (Mz rfl (Sz rfl ?_)))))))))))))))))))))))))))))))))))))))
 refine Sz rfl (Sz rfl (Sz rfl (Sz rfl (Sz rfl (Sz rfl (fw (.bool false) (H6 rfl rfl rfl) (Mz rfl (Sz rfl (Sz rfl (Sz rfl (Sz rfl (Sz rfl (Sz rfl (Sz rfl (Sz rfl (Sz rfl (fw (.bool false) (H6 rfl rfl rfl) (Mz rfl (Sz rfl (Sz rfl (Sz rfl (Sz rfl (fw (.bool false) (H6 rfl rfl rfl) (Mz rfl (Sz rfl (Sz rfl (Sz rfl (Sz rfl (Sz rfl (Sz rfl (fw (.bool false) (H6 rfl rfl rfl) (Mz rfl (Sz rfl (Sz rfl (fw (.bool false) (H6 rfl rfl rfl) (Mz rfl (Sz rfl (Sz rfl (Sz rfl ?_)))))))))))))))))))))))))))))))))))))))
 refine Sz rfl (fw (.bool false) (H6 rfl rfl rfl) (Mz rfl (Sz rfl (Sz rfl (Sz rfl (fw (.bool false) (H6 rfl rfl rfl) (An rfl (rt (rs ?_)))))))))
 have nu:=b.pk []
 obtain rfl:_=false:=zj hr (et (ae T) (et (ip af) (et (ae K) (et (ae j) (et (ae l) (et (ae o) (et (ae x) (et (ae p) (et (ae r) (et (ae s) (et (ae z) (et (ip f) (et (ae (bu G)) (et (ip I) (et (ip t) (et (ip h) (et (ae (bu Z)) (iN B))))))))))))))))))
 exact⟨rfl,nu⟩
 refine Sz (dF h) (Sz (dF h) (Sz (dF h) (Sz (dF h) (Sz (dF h) (Sz (dF h) (fw (.bool false) (H6 rfl (dF h) rfl) (Mz rfl (Sz rfl (Sz rfl (Sz rfl (Sz rfl (fw (.bool false) (H6 rfl rfl rfl) (Mz rfl (Sz rfl (Sz rfl (Sz rfl (fw (.bool false) (H6 rfl rfl rfl) (Mz rfl (Sz rfl (Sz rfl (Sz rfl (Sz rfl (fw (.bool false) (H6 rfl rfl rfl) (Mz rfl (Sz rfl (Sz rfl (Sz rfl (Sz rfl (fw (.bool false) (H6 rfl rfl rfl) (Mz rfl (Sz rfl (Sz rfl (Sz rfl (Sz rfl (Sz rfl (Sz rfl (fw (.bool false) (H6 rfl rfl rfl) (Mz rfl (Sz rfl ?_)))))))))))))))))))))))))))))))))))))))
 refine Sz rfl (Sz rfl (Sz rfl (Sz rfl (Sz rfl (fw (.bool false) (H6 rfl rfl rfl) (Mz rfl (Sz rfl (Sz rfl (Sz rfl (Sz rfl (Sz rfl (Sz rfl (Sz rfl (fw (.bool false) (H6 rfl rfl rfl) (Mz rfl (Sz rfl (Sz rfl (Sz rfl (Sz rfl (Sz rfl (Sz rfl (Sz rfl (Sz rfl (Sz rfl (fw (.bool false) (H6 rfl rfl rfl) (Mz rfl (Sz rfl (Sz rfl (Sz rfl (Sz rfl (fw (.bool false) (H6 rfl rfl rfl) (Mz rfl (Sz rfl (Sz rfl (Sz rfl (Sz rfl (Sz rfl (Sz rfl (fw (.bool false) (H6 rfl rfl rfl) ?_)))))))))))))))))))))))))))))))))))))))
 refine Mz rfl (Sz rfl (Sz rfl (fw (.bool false) (H6 rfl rfl rfl) (Mz rfl (Sz rfl (Sz rfl (Sz rfl (Sz rfl (fw (.bool false) (H6 rfl rfl rfl) (Mz rfl (Sz rfl (Sz rfl (Sz rfl (fw (.bool false) (H6 rfl rfl rfl) (An rfl (rt (rs ?_)))))))))))))))))
 have ny:=b.pk []
 obtain rfl:_=false:=zj hr (et (ae T) (et (ip af) (et (ae K) (et (ae j) (et (ae l) (et (ae o) (et (ae x) (et (ae p) (et (ae r) (et (ae s) (et (ae z) (et (ip f) (et (ae (bu G)) (et (ip I) (et (ip t) (iN h))))))))))))))))
 exact⟨rfl,ny⟩
 refine Sz t (Sz t (Sz t (Sz t (fw (.bool false) (H6 rfl t rfl) (Mz rfl (Sz rfl (Sz rfl (Sz rfl (Sz rfl (Sz rfl (Sz rfl (fw (.bool false) (H6 rfl rfl rfl) (Mz rfl (Sz rfl (Sz rfl (Sz rfl (Sz rfl (fw (.bool false) (H6 rfl rfl rfl) (Mz rfl (Sz rfl (Sz rfl (Sz rfl (fw (.bool false) (H6 rfl rfl rfl) (Mz rfl (Sz rfl (Sz rfl (Sz rfl (Sz rfl (fw (.bool false) (H6 rfl rfl rfl) (Mz rfl (Sz rfl (Sz rfl (Sz rfl (Sz rfl (fw (.bool false) (H6 rfl rfl rfl) (Mz rfl (Sz rfl (Sz rfl (Sz rfl ?_)))))))))))))))))))))))))))))))))))))))
 refine Sz rfl (Sz rfl (Sz rfl (fw (.bool false) (H6 rfl rfl rfl) (Mz rfl (Sz rfl (Sz rfl (Sz rfl (Sz rfl (Sz rfl (Sz rfl (fw (.bool false) (H6 rfl rfl rfl) (Mz rfl (Sz rfl (Sz rfl (Sz rfl (Sz rfl (Sz rfl (Sz rfl (Sz rfl (fw (.bool false) (H6 rfl rfl rfl) (Mz rfl (Sz rfl (Sz rfl (Sz rfl (Sz rfl (Sz rfl (Sz rfl (Sz rfl (Sz rfl (Sz rfl (fw (.bool false) (H6 rfl rfl rfl) (Mz rfl (Sz rfl (Sz rfl (Sz rfl (Sz rfl (fw (.bool false) (H6 rfl rfl rfl) (Mz rfl (Sz rfl ?_)))))))))))))))))))))))))))))))))))))))
 refine Sz rfl (Sz rfl (Sz rfl (Sz rfl (Sz rfl (fw (.bool false) (H6 rfl rfl rfl) (Mz rfl (Sz rfl (Sz rfl (fw (.bool false) (H6 rfl rfl rfl) (Mz rfl (Sz rfl (Sz rfl (Sz rfl (Sz rfl (fw (.bool false) (H6 rfl rfl rfl) (Mz rfl (Sz rfl (Sz rfl (Sz rfl (fw (.bool false) (H6 rfl rfl rfl) (An rfl (rt (rs ?_)))))))))))))))))))))))
 have nz:=b.pk []
 obtain rfl:_=false:=zj hr (et (ae T) (et (ip af) (et (ae K) (et (ae j) (et (ae l) (et (ae o) (et (ae x) (et (ae p) (et (ae r) (et (ae s) (et (ae z) (et (ip f) (et (ae (bu G)) (et (ip I) (eF t)))))))))))))))
 exact⟨rfl,nz⟩
 refine Sz (dF I) (Sz (dF I) (fw (.bool false) (H6 rfl (dF I) rfl) (Mz rfl (Sz rfl (Sz rfl (Sz rfl (Sz rfl (fw (.bool false) (H6 rfl rfl rfl) (Mz rfl (Sz rfl (Sz rfl (Sz rfl (Sz rfl (Sz rfl (Sz rfl (fw (.bool false) (H6 rfl rfl rfl) (Mz rfl (Sz rfl (Sz rfl (Sz rfl (Sz rfl (fw (.bool false) (H6 rfl rfl rfl) (Mz rfl (Sz rfl (Sz rfl (Sz rfl (fw (.bool false) (H6 rfl rfl rfl) (Mz rfl (Sz rfl (Sz rfl (Sz rfl (Sz rfl (fw (.bool false) (H6 rfl rfl rfl) (Mz rfl (Sz rfl (Sz rfl (Sz rfl (Sz rfl (fw (.bool false) (H6 rfl rfl rfl) ?_)))))))))))))))))))))))))))))))))))))))
 refine Mz rfl (Sz rfl (Sz rfl (Sz rfl (Sz rfl (Sz rfl (Sz rfl (fw (.bool false) (H6 rfl rfl rfl) (Mz rfl (Sz rfl (Sz rfl (Sz rfl (Sz rfl (Sz rfl (Sz rfl (fw (.bool false) (H6 rfl rfl rfl) (Mz rfl (Sz rfl (Sz rfl (Sz rfl (Sz rfl (Sz rfl (Sz rfl (Sz rfl (fw (.bool false) (H6 rfl rfl rfl) (Mz rfl (Sz rfl (Sz rfl (Sz rfl (Sz rfl (Sz rfl (Sz rfl (Sz rfl (Sz rfl (Sz rfl (fw (.bool false) (H6 rfl rfl rfl) (Mz rfl (Sz rfl (Sz rfl (Sz rfl ?_)))))))))))))))))))))))))))))))))))))))
 refine Sz rfl (fw (.bool false) (H6 rfl rfl rfl) (Mz rfl (Sz rfl (Sz rfl (Sz rfl (Sz rfl (Sz rfl (Sz rfl (fw (.bool false) (H6 rfl rfl rfl) (Mz rfl (Sz rfl (Sz rfl (fw (.bool false) (H6 rfl rfl rfl) (Mz rfl (Sz rfl (Sz rfl (Sz rfl (Sz rfl (fw (.bool false) (H6 rfl rfl rfl) (Mz rfl (Sz rfl (Sz rfl (Sz rfl (fw (.bool false) (H6 rfl rfl rfl) (An rfl (rt (rs ?_)))))))))))))))))))))))))))
 have nA:=b.pk []
 obtain rfl:_=false:=zj hr (et (ae T) (et (ip af) (et (ae K) (et (ae j) (et (ae l) (et (ae o) (et (ae x) (et (ae p) (et (ae r) (et (ae s) (et (ae z) (et (ip f) (et (ae (bu G)) (iN I))))))))))))))
 exact⟨rfl,nA⟩
 refine Sz (dF f) (Sz (dF f) (Sz (dF f) (Sz (dF f) (Sz (dF f) (Sz (dF f) (fw (.bool false) (H6 rfl (dF f) rfl) (Mz rfl (Sz rfl (Sz rfl (fw (.bool false) (H6 rfl rfl rfl) (Mz rfl (Sz rfl (Sz rfl (Sz rfl (Sz rfl (fw (.bool false) (H6 rfl rfl rfl) (Mz rfl (Sz rfl (Sz rfl (Sz rfl (Sz rfl (Sz rfl (Sz rfl (fw (.bool false) (H6 rfl rfl rfl) (Mz rfl (Sz rfl (Sz rfl (Sz rfl (Sz rfl (fw (.bool false) (H6 rfl rfl rfl) (Mz rfl (Sz rfl (Sz rfl (Sz rfl (fw (.bool false) (H6 rfl rfl rfl) (Mz rfl (Sz rfl (Sz rfl (Sz rfl ?_)))))))))))))))))))))))))))))))))))))))
 refine Sz rfl (fw (.bool false) (H6 rfl rfl rfl) (Mz rfl (Sz rfl (Sz rfl (Sz rfl (Sz rfl (fw (.bool false) (H6 rfl rfl rfl) (Mz rfl (Sz rfl (Sz rfl (Sz rfl (Sz rfl (Sz rfl (Sz rfl (fw (.bool false) (H6 rfl rfl rfl) (Mz rfl (Sz rfl (Sz rfl (Sz rfl (Sz rfl (Sz rfl (Sz rfl (fw (.bool false) (H6 rfl rfl rfl) (Mz rfl (Sz rfl (Sz rfl (Sz rfl (Sz rfl (Sz rfl (Sz rfl (Sz rfl (fw (.bool false) (H6 rfl rfl rfl) (Mz rfl (Sz rfl (Sz rfl (Sz rfl (Sz rfl (Sz rfl (Sz rfl ?_)))))))))))))))))))))))))))))))))))))))
 refine Sz rfl (Sz rfl (Sz rfl (fw (.bool false) (H6 rfl rfl rfl) (Mz rfl (Sz rfl (Sz rfl (Sz rfl (Sz rfl (fw (.bool false) (H6 rfl rfl rfl) (Mz rfl (Sz rfl (Sz rfl (Sz rfl (Sz rfl (Sz rfl (Sz rfl (fw (.bool false) (H6 rfl rfl rfl) (Mz rfl (Sz rfl (Sz rfl (fw (.bool false) (H6 rfl rfl rfl) (Mz rfl (Sz rfl (Sz rfl (Sz rfl (Sz rfl (fw (.bool false) (H6 rfl rfl rfl) (Mz rfl (Sz rfl (Sz rfl (Sz rfl (fw (.bool false) (H6 rfl rfl rfl) (An rfl (rt (rs ?_)))))))))))))))))))))))))))))))))))
 have nC:=b.pk []
 obtain rfl:_=false:=zj hr (et (ae T) (et (ip af) (et (ae K) (et (ae j) (et (ae l) (et (ae o) (et (ae x) (et (ae p) (et (ae r) (et (ae s) (et (ae z) (iN f))))))))))))
 exact⟨rfl,nC⟩
 refine Sz (dT af) (Sz (dT af) (fw (.bool true) (Ic rfl (dT af) rfl) (nt (jt (sr (Az rfl (An rfl (rt (tR (Ir (kD rfl rfl rfl) (Mz rfl (Kz (.pointer none) (Kz (vI 1) (Az rfl (An rfl (H7 (H7 ?_)))))))))))))))))
 have nD:=iC.pk []
 refine H8 (Mz rfl (Kz (.bool true) (Mz rfl (Sz rfl (Sz rfl (fw (.bool true) (Ic rfl rfl rfl) (nt (jt (sr (An rfl (rt (tR (rs ?_)))))))))))))
 have nE:=nD.pk []
 obtain rfl:_=false:=zj hr (et (ae T) (iN af))
 exact⟨rfl,nE⟩
end
open List renaming length_map->r7,length_nil->K1
open Sum renaming inl->y0,inr->y3
open _root_.Go.Proofs.Tryz renaming isAgg34->D3
open WL renaming nil->B6
section
open Go.RowKit
section
variable {P:Program} {n:Nat} {F:List (Nat × Value)} {w:World} {ty:TypeId} {x y:Operand}
theorem KM {T yt:TypeId} {a b:Nat} (hx:ev F x=some (.int .i64 ((a:Nat):Int))) (hy:ev F y=some (.int .i64 ((b:Nat):Int))) (hb:0 < b):Yl P n F w (.binOp .rem T x y yt) ty (.int .i64 ((a % b:Nat):Int)):=
 Js hx hy (λ _ _=>rfl) (by rw [binOp_rem]; unfold Op.intDiv; rw [if_neg e8]; rfl)
end
theorem Hw:Elem u9 22 49 22 240:=l6 (z:= .agg #[.int .i64 0, .int .i64 0, .int .i64 0, .int .i64 0, .int .i64 0, .int .i64 0, .int .u64 0, .int .u64 0, .int .u64 0, .int .u64 0, .int .u64 0, .int .u64 0, .int .u64 0, .int .u64 0, .int .u64 0, .bool false, .string ⟨v0 []⟩, .string ⟨v0 []⟩, .slice none 0 0, .slice none 0 0, .slice none 0 0, .bool false]) Tryz.underlying22 e9 rfl f5
structure jb where
 bY:bV
 yZ:Bool
def jb.cells (x:jb):List Value:= [.int .i64 x.bY.aB, .int .i64 x.bY.jo, .int .i64 x.bY.jU, .int .i64 x.bY.iq, .int .i64 x.bY.gp, .int .i64 x.bY.iZ, .int .u64 ((x.bY.gN:Nat):Int), .int .u64 ((x.bY.aQ:Nat):Int), .int .u64 ((x.bY.aU:Nat):Int), .int .u64 ((x.bY.bi:Nat):Int), .int .u64 ((x.bY.bq:Nat):Int), .int .u64 ((x.bY.aJ:Nat):Int), .int .u64 ((x.bY.aD:Nat):Int), .int .u64 ((x.bY.bv:Nat):Int), .int .u64 ((x.bY.xN:Nat):Int), .bool x.bY.ik, .string ⟨v0 x.bY.aA.aN⟩, .string ⟨v0 x.bY.aA.aT⟩, .slice x.bY.aK.A x.bY.aK.ls.length x.bY.aK.c, .slice x.bY.aV.A x.bY.aV.ls.length x.bY.aV.c, .slice x.bY.ah.A x.bY.ah.ls.length x.bY.ah.c, .bool x.yZ]
instance:Bk jb:=⟨λ x _=>bk x.bY+(bk x.yZ+(0))⟩
theorem jb.len:∀ x,(jb.cells x).length=22:=λ _=>rfl
theorem jb.one:∀ x, ∀ u ∈ jb.cells x,u.oneCell'=true:=λ x u hu=>by
 simp only [jb.cells,List.mem_cons,v1,or_false] at hu
 rcases hu with rfl | rfl | rfl | rfl | rfl | rfl | rfl | rfl | rfl | rfl | rfl | rfl | rfl | rfl | rfl | rfl | rfl | rfl | rfl | rfl | rfl | rfl <;> rfl
def JH (w:World) (x:jb):Prop:=(JV w x.bY)/\(True)
theorem BN (w:World):kQ u9 w 49 22 jb.cells (JH w):=
 (mO (sz:=22) Tryz.underlying49 e9 (fF.cons (i:=0) (off:=0) (s:=21) rfl rfl (CF w) (fF.cons (i:=1) (off:=21) (s:=1) rfl rfl (sO Tryz.underlying4 e9) fF.nil))).map (λ p=>⟨p.1,p.2.1⟩) jb.len (λ _=>rfl) (λ _ h=>⟨h.1,h.2.1⟩) λ _=>Nat.le_refl _
instance:Inhabited jb:=⟨⟨default,default⟩⟩
structure StepT where
 bY:dL
 yZ:Bool
instance:Inhabited StepT:=⟨⟨default,default⟩⟩
def jb.abs (x:jb):StepT:=⟨x.bY.abs,x.yZ⟩
def Lb (x:jb):List HP:= [row x.bY.aK.A x.bY.aK.ls.length x.bY.aK.c (q2 aX.cells x.bY.aK.ls) 68 6,row x.bY.aV.A x.bY.aV.ls.length x.bY.aV.c (q2 aR.cells x.bY.aV.ls) 70 3,row x.bY.ah.A x.bY.ah.ls.length x.bY.ah.c (q2 bM.cells x.bY.ah.ls) 83 2,sepL (q2 IJ x.bY.aV.ls)]
abbrev GI (t:Int) (u:Int) (v:Int) (z:Int) (A:Int) (B:Int) (C:Nat) (D:Nat) (E:Nat) (G:Nat) (g:Nat) (h:Nat) (i:Nat) (j:Nat) (k:Nat) (l:Bool) (m:List UInt8) (o:List UInt8) (p:Option Addr) (a b:Nat) (q:Option Addr) (c d:Nat) (r:Option Addr) (e f:Nat) (s:Bool):List Value:= [.int .i64 t, .int .i64 u, .int .i64 v, .int .i64 z, .int .i64 A, .int .i64 B, .int .u64 ((C:Nat):Int), .int .u64 ((D:Nat):Int), .int .u64 ((E:Nat):Int), .int .u64 ((G:Nat):Int), .int .u64 ((g:Nat):Int), .int .u64 ((h:Nat):Int), .int .u64 ((i:Nat):Int), .int .u64 ((j:Nat):Int), .int .u64 ((k:Nat):Int), .bool l, .string ⟨v0 m⟩, .string ⟨v0 o⟩, .slice p a b, .slice q c d, .slice r e f, .bool s]
theorem Hy:Elem u9 58 4 1 1:=l6 (z:= .bool false) Tryz.underlying58 e9 rfl f5
def ig (l1:List Bool) (j:Bool) (b:bA):List StepT->List dA->List Nat->Nat->List bB->List aM->(List dA) × (List Nat) × (List bB) × Nat × (List aM)
  | [],d,e,f,g,h=>(d,e,g,f,h)
  | a::i,d,e,f,g,h=>if a.bY.aB=3 then bnd (dN (ax.mk (bA.mk b.bC (G0 (H3.wrap ((b.aQ:Int)+1))) b.bq b.aJ b.aD (F2 b.ah.ls) (F2 d) (F2 e) f b.aI b.aH b.aC) (F2 g)) (dL.mk a.bY.aB a.bY.jo a.bY.jU a.bY.iq a.bY.gp a.bY.iZ a.bY.gN a.bY.aQ a.bY.aU a.bY.bi a.bY.bq a.bY.aJ a.bY.aD a.bY.bv a.bY.xN a.bY.ik a.bY.aA (F2 a.bY.aK.ls) (F2 a.bY.aV.ls) (F2 a.bY.ah.ls)) (StoreT.mk (F2 [])) (aW.mk (F2 h))) λ c=>ig l1 j b i c.2.2.1.aa.ak.ls c.2.2.1.aa.af.ls c.2.2.1.aa.bi c.2.2.1.ag.ls c.2.2.2.ai.ls else ig l1 j b i d e f g h
def fT (l1:List Bool) (s:Bool) (a:bA):Nat->Nat->List dA->List Nat->Nat->List bB->List aM->List az->Unit ⊕ Bool
  | 0,g,c,d,e,f,k,h=>y0 ()
  | t+1,g,c,d,e,f,k,h=>bnd (lZ (ax.mk (bA.mk a.bC (G0 (H3.wrap ((a.aQ:Int)+1))) a.bq a.aJ a.aD (F2 a.ah.ls) (F2 c) (F2 d) e a.aI a.aH a.aC) (F2 f))) λ i=>BS (if(i.ak.ls.length:Int) > 0 then bnd (y2 i.ak.ls 0 default) λ l=>y0 l.aU else bnd (jG (ax.mk (bA.mk a.bC (G0 (H3.wrap ((a.aQ:Int)+1))) a.bq a.aJ a.aD (F2 a.ah.ls) (F2 c) (F2 d) e a.aI a.aH a.aC) (F2 f))) λ j=>if(j.length:Int) > 0 then bnd (y2 j 0 default) λ m=>y0 m else if s=true then bnd (mH (ax.mk (bA.mk a.bC (G0 (H3.wrap ((a.aQ:Int)+1))) a.bq a.aJ a.aD (F2 a.ah.ls) (F2 c) (F2 d) e a.aI a.aH a.aC) (F2 f))) λ o=>y3 (o) else y3 (false)) λ sJrbbtbfLaLsbJ=>bnd (if(l1.length:Int) > 0 then bnd (y2 l1 (g % l1.length) default) λ p=>p else false) λ sJrbbtbfLaLsbJaJ=>bnd (dN (ax.mk (bA.mk a.bC (G0 (H3.wrap ((a.aQ:Int)+1))) a.bq a.aJ a.aD (F2 a.ah.ls) (F2 c) (F2 d) e a.aI a.aH a.aC) (F2 f)) (dL.mk 5 0 1 0 0 0 0 0 sJrbbtbfLaLsbJ 0 0 0 0 0 0 sJrbbtbfLaLsbJaJ (aj.mk [] []) (F2 []) (F2 []) (F2 [])) (StoreT.mk (F2 h)) (aW.mk (F2 k))) λ b=>if b.2.1=0 then if(b.1.bD.ls.length:Int)=0 then y3 (false) else bnd (y2 b.1.bD.ls 0 default) λ q=>if q.aB=6 then bnd (qG h b.1.aL.ls) λ r=>fT l1 s a t (g+1) b.2.2.1.aa.ak.ls b.2.2.1.aa.af.ls b.2.2.1.aa.bi b.2.2.1.ag.ls b.2.2.2.ai.ls r.1 else y3 (false) else y3 (false)
def uj (d:List StepT) (l1:List Bool):Bool:=
 bnd (vK) λ b=>bnd (lG (bA.mk 1 0 0 1 0 (F2 ([(bM.mk [] 1),(bM.mk ([109]) 2)])) (F2 []) (F2 []) 0 0 (aj.mk [] []) (iO.mk 0 0 0 (aj.mk [] [])))) λ c=>if c=0 then bnd (iU (bA.mk 1 0 0 1 0 (F2 ([(bM.mk [] 1),(bM.mk ([109]) 2)])) (F2 []) (F2 []) 0 0 (aj.mk [] []) (iO.mk 0 0 0 (aj.mk [] [])))) λ a=>if(d.length:Int) > 80 then if b=true then true else false else bnd (ig l1 b a d a.ak.ls a.af.ls a.bi [] []) λ sLrbbtbfL=>lp (fT l1 b a 20 0 sLrbbtbfL.1 sLrbbtbfL.2.1 sLrbbtbfL.2.2.2.1 sLrbbtbfL.2.2.1 sLrbbtbfL.2.2.2.2 []) λ _=>false else if b=true then false else false
theorem yV (w D A0 n0 c0 d0 l0 A1 n1 c1 l1 r0) (H:Own w D w []) (jE:s1 jb.abs d0=l0) (il:Ro w D λ w'=>bO w' 22 A0 n0 (q2 jb.cells d0)) (dx:∀ x ∈ d0,Ro w D (λ w'=>bO w' 6 x.bY.aK.A x.bY.aK.ls.length (q2 aX.cells x.bY.aK.ls))/\(x.bY.aK.ls.length<=x.bY.aK.c/\x.bY.aK.ls.length<=9223372036854775807)/\Ro w D (λ w'=>bO w' 3 x.bY.aV.A x.bY.aV.ls.length (q2 aR.cells x.bY.aV.ls))/\(x.bY.aV.ls.length<=x.bY.aV.c/\x.bY.aV.ls.length<=9223372036854775807)/\(∀ y1 ∈ x.bY.aV.ls,Ro w D (λ w'=>bO w' 2 y1.bz.A y1.bz.ls.length (q2 az.cells y1.bz.ls))/\(y1.bz.ls.length<=y1.bz.c/\y1.bz.ls.length<=9223372036854775807))/\Ro w D (λ w'=>bO w' 2 x.bY.ah.A x.bY.ah.ls.length (q2 bM.cells x.bY.ah.ls))/\(x.bY.ah.ls.length<=x.bY.ah.c/\x.bY.ah.ls.length<=9223372036854775807)) (mD:n0=l0.length) (qU:l0.length *240<=211106232532992) (iq:Ro w D λ w'=>bO w' 1 A1 n1 (q2 eL l1)) (mE:n1=l1.length) (qV:l1.length *1<=211106232532992) (qW:l0.length *240<=140737488351232) (qX:l1.length *1<=140737488351232) (mF:∀ x ∈ l0,x.bY.aU<=18446744073709551615/\x.bY.aK.ls.length<=140737488351232/\x.bY.aV.ls.length<=140737488351232/\x.bY.ah.ls.length<=140737488351232) (hr:uj l0 l1=r0):
    Calls u9 4 #[.slice A0 n0 c0, .slice A1 n1 c1] w (dI λ v w'=>v= .bool r0/\Own w D w' []):=by
 unfold uj at hr
 subst mD mE
 have pI:=aY jE
 refine cb Tryz.func4 ?_
 refine sr (Ar rfl ?_)
 obtain⟨z,Z⟩:∃ q,vK=q:=⟨_,rfl⟩
 obtain⟨qY,jH,pJ,jI,pK⟩:=Ia H
 refine cl Tryz.call6 (BL _ _ z jH Z) ?_
 rintro _ qZ ⟨rfl,jJ⟩
 have mG:=jI _ _ jJ
 refine Ar rfl (Kz (.agg #[.slice none 0 0]) ?_)
 refine bW [.slice none 0 0] 27 mG ?_
 intro B q8 mK
 refine Ar rfl ?_
 refine WL.do rfl (IB Tryz.call8 rfl ?_ (λ _ _ k=>k))
 refine cb Tryz.func8 ?_
 refine sr ?_
 refine bW (gV 0 0 0 0 0 none 0 0 none 0 0 none 0 0 0 0 [] [] 0 0 0 [] []) 41 mK ?_
 intro q9 rf mM
 refine ns (Kz (.agg #[.string ⟨v0 []⟩,vI 1]) (Kz (.agg #[.string ⟨v0 ([109])⟩,vI 2]) ?_))
 refine jN [.string ⟨v0 []⟩,vI 1, .string ⟨v0 ([109])⟩,vI 2] 83 2 2 mM ?_
 intro bY rq iw
 replace iw:=IL (y:=row bY 2 2 (q2 bM.cells ([(bM.mk [] 1),(bM.mk ([109]) 2)])) 83 2) rfl iw
 refine Kz (.agg (gV 1 0 0 1 0 bY 2 2 none 0 0 none 0 0 0 0 [] [] 0 0 0 [] []).toArray) ?_
 have mO:=iw.pf [1]
 refine cu (gV 1 0 0 1 0 bY 2 2 none 0 0 none 0 0 0 0 [] [] 0 0 0 [] []) 0 mO E7 ?_
 intro ru jK
 refine nt (rt (Ir (oZ rfl rfl (Io (cs:=(gV 1 0 0 1 0 bY 2 2 none 0 0 none 0 0 0 0 [] [] 0 0 0 [] [])) E6 E7 ((jK.cls (i:=0) rfl).lit (k:=0) (m:=17) rfl))) (Mz rfl (Kz (.iface 24 (vP B 0)) ?_))))
 refine WL.do rfl (IB Tryz.call7 rfl ?_ (λ _ _ k=>k))
 refine cb Tryz.func7 ?_
 refine H7 ?_
 have mP:=jK.pk [1,2]
 refine H8 ?_
 refine bW (gV 1 0 0 1 0 bY 2 2 none 0 0 none 0 0 0 0 [] [] 0 0 0 [] []) 41 mP ?_
 intro mQ ry jL
 refine Az rfl (An rfl (H7 (sr (La (gV 1 0 0 1 0 bY 2 2 none 0 0 none 0 0 0 0 [] [] 0 0 0 [] []) jL 0 E6 E7 ?_))))
 obtain⟨gI,aa⟩:∃ q,lG (bA.mk 1 0 0 1 0 (F2 ([(bM.mk [] 1),(bM.mk ([109]) 2)])) (F2 []) (F2 []) 0 0 (aj.mk [] []) (iO.mk 0 0 0 (aj.mk [] [])))=q:=⟨_,rfl⟩
 obtain⟨rz,jM,pM,jO,jP⟩:=Ia jL
 refine cl Tryz.call17 (qQ _ _ (bA.mk 1 0 0 1 0 (F2 ([(bM.mk [] 1),(bM.mk ([109]) 2)])) (F2 []) (F2 []) 0 0 (aj.mk [] []) (iO.mk 0 0 0 (aj.mk [] []))) bY 2 2 none 0 0 [] none 0 0 gI jM rfl (jP _ 1 _ rfl bP) f7 rfl rfl (λ _ _=>bO.nil _ _ _) f7 (λ _ h9=>absurd h9 v1) rfl (λ _ _=>bO.nil _ _ _) f7 g4 aa) ?_
 rintro _ rA ⟨rfl,jQ⟩
 have iA:=jO _ _ jQ
 refine fw (.bool (decide (¬ (gI=0)))) (Iu (e:= !(decide (gI=0))) yk decide_not.symm) (Mz rfl ?_)
 by_cases au:gI=0
 refine gw (.iface 24 (vP B 0)) (dF (Lp au)) (Ie rfl) (gw (.bool false) (dF (Lp au)) yk (fw (.bool false) (H6 rfl (dF (Lp au)) rfl) (nt (jf (sk (sr (La (gV 1 0 0 1 0 bY 2 2 none 0 0 none 0 0 0 0 [] [] 0 0 0 [] []) iA 0 E6 E7 ?_)))))))
 obtain⟨a,S⟩:∃ q,iU (bA.mk 1 0 0 1 0 (F2 ([(bM.mk [] 1),(bM.mk ([109]) 2)])) (F2 []) (F2 []) 0 0 (aj.mk [] []) (iO.mk 0 0 0 (aj.mk [] [])))=q:=⟨_,rfl⟩
 obtain⟨rC,jR,pO,jS,jU⟩:=Ia iA
 refine cl Tryz.call18 (lY _ _ (bA.mk 1 0 0 1 0 (F2 ([(bM.mk [] 1),(bM.mk ([109]) 2)])) (F2 []) (F2 []) 0 0 (aj.mk [] []) (iO.mk 0 0 0 (aj.mk [] []))) bY 2 2 none 0 0 [] none 0 0 a jR rfl (jU _ 1 _ rfl bP) f7 rfl rfl (λ _ _=>bO.nil _ _ _) f7 (λ _ h9=>absurd h9 v1) rfl (λ _ _=>bO.nil _ _ _) f7 g4 (by first | assumption | exact λ _ h9=>absurd h9 v1 | exact Tk.hops f6) S) ?_
 rintro _ rD ⟨af,Q,iB,iC,iD,iE,jV,rfl,jW,gL⟩
 have gJ:=jS _ _ jW
 have pQ:=aY gL
 have pR:=zr 0 gJ
 have pU:=zr 1 gJ
 have pV:=zr 3 gJ
 have pW:a.ah.ls.length=2:=congrArg (λ q=>q.ah.ls.length) S.symm
 have pX:a.ak.ls.length=0:=congrArg (λ q=>q.ak.ls.length) S.symm
 have pY:a.af.ls.length=0:=congrArg (λ q=>q.af.ls.length) S.symm
 refine Mz rfl ?_
 refine WL.do rfl (IB Tryz.call19 rfl ?_ (λ _ _ k=>k))
 refine cb Tryz.func19 ?_
 refine sr (Ar rfl (Kz (.agg #[.slice none 0 0]) ?_))
 refine bW [.slice none 0 0] 114 gJ ?_
 intro ag rE mR
 refine An rfl (rt (rs (Kz (.agg #[vI a.bC,vU a.aQ,vU a.bq,vU a.aJ,vU a.aD, .slice af a.ah.ls.length Q, .slice iB a.ak.ls.length iC, .slice iD a.af.ls.length iE,vU a.bi,vU a.aI, .string ⟨v0 a.aH.aN⟩, .string ⟨v0 a.aH.aT⟩,vU a.aC.aD,vU a.aC.bv,vU a.aC.di, .string ⟨v0 a.aC.aA.aN⟩, .string ⟨v0 a.aC.aA.aT⟩, .iface 24 (vP B 0), .slice none 0 0,vP ag 0, .pointer none]) ?_)))
 refine bW [vI a.bC,vU a.aQ,vU a.bq,vU a.aJ,vU a.aD, .slice af a.ah.ls.length Q, .slice iB a.ak.ls.length iC, .slice iD a.af.ls.length iE,vU a.bi,vU a.aI, .string ⟨v0 a.aH.aN⟩, .string ⟨v0 a.aH.aT⟩,vU a.aC.aD,vU a.aC.bv,vU a.aC.di, .string ⟨v0 a.aC.aA.aN⟩, .string ⟨v0 a.aC.aA.aT⟩, .iface 24 (vP B 0), .slice none 0 0,vP ag 0, .pointer none] 80 mR ?_
 intro I rF jX
 refine Ar rfl (Mz rfl (Kz (vP I 0) (Kz (vP I 0) (Kz (vP I 1) (Lz (vU a.aQ) jX 0 E1 (fw (.int .u64 ((G0 (H3.wrap ((a.aQ:Int)+1)):Nat):Int)) (Ig (e:=H3.wrap ((a.aQ:Int)+1)) yk (kX _)) (Kz (vP I 0) (Kz (vP I 0) (Kz (vP I 1) ?_)))))))))
 refine cu [.int .u64 ((G0 (H3.wrap ((a.aQ:Int)+1)):Nat):Int)] 1 jX Tryz.sizeOf32 ?_
 intro gK jY
 refine nt (H7 (sr (Kz (vP mQ 6) (Lz (.slice none 0 0) jY 6 D3 (Kz (vI 0) (Mn rfl (bo (JK 200 (H7 ?_)))))))))
 have mU:=jY.px [] [6] []
 refine H8 (Kz (.bool false) (nt (H7 (jf (Wp.exit (Ip (Ip (Iz (Ib (sr (Mz rfl (Az rfl (An rfl (rt (Ir (kD rfl rfl rfl) (Mz rfl (Kz (vP I 0) (Kz (vI 0) (Az rfl (An rfl (H7 (H7 ?_))))))))))))))))))))))
 have iF:=mU.px [] [6] []
 refine H8 (Mz rfl (Kz (.bool false) (Mz rfl (gw (vI 0) rfl (Ie rfl) (Gz (.bool false) rfl (fw (.bool false) (H6 rfl rfl rfl) (Mz rfl (gw (.slice A0 l0.length c0) rfl (Ie rfl) (Gz (vJ l0.length) rfl (Gz (.bool (decide ((l0.length:Int) > 80))) rfl (fw (.bool (decide ((l0.length:Int) > 80))) (H6 rfl rfl rfl) (nt ?_))))))))))))
 by_cases bJ:(l0.length:Int) > 80
 refine jT (dT bJ) (sr (Mz rfl (Mz rfl ?_)))
 rcases Lr (z) with cz | cz
 refine IQ (v:=vP I 0) rfl rfl cz rfl (Ie rfl) (Gz (.bool true) cz (fw (.bool true) (Ic rfl cz rfl) (An rfl (rt (tR (rs ?_))))))
 have mV:=iF.pk []
 obtain rfl:=zj hr zq6
 exact⟨rfl,mV⟩
 refine Sz cz (Sz cz (fw (.bool false) (H6 rfl cz rfl) (An rfl (rt (tR (rs ?_))))))
 have mW:=iF.pk []
 obtain rfl:=zj hr zq6
 exact⟨rfl,mW⟩
 refine jF (dF bJ) (sk (H7 (sr (Mz rfl (Kz (vJ l0.length) (Mn rfl (bo ?_)))))))
 have mX:Own w D gK (sepL (q2 IA [])::_):=iF.sepNil
 have mY:Own w D gK (row none 0 0 (q2 aP.cells []) 99 4::_):=mX.free (bZ 99 4)
 have mZ:Own w D gK (sepL (q2 Iy [])::_):=mY.sepNil
 have jZ:Own w D gK (row none 0 0 (q2 ay.cells []) 164 6::_):=mZ.free (bZ 164 6)
 have j3:=jZ.pb [7,8,9,2,3,0,1]
 obtain⟨j4,cB⟩:=G9 λ (u:Nat) aT (aU:Nat) av p aV (aZ:Nat) j (J:Nat) bg (bi:Nat) aA r bn (bq:Nat) aB s w'=>Own w D w' [blk I [vI a.bC, .int .u64 ((G0 (H3.wrap ((a.aQ:Int)+1)):Nat):Int),vU a.bq,vU a.aJ,vU a.aD, .slice af a.ah.ls.length Q, .slice aT p.length aU, .slice aV j.length aZ,vU J,vU a.aI, .string ⟨v0 a.aH.aN⟩, .string ⟨v0 a.aH.aT⟩,vU a.aC.aD,vU a.aC.bv,vU a.aC.di, .string ⟨v0 a.aC.aA.aN⟩, .string ⟨v0 a.aC.aA.aT⟩, .iface 24 (vP B 0), .slice bg r.length bi,vP ag 0, .pointer none] 80,blk ag [.slice bn s.length bq] 114,row af a.ah.ls.length Q (q2 bM.cells a.ah.ls) 83 2,blk B [.slice none 0 0] 27,row aT p.length aU (q2 bf.cells av) 60 2,sepL (q2 IK av),row aV j.length aZ (q2 (eN .u64) j) 32 1,row bg r.length bi (q2 aP.cells aA) 99 4,sepL (q2 IA aA),row bn s.length bq (q2 ay.cells aB) 164 6,sepL (q2 Iy aB)]/\s1 bf.abs av=p/\s1 aP.abs aA=r/\s1 ay.abs aB=s/\u<=l0.length/\j.length<=a.af.ls.length+u/\Rs r p j s/\j.length<=u/\ig l1 z a l0 a.ak.ls a.af.ls a.bi [] []=ig l1 z a (List.drop u l0) p j J r s
 refine Wp.loop (λ i:Nat × (Option Addr) × Nat × (List bf) × (List dA) × (Option Addr) × Nat × (List Nat) × Nat × (Option Addr) × Nat × (List aP) × (List bB) × (Option Addr) × Nat × (List ay) × (List aM)=> [(46,vJ i.1),(45,vJ l0.length),(44, .slice A0 l0.length c0),(7,vP I 0),(6,vP B 0),(5, .bool z),(4, .bool false),(1, .slice A1 l1.length c1)]) j4 (λ i=>l0.length - i.1) (0,iB,iC,jV,a.ak.ls,iD,iE,a.af.ls,a.bi,none,0, [], [],none,0, [], []) ⟨rfl,rfl,rfl,rfl,rfl,rfl,rfl,rfl,trivial⟩ (cB.2 ⟨j3,(show s1 bf.abs jV=a.ak.ls/\s1 aP.abs []=[]/\s1 ay.abs []=[]/\0<=l0.length/\a.af.ls.length<=a.af.ls.length/\Rs [] a.ak.ls a.af.ls []/\a.af.ls.length<=0/\ig l1 z a l0 a.ak.ls a.af.ls a.bi [] []=ig l1 z a (List.drop 0 l0) a.ak.ls a.af.ls a.bi [] [] from ⟨by exact gL,by exact rfl,by exact rfl,e8,e8,by first | assumption | exact eD f6,e8,rfl⟩)⟩) ?_
 rintro ⟨u,aT,aU,av,p,aV,aZ,j,J,bg,bi,aA,r,bn,bq,aB,s⟩ j5 iI
 show Wp _ _ _ [(46,vJ u),(45,vJ l0.length),(44, .slice A0 l0.length c0),(7,vP I 0),(6,vP B 0),(5, .bool z),(4, .bool false),(1, .slice A1 l1.length c1)] _ _
 obtain⟨dz,cK,cO,cZ,ng,ni,nk,nu,dO⟩:=cB.1 iI
 have ny:=aY cK
 have nz:=aY cO
 have nA:=aY cZ
 refine sr (Kz (.bool (decide ((u:Int) < (l0.length:Int)))) (nt (H7 ?_)))
 by_cases gM:(u:Int) < (l0.length:Int)
 obtain⟨b,O⟩:=dG (ls:=d0) (i:=u) jb.len f5 (dz.ro il) f2
 have eH:=fO jE O
 have nC:=(dx _ (D4 O)).2.1
 have nD:=(dx _ (D4 O)).2.2.2.1
 have nE:q7 (s1 aR.abs b.bY.aV.ls)=b.bY.aV.ls.length:=r7 ..
 have nG:=(dx _ (D4 O)).2.2.2.2.2.2
 have nH:b.bY.aU<=18446744073709551615/\b.bY.aK.ls.length<=140737488351232/\b.bY.aV.ls.length<=140737488351232/\b.bY.ah.ls.length<=140737488351232:=by have q:=mF _ (D4 eH); exact⟨q.1,q.2.1,Nat.le_trans (Nat.le_of_eq (r7 ..).symm) q.2.2.1,q.2.2.2⟩
 have eO:=drop_at eH
 refine jT (dT gM) (sk (H7 (bo (sr (fw (.pointer (some ⟨ab A0,ao A0+u *22,none⟩)) (Im (Hw) rfl rfl ((dz.ro il).addr (i:=u) e8) e8) (fw (.agg (jb.cells b).toArray) (Il rfl (Io (cs:=(jb.cells b)) Tryz.isAgg49 Tryz.sizeOf49 ((dz.ro il).elem jb.len O f5))) ?_))))))
 refine bW (GI 0 0 0 0 0 0 0 0 0 0 0 0 0 0 0 false [] [] none 0 0 none 0 0 none 0 0 false) 49 dz ?_
 intro eP p8 j6
 refine cu (jb.cells b) 0 j6 Tryz.sizeOf49 ?_
 intro p9 dZ
 refine ns (Kz (vP eP 0) (Kz (vP eP 0) (Lz (vI b.bY.aB) dZ 0 Tryz.isAgg3 (Kz (.bool (decide (b.bY.aB=3))) (nt ?_)))))
 by_cases d9:b.bY.aB=3
 refine jT (dT d9) (H8 (Mz rfl (Kz (vP eP 0) (La (bV.cells b.bY) dZ 0 Tryz.isAgg47 Tryz.sizeOf47 ?_))))
 have gN:=dZ.pb [4,2,10,11,0,3]
 have nI:=zr 11 gN
 obtain⟨⟨gP,kg,T,eQ⟩,dP⟩:∃ q:dH × Int × ax × aW,dN (ax.mk (bA.mk a.bC (G0 (H3.wrap ((a.aQ:Int)+1))) a.bq a.aJ a.aD (F2 a.ah.ls) (F2 p) (F2 j) J a.aI a.aH a.aC) (F2 r)) (dL.mk b.bY.aB b.bY.jo b.bY.jU b.bY.iq b.bY.gp b.bY.iZ b.bY.gN b.bY.aQ b.bY.aU b.bY.bi b.bY.bq b.bY.aJ b.bY.aD b.bY.bv b.bY.xN b.bY.ik b.bY.aA (F2 b.bY.aK.ls) (F2 (s1 aR.abs b.bY.aV.ls)) (F2 b.bY.ah.ls)) (StoreT.mk (F2 [])) (aW.mk (F2 s))=q:=⟨_,rfl⟩
 obtain⟨qa,iJ,df,iK,iL⟩:=Jf gN
 refine cl Tryz.call9 (jm _ _ I (ax.mk (bA.mk a.bC (G0 (H3.wrap ((a.aQ:Int)+1))) a.bq a.aJ a.aD (F2 a.ah.ls) (F2 p) (F2 j) J a.aI a.aH a.aC) (F2 r)) af Q aT aU av aV aZ bg bi aA (dL.mk b.bY.aB b.bY.jo b.bY.jU b.bY.iq b.bY.gp b.bY.iZ b.bY.gN b.bY.aQ b.bY.aU b.bY.bi b.bY.bq b.bY.aJ b.bY.aD b.bY.bv b.bY.xN b.bY.ik b.bY.aA (F2 b.bY.aK.ls) (F2 (s1 aR.abs b.bY.aV.ls)) (F2 b.bY.ah.ls)) b.bY.aK.A b.bY.aK.ls.length b.bY.aK.c b.bY.aV.A b.bY.aV.ls.length b.bY.aV.c b.bY.aV.ls b.bY.ah.A b.bY.ah.ls.length b.bY.ah.c B (StoreT.mk (F2 [])) none 0 ag (aW.mk (F2 s)) bn bq aB gP kg T eQ iJ (iL _ 1 _ rfl bP) (show a.ah.ls.length<=Q/\a.ah.ls.length<=9223372036854775807 from by omega) cK cO rfl (df _ (dx _ (D4 O)).1) (show b.bY.aK.ls.length<=b.bY.aK.c/\b.bY.aK.ls.length<=9223372036854775807 from by omega) (rfl:s1 aR.abs b.bY.aV.ls=s1 aR.abs b.bY.aV.ls) g6 (λ w9 h9=>Eo (aY (rfl:s1 aR.abs b.bY.aV.ls=s1 aR.abs b.bY.aV.ls)) ((df _ (dx _ (D4 O)).2.2.1) w9 h9)) (show q7 (s1 aR.abs b.bY.aV.ls)<=b.bY.aV.c/\q7 (s1 aR.abs b.bY.aV.ls)<=9223372036854775807 from by omega) (λ x9 h9=>⟨df _ ((dx _ (D4 O)).2.2.2.2.1 x9 h9).1,((dx _ (D4 O)).2.2.2.2.1 x9 h9).2⟩) rfl (df _ (dx _ (D4 O)).2.2.2.2.2.1) (show b.bY.ah.ls.length<=b.bY.ah.c/\b.bY.ah.ls.length<=9223372036854775807 from by omega) (λ _ _=>bO.nil _ _ _) (show 0<=0/\0<=9223372036854775807 from by omega) cZ (by first | assumption | exact Rs.tk f6 | (dsimp only; exact(eD f6).tk)) (by first | assumption | exact Rs.gt f6 | (dsimp only; exact(eD f6).gt)) (by first | omega | exact Tk.n f6 | exact(Rs.tk f6).n | (dsimp only; exact(eD f6).tk.n)) (by first | omega | exact Tk.rows f6 | exact(Rs.tk f6).rows | (dsimp only; exact(eD f6).tk.rows)) f0 f0 f0 dP) ?_
 rintro _ qb ⟨qc,qf,qg,qh,qi,kr,ku,kv,kw,ky,kz,kC,kE,kF,kG,kH,rfl,iM,iP,eT,eU,eY⟩
 have bE:=iK _ _ iM
 have nJ:=aY iP
 have nK:=aY eT
 have nL:=aY eU
 have nM:=aY eY
 have nN:=zr 0 bE
 have nO:=zr 2 bE
 have nP:=zr 4 bE
 have nQ:=zr 6 bE
 have nR:=zr 7 bE
 have nS:=zr 11 bE
 obtain⟨eZ,fe⟩:=om (m:=(ax.mk (bA.mk a.bC (G0 (H3.wrap ((a.aQ:Int)+1))) a.bq a.aJ a.aD (F2 a.ah.ls) (F2 p) (F2 j) J a.aI a.aH a.aC) (F2 r))) (tb:=(aW.mk (F2 s))) g8 f9 dP
 replace eZ:Rs T.ag.ls T.aa.ak.ls T.aa.af.ls eQ.ai.ls:=eZ
 replace fe:T.aa.ah.ls.length=a.ah.ls.length/\T.aa.af.ls.length<=j.length+1/\gP.aL.ls.length<=24/\T.ag.ls.length+T.aa.ak.ls.length<=6:=fe
 refine B6 (bN (Ib ?_))
 have kI:=bE.px [] [0,1,2,13] []
 refine H8 (fw (vJ (u+1)) (Ig (e:=B5.wrap ((u:Int)+1)) yk f1) (Mz rfl (B6 ?_)))
 have kJ:=kI.pf [0,7,10,6]
 exact Iq (u+1,kr,ku,kv,T.aa.ak.ls,kw,ky,T.aa.af.ls,T.aa.bi,kz,kC,kE,T.ag.ls,kF,kG,kH,eQ.ai.ls) ⟨rfl,rfl,rfl,rfl,rfl,rfl,rfl,rfl,trivial⟩ (cB.2 ⟨kJ,by exact eT,by exact eU,by exact eY,e8,e8,by first | assumption | exact eD f6,e8,et (dO) (et (congrArg (λ q=>ig l1 z a q p j J r s) eO) (et (ip d9) (ae dP)))⟩) (by show l0.length - (u+1) < l0.length - u; omega)
 refine jF (dF d9) (IG (bN (Ib ?_)))
 have kK:=dZ.px [] [0] []
 refine H8 (fw (vJ (u+1)) (Ig (e:=B5.wrap ((u:Int)+1)) yk f1) (Mz rfl (B6 ?_)))
 have kL:=kK.pf []
 exact Iq (u+1,aT,aU,av,p,aV,aZ,j,J,bg,bi,aA,r,bn,bq,aB,s) ⟨rfl,rfl,rfl,rfl,rfl,rfl,rfl,rfl,trivial⟩ (cB.2 ⟨kL,by exact cK,by exact cO,by exact cZ,e8,e8,by first | assumption | exact eD f6,e8,et (dO) (et (congrArg (λ q=>ig l1 z a q p j J r s) eO) (iN d9))⟩) (by show l0.length - (u+1) < l0.length - u; omega)
 refine jF (dF gM) (Wp.exit (Ip ?_))
 have aQ:ig l1 z a l0 a.ak.ls a.af.ls a.bi [] []=(p,j,r,J,s):=et (dO) (et (congrArg (λ q=>ig l1 z a q p j J r s) (eX (ls:=l0) (i:=u) e8)) rfl)
 refine Ip (Iz (Ib (H7 (sr (Mn rfl (bo ?_))))))
 have kM:Own w D j5 [row none 0 0 (q2 az.cells []) 101 2,blk I [vI a.bC, .int .u64 ((G0 (H3.wrap ((a.aQ:Int)+1)):Nat):Int),vU a.bq,vU a.aJ,vU a.aD, .slice af a.ah.ls.length Q, .slice aT p.length aU, .slice aV j.length aZ,vU J,vU a.aI, .string ⟨v0 a.aH.aN⟩, .string ⟨v0 a.aH.aT⟩,vU a.aC.aD,vU a.aC.bv,vU a.aC.di, .string ⟨v0 a.aC.aA.aN⟩, .string ⟨v0 a.aC.aA.aT⟩, .iface 24 (vP B 0), .slice bg r.length bi,vP ag 0, .pointer none] 80,blk ag [.slice bn s.length bq] 114,row af a.ah.ls.length Q (q2 bM.cells a.ah.ls) 83 2,blk B [.slice none 0 0] 27,row aT p.length aU (q2 bf.cells av) 60 2,sepL (q2 IK av),row aV j.length aZ (q2 (eN .u64) j) 32 1,row bg r.length bi (q2 aP.cells aA) 99 4,sepL (q2 IA aA),row bn s.length bq (q2 ay.cells aB) 164 6,sepL (q2 Iy aB)]:=dz.free (bZ 101 2)
 have kN:=kM.pb [0]
 obtain⟨kP,dQ⟩:=FV λ (d:Nat) ah (U:Nat) aC g ai (V:Nat) f (t:Nat) ak (W:Nat) aD h bv (bz:Nat) aJ C aK (aF:Nat) l w'=>Own w D w' [blk I [vI a.bC, .int .u64 ((G0 (H3.wrap ((a.aQ:Int)+1)):Nat):Int),vU a.bq,vU a.aJ,vU a.aD, .slice af a.ah.ls.length Q, .slice ah g.length U, .slice ai f.length V,vU t,vU a.aI, .string ⟨v0 a.aH.aN⟩, .string ⟨v0 a.aH.aT⟩,vU a.aC.aD,vU a.aC.bv,vU a.aC.di, .string ⟨v0 a.aC.aA.aN⟩, .string ⟨v0 a.aC.aA.aT⟩, .iface 24 (vP B 0), .slice ak h.length W,vP ag 0, .pointer none] 80,blk ag [.slice bv C.length bz] 114,row af a.ah.ls.length Q (q2 bM.cells a.ah.ls) 83 2,blk B [.slice aK l.length aF] 27,row ah g.length U (q2 bf.cells aC) 60 2,sepL (q2 IK aC),row ai f.length V (q2 (eN .u64) f) 32 1,row ak h.length W (q2 aP.cells aD) 99 4,sepL (q2 IA aD),row bv C.length bz (q2 ay.cells aJ) 164 6,sepL (q2 Iy aJ),row aK l.length aF (q2 az.cells l) 101 2]/\s1 bf.abs aC=g/\s1 aP.abs aD=h/\s1 ay.abs aJ=C/\d<=20/\f.length<=j.length+d/\Rs h g f C/\h.length+g.length<=6/\(f.length<=80+d/\l.length<=24 *d/\d<=20)/\fT l1 z a 20 0 p j J r s []=fT l1 z a (20 - d) d g f t h C l
 refine Wp.loop (λ i:Nat × (Option Addr) × Nat × (List bf) × (List dA) × (Option Addr) × Nat × (List Nat) × Nat × (Option Addr) × Nat × (List aP) × (List bB) × (Option Addr) × Nat × (List ay) × (List aM) × (Option Addr) × Nat × (List az)=> [(4, .bool false),(59,vJ i.1),(7,vP I 0),(6,vP B 0),(5, .bool z),(1, .slice A1 l1.length c1)]) kP (λ i=>20 - i.1) (0,aT,aU,av,p,aV,aZ,j,J,bg,bi,aA,r,bn,bq,aB,s,none,0, []) ⟨rfl,rfl,rfl,rfl,rfl,rfl,trivial⟩ (dQ.2 ⟨kN,(show s1 bf.abs av=p/\s1 aP.abs aA=r/\s1 ay.abs aB=s/\0<=20/\j.length<=j.length/\Rs r p j s/\r.length+p.length<=6/\(j.length<=80+0/\0<=24 *0/\0<=20)/\fT l1 z a 20 0 p j J r s []=fT l1 z a (20 - 0) 0 p j J r s [] from ⟨by exact cK,by exact cO,by exact cZ,e8,e8,by first | assumption | exact eD f6,by first | omega | exact(Rs.tk f6).n | exact(eD f6).tk.n,by first | omega | (dsimp only; omega) | (simp only [K1]; omega),rfl⟩)⟩) ?_
 rintro ⟨d,ah,U,aC,g,ai,V,f,t,ak,W,aD,h,bv,bz,aJ,C,aK,aF,l⟩ qj iQ
 show Wp _ _ _ [(4, .bool false),(59,vJ d),(7,vP I 0),(6,vP B 0),(5, .bool z),(1, .slice A1 l1.length c1)] _ _
 obtain⟨bS,dR,dS,fo,nT,nU,nV,nW,nX,aH⟩:=dQ.1 iQ
 have nY:=aY dR
 have nZ:=aY dS
 have og:=aY fo
 refine sr (Kz (.bool (decide ((d:Int) < 20))) (nt (H7 ?_)))
 by_cases gQ:(d:Int) < 20
 refine jT (dT gQ) (sk (H7 (bo (sr (Mz rfl (Ar rfl (Mz rfl ?_)))))))
 have oh:=zr 2 bS
 have ol:=zr 4 bS
 have oo:=zr 6 bS
 obtain⟨aL,aI⟩:∃ q,lZ (ax.mk (bA.mk a.bC (G0 (H3.wrap ((a.aQ:Int)+1))) a.bq a.aJ a.aD (F2 a.ah.ls) (F2 g) (F2 f) t a.aI a.aH a.aC) (F2 h))=q:=⟨_,rfl⟩
 obtain⟨qm,iR,oq,iT,di⟩:=IE bS
 refine cl Tryz.call11 (qK _ _ I (ax.mk (bA.mk a.bC (G0 (H3.wrap ((a.aQ:Int)+1))) a.bq a.aJ a.aD (F2 a.ah.ls) (F2 g) (F2 f) t a.aI a.aH a.aC) (F2 h)) af Q ah U aC ai V ak W B ag aL iR (di _ 1 _ rfl bP) e8 dR (di _ 3 _ rfl bP) e8 (λ x9 h9=>⟨di _ 4 _ rfl (bL (O3.2 ⟨x9,h9,b3⟩) bP),dC (φ:=λ _=>_) bS (i:=5) rfl (bL (O3.2 ⟨x9,h9,b3⟩) dK)⟩) (di _ 5 _ rfl bP) e8 g4 (by first | assumption | exact Tk.hops f6 | exact(Rs.tk f6).hops) aI) ?_
 rintro _ qo ⟨kQ,kR,bF,fq,kS,kT,kU,rfl,iW,fu⟩
 have ed:=iT _ _ iW
 have ou:=aY fu
 have ow:=zr 0 ed
 have oz:=zr 1 ed
 have oC:=zr 3 ed
 refine bW (gV 0 0 0 0 0 none 0 0 none 0 0 none 0 0 0 0 [] [] 0 0 0 [] []) 41 ed ?_
 intro gU qw kV
 refine cu (iV aL kQ kR bF fq kS kT) 0 kV E7 ?_
 intro qx bC
 refine ns (An rfl (H7 (sr (Kz (vP gU 6) (Lz (.slice bF aL.ak.ls.length fq) bC 0 D3 (Kz (vJ aL.ak.ls.length) (Kz (.bool (decide ((aL.ak.ls.length:Int) > 0))) (nt ?_))))))))
 obtain⟨kW,dU⟩:=mI λ (K:Nat) w'=>Own w D w' [blk I [vI a.bC, .int .u64 ((G0 (H3.wrap ((a.aQ:Int)+1)):Nat):Int),vU a.bq,vU a.aJ,vU a.aD, .slice af a.ah.ls.length Q, .slice ah g.length U, .slice ai f.length V,vU t,vU a.aI, .string ⟨v0 a.aH.aN⟩, .string ⟨v0 a.aH.aT⟩,vU a.aC.aD,vU a.aC.bv,vU a.aC.di, .string ⟨v0 a.aC.aA.aN⟩, .string ⟨v0 a.aC.aA.aT⟩, .iface 24 (vP B 0), .slice ak h.length W,vP ag 0, .pointer none] 80,blk ag [.slice bv C.length bz] 114,blk B [.slice aK l.length aF] 27,row af a.ah.ls.length Q (q2 bM.cells a.ah.ls) 83 2,row ah g.length U (q2 bf.cells aC) 60 2,sepL (q2 IK aC),row ai f.length V (q2 (eN .u64) f) 32 1,row ak h.length W (q2 aP.cells aD) 99 4,sepL (q2 IA aD),row bv C.length bz (q2 ay.cells aJ) 164 6,sepL (q2 Iy aJ),row aK l.length aF (q2 az.cells l) 101 2]/\(if(aL.ak.ls.length:Int) > 0 then bnd (y2 aL.ak.ls 0 default) λ iX=>y0 iX.aU else bnd (jG (ax.mk (bA.mk a.bC (G0 (H3.wrap ((a.aQ:Int)+1))) a.bq a.aJ a.aD (F2 a.ah.ls) (F2 g) (F2 f) t a.aI a.aH a.aC) (F2 h))) λ fA=>if(fA.length:Int) > 0 then bnd (y2 fA 0 default) λ iY=>y0 iY else if z=true then bnd (mH (ax.mk (bA.mk a.bC (G0 (H3.wrap ((a.aQ:Int)+1))) a.bq a.aJ a.aD (F2 a.ah.ls) (F2 g) (F2 f) t a.aI a.aH a.aC) (F2 h))) λ iZ=>y3 (iZ) else y3 (false))=y0 K
 refine Jl (λ i:Nat=> [(4, .bool false),(13,vU i),(11,vJ d),(59,vJ d),(7,vP I 0),(6,vP B 0),(5, .bool z),(1, .slice A1 l1.length c1)]) kW ?_ ?_
 by_cases bT:(aL.ak.ls.length:Int) > 0
 refine jT (dT bT) (H8 (Kz (vP gU 6) (Lz (.slice bF aL.ak.ls.length fq) bC 0 D3 ?_)))
 obtain⟨bU,dV⟩:=dG (ls:=kU) (i:=0) bf.len f5 (bC.rds (i:=2) rfl) f2
 have ja:=fO fu dV
 have oD:bU.aK.ls.length<=bU.aK.c/\bU.aK.ls.length<=9223372036854775807:=dC bC (i:=3) rfl (φ:=λ _=>_) (bL (O3.2 ⟨bU,D4 dV,b3⟩) dK)
 refine fw (.pointer (some ⟨ab bF,ao bF+0 *2,none⟩)) (Im (ko) rfl rfl ((bC.rds (i:=2) rfl).addr (i:=0) e8) e8) (Kz (.pointer (some ⟨ab bF,ao bF+0 *2,none⟩)) (fw (vU bU.aU) (Il rfl (bQ.one E1 (((bC.rds (i:=2) rfl).elem bf.len dV f5).at_ (k:=0) rfl))) (Az rfl (B6 ?_))))
 have kY:=bC.px [5,6,8] [0,1,2,3,4] []
 exact I1 bU.aU ⟨rfl,rfl,rfl,rfl,rfl,rfl,rfl,rfl,trivial⟩ (dU.2 ⟨kY,et (ip bT) (ae (bu ja))⟩)
 refine jF (dF bT) (H7 ?_)
 have ek:=bC.px [] [0,1,2,3,4] []
 refine H8 (Mz rfl ?_)
 have oF:=zr 7 ek
 obtain⟨dB,dm⟩:∃ q,jG (ax.mk (bA.mk a.bC (G0 (H3.wrap ((a.aQ:Int)+1))) a.bq a.aJ a.aD (F2 a.ah.ls) (F2 g) (F2 f) t a.aI a.aH a.aC) (F2 h))=q:=⟨_,rfl⟩
 obtain⟨qy,jc,oG,jd,dW⟩:=IE ek
 refine cl Tryz.call12 (qJ _ _ I (ax.mk (bA.mk a.bC (G0 (H3.wrap ((a.aQ:Int)+1))) a.bq a.aJ a.aD (F2 a.ah.ls) (F2 g) (F2 f) t a.aI a.aH a.aC) (F2 h)) af Q ah U ai V ak W aD B ag dB jc dS (dW _ 6 _ rfl bP) e8 (λ x9 h9=>⟨dW _ 7 _ rfl (bL (O3.2 ⟨x9,h9,b3⟩) bP),dC (φ:=λ _=>_) ek (i:=8) rfl (bL (O3.2 ⟨x9,h9,b3⟩) dK),dW _ 7 _ rfl (bL (O3.2 ⟨x9,h9, .tail _ b3⟩) bP),dC (φ:=λ _=>_) ek (i:=8) rfl (bL (O3.2 ⟨x9,h9, .tail _ b3⟩) dK)⟩) f0 dm) ?_
 rintro _ qz ⟨gW,qA,rfl,je⟩
 have bX:=jd _ _ je
 have oH:=zr 0 bX
 refine Ar rfl (Mz rfl (Kz (vJ dB.length) (Kz (.bool (decide ((dB.length:Int) > 0))) (nt ?_))))
 by_cases dD:(dB.length:Int) > 0
 refine jT (dT dD) (H8 (Mz rfl ?_))
 obtain⟨gX,fB⟩:=dG (ls:=dB) (i:=0) gT f5 (bX.rds (i:=0) rfl) f2
 refine fw (.pointer (some ⟨ab gW,ao gW+0 *1,none⟩)) (Im (iH) rfl rfl ((bX.rds (i:=0) rfl).addr (i:=0) e8) e8) (fw (vU gX) (Il rfl (bQ.one E1 (((bX.rds (i:=0) rfl).elem gT fB f5).at_ (k:=0) rfl))) (Az rfl (B6 ?_)))
 have kZ:=bX.px [1,2,4] [0] []
 exact I1 gX ⟨rfl,rfl,rfl,rfl,rfl,rfl,rfl,rfl,trivial⟩ (dU.2 ⟨kZ,et (iN bT) (et (ae dm) (et (ip dD) (ae (bu fB))))⟩)
 refine jF (dF dD) (H7 ?_)
 have gY:=bX.px [] [0] []
 refine H8 (Mz rfl (Mz rfl ?_))
 rcases Lr (z) with aN | aN
 refine IQ (v:=vP I 0) rfl rfl aN rfl (Ie rfl) ?_
 obtain⟨fC,fD⟩:∃ q,mH (ax.mk (bA.mk a.bC (G0 (H3.wrap ((a.aQ:Int)+1))) a.bq a.aJ a.aD (F2 a.ah.ls) (F2 g) (F2 f) t a.aI a.aH a.aC) (F2 h))=q:=⟨_,rfl⟩
 obtain⟨qB,jg,oI,jh,oJ⟩:=IE gY
 refine I9 rfl rfl aN rfl (IB Tryz.call13 rfl (vH _ _ I (ax.mk (bA.mk a.bC (G0 (H3.wrap ((a.aQ:Int)+1))) a.bq a.aJ a.aD (F2 a.ah.ls) (F2 g) (F2 f) t a.aI a.aH a.aC) (F2 h)) af Q ah U ai V ak W B ag fC jg fD) ?_)
 rintro _ qC ⟨rfl,ji⟩
 have lc:=jh _ _ ji
 refine fw (.bool fC) (Ic rfl aN rfl) (An rfl (rt (tR (bR (tR (tR (bR (tR (rs ?_)))))))))
 have lg:=lc.pk []
 obtain rfl:_=fC:=zj hr (et (ae Z) (et (ae aa) (et (ip au) (et (ae S) (et (iN bJ) (et (ae aQ) (iG (et (aH) (et (congrArg (λ q=>fT l1 z a q d g f t h C l) (lK (n:=20) (i:=d) e8)) (et (ae aI) (uV (et (iN bT) (et (ae dm) (et (iN dD) (et (ip aN) (ae fD))))))))))))))))
 exact⟨rfl,lg⟩
 refine Sz aN (Sz aN (fw (.bool false) (H6 rfl aN rfl) (An rfl (rt (tR (bR (tR (tR (bR (tR (rs ?_)))))))))))
 have lh:=gY.pk []
 obtain rfl:_=false:=zj hr (et (ae Z) (et (ae aa) (et (ip au) (et (ae S) (et (iN bJ) (et (ae aQ) (iG (et (aH) (et (congrArg (λ q=>fT l1 z a q d g f t h C l) (lK (n:=20) (i:=d) e8)) (et (ae aI) (uV (et (iN bT) (et (ae dm) (et (iN dD) (eF aN)))))))))))))))
 exact⟨rfl,lh⟩
 rintro K qD jk
 show Wp _ _ _ [(4, .bool false),(13,vU K),(11,vJ d),(59,vJ d),(7,vP I 0),(6,vP B 0),(5, .bool z),(1, .slice A1 l1.length c1)] _ _
 obtain⟨dE,dn⟩:=dU.1 jk
 refine H7 ?_
 obtain⟨ll,dX⟩:=mI λ R w'=>Own w D w' [blk I [vI a.bC, .int .u64 ((G0 (H3.wrap ((a.aQ:Int)+1)):Nat):Int),vU a.bq,vU a.aJ,vU a.aD, .slice af a.ah.ls.length Q, .slice ah g.length U, .slice ai f.length V,vU t,vU a.aI, .string ⟨v0 a.aH.aN⟩, .string ⟨v0 a.aH.aT⟩,vU a.aC.aD,vU a.aC.bv,vU a.aC.di, .string ⟨v0 a.aC.aA.aN⟩, .string ⟨v0 a.aC.aA.aT⟩, .iface 24 (vP B 0), .slice ak h.length W,vP ag 0, .pointer none] 80,blk ag [.slice bv C.length bz] 114,blk B [.slice aK l.length aF] 27,row af a.ah.ls.length Q (q2 bM.cells a.ah.ls) 83 2,row ah g.length U (q2 bf.cells aC) 60 2,sepL (q2 IK aC),row ai f.length V (q2 (eN .u64) f) 32 1,row ak h.length W (q2 aP.cells aD) 99 4,sepL (q2 IA aD),row bv C.length bz (q2 ay.cells aJ) 164 6,sepL (q2 Iy aJ),row aK l.length aF (q2 az.cells l) 101 2]/\(if(l1.length:Int) > 0 then bnd (y2 l1 (d % l1.length) default) λ jl=>jl else false)=R
 refine Jl (λ i:Bool=> [(15, .bool i),(4, .bool false),(13,vU K),(59,vJ d),(7,vP I 0),(6,vP B 0),(5, .bool z),(1, .slice A1 l1.length c1)]) ll ?_ ?_
 refine H8 (Mz rfl (Kz (vJ l1.length) (Kz (.bool (decide ((l1.length:Int) > 0))) (Mz rfl ?_))))
 by_cases G:(l1.length:Int) > 0
 refine gw (.slice A1 l1.length c1) (dT G) (Ie rfl) (gw (vJ d) (dT G) (Ie rfl) (gw (.slice A1 l1.length c1) (dT G) (Ie rfl) (Gz (vJ l1.length) (dT G) ?_)))
 have oK:d % l1.length < l1.length:=Nat.mod_lt _ e8
 refine gw (vJ (d % l1.length)) (dT G) (KM rfl rfl e8) ?_
 obtain⟨fE,fF⟩:=dG (ls:=l1) (i:=d % l1.length) Am f5 (dE.ro iq) f2
 refine gw (.pointer (some ⟨ab A1,ao A1+(d % l1.length) *1,none⟩)) (dT G) (Im (Hy) rfl rfl ((dE.ro iq).addr (i:=d % l1.length) e8) e8) (gw (.bool fE) (dT G) (Il rfl (bQ.one Tryz.isAgg4 (((dE.ro iq).elem Am fF f5).at_ (k:=0) rfl))) (fw (.bool fE) (Ic rfl (dT G) rfl) (Az rfl (B6 ?_))))
 have lm:=dE.pf []
 exact I1 fE ⟨rfl,rfl,rfl,rfl,rfl,rfl,rfl,rfl,trivial⟩ (dX.2 ⟨lm,et (ip G) (ae (bu fF))⟩)
 refine Sz (dF G) (Sz (dF G) (Sz (dF G) (Sz (dF G) (Sz (dF G) (Sz (dF G) (Sz (dF G) (fw (.bool false) (H6 rfl (dF G) rfl) (Az rfl (B6 ?_)))))))))
 have lq:=dE.pf []
 exact I1 false ⟨rfl,rfl,rfl,rfl,rfl,rfl,rfl,rfl,trivial⟩ (dX.2 ⟨lq,iN G⟩)
 rintro R qE jo
 show Wp _ _ _ [(15, .bool R),(4, .bool false),(13,vU K),(59,vJ d),(7,vP I 0),(6,vP B 0),(5, .bool z),(1, .slice A1 l1.length c1)] _ _
 obtain⟨lu,dw⟩:=dX.1 jo
 refine sr (Mz rfl (Mz rfl (Mz rfl (Kz (.agg (iy 5 0 1 0 0 0 0 0 K 0 0 0 0 0 0 R [] [] none 0 0 none 0 0 none 0 0).toArray) ?_))))
 have fG:=lu.pb [2,1,9,10,3,11]
 have oL:=zr 10 fG
 have oM:=zr 11 fG
 obtain⟨⟨E,dJ,X,fH⟩,aS⟩:∃ q:dH × Int × ax × aW,dN (ax.mk (bA.mk a.bC (G0 (H3.wrap ((a.aQ:Int)+1))) a.bq a.aJ a.aD (F2 a.ah.ls) (F2 g) (F2 f) t a.aI a.aH a.aC) (F2 h)) (dL.mk 5 0 1 0 0 0 0 0 K 0 0 0 0 0 0 R (aj.mk [] []) (F2 []) (F2 []) (F2 [])) (StoreT.mk (F2 l)) (aW.mk (F2 C))=q:=⟨_,rfl⟩
 obtain⟨qF,jq,oN,jr,fI⟩:=Jf fG
 refine cl Tryz.call9 (jm _ _ I (ax.mk (bA.mk a.bC (G0 (H3.wrap ((a.aQ:Int)+1))) a.bq a.aJ a.aD (F2 a.ah.ls) (F2 g) (F2 f) t a.aI a.aH a.aC) (F2 h)) af Q ah U aC ai V ak W aD (dL.mk 5 0 1 0 0 0 0 0 K 0 0 0 0 0 0 R (aj.mk [] []) (F2 []) (F2 []) (F2 [])) none 0 0 none 0 0 [] none 0 0 B (StoreT.mk (F2 l)) aK aF ag (aW.mk (F2 C)) bv bz aJ E dJ X fH jq (fI _ 0 _ rfl bP) e8 dR dS rfl (λ _ _=>bO.nil _ _ _) f7 rfl rfl (λ _ _=>bO.nil _ _ _) f7 (λ _ h9=>absurd h9 v1) rfl (λ _ _=>bO.nil _ _ _) f7 (fI _ 1 _ rfl bP) e8 fo (by first | assumption | exact Rs.tk f6 | (dsimp only; exact(eD f6).tk)) (by first | assumption | exact Rs.gt f6 | (dsimp only; exact(eD f6).gt)) (by first | omega | exact Tk.n f6 | exact(Rs.tk f6).n | (dsimp only; exact(eD f6).tk.n)) (by first | omega | exact Tk.rows f6 | exact(Rs.tk f6).rows | (dsimp only; exact(eD f6).tk.rows)) f0 f0 f0 aS) ?_
 rintro _ qH ⟨bD,eu,fJ,fK,lv,lC,lD,lF,lH,lI,lJ,lL,lM,lN,lQ,lS,rfl,jv,fM,fP,fQ,fU⟩
 have bG:=jr _ _ jv
 have oO:=aY fM
 have oP:=aY fP
 have oQ:=aY fQ
 have oU:=aY fU
 have oV:=zr 0 bG
 have oW:=zr 2 bG
 have o5:=zr 4 bG
 have o6:=zr 6 bG
 have o7:=zr 7 bG
 have o8:=zr 11 bG
 obtain⟨fV,fZ⟩:=om (m:=(ax.mk (bA.mk a.bC (G0 (H3.wrap ((a.aQ:Int)+1))) a.bq a.aJ a.aD (F2 a.ah.ls) (F2 g) (F2 f) t a.aI a.aH a.aC) (F2 h))) (tb:=(aW.mk (F2 C))) g8 f9 aS
 replace fV:Rs X.ag.ls X.aa.ak.ls X.aa.af.ls fH.ai.ls:=fV
 replace fZ:X.aa.ah.ls.length=a.ah.ls.length/\X.aa.af.ls.length<=f.length+1/\E.aL.ls.length<=24/\X.ag.ls.length+X.aa.ak.ls.length<=6:=fZ
 refine Mz rfl (Kz (.agg #[.slice bD E.bD.ls.length eu, .slice fJ E.aL.ls.length fK, .bool E.bU]) (Kz (vI dJ) ?_))
 refine bW [.slice none 0 0, .slice none 0 0, .bool false] 52 bG ?_
 intro gm qI lT
 refine cu [.slice bD E.bD.ls.length eu, .slice fJ E.aL.ls.length fK, .bool E.bU] 0 lT Tryz.sizeOf52 ?_
 intro qL Y
 refine An rfl (H7 (sr (Mz rfl (fw (.bool (decide (¬ (dJ=0)))) (Iu (e:= !(decide (dJ=0))) yk decide_not.symm) (Mz rfl ?_)))))
 by_cases N:dJ=0
 refine gw (vP gm 0) (dF (Lp N)) yk (gw (.slice bD E.bD.ls.length eu) (dF (Lp N)) (Il rfl (bQ.one Tryz.isAgg50 (IU (Y.cls (i:=0) rfl) rfl))) (gw (vJ E.bD.ls.length) (dF (Lp N)) yk (gw (.bool (decide ((E.bD.ls.length:Int)=0))) (dF (Lp N)) yk (fw (.bool (decide ((E.bD.ls.length:Int)=0))) (H6 rfl (dF (Lp N)) rfl) (Mz rfl ?_)))))
 by_cases L:(E.bD.ls.length:Int)=0
 refine Sz (dT L) (Sz (dT L) (Sz (dT L) (Sz (dT L) (Sz (dT L) (Sz (dT L) (fw (.bool true) (Ic rfl (dT L) rfl) (nt (jt (sr (An rfl (rt (tR (bR (tR (tR (bR (tR (rs ?_))))))))))))))))))
 have lU:=Y.pk []
 obtain rfl:_=false:=zj hr (et (ae Z) (et (ae aa) (et (ip au) (et (ae S) (et (iN bJ) (et (ae aQ) (iG (et (aH) (et (congrArg (λ q=>fT l1 z a q d g f t h C l) (lK (n:=20) (i:=d) e8)) (et (ae aI) (et (sP dn) (et (ae dw) (et (ae aS) (et (ip N) (ip L)))))))))))))))
 exact⟨rfl,lU⟩
 refine Gz (vP gm 0) (dF L) (Gl (.slice bD E.bD.ls.length eu) (dF L) Y 0 Tryz.isAgg50 ?_)
 obtain⟨M,bI⟩:=dG (ls:=lv) (i:=0) bV.len f5 (Y.rds (i:=1) rfl) f2
 have gp:=fO fM bI
 have o9:M.aK.ls.length<=M.aK.c/\M.aK.ls.length<=9223372036854775807:=dC Y (i:=2) rfl (φ:=λ _=>_) (bL (O3.2 ⟨M,D4 bI,b3⟩) dK)
 have pg:M.aV.ls.length<=M.aV.c/\M.aV.ls.length<=9223372036854775807:=dC Y (i:=2) rfl (φ:=λ _=>_) (bL (O3.2 ⟨M,D4 bI, .tail _ b3⟩) dK)
 have pq:M.ah.ls.length<=M.ah.c/\M.ah.ls.length<=9223372036854775807:=dC Y (i:=2) rfl (φ:=λ _=>_) (bL (O3.2 ⟨M,D4 bI, .tail _ b4⟩) dK)
 refine gw (.pointer (some ⟨ab bD,ao bD+0 *21,none⟩)) (dF L) (Im (sK) rfl rfl ((Y.rds (i:=1) rfl).addr (i:=0) e8) e8) (Gz (.pointer (some ⟨ab bD,ao bD+0 *21,none⟩)) (dF L) (gw (vI M.aB) (dF L) (Il rfl (bQ.one Tryz.isAgg3 (((Y.rds (i:=1) rfl).elem bV.len bI f5).at_ (k:=0) rfl))) (gw (.bool (decide (¬ (M.aB=6)))) (dF L) (Iu (e:= !(decide (M.aB=6))) yk decide_not.symm) (fw (.bool (decide (¬ (M.aB=6)))) (H6 rfl (dF L) rfl) (nt ?_)))))
 by_cases eB:M.aB=6
 refine jF (dF (Lp eB)) (sk ?_)
 refine mJ 16 [14] (bH.block (Ik (Ik (bH.block (Ik Iw))))) Y ?_
 intro qM lV
 refine qv 0 rfl rfl (qv 1 rfl rfl (qp B 0 2 rfl (qp B 0 3 rfl (ql 4 rfl 10 Tryz.isAgg25 rfl rfl rfl (qp gm 1 5 rfl (ql 6 rfl 0 Tryz.isAgg44 rfl rfl rfl ?_))))))
 obtain⟨⟨dM,gq,gZ⟩,gu⟩:∃ q:(List az) × (List dh) × Int,qG l E.aL.ls=q:=⟨_,rfl⟩
 obtain⟨qN,jw,pu,jy,gy⟩:=Ia lV
 refine qd 7 rfl (IB Tryz.call10 rfl (AV _ _ aK l.length aF l fJ E.aL.ls.length fK E.aL.ls dM gq gZ jw (gy _ 15 _ rfl bP) rfl e8 (gy _ 3 _ rfl bP) rfl e8 i4 gu) ?_)
 rintro _ qO ⟨gz,gB,lW,lX,qP,rfl,jA,jB,gD,gF⟩
 have gG:=jy _ _ jA
 have pz:=aY jB
 have pE:=zr 0 gG
 have pF:=zr 1 gG
 replace gD:dM.length<=l.length+E.aL.ls.length:=gD
 replace gF:gq.length<=E.aL.ls.length:=gF
 have ib:=gG.pb [0,1,2]
 refine⟨.inr ⟨_,ib⟩, ?_⟩
 refine qv 8 rfl rfl (qk (.slice gz dM.length gB) 9 rfl (IP (v:= .slice lW gq.length lX) 10 rfl e9 (λ _=>yk) (IP (v:=vI gZ) 11 rfl e9 (λ _=>yk) (qp B 0 12 rfl (qp B 0 13 rfl ?_)))))
 have l5:=ib.pf [10]
 refine qe 14 rfl (Do.store (vs:= [.slice gz dM.length gB]) (o:=0) l5 rfl rfl Tryz.sizeOf25 rfl rfl rfl rfl ?_)
 intro qR l6
 refine⟨.inl e9, ?_⟩
 refine qn (bN (Ib ?_))
 have l7:=l6.px [] [1,2,3,4,17,18] []
 refine H8 (fw (vJ (d+1)) (Ig (e:=B5.wrap ((d:Int)+1)) yk f1) (Mz rfl (B6 ?_)))
 have l8:=l7.px [1,7,10] [11] []
 exact Iq (d+1,lC,lD,lF,X.aa.ak.ls,lH,lI,X.aa.af.ls,X.aa.bi,lJ,lL,lM,X.ag.ls,lN,lQ,lS,fH.ai.ls,gz,gB,dM) ⟨rfl,rfl,rfl,rfl,rfl,rfl,trivial⟩ (dQ.2 ⟨l8,by exact fP,by exact fQ,by exact fU,e8,e8,by first | assumption | exact eD f6,by first | omega | exact(Rs.tk f6).n | exact(eD f6).tk.n,by first | omega | (dsimp only; omega) | (simp only [K1]; omega),Eq.trans (aH) (Eq.trans (congrArg (λ q=>fT l1 z a q d g f t h C l) (lK (n:=20) (i:=d) e8)) (Eq.trans (ae aI) (Eq.trans (sP dn) (Eq.trans (ae dw) (Eq.trans (ae aS) (Eq.trans (if_pos N) (Eq.trans (if_neg L) (Eq.trans (ae (bu gp)) (Eq.trans (if_pos eB) (ae gu))))))))))⟩) (by show 20 - (d+1) < 20 - d; omega)
 refine jT (dT eB) (sr (An rfl (rt (tR (bR (tR (tR (bR (tR (rs ?_))))))))))
 have l9:=Y.pk []
 obtain rfl:_=false:=zj hr (et (ae Z) (et (ae aa) (et (ip au) (et (ae S) (et (iN bJ) (et (ae aQ) (iG (et (aH) (et (congrArg (λ q=>fT l1 z a q d g f t h C l) (lK (n:=20) (i:=d) e8)) (et (ae aI) (et (sP dn) (et (ae dw) (et (ae aS) (et (ip N) (et (iN L) (et (ae (bu gp)) (iN eB)))))))))))))))))
 exact⟨rfl,l9⟩
 refine Sz (dT N) (Sz (dT N) (Sz (dT N) (Sz (dT N) (fw (.bool true) (Ic rfl (dT N) rfl) (Mz rfl (Sz rfl (Sz rfl (Sz rfl (Sz rfl (Sz rfl (Sz rfl (fw (.bool true) (Ic rfl rfl rfl) (nt (jt (sr (An rfl (rt (tR (bR (tR (tR (bR (tR (rs ?_))))))))))))))))))))))))
 have ma:=Y.pk []
 obtain rfl:_=false:=zj hr (et (ae Z) (et (ae aa) (et (ip au) (et (ae S) (et (iN bJ) (et (ae aQ) (iG (et (aH) (et (congrArg (λ q=>fT l1 z a q d g f t h C l) (lK (n:=20) (i:=d) e8)) (et (ae aI) (et (sP dn) (et (ae dw) (et (ae aS) (iN N))))))))))))))
 exact⟨rfl,ma⟩
 refine jF (dF gQ) (Wp.exit (Ip ?_))
 have jC:fT l1 z a 20 0 p j J r s []=y0 ():=et (aH) (et (congrArg (λ q=>fT l1 z a q d g f t h C l) (y8 (n:=20) (i:=d) e8)) rfl)
 refine Ip (Iz (Ib (H7 ?_)))
 have mf:=bS.pk []
 refine H8 (An rfl (rt (rs ?_)))
 have mg:=mf.pk []
 obtain rfl:_=false:=zj hr (et (ae Z) (et (ae aa) (et (ip au) (et (ae S) (et (iN bJ) (et (ae aQ) (lw jC)))))))
 exact⟨rfl,mg⟩
 refine Sz (dT au) (Sz (dT au) (fw (.bool true) (Ic rfl (dT au) rfl) (nt (jt (sr (Az rfl (An rfl (rt (tR (Ir (kD rfl rfl rfl) (Mz rfl (Kz (.pointer none) (Kz (vI 1) (Az rfl (An rfl (H7 (H7 ?_)))))))))))))))))
 have ic:=iA.pk [2]
 refine H8 (Mz rfl (Kz (.bool true) (Mz rfl (Sz rfl (Sz rfl (fw (.bool true) (Ic rfl rfl rfl) (Mz rfl (Sz rfl (Sz rfl (Sz rfl (fw (.bool true) (Ic rfl rfl rfl) (nt (jt (sr (Mz rfl (Mz rfl ?_))))))))))))))))
 rcases Lr (z) with aO | aO
 refine IQ (v:= .pointer none) rfl rfl aO rfl (Ie rfl) (Gz (.bool false) aO (fw (.bool false) (Ic rfl aO rfl) (An rfl (rt (tR (rs ?_))))))
 have mh:=ic.pk []
 obtain rfl:=zj hr zq4
 exact⟨rfl,mh⟩
 refine Sz aO (Sz aO (fw (.bool false) (H6 rfl aO rfl) (An rfl (rt (tR (rs ?_))))))
 have mi:=ic.pk []
 obtain rfl:=zj hr zq4
 exact⟨rfl,mi⟩
end
section
open Go.RowKit
open Go.ChangeShapes
theorem Cw (k:Key):∀ (f n:Nat),lH k f (((n:Nat):Int) - 1)=((kr k f n:Nat):Int) - 1\/n >= f
  | 0,n=> .inr e8
  | f+1,n=>by
    unfold kr lH
    simp only [bnd]
    by_cases b:(n:Int) > 0
    . have e:Int.toNat ((n:Int) - 1)=n - 1:=e8
      rw [if_pos b,if_pos e8,e]
      by_cases a:(((List.getD k (n - 1) default).toNat:Nat):Int)=255
      . rw [if_pos a,if_pos a]
        have:=Cw k f (n - 1)
        rw [show (((n - 1:Nat):Nat):Int) - 1=(n:Int) - 1 - 1 by omega] at this
        rcases this with h | h
        . exact .inl h
        . exact .inr e8
      . rw [if_neg a,if_neg a]; exact .inl rfl
    . rw [if_neg b,if_neg e8]; exact .inl rfl
theorem GJ {k:Key} (hk:wM k):pJ k=(aj.mk k (ph k),0):=by
  rw [<- Gu hk]
  have hc:dY k=0:=rU.2 hk
  have b:iW k=0:=hc
  have c:pJ k=if((List.length k:Nat):Int) < 12 then(aj.mk k (k++([0])),0) else bnd (lH k ((Int.toNat ((((List.length k) - 1:Nat):Int)+1))+1) (((List.length k) - 1:Nat):Int)) λ s=>if s < 0 then(aj.mk k [],0) else(aj.mk k ((List.take (Int.toNat s) k)++([(List.getD k (Int.toNat s) default+(1:UInt8))])),0):=by
    unfold pJ
    rw [bK,hc,if_pos rfl]
    rfl
  have d:pu k=if((List.length k:Nat):Int) < 12 then(aj.mk k (k++([0])),0) else bnd (kr k (12+1) 12) λ s=>if(s:Int)=0 then(aj.mk k [],0) else(aj.mk k ((List.take (s - 1) k)++([(List.getD k (s - 1) default+(1:UInt8))])),0):=by
    unfold pu
    rw [bK,b,if_pos rfl]
    rfl
  rw [c,d]
  by_cases a:((List.length k:Nat):Int) < 12
  . rw [if_pos a,if_pos a]
  . rw [if_neg a,if_neg a]
    have hl:k.length=12:=by have:=hk.2; omega
    have e:Int.toNat (((k.length - 1:Nat):Int)+1)+1=13:=e8
    have f:(((k.length - 1:Nat):Nat):Int)=((12:Nat):Int) - 1:=e8
    have:=(Cw k 13 12).resolve_right e8
    rw [e,f,this,show (12:Nat)+1=13 from rfl]
    generalize kr k 13 12=t
    rw [bK,bK]
    by_cases g:t=0
    . subst g
      rw [if_pos e8,if_pos e8]
    . rw [if_neg e8,if_neg e8,show Int.toNat ((t:Int) - 1)=t - 1 by omega]
def VO (l:List aX):Prop:=∀ o ∈ l,dW o=0
def VM (l:List az):Prop:=∀ p ∈ l,zH p
def VL (l:List aF):Prop:=∀ x ∈ l,dU x.aA=0
def VW (ws:List bB):Prop:=∀ w ∈ ws,VO w.cz.ls/\VL w.bJ.ls
def VH (hs:List dA):Prop:=∀ h ∈ hs,VO h.aK.ls
theorem VO.nil:VO []:=λ _ h=>absurd h List.not_mem_nil
theorem VO.app {a b:List aX} (ha:VO a) (hb:VO b):VO (a++b):=λ o ho=>(List.mem_append.1 ho).elim (ha o) (hb o)
theorem VO.tail {x:aX} {l:List aX} (h:VO (x::l)):VO l:=λ o ho=>h o (.tail _ ho)
theorem zF:∀ {l:List aX},VO l->jB l=0
  | [],_=>rfl
  | x::l,h=>by
    have a:=zF h.tail
    unfold jB at a ⊢
    unfold ji
    rw [bK,h x b3,if_pos rfl]
    exact a
theorem Gh {p:az} (h:zH p):dW (aX.mk 2 p.aZ p.aO [] [] 0)=0:=by
  rw [F4 rfl,if_pos ⟨rfl,rfl,rfl⟩,CP,if_pos (rU.2 h.1),if_neg (by have:=h.2; dsimp only; omega)]
theorem FE {x:aX} (h:dW x=0):dU (if x.aB=1\/x.aB=2\/x.aB=3 then jL x else fD x)=0:=by
  by_cases c:x.aB=1\/x.aB=2\/x.aB=3
  . rw [if_pos c]
    have hk:=yG h c
    unfold jL
    rw [bK,GJ hk]
    exact CO.2 (Hf hk)
  . rw [if_neg c]
    by_cases a:x.aB=4\/x.aB=5
    . exact CO.2 (uZ h a)
    . rw [HV e8] at h; cases h
theorem yX:∀ (l:List aX) (a:List aF),VO l->VL a->VL (fP l a)
  | [],a,_,h=>h
  | x::l,a,hv,h=>by
    have hs:=FE (hv x b3)
    have g:∀ (r:aj) (b:Bool),dU r=0->VL (fP l (a++ [aF.mk r b])):=λ r b hr=>yX l _ hv.tail λ y hy=>(List.mem_append.1 hy).elim (h y) λ hy=>by rw [List.mem_singleton.1 hy]; exact hr
    unfold fP
    by_cases c:x.aB=1
    . rw [if_pos c,bK]; rw [if_pos (.inl c)] at hs; exact g _ _ hs
    rw [if_neg c]
    by_cases d:x.aB=2
    . rw [if_pos d,bK]; rw [if_pos (.inr (.inl d))] at hs; exact g _ _ hs
    rw [if_neg d]
    by_cases e:x.aB=3
    . rw [if_pos e,bK]; rw [if_pos (.inr (.inr e))] at hs; exact g _ _ hs
    rw [if_neg e8] at hs
    rw [if_neg e]
    by_cases f:x.aB=4
    . rw [if_pos f,bK]; exact g _ _ hs
    . rw [if_neg f,bK]; exact g _ _ hs
theorem EI {l:List aX} {r:List aF} {e:Int} (hv:VO l) (h:oq l=(r,e)):VL r/\e=0:=by
  unfold oq at h
  rw [bK,zF hv,if_pos rfl,bK] at h
  obtain⟨rfl,rfl⟩:=fB h
  exact⟨yX l [] hv λ _ h=>absurd h List.not_mem_nil,rfl⟩
theorem Br (k:List UInt8):∀ (l:List az) (v:List UInt8),kY k l= .inr (v,true)->∃ p ∈ l,p.aO=v
  | [],v,h=>by cases h
  | x::l,v,h=>by
    unfold kY at h
    split at h
    . have a:(x.aO,true)=(v,true):=Sum.inr.inj h
      exact⟨x, .head _,congrArg Prod.fst a⟩
    . obtain⟨p,hp,e⟩:=Br k l v h
      exact⟨p, .tail _ hp,e⟩
theorem vL (r:aj) (n:Int):∀ (l a:List az), ∀ p ∈ gG r n l a,p ∈ a\/p ∈ l
  | [],a,p,h=> .inl h
  | x::l,a,p,h=>by
    unfold gG at h
    rw [bK] at h
    have b:p ∈ gG r n l a->p ∈ a\/p ∈ x::l:=λ h=>(vL r n l a p h).imp id (.tail _)
    have c:p ∈ gG r n l (a++ [x])->p ∈ a\/p ∈ x::l:=λ h=>by
      rcases vL r n l _ p h with h | h
      . rcases List.mem_append.1 h with h | h
        . exact .inl h
        . rw [List.mem_singleton.1 h]; exact .inr b3
      . exact .inr (.tail _ h)
    split at h
    . split at h
      . exact c h
      . split at h
        . exact c h
        . exact b h
    . exact b h
theorem FH {m:ax} {o:aX} {s:StoreT} (hm:VM s.xM.ls) (ho:dW o=0):VM (mF m o s).1:=by
  unfold mF
  by_cases c:o.aB=1
  . rw [if_pos c,bK]
    unfold qy
    rw [bK]
    generalize hf:qA s.xM.ls o.aZ=v
    obtain⟨v,b⟩:=v
    cases b with
    | false=>simp only [Bool.false_eq_true,if_false]; exact λ _ h=>absurd h List.not_mem_nil
    | true=>
      simp only [if_true]
      intro p hp
      rw [List.mem_singleton.1 hp]
      refine⟨yG ho (.inl c), ?_⟩
      unfold qA at hf
      cases a:kY o.aZ s.xM.ls with
      | inl z=>rw [a] at hf; exact Ec (congrArg Prod.snd hf).symm
      | inr z=>
        rw [a] at hf
        have e:z=(v,true):=hf
        rw [e] at a
        obtain⟨q,hq,f⟩:=Br _ _ _ a
        show List.length v<=16
        rw [<- f]; exact(hm q hq).2
  . rw [if_neg c]
    by_cases d:o.aB=4
    . rw [if_pos d,bK]
      unfold pR pK
      simp only [bK]
      exact λ p hp=>(vL _ _ _ _ p hp).elim (λ h=>absurd h List.not_mem_nil) (hm p)
    . rw [if_neg d]; exact λ _ h=>absurd h List.not_mem_nil
theorem Ef:∀ (q:List az) (l:List aX),VM q->VO l->VO (jl q l)
  | [],l,_,h=>h
  | x::q,l,hm,h=>Ef q _ (λ p hp=>hm p (.tail _ hp)) (h.app λ o ho=>by rw [List.mem_singleton.1 ho]; exact Gh (hm x b3))
theorem Eg (p:bI) (o:List aX) (m:ax) (s:StoreT) (hm:VM s.xM.ls):∀ (q l:List aX),VO q->VO l->VO (fM p o m s q l)
  | [],l,_,h=>h
  | x::q,l,hq,h=>by
    unfold fM
    simp only [bK]
    exact Eg p o m s hm q _ hq.tail (Ef _ _ (FH hm (hq x b3)) h)
theorem Gi {p:bI} {o:List aX} {m:ax} {s:StoreT} (hm:VM s.xM.ls) (ho:VO o) (hw:VO p.av.aL.ls):(mG p o m s).2=0:=by
  unfold mG
  simp only [bK]
  have hv:VO ((fM p o m s o []++p.av.aL.ls)++o):=((Eg p o m s hm o [] ho VO.nil).app hw).app ho
  have ha:(qB [] ((fM p o m s o []++p.av.aL.ls)++o)).2.2=0:=by
    unfold qB
    rw [bK,if_pos (show gy []=0 from rfl),bK,if_pos (zF hv),bK]
  rw [if_pos ha]
theorem FI {p t:bI} {h:dA} {m:ax} {s:StoreT} {e:Int} (hm:VM s.xM.ls) (ho:VO h.aK.ls) (hw:VO p.av.aL.ls) (hv:ib p h m s=(e,t)):e=0/\∃ y,t.av.bD.ls=p.av.bD.ls++y:=by
  unfold ib at hv
  rw [bK,if_pos (Gi hm ho hw)] at hv
  obtain⟨rfl,rfl⟩:=fB hv
  exact⟨rfl,_,rfl⟩
def Nw (k:Nat) (rs:List aM):Prop:=∀ r ∈ rs,r.au=k->r.bn=false
theorem CY {m:List aM} (hs:Up m) {t:Nat} (h:Nw t m):fI (aW.mk (Ll.mk m)) t=false:=by
  unfold fI
  rw [bK]
  rcases ma hs t with ⟨a,p,q,rfl,hp,ha,hq,hf⟩ | ⟨a,q,rfl,ha,hq,hf⟩
  . rw [hf,if_pos rfl,bK]
    simp only [Int.toNat_natCast,gd]
    exact h p i3 hp
  . rw [hf,if_neg i3]
theorem Gj {m:List aM} (h:jy m) {t:Nat} {x:aF} {s e:Int} {g d:List Nat} {r:aW} (hx:dU x.aA=0) (hn:Nw t m) (hr:iT (aW.mk (Ll.mk m)) t x=(s,g,d,e,r)):e=0/\(s≠2->Nw t r.ai.ls):=by
  rw [vE h] at hr
  have k:s=_:=(congrArg (λ q=>q.1) hr).symm
  have l:e=_:=(congrArg (λ q=>q.2.2.2.1) hr).symm
  have n:r=_:=(congrArg (λ q=>q.2.2.2.2) hr).symm
  rw [k,l,n]
  simp only
  unfold nX
  rw [if_pos hx,if_neg (by rw [CY h.up hn]; decide)]
  by_cases c:jW (aW.mk (Ll.mk m)) t x=true
  . rw [if_pos c]; exact⟨rfl,λ _=>hn⟩
  rw [if_neg c]
  by_cases f:192<=kC m
  . rw [if_pos f]; exact⟨rfl,λ _=>hn⟩
  rw [if_neg f]
  by_cases i:dX (aW.mk (Ll.mk m)) t x= []
  . rw [if_pos i]
    obtain⟨p,u⟩:=uQ m h.up t x
    have v:=vk m h.up t x
    have w:=h.len
    have y:=h.tot
    have o:kC (gR m t x)<=kC (iC m t x):=lV _ _
    have A:List.length (gR m t x)<=List.length (iC m t x):=List.length_filter_le _ _
    have hf:Fit (gR m t x):=⟨(q8 h.up t x).filter _,e8,e8⟩
    have hse:=wU hf (Bl h.up t x)
    refine⟨rfl,λ _ q hq hqt=> ?_⟩
    cases hw:q.bn with
    | false=>rfl
    | true=>
      obtain⟨z,hz,a,b⟩:=hse.wt q hq hw
      have:=hn z hz (by rw [a,hqt])
      rw [b] at this; cases this
  rw [if_neg i]
  by_cases j:List.getD (dX (aW.mk (Ll.mk m)) t x) 0 default < t
  . rw [if_pos j]; exact⟨rfl,λ _=>hn⟩
  . rw [if_neg j]; exact⟨rfl,λ h=>absurd rfl h⟩
end
open List renaming append_assoc->q3,append_nil->s2
open Nat renaming le_of_lt_succ->T5,lt_of_lt_of_le->T4
theorem VW.set {ws:List bB} {i:Nat} {x y:bB} (h:VW ws) (hx:ws[i]? =some x) (ho:y.cz=x.cz) (hl:y.bJ=x.bJ):VW (List.set ws i y):=λ w hw=>by
  rcases List.mem_or_eq_of_mem_set hw with e | e
  . exact h w e
  . rw [e,ho,hl]; exact h x (D4 hx)
theorem VW.but {ws:List bB} (h:VW ws) (k:Nat):VW (qE k ws):=λ w hw=>h w (List.mem_filter.1 hw).1
theorem EJ (p:bI) (k:Nat) (m:ax) (s:StoreT) (r:Int):∀ (q:Nat) (l:List dB) (rs:List aM) (ws:List bB),Tk ws m.aa.ak.ls rs->vV ws (G0 r) k->gm ws (G0 r) < q->Nw k rs->VW ws->
    (∀ l' rs' ws' x,ic p k m s r q l rs ws= .inl (l',rs',ws',x)->VW ws'/\VO x.cz.ls)/\
    (∀ e t m' tb',ic p k m s r q l rs ws= .inr (e,t,m',tb')->e=0/\VW m'.ag.ls/\m'.aa.ak.ls=m.aa.ak.ls/\∃ y,t.av.bD.ls=p.av.bD.ls++y):=by
  intro q
  induction q with
  | zero=>intro l rs ws _ _ h; omega
  | succ q ih=>
    intro l rs ws hk hw hq hn hv
    obtain⟨x,hx,hxt⟩:=id hw
    have hgm:=Af hx
    obtain⟨⟨B,C⟩,D,E⟩:=hk.wat hx
    rw [ic]
    simp only [bK,bu hx]
    by_cases a:x.aS < ((q7 x.bJ.ls:Nat):Int)
    . rw [if_pos a]
      have hlk:dU (List.getD x.bJ.ls (G0 x.aS) default).aA=0:=by
        obtain⟨y,hy⟩:∃ y,x.bJ.ls[G0 x.aS]? =some y:=⟨_,p5 e8⟩
        rw [bu hy]
        exact(hv x (D4 hx)).2 y (D4 hy)
      cases ha:iT (aW.mk (F2 rs)) k (List.getD x.bJ.ls (G0 x.aS) default) with
      | mk sv j=>cases j with
        | mk g n=>cases n with
          | mk d o=>cases o with
            | mk e tb=>
              have b:=hk.ask hw ha
              obtain⟨u,c⟩:=Gj hk.snd hlk hn ha
              simp only [uD]
              rw [if_pos u]
              by_cases f:sv=2
              . rw [if_pos f]
                refine⟨λ _ _ _ _ h=>(by cases h),λ w t m' tb' h=> ?_⟩
                obtain⟨rfl,rfl,rfl,rfl⟩:=gH (Sum.inr.inj h)
                exact⟨rfl,hv,rfl, [],(s2 _).symm⟩
              . rw [if_neg f]
                by_cases i:sv=3
                . rw [if_pos i]
                  refine⟨λ _ _ _ _ h=>(by cases h),λ w t m' tb' h=> ?_⟩
                  unfold jg at h
                  rw [bK,sw (m:=ax.mk m.aa (F2 ws)) hk.wu] at h
                  simp only at h
                  generalize hr:fo _ _ _ _=v at h
                  obtain⟨F,z⟩:=v
                  obtain⟨rfl,rfl,rfl,rfl⟩:=gH (Sum.inr.inj h)
                  exact⟨rfl,hv.but k,rfl,_,rfl⟩
                . rw [if_neg i]
                  have hbump:=b.bump (y:=bB.mk x.au (F2 x.cz.ls) (F2 x.bJ.ls) (x.aS+1)) hx rfl rfl rfl (show (0:Int)<=x.aS+1/\x.aS+1<=((q7 x.bJ.ls:Nat):Int) by omega)
                  have A:=Bi (y:=bB.mk x.au (F2 x.cz.ls) (F2 x.bJ.ls) (x.aS+1)) hx a rfl rfl
                  exact ih _ tb.ai.ls (List.set ws (G0 r) (bB.mk x.au (F2 x.cz.ls) (F2 x.bJ.ls) (x.aS+1))) hbump (hw.set hx rfl) e8 (c f) (hv.set hx rfl rfl)
    . rw [if_neg a]
      refine⟨λ l' rs' ws' x' h=> ?_,λ _ _ _ _ h=>(by cases h)⟩
      obtain⟨rfl,rfl,rfl,rfl⟩:=gH (Sum.inl.inj h)
      exact⟨hv,(hv x (D4 hx)).1⟩
structure Vt (p:bI) (s:StoreT) (ws:List bB) (hs:List dA):Prop where
  w:VW ws
  h:VH hs
  m:VM s.xM.ls
  o:VO p.av.aL.ls
theorem go_ok {p t:bI} {k:Nat} {m m':ax} {s:StoreT} {tb tb':aW} {e:Int} (h:fH p k m s tb=(e,t,m',tb')) (hk:Tk m.ag.ls m.aa.ak.ls tb.ai.ls) (hn:Nw k tb.ai.ls) (v:Vt p s m.ag.ls m.aa.ak.ls):
    e=0/\VW m'.ag.ls/\VH m'.aa.ak.ls/\∃ y,t.av.bD.ls=p.av.bD.ls++y:=by
  unfold fH at h
  rw [bK] at h
  cases hf:bX m k with
  | mk i b=>
    rw [hf] at h
    cases b with
    | false=>
      rw [if_neg i3] at h
      obtain⟨rfl,rfl,rfl,rfl⟩:=gH h
      exact⟨rfl,v.w,v.h, [],(s2 _).symm⟩
    | true=>
      rw [if_pos rfl] at h
      have hw:=pG hk.wu hf
      obtain⟨hl,hr⟩:=EJ p k m s i (gm m.ag.ls (G0 i)+1) p.bE.ls tb.ai.ls m.ag.ls hk hw e8 hn v.w
      cases hg:ic p k m s i (gm m.ag.ls (G0 i)+1) p.bE.ls tb.ai.ls m.ag.ls with
      | inr z=>
        obtain⟨a,g,j,f⟩:=z
        simp only at h
        rw [hg] at h
        obtain⟨rfl,rfl,rfl,rfl⟩:=gH (show (a,g,j,f)=(e,t,m',tb') from h)
        obtain⟨c,d,l,n⟩:=hr _ _ _ _ hg
        exact⟨c,d,by rw [l]; exact v.h,n⟩
      | inl z=>
        obtain⟨r,u,A,x⟩:=z
        simp only at h
        rw [hg] at h
        obtain⟨c,d⟩:=hl _ _ _ _ hg
        simp only [lp,bK,hfind] at h
        generalize hv:ib _ _ _ _=q at h
        obtain⟨D,E⟩:=q
        obtain⟨B,C⟩:=FI (p:=bI.mk p.av (F2 r)) v.m d v.o hv
        obtain⟨rfl,rfl,rfl,rfl⟩:=gH h
        refine⟨B,λ w hw=> ?_,λ z hz=> ?_,C⟩
        . rcases List.mem_append.1 hw with a | a
          . exact c w (List.mem_of_mem_take a)
          . exact c w (List.mem_of_mem_drop a)
        . rcases nz.1 hz with a | a
          . rw [a]; exact d
          . exact v.h z a
theorem CZ (p:bI) (m:ax) (s:StoreT) (hm:VM s.xM.ls) (hw:VO p.av.aL.ls):∀ (q:Nat) (o:List dL) (l:List dB) (hs:List dA) (ws:List bB) (rs:List aM),Tk ws hs rs->Gt ws->Li l rs->jS l ws rs < q->VW ws->VH hs->(∃ y,o=p.av.bD.ls++y)->
    ∃ o' l' hs' ws' rs',fE p m s q o l hs ws rs= .inl (o',l',hs',ws',rs')/\VW ws'/\VH hs'/\∃ y,o'=p.av.bD.ls++y:=by
  intro q
  induction q with
  | zero=>intro o l hs ws rs _ _ _ h; omega
  | succ q ih=>
    intro o l hs ws rs hk hg hli hq vw vh ho
    rw [fE]
    simp only [bK]
    by_cases z:((q7 l:Nat):Int) > 0
    . rw [if_pos z]
      obtain⟨f,hf⟩:∃ f,l[0]? =some f:=⟨_,p5 e8⟩
      rw [bu hf]
      by_cases j:f.dE=true
      . rw [if_pos j]
        generalize hd:jg _ _ _=v
        obtain⟨A,B⟩:=v
        obtain⟨a,c,d,g⟩:=xZ hk hg hli hf j hd
        unfold jg at hd
        rw [bK,sw hk.wu] at hd
        obtain⟨rfl,rfl⟩:=fB hd
        exact ih _ _ _ _ _ a c d (T4 g (T5 hq)) (vw.but _) vh (by obtain⟨y,rfl⟩:=ho; exact⟨_,q3 _ _ _⟩)
      . rw [if_neg j]
        have nw:Nw f.au rs:=λ r hr e=>hli.zG f (D4 hf) (Bool.eq_false_iff.2 j) r hr e
        generalize hfd:bX _ _=C
        obtain⟨i,b⟩:=C
        cases b with
        | true=>
          simp only [if_true]
          obtain⟨x,hx,hxt⟩:=pG hk.wu hfd
          have hx':ws[G0 i]? =some x:=hx
          have hgx:=hg.wat hx'
          rw [bu hx']
          generalize hgo:fH _ _ _ _ _=v
          obtain⟨D,A,B,k⟩:=v
          obtain⟨a,c,d,g,_⟩:=zB (tb:=aW.mk (F2 rs)) hk hg hli hf hfd hx rfl rfl hgo
          have hb:=hk.bump (y:=bB.mk x.au (F2 x.cz.ls) (F2 x.bJ.ls) (x.aS+1)) hx' rfl rfl rfl (by have:=hk.wat hx'; exact⟨show (0:Int)<=x.aS+1 by omega,show x.aS+1<=((q7 x.bJ.ls:Nat):Int) by omega⟩)
          obtain⟨n,t,u,E,w⟩:=go_ok (tb:=aW.mk (F2 rs)) hgo hb nw ⟨vw.set hx' rfl rfl,vh,hm,hw⟩
          rw [if_pos n]
          exact ih _ _ _ _ _ a c d (T4 g (T5 hq)) t u (by obtain⟨y,rfl⟩:=ho; exact⟨_,w.trans (q3 _ _ _)⟩)
        | false=>
          simp only [Bool.false_eq_true,if_false]
          generalize hgo:fH _ _ _ _ _=v
          obtain⟨D,A,B,k⟩:=v
          obtain⟨a,c,d,g,_⟩:=zC (tb:=aW.mk (F2 rs)) hk hg hli hf hfd f5 rfl hgo
          obtain⟨n,t,u,E,w⟩:=go_ok (tb:=aW.mk (F2 rs)) hgo hk nw ⟨vw,vh,hm,hw⟩
          rw [if_pos n]
          exact ih _ _ _ _ _ a c d (T4 g (T5 hq)) t u (by obtain⟨y,rfl⟩:=ho; exact⟨_,w.trans (q3 _ _ _)⟩)
    . rw [if_neg z]
      exact⟨_,_,_,_,_,rfl,vw,vh,ho⟩
theorem look_ok {p t:bI} {m m':ax} {s:StoreT} {tb tb':aW} {e:Int} (h:ed p m s tb=(e,t,m',tb')) (hk:Tk m.ag.ls m.aa.ak.ls tb.ai.ls) (hg:Gt m.ag.ls) (hli:Li p.bE.ls tb.ai.ls) (v:Vt p s m.ag.ls m.aa.ak.ls):
    e=0/\VW m'.ag.ls/\VH m'.aa.ak.ls/\∃ y,t.av.bD.ls=p.av.bD.ls++y:=by
  unfold ed at h
  obtain⟨j,k,b,c,d,a,f,g,i⟩:=CZ p m s v.m v.o (jS p.bE.ls m.ag.ls tb.ai.ls+1) p.av.bD.ls p.bE.ls m.aa.ak.ls m.ag.ls tb.ai.ls hk hg hli (Nat.lt_succ_self _) v.w v.h ⟨[],(s2 _).symm⟩
  rw [a] at h
  obtain⟨rfl,rfl,rfl,rfl⟩:=gH h
  exact⟨rfl,f,g,i⟩
theorem wX (p:bI):∀ (o w:List aX),VO o->VO w->VO (fZ p o w)
  | [],w,_,h=>h
  | x::o,w,ho,h=>by
    unfold fZ
    rw [bK]
    by_cases c:pg x=true
    . rw [if_pos c]; exact wX p o _ ho.tail (h.app λ y hy=>by rw [List.mem_singleton.1 hy]; exact ho x b3)
    . rw [if_neg c]; exact wX p o w ho.tail h
theorem Gm {p r:bI} {o:List aX} {m:ax} (h:jw p o m=r) (ho:VO o) (hw:VO p.av.aL.ls):VO r.av.aL.ls:=by
  unfold jw at h
  rw [bK] at h
  subst h
  exact wX p o _ ho hw
structure Vd (k:Nat) (m m':ax) (t:bI):Prop where
  w:VW m'.ag.ls
  h:VH m'.aa.ak.ls
  o:VO t.av.aL.ls
  x:∀ n,Tx m'.ag.ls m'.aa.ak.ls n->n≠k/\Tx m.ag.ls m.aa.ak.ls n
theorem EY {p g k t:bI} {x:dL} {m m1 r d m' mr:ax} {s:StoreT} {tb c tb':aW} {e j:Int} {b:Bool} {hs':List dA}
    (hd:dZ m1 x.aU=r) (hrl:fo p x.aU mr tb=(k,c)) (hlo:ed g d s c=(e,t,m',tb'))
    (hR:Rs m.ag.ls m.aa.ak.ls m.aa.af.ls tb.ai.ls) (hl:p.bE.ls= []) (hf:d9 m x.aU=(j,b))
    (f:(b=true/\hs'=List.take (Int.toNat j) m.aa.ak.ls++List.drop (Int.toNat j+1) m.aa.ak.ls)\/(b=false/\hs'=m.aa.ak.ls))
    (hm:m1.ag=m.ag) (i:g.bE.ls=k.bE.ls) (a:d.ag.ls=r.ag.ls/\d.aa.ak.ls=hs') (vw:VW m.ag.ls) (vh:VH m.aa.ak.ls) (vm:VM s.xM.ls) (vo:VO g.av.aL.ls):
    e=0/\VW m'.ag.ls/\VH m'.aa.ak.ls/\(∃ y,t.av.bD.ls=g.av.bD.ls++y)/\(∀ n,Tx m'.ag.ls m'.aa.ak.ls n->n≠x.aU/\Tx m.ag.ls m.aa.ak.ls n):=by
  obtain⟨u,v,w,G⟩:=yS (hs':=hs') hR.tk hR.gt hf f hm hd hl hrl
  have dx:=EX (hs':=hs') hR.tk hf f hm hd
  have l:Tk d.ag.ls d.aa.ak.ls c.ai.ls:=by rw [a.1,a.2]; exact u
  have o:Gt d.ag.ls:=by rw [a.1]; exact v
  have q:Li g.bE.ls c.ai.ls:=by rw [i]; exact w
  have hL:=zD hlo l o q
  have A:VW d.ag.ls:=by
    rw [a.1, <- hd,sw (by rw [hm]; exact hR.tk.wu),hm]
    exact vw.but _
  have B:VH d.aa.ak.ls:=by
    rw [a.2]
    rcases f with ⟨_,e⟩ | ⟨_,e⟩
    . rw [e]; exact λ z hz=>(List.mem_append.1 hz).elim (λ h=>vh z (List.mem_of_mem_take h)) λ h=>vh z (List.mem_of_mem_drop h)
    . rw [e]; exact vh
  obtain⟨C,D,E,F⟩:=look_ok hlo l o q ⟨A,B,vm,vo⟩
  refine⟨C,D,E,F,λ n hn=> ?_⟩
  have:=hL.tx n hn
  rw [a.1,a.2] at this
  exact dx n this
theorem Eh {p t:bI} {x:dL} {m m':ax} {s:StoreT} {tb tb':aW} {e:Int} (h:iY p x m s tb=(e,t,m',tb')) (hR:Rs m.ag.ls m.aa.ak.ls m.aa.af.ls tb.ai.ls) (hl:p.bE.ls= []) (hp:p.av.bD.ls= [])
    (v:Vt p s m.ag.ls m.aa.ak.ls):e=0/\Vd x.aU m m' t/\∃ z y,t.av.bD.ls=z::y/\z.aB=6:=by
  unfold iY at h
  simp only [bK] at h
  rw [hp,List.nil_append] at h
  cases hf:d9 m x.aU with
  | mk j b=>
    rw [hf] at h
    cases b with
    | true=>
      rw [if_pos rfl] at h
      generalize hwr:(if x.ik=true then _ else p.av.aL.ls)=W at h
      generalize hd:dZ _ _=r at h
      generalize hfi:gQ _ _=rf at h
      generalize hrl:fo _ _ _ _=q at h
      obtain⟨C,f⟩:=q
      generalize hlo:ed _ _ _ _=q at h
      obtain⟨D,E,F,g⟩:=q
      have hz:VO (List.getD m.aa.ak.ls (Int.toNat j) default).aK.ls:=by
        rw [hfind] at hf
        rcases sj hR.tk.hu x.aU with ⟨a,z,q,k,hp,ha,hq,l⟩ | ⟨a,q,k,ha,hq,l⟩
        . rw [l] at hf
          have:j=(a.length:Int):=(congrArg Prod.fst hf).symm
          have G:List.getD m.aa.ak.ls (Int.toNat j) default=z:=by rw [this,Int.toNat_natCast,k]; simp
          rw [G]
          exact v.h z (by rw [k]; exact List.mem_append_right _ b3)
        . rw [l] at hf; exact Ec (congrArg Prod.snd hf).symm
      have vo:VO W:=by
        rw [<- hwr]
        by_cases c:x.ik=true
        . rw [if_pos c]
          generalize hcm:jw _ _ _=cm
          exact Gm hcm hz v.o
        . rw [if_neg c]; exact v.o
      obtain⟨u,k2,A,d,B⟩:=EY hd hrl hlo hR hl hf (.inl ⟨rfl,rfl⟩) rfl rfl ⟨rfl,rfl⟩ v.w v.h v.m vo
      obtain⟨rfl,rfl,rfl,rfl⟩:=gH h
      obtain⟨y,d⟩:=d
      exact⟨u,⟨k2,A,vo,B⟩,_,y,d,rfl⟩
    | false=>
      simp only [Bool.false_eq_true,if_false] at h
      cases hwa:bX m x.aU with
      | mk i bw=>
        rw [hwa] at h
        cases bw with
        | true=>
          rw [if_pos rfl] at h
          generalize hd:dZ _ _=r at h
          generalize hfi:gQ _ _=rf at h
          generalize hrl:fo _ _ _ _=q at h
          obtain⟨C,f⟩:=q
          generalize hlo:ed _ _ _ _=q at h
          obtain⟨D,E,F,g⟩:=q
          obtain⟨u,k2,A,d,B⟩:=EY hd hrl hlo hR hl hf (.inr ⟨rfl,rfl⟩) rfl rfl ⟨rfl,rfl⟩ v.w v.h v.m v.o
          obtain⟨rfl,rfl,rfl,rfl⟩:=gH h
          obtain⟨y,d⟩:=d
          exact⟨u,⟨k2,A,v.o,B⟩,_,y,d,rfl⟩
        | false=>
          simp only [Bool.false_eq_true,if_false] at h
          obtain⟨rfl,rfl,rfl,rfl⟩:=gH h
          refine⟨rfl,⟨v.w,v.h,v.o,λ n hn=>⟨λ e=> ?_,hn⟩⟩,_, [],rfl,rfl⟩
          rw [hfind] at hf
          rw [Ah] at hwa
          subst e
          rcases hn with ⟨w,hw,e⟩ | ⟨z,hz,e⟩
          . exact EH hR.tk.wu hwa w hw e
          . exact hnot hR.tk.hu hf z hz e
theorem FJ {p t:bI} {x:dL} {m m':ax} {s:StoreT} {tb tb':aW} {e:Int} (h:kJ p x m s tb=(e,t,m',tb')) (hR:Rs m.ag.ls m.aa.ak.ls m.aa.af.ls tb.ai.ls) (hf:List.length m.aa.af.ls<=999) (ho:List.length x.aK.ls<=24) (hl:p.bE.ls= [])
    (hx:VO x.aK.ls) (v:Vt p s m.ag.ls m.aa.ak.ls):VW m'.ag.ls/\VH m'.aa.ak.ls:=by
  unfold kJ at h
  rw [bK] at h
  generalize hr:jD m x.bi=r at h
  obtain⟨N,O,P,Q,R,S⟩:=yU hR.fu hr
  simp only [bK] at h
  generalize b:ax.mk (bA.mk m.aa.bC m.aa.aQ m.aa.bq m.aa.aJ m.aa.aD (Ll.mk m.aa.ah.ls) (Ll.mk m.aa.ak.ls) (Ll.mk r.aa.af.ls) r.aa.bi m.aa.aI m.aa.aH m.aa.aC) (Ll.mk m.ag.ls)=m1 at h
  have d:m1.ag.ls=m.ag.ls:=by rw [<- b]
  have g:m1.aa.ak.ls=m.aa.ak.ls:=by rw [<- b]
  have D:m1.aa.af.ls=r.aa.af.ls:=by rw [<- b]
  have f:VW m1.ag.ls/\VH m1.aa.ak.ls:=by rw [d,g]; exact⟨v.w,v.h⟩
  have k:Tk m1.ag.ls m1.aa.ak.ls tb.ai.ls:=by rw [d,g]; exact hR.tk
  have E:Gt m1.ag.ls:=by rw [d]; exact hR.gt
  by_cases A:(eu r.aa.af.ls x.aU).2=true
  . rw [if_pos A] at h
    obtain⟨_,rfl,rfl,rfl⟩:=gH h
    exact f
  rw [if_neg A] at h
  by_cases B:(x.aU:Int) < (r.aa.bi:Int)
  . rw [if_pos B] at h
    obtain⟨_,rfl,rfl,rfl⟩:=gH h
    exact f
  rw [if_neg B] at h
  cases hh:d9 m1 x.aU with
  | mk j bh=>
    rw [hh] at h
    cases bh with
    | true=>
      rw [if_pos rfl] at h
      generalize hv:ib _ _ _ _=v at h
      obtain⟨a,T⟩:=v
      obtain⟨_,rfl,rfl,rfl⟩:=gH h
      exact f
    | false=>
      simp only [Bool.false_eq_true,if_false] at h
      cases hw:bX m1 x.aU with
      | mk i bw=>
        rw [hw] at h
        cases bw with
        | true=>
          rw [if_pos rfl] at h
          obtain⟨_,rfl,rfl,rfl⟩:=gH h
          exact f
        | false=>
          simp only [Bool.false_eq_true,if_false] at h
          cases hrf:jM m1 x with
          | true=>
            rw [hrf,if_pos rfl] at h
            obtain⟨_,rfl,rfl,rfl⟩:=gH h
            exact f
          | false=>
            rw [hrf] at h
            simp only [Bool.false_eq_true,if_false] at h
            cases hlk:oq x.aK.ls with
            | mk l U=>
              rw [hlk] at h
              obtain⟨hvl,F⟩:=EI hx hlk
              rw [if_pos F] at h
              have u:=(vG hrf rfl (by rw [g]; have:=hR.tk.n; omega) (by rw [d]; have:=hR.tk.n; omega) (by rw [D]; omega)).1
              have hll:=wW hlk
              obtain⟨y,C⟩:=Bp (o:=x.aK.ls) (l:=l) k E hh rfl hw rfl u ho e8
              have nw:Nw x.aU tb.ai.ls:=λ q hq e=>by
                rw [hfind] at hh
                rw [Ah] at hw
                rcases k.uT q hq with ⟨w,c,a⟩ | ⟨z,hz,a⟩
                . exact absurd (a.trans e) (EH k.wu hw w c)
                . exact absurd (a.trans e) (hnot k.hu hh z hz)
              rw [d,g] at y
              rw [d] at C
              have vn:VW (List.take (Int.toNat i) m.ag.ls++((bB.mk x.aU (Ll.mk x.aK.ls) (Ll.mk l) 0)::List.drop (Int.toNat i) m.ag.ls)):=λ w c=>by
                rcases nz.1 c with a | a
                . rw [a]; exact⟨hx,hvl⟩
                . exact v.w w a
              cases hg:fH p x.aU (ax.mk (bA.mk m.aa.bC m.aa.aQ m.aa.bq m.aa.aJ m.aa.aD (Ll.mk m.aa.ah.ls) (Ll.mk m.aa.ak.ls) (Ll.mk r.aa.af.ls) r.aa.bi m.aa.aI m.aa.aH m.aa.aC) (Ll.mk (List.take (Int.toNat i) m.ag.ls++((bB.mk x.aU (Ll.mk x.aK.ls) (Ll.mk l) 0)::List.drop (Int.toNat i) m.ag.ls)))) s tb with
              | mk V G=>
                obtain⟨W,X,H⟩:=G
                rw [hg] at h
                have hG:=(rQ y (by rw [hl]; exact yQ _) (by rw [hl]; exact λ _ h=>absurd h List.not_mem_nil) C hg).1
                obtain⟨I,J,K,Y⟩:=go_ok hg y nw ⟨vn,v.h,v.m,v.o⟩
                rw [if_pos I] at h
                simp only at h
                generalize hlo:ed _ _ _ _=q at h
                obtain⟨Z,t5,m5,L⟩:=q
                obtain⟨_,k2,M,_⟩:=look_ok hlo hG.tk hG.gt hG.li ⟨J,K,v.m,v.o⟩
                obtain⟨_,rfl,rfl,rfl⟩:=gH h
                exact⟨k2,M⟩
theorem Ei:vK=true:=by decide+kernel
theorem Cx {m m':ax} {x:dL} {s:StoreT} {tb tb':aW} {d:dH} {e:Int} (h:dN m x s tb=(d,e,m',tb')) (hR:Rs m.ag.ls m.aa.ak.ls m.aa.af.ls tb.ai.ls) (hf:List.length m.aa.af.ls<=999):
    Kp m m' tb'/\List.length d.aL.ls<=24/\(d.aL.ls≠ []->x.aB=5/\x.ik=true/\Tx m.ag.ls m.aa.ak.ls x.aU/\Dn m' x.aU):=zP hR hf h
theorem FK {w:World} {l:List jb} (h:∀ x ∈ l,JH w x):∀ x ∈ List.map jb.abs l,x.bY.aU<=18446744073709551615/\List.length x.bY.aK.ls<=140737488351232/\List.length x.bY.aV.ls<=140737488351232/\List.length x.bY.ah.ls<=140737488351232:=λ x hx=>by
  obtain⟨y,hy,rfl⟩:=List.mem_map.1 hx
  have k:=(h y hy).1
  have o:=k.2.2.2.2.2.2.2.2.2.2.2.2.2.2.2.2.2.1
  have r:=k.2.2.2.2.2.2.2.2.2.2.2.2.2.2.2.2.2.2.1
  have v:=k.2.2.2.2.2.2.2.2.2.2.2.2.2.2.2.2.2.2.2
  refine⟨k.2.2.2.2.2.2.2.2.1, ?_, ?_, ?_⟩
  . show List.length y.bY.aK.ls<=_
    have a:=o.1; have b:=o.2.1; omega
  . show List.length (List.map aR.abs y.bY.aV.ls)<=_
    rw [List.length_map]; have a:=r.1; have b:=r.2.1; omega
  . show List.length y.bY.ah.ls<=_
    have a:=v.1; have b:=v.2.1; omega
theorem Bt (p:az):∀ (l a:List az) (b:Bool), ∀ q ∈ (fK p l a b).1,q=p\/q ∈ a\/q ∈ l
  | [],a,b,q,h=> .inr (.inl h)
  | x::l,a,b,q,h=>by
    have g:∀ (a':List az) (b':Bool),(∀ z ∈ a',z=p\/z ∈ a\/z=x)->q ∈ (fK p l a' b').1->q=p\/q ∈ a\/q ∈ x::l:=λ a' b' ha hq=>by
      rcases Bt p l a' b' q hq with h | h | h
      . exact .inl h
      . rcases ha q h with h | h | h
        . exact .inl h
        . exact .inr (.inl h)
        . rw [h]; exact .inr (.inr b3)
      . exact .inr (.inr (.tail _ h))
    have c:∀ z ∈ a,z=p\/z ∈ a\/z=x:=λ z hz=> .inr (.inl hz)
    have d:∀ z ∈ a++ [x],z=p\/z ∈ a\/z=x:=λ z hz=>(List.mem_append.1 hz).elim (λ h=> .inr (.inl h)) λ h=> .inr (.inr (List.mem_singleton.1 h))
    have e:∀ z ∈ a++ [p],z=p\/z ∈ a\/z=x:=λ z hz=>(List.mem_append.1 hz).elim (λ h=> .inr (.inl h)) λ h=> .inl (List.mem_singleton.1 h)
    have f:∀ z ∈ (a++ [p])++ [x],z=p\/z ∈ a\/z=x:=λ z hz=>(List.mem_append.1 hz).elim (e z) λ h=> .inr (.inr (List.mem_singleton.1 h))
    unfold fK at h
    split at h
    . split at h
      . exact g _ _ d h
      . exact g _ _ c h
    . split at h
      . split at h
        . exact g _ _ f h
        . exact g _ _ e h
      . split at h
        . exact g _ _ d h
        . exact g _ _ c h
theorem Bu (r:aj):∀ (l a:List az), ∀ p ∈ iQ r l a,p ∈ a\/p ∈ l
  | [],a,p,h=> .inl h
  | x::l,a,p,h=>by
    unfold iQ at h
    rw [bK] at h
    split at h
    . exact(Bu r l a p h).imp id (.tail _)
    . rcases Bu r l _ p h with h | h
      . rcases List.mem_append.1 h with h | h
        . exact .inl h
        . rw [List.mem_singleton.1 h]; exact .inr b3
      . exact .inr (.tail _ h)
theorem GK {M:List az} {o:aX} (h:VM M) (ho:dW o=0):VM (wO M o).1:=by
  have hw:∀ r:aj,VM (nH M r):=λ r p hp=>by
    unfold nH at hp
    rw [bK] at hp
    exact(Bu r M [] p hp).elim (λ h=>absurd h List.not_mem_nil) (h p)
  unfold wO
  simp only [bK]
  split
  . exact h
  split
  . rename_i a
    have hp:zH (az.mk o.aZ o.aO):=⟨yG ho (.inr (.inl a)),DD ho a⟩
    intro q hq
    unfold xc at hq
    rw [bK] at hq
    have key:∀ q ∈ (fK (az.mk o.aZ o.aO) M [] false).1,zH q:=λ q hq=>by
      rcases Bt _ _ _ _ q hq with e | e | e
      . rw [e]; exact hp
      . exact absurd e List.not_mem_nil
      . exact h q e
    split at hq
    . exact key q hq
    . rcases List.mem_append.1 hq with e | e
      . exact key q e
      . rw [List.mem_singleton.1 e]; exact hp
  split
  . exact hw _
  split
  . exact h
  . exact hw _
theorem zQ:∀ (o:List aX) (M:List az) (r:List dh),VM M->VO o->VM (ku o M r).1
  | [],M,r,h,_=>h
  | x::o,M,r,h,ho=>by
    unfold ku
    rw [bK]
    exact zQ o _ _ (GK h (ho x b3)) ho.tail
theorem EK {M:List az} {o:List aX} (h:VM M) (ho:VO o):VM (qG M o).1:=by
  unfold qG
  simp only [bK]
  split
  . split
    . exact zQ o M [] h ho
    . exact λ _ h=>absurd h List.not_mem_nil
  . exact λ _ h=>absurd h List.not_mem_nil
theorem FL (n:Nat) (f:Bool):kG (dL.mk 5 0 1 0 0 0 0 0 n 0 0 0 0 0 0 f (aj.mk [] []) (Ll.mk []) (Ll.mk []) (Ll.mk []))=0:=by cases f <;> kernel_rfl
theorem zR:∀ {l:List aX},qg l=true->VO l
  | [],_=>VO.nil
  | x::l,h=>by
    unfold qg kF at h
    rw [bK] at h
    by_cases c:dW x=0
    . rw [if_pos c] at h
      have:=zR (l:=l) h
      exact λ o ho=>(List.mem_cons.1 ho).elim (λ e=>by rw [e]; exact c) (this o)
    . rw [if_neg c] at h; cases h
theorem Gp {x:dL} (a:kG x=0) (hk:x.aB=3):VO x.aK.ls:=by
  have:=yT rfl a hk
  unfold oJ at this
  rw [if_neg f5,if_pos rfl] at this
  split at this
  . split at this
    . exact zR this
    . cases this
  . cases this
theorem EL {m m':ax} {s:StoreT} {tb tb':aW} {d:dH} {e:Int} {n:Nat} {f:Bool}
    (h:dN m (dL.mk 5 0 1 0 0 0 0 0 n 0 0 0 0 0 0 f (aj.mk [] []) (Ll.mk []) (Ll.mk []) (Ll.mk [])) s tb=(d,e,m',tb')) (hid:m.aa.bC=1) (hR:Rs m.ag.ls m.aa.ak.ls m.aa.af.ls tb.ai.ls)
    (vw:VW m.ag.ls) (vh:VH m.aa.ak.ls) (vm:VM s.xM.ls):
    e=0/\VW m'.ag.ls/\VH m'.aa.ak.ls/\VO d.aL.ls/\(∃ z y,d.bD.ls=z::y/\z.aB=6)/\(∀ j,Tx m'.ag.ls m'.aa.ak.ls j->j≠n/\Tx m.ag.ls m.aa.ak.ls j):=by
  unfold dN at h
  rw [if_pos rfl,bK,if_pos (FL n f),if_pos hid.symm] at h
  simp only [bK] at h
  generalize hdc:iY _ _ _ _ _=v at h
  obtain⟨g,i,k,b⟩:=v
  obtain⟨c,k2,a⟩:=Eh hdc hR rfl rfl ⟨vw,vh,vm,VO.nil⟩
  rw [if_pos c] at h
  split at h
  . obtain⟨rfl,rfl,rfl,rfl⟩:=gH h
    exact⟨rfl,k2.w,k2.h,k2.o,a,k2.x⟩
  . obtain⟨rfl,rfl,rfl,rfl⟩:=gH h
    exact⟨rfl,k2.w,k2.h,k2.o,a,k2.x⟩
theorem Ej {m m':ax} {x:dL} {s:StoreT} {tb tb':aW} {d:dH} {e:Int} (h:dN m x s tb=(d,e,m',tb')) (hk:x.aB=3) (hR:Rs m.ag.ls m.aa.ak.ls m.aa.af.ls tb.ai.ls) (hf:List.length m.aa.af.ls<=999)
    (vw:VW m.ag.ls) (vh:VH m.aa.ak.ls) (vm:VM s.xM.ls):VW m'.ag.ls/\VH m'.aa.ak.ls:=by
  unfold dN at h
  rw [if_neg e8,if_pos hk] at h
  simp only [bK] at h
  by_cases a:kG x=0
  . rw [if_pos a] at h
    by_cases b:x.jU=m.aa.bC
    . rw [if_pos b] at h
      generalize hdc:kJ _ _ _ _ _=v at h
      obtain⟨f,g,i,c⟩:=v
      have ho:List.length x.aK.ls<=24:=by
        rcases xm (x:=x) rfl with q | q | q
        . exact absurd a q
        . exact absurd hk q
        . exact q
      have hw:=FJ hdc hR hf ho rfl (Gp a hk) ⟨vw,vh,vm,VO.nil⟩
      split at h
      . obtain⟨rfl,rfl,rfl,rfl⟩:=gH h; exact hw
      . obtain⟨rfl,rfl,rfl,rfl⟩:=gH h; exact hw
    . rw [if_neg b] at h
      obtain⟨rfl,rfl,rfl,rfl⟩:=gH h; exact⟨vw,vh⟩
  . rw [if_neg a] at h
    obtain⟨rfl,rfl,rfl,rfl⟩:=gH h; exact⟨vw,vh⟩
theorem cnt_lt {ws ws':List bB} {hs hs':List dA} {rs rs':List aM} {n:Nat} (h:Tk ws hs rs) (h':Tk ws' hs' rs') (hx:∀ j,Tx ws' hs' j->j≠n/\Tx ws hs j) (hn:Tx ws hs n):List.length ws'+List.length hs' < List.length ws+List.length hs:=by
  have nd:(ws'.map (λ w=>w.au)++hs'.map λ z=>z.aU).Nodup:=by
    refine List.pairwise_append.2 ⟨List.pairwise_map.2 (h'.wu.imp λ e=>Nat.ne_of_lt e),List.pairwise_map.2 (h'.hu.imp λ e=>Nat.ne_of_lt e),λ a ha b hb=> ?_⟩
    obtain⟨w,hw,rfl⟩:=List.mem_map.1 ha
    obtain⟨z,hz,rfl⟩:=List.mem_map.1 hb
    exact h'.dj w hw z hz
  have mem:∀ {ws:List bB} {hs:List dA} {j:Nat},j ∈ (ws.map (λ w=>w.au)++hs.map λ z=>z.aU)↔Tx ws hs j:=λ {ws hs j} =>by
    rw [List.mem_append,List.mem_map,List.mem_map]; rfl
  have c:=Bh _ ((ws.map (λ w=>w.au)++hs.map λ z=>z.aU).erase n) nd λ j hj=>(List.mem_erase_of_ne (hx j (mem.1 hj)).1).2 (mem.2 (hx j (mem.1 hj)).2)
  have d:=List.length_erase_of_mem (mem.2 hn)
  have f:=List.length_pos_of_mem (mem.2 hn)
  simp only [List.length_append,List.length_map] at c d f
  omega
theorem C8 (l1:List Bool) (b:Bool) (r:bA):∀ (l:List StepT) (hs:List dA) (fin:List Nat) (low:Nat) (ws:List bB) (rs:List aM),Rs ws hs fin rs->VW ws->VH hs->List.length fin+List.length l<=999->
    ∀ hs' fin' ws' low' rs',ig l1 b r l hs fin low ws rs=(hs',fin',ws',low',rs')->Rs ws' hs' fin' rs'/\VW ws'/\VH hs'/\List.length fin'<=List.length fin+List.length l
  | [],hs,fin,low,ws,rs,hR,vw,vh,hf,hs',fin',ws',low',rs',h=>by
    obtain⟨rfl,i⟩:=fB (show (hs,fin,ws,low,rs)=_ from h)
    obtain⟨rfl,rfl,rfl,rfl⟩:=gH i
    exact⟨hR,vw,vh,Nat.le_add_right _ _⟩
  | x::q,hs,fin,low,ws,rs,hR,vw,vh,hf,hs',fin',ws',low',rs',h=>by
    rw [List.length_cons] at hf
    unfold ig at h
    by_cases a:x.bY.aB=3
    . rw [if_pos a] at h
      simp only [bK] at h
      generalize ht:dN _ _ _ _=v at h
      obtain⟨d,e,m',tb'⟩:=v
      obtain⟨k,_,_⟩:=Cx ht hR (by show List.length fin<=999; omega)
      obtain⟨j,m⟩:=Ej ht a hR (by show List.length fin<=999; omega) vw vh (λ _ h=>absurd h List.not_mem_nil)
      have kf:List.length m'.aa.af.ls<=List.length fin+1:=k.fl
      obtain⟨c,f,g,n⟩:=C8 l1 b r q _ _ _ _ _ k.rs j m e8 _ _ _ _ _ h
      exact⟨c,f,g,by rw [List.length_cons]; omega⟩
    . rw [if_neg a] at h
      obtain⟨c,f,g,n⟩:=C8 l1 b r q _ _ _ _ _ hR vw vh e8 _ _ _ _ _ h
      exact⟨c,f,g,by rw [List.length_cons]; omega⟩
theorem yY:∀ (ws:List bB) (a:List Nat),fQ ws a=a++ws.map λ w=>w.au
  | [],a=>by simp [fQ]
  | x::ws,a=>by unfold fQ; rw [yY ws]; simp
theorem Bv (m:ax):jG m=m.ag.ls.map λ w=>w.au:=by
  unfold jG
  rw [bK,yY,List.nil_append]
theorem GL (l1:List Bool) (r:bA) (hid:r.bC=1) (hfz:r.aI=0) (hmv:r.aC.aD=0):∀ (q k:Nat) (hs:List dA) (fin:List Nat) (low:Nat) (ws:List bB) (rs:List aM) (M:List az),Rs ws hs fin rs->VW ws->VH hs->VM M->List.length fin+q<=999->
    List.length ws+List.length hs < q->fT l1 true r q k hs fin low ws rs M= .inr true:=by
  intro q
  induction q with
  | zero=>intro k hs fin low ws rs M _ _ _ _ _ h; omega
  | succ q ih=>
    intro k hs fin low ws rs M hR vw vh vm hf hq
    have tail:∀ (n:Nat) (f:Bool),Tx ws hs n->(bnd (dN (ax.mk (bA.mk r.bC (Int.toNat (IntKind.u64.wrap ((r.aQ:Int)+1))) r.bq r.aJ r.aD (Ll.mk r.ah.ls) (Ll.mk hs) (Ll.mk fin) low r.aI r.aH r.aC) (Ll.mk ws)) (dL.mk 5 0 1 0 0 0 0 0 n 0 0 0 0 0 0 f (aj.mk [] []) (Ll.mk []) (Ll.mk []) (Ll.mk [])) (StoreT.mk (Ll.mk M)) (aW.mk (Ll.mk rs))) λ y=>if y.2.1=0 then if((List.length y.1.bD.ls:Nat):Int)=0 then Sum.inr (false) else bnd (List.getD y.1.bD.ls 0 default) λ z=>if z.aB=6 then bnd (qG M y.1.aL.ls) λ a=>fT l1 true r q (k+1) y.2.2.1.aa.ak.ls y.2.2.1.aa.af.ls y.2.2.1.aa.bi y.2.2.1.ag.ls y.2.2.2.ai.ls a.1 else Sum.inr (false) else Sum.inr (false))=(Sum.inr true:Unit ⊕ Bool):=λ n f hn=>by
      generalize ht:dN _ _ _ _=v
      obtain⟨d,e,m',tb'⟩:=v
      obtain⟨kk,_,_⟩:=Cx ht hR (by show List.length fin<=999; omega)
      obtain⟨g,i,j,l,⟨z,y,m,o⟩,p⟩:=EL ht hid hR vw vh vm
      have kf:List.length m'.aa.af.ls<=List.length fin+1:=kk.fl
      have hc:List.length m'.ag.ls+List.length m'.aa.ak.ls < List.length ws+List.length hs:=cnt_lt hR.tk kk.rs.tk p hn
      simp only [bK]
      rw [if_pos g,m,if_neg (by rw [List.length_cons]; omega)]
      rw [show List.getD (z::y) 0 default=z from rfl,if_pos o]
      exact ih _ _ _ _ _ _ _ kk.rs i j (EK vm l) e8 e8
    unfold fT
    rw [bK]
    by_cases b:((List.length hs:Nat):Int) > 0
    . obtain⟨z,hz⟩:∃ z,hs[0]? =some z:=⟨_,List.getElem?_eq_getElem e8⟩
      refine(sP (a:=z.aU) ?_).trans (tail z.aU _ (.inr ⟨z,List.mem_of_getElem? hz,rfl⟩))
      refine(if_pos b).trans ?_
      rw [bK]
      exact congrArg (λ h:dA=>(Sum.inl h.aU:Nat ⊕ Bool)) (bu hz)
    . by_cases c:((List.length ws:Nat):Int) > 0
      . obtain⟨z,hz⟩:∃ z,ws[0]? =some z:=⟨_,List.getElem?_eq_getElem e8⟩
        refine(sP (a:=z.au) ?_).trans (tail z.au _ (.inl ⟨z,List.mem_of_getElem? hz,rfl⟩))
        refine(if_neg b).trans ?_
        rw [bK,Bv,if_pos (by rw [List.length_map]; exact c),bK]
        exact congrArg (λ h:Nat=>(Sum.inl h:Nat ⊕ Bool)) (bu (by rw [List.getElem?_map]; exact congrArg (Option.map λ w:bB=>w.au) hz))
      . refine uV ?_
        refine(if_neg b).trans ?_
        rw [bK,Bv,if_neg (by rw [List.length_map]; exact c),if_pos rfl,bK]
        have s:ws= []:=List.eq_nil_of_length_eq_zero e8
        have t:hs= []:=List.eq_nil_of_length_eq_zero e8
        subst s t
        refine congrArg Sum.inr ?_
        unfold mH
        rw [if_pos (show IntKind.i64.wrap (((([]:List bB).length:Nat):Int)+((([]:List dA).length:Nat):Int))=0 by decide+kernel)]
        show (if(r.aI:Int)=0 then decide ((r.aC.aD:Int)=0) else false)=true
        rw [hfz,hmv]
        rfl
theorem EM {a:List StepT} {l1:List Bool}:uj a l1=true:=by
  unfold uj
  refine(ae Ei).trans ?_
  refine(ae (show lG (bA.mk 1 0 0 1 0 (Ll.mk ([(bM.mk [] 1),(bM.mk ([109]) 2)])) (Ll.mk []) (Ll.mk []) 0 0 (aj.mk [] []) (iO.mk 0 0 0 (aj.mk [] [])))=0 by decide+kernel)).trans ?_
  rw [if_pos rfl]
  refine(ae rfl).trans ?_
  by_cases h:(a.length:Int) > 80
  . rw [if_pos h,if_pos rfl]
  rw [if_neg h]
  generalize hz:ig _ _ _ _ _ _ _ _ _=z
  obtain⟨hs',fin',ws',low',rs'⟩:=z
  obtain⟨b,c,d,e⟩:=C8 l1 true _ a _ _ _ _ _ (eD rfl) (λ _ h=>absurd h List.not_mem_nil) (λ _ h=>absurd h List.not_mem_nil) (by show 0+List.length a<=999; omega) _ _ _ _ _ hz
  have f:List.length fin'<=0+List.length a:=e
  rw [bK]
  have:=b.tk.n
  refine(congrArg (λ q=>lp q λ _=>false) (GL l1 _ rfl rfl rfl 20 0 hs' fin' low' ws' rs' [] b c d (λ _ h=>absurd h List.not_mem_nil) e8 e8)).trans rfl
section
open Go.RowKit
theorem C9 (w) (g:Sv jb) (a:mM w 22 240 jb.cells (JH w) g) (h:Sv Bool) (f:mM w 1 1 eL (λ _=>True) h):
    Calls Tryz.prog 4 #[.slice g.A g.ls.length g.c, .slice h.A h.ls.length h.c] w λ e w'=>e= .returned (.bool true)/\Below w.heap.size w w':=
 (yV w (λ _:Nat=>False) g.A g.ls.length g.c g.ls (List.map jb.abs g.ls) h.A h.ls.length h.c h.ls true (Km w) rfl (bO.ro a.2.2.1 f5) (λ b d=>⟨bO.ro (a.2.2.2 b d).1.2.2.2.2.2.2.2.2.2.2.2.2.2.2.2.2.2.1.2.2.1 f5,(by have i:=(a.2.2.2 b d).1.2.2.2.2.2.2.2.2.2.2.2.2.2.2.2.2.2.1.1; have j:=(a.2.2.2 b d).1.2.2.2.2.2.2.2.2.2.2.2.2.2.2.2.2.2.1.2.1; omega),bO.ro (a.2.2.2 b d).1.2.2.2.2.2.2.2.2.2.2.2.2.2.2.2.2.2.2.1.2.2.1 f5,(by have i:=(a.2.2.2 b d).1.2.2.2.2.2.2.2.2.2.2.2.2.2.2.2.2.2.2.1.1; have j:=(a.2.2.2 b d).1.2.2.2.2.2.2.2.2.2.2.2.2.2.2.2.2.2.2.1.2.1; omega),(λ k l=>⟨bO.ro ((a.2.2.2 b d).1.2.2.2.2.2.2.2.2.2.2.2.2.2.2.2.2.2.2.1.2.2.2 k l).2.2.2.2.1 f5,(by have i:=((a.2.2.2 b d).1.2.2.2.2.2.2.2.2.2.2.2.2.2.2.2.2.2.2.1.2.2.2 k l).2.2.1; have j:=((a.2.2.2 b d).1.2.2.2.2.2.2.2.2.2.2.2.2.2.2.2.2.2.2.1.2.2.2 k l).2.2.2.1; omega)⟩),bO.ro (a.2.2.2 b d).1.2.2.2.2.2.2.2.2.2.2.2.2.2.2.2.2.2.2.2.2.2.1 f5,(by have i:=(a.2.2.2 b d).1.2.2.2.2.2.2.2.2.2.2.2.2.2.2.2.2.2.2.2.1; have j:=(a.2.2.2 b d).1.2.2.2.2.2.2.2.2.2.2.2.2.2.2.2.2.2.2.2.2.1; omega)⟩) (r7 ..).symm (by rw [r7]; have:=a.1; have:=a.2.1; omega) (bO.ro f.2.2.1 f5) rfl (by have:=f.1; have:=f.2.1; omega) (by rw [r7]; have:=a.1; have:=a.2.1; omega) (by have:=f.1; have:=f.2.1; omega) (FK a.2.2.2) (EM)).mono λ e w' ⟨v,he,hv,H⟩=>⟨by rw [he,hv],H.below⟩
end
end Go.Proofs.YtndamapfnpihpaaGreat
