/- The layers told, part 6. Conditions: none beyond each law's own. -/
import Derived.Test.YtnpdpklckacpnaaGreatJe
namespace Go.Proofs.YtnpdpklckacpnaaGreat
set_option maxHeartbeats 4000000
set_option maxRecDepth 100000
set_option linter.unusedVariables false
set_option linter.unusedSimpArgs false
set_option linter.unusedSectionVars false
open _root_.Go renaming World->ZZ,Value->ZQ
open Value renaming bool->Y,slice->T,string->Z9,pointer->Zz,agg->Zq,nilFunc->Zx
open Bool renaming true->Zj,false->O
open Option renaming none->Zk,some->Zv
open Decidable renaming decide->Zw
open Inhabited renaming default->Zy
open List renaming length->X,toArray->Zb,drop->Ze,take->Zf,flatMap->Zg,map->Zh
open Int renaming toNat->Zc
open Bool renaming toNat->Zd
open List renaming flatMap->q1,map->s0,mem_flatMap->P6,not_mem_nil->y2
open Ll renaming q->N
open _root_.Go.Proofs.Tryz renaming call17->X5,call21->X7,call22->X8,isAgg3->B8,isAgg42->X4,isAgg44->Q9,isAgg47->I0,isAgg52->Y0,sizeOf4->X9,sizeOf42->S0,sizeOf47->I2,sizeOf52->Y1,underlying3->y6,underlying86->X6
section
open Go.RowKit
def gJ (b:aB):bH:=
 bnd (gB b.a) λ a=>a
theorem lW (w D Z4) (a:aB) (f b g d j h e t u y z) (B:bH) (H:Own w D w [blk Z4 (kB a f (X a.a.b.a) b g (X a.a.g.a) d h (X a.a.j.a) e a.a.t y t (X a.b.a) u z) 78]) (M:Ro w D λ w'=>bV w' 2 f (X a.a.b.a) (q1 bF.L a.a.b.a)) (ah:X a.a.b.a<=b/\X a.a.b.a<=9223372036854775807) (n:s0 bA.abs j=a.a.g.a) (Z5:Ro w D λ w'=>bV w' 2 g (X a.a.g.a) (q1 bA.L j)) (ai:X a.a.g.a<=d/\X a.a.g.a<=9223372036854775807) (o:∀ x ∈ j,Ro w D (λ w'=>bV w' 6 x.a.A (X x.a.a) (q1 aV.L x.a.a))/\(X x.a.a<=x.a.c/\X x.a.a<=9223372036854775807)) (Z6:Ro w D λ w'=>bV w' 1 h (X a.a.j.a) (q1 (eN .u64) a.a.j.a)) (aj:X a.a.j.a<=e/\X a.a.j.a<=9223372036854775807) (aF:X a.a.b.a<=1000000/\X a.a.g.a<=1000000/\X a.a.j.a<=1000000) (aG:(∀ x ∈ a.a.g.a,X x.a.a<=1000000)) (hr:gJ a=B):
    Calls Tryz.prog 11 #[vP Z4 0] w (dI λ v w'=> ∃ C E F G I J p,v= Zq (Zb (gZ B C E F G I J))/\Own w D w' [row C (X B.b.a) E (q1 bF.L B.b.a) 83 2,row F (X B.g.a) G (q1 bA.L p) 80 2,sepL (q1 Ky p),row I (X B.j.a) J (q1 (eN .u64) B.j.a) 33 1,blk Z4 (kB a f (X a.a.b.a) b g (X a.a.g.a) d h (X a.a.j.a) e a.a.t y t (X a.b.a) u z) 78]/\(s0 bA.abs p=B.g.a)):=by
 unfold gJ at hr
 have af:=bf n
 refine cb Tryz.func11 ?_
 refine sr ?_
 refine cB (fV 0 0 0 0 0 Zk 0 0 Zk 0 0 Zk 0 0 0 0 [] [] 0 0 0 [] []) 42 H ?_
 intro _ _ Z8
 refine ns (Mz Z (Kz (vP Z4 0) (Kz (vP Z4 0) (La (fV a.a.r a.a.y a.a.u a.a.z a.a.k f (X a.a.b.a) b g (X a.a.g.a) d h (X a.a.j.a) e a.a.t a.a.B a.a.s.a a.a.s.b a.a.a.k a.a.a.s a.a.a.a a.a.a.j.a a.a.a.j.b) Z8 1 X4 S0 ?_))))
 obtain⟨r,K⟩:=qq (gB a.a)
 obtain⟨_,Z1,l,Z2,_⟩:=JZ Z8
 refine cl X5 (ko _ _ a.a f (X a.a.b.a) b g (X a.a.g.a) d j h (X a.a.j.a) e r Z1 Z (l _ M) U n Z (l _ Z5) U (λ x9 h9=>⟨l _ (o x9 h9).1,(o x9 h9).2⟩) Z (l _ Z6) U g5 (by first | assumption | exact λ _ h9=>absurd h9 y2 | exact Tk.hops f8) K) ?_
 rintro _ _ ⟨P,Q,R,S,Z7,Z3,ak,rfl,Z0,L⟩
 have s:=Z2 _ _ Z0
 have az:=bf L
 have aA:=zr 0 s
 have aC:=zr 1 s
 have aD:=zr 3 s
 refine cu (gZ r P Q R S Z7 Z3) 0 (s.pf [4]) S0 ?_
 intro _ aa
 refine nt (rt (Ke (qg Z Z (J7 (cs:=(gZ r P Q R S Z7 Z3)) X4 S0 ((aa.cls (i:=0) Z).lit (k:=0) (m:=17) Z))) ?_))
 obtain rfl:=zj hr zq1
 exact⟨P,Q,R,S,Z7,Z3,ak,Z,(aa.px [] [0] []),L⟩
def dL (c:aB) (g:cz) (i:StoreT) (f:bn):bY × Int × aB × bn:=
 if g.g=12 then bnd (fU g) λ w=>if w=0 then if g.E=c.a.r then bnd (gB c.a) λ x=>bnd (rO (bD.q (bY.q (N []) (N []) O) (N [])) g c) λ h=>if h.1=0 then bnd (jd x c.a) λ j=>(bY.q (N []) (N []) (!j),0,c,f) else(bY.q (N []) (N []) O,h.1,c,f) else(bY.q (N []) (N []) O,180,c,f) else(bY.q (N []) (N []) O,180,c,f) else if g.g=11 then bnd (fU g) λ k=>if k=0 then if g.E=c.a.r then bnd (gB c.a) λ l=>bnd (eX (bD.q (bY.q (N []) (N []) O) (N [])) g c) λ b=>if b.1=0 then if((X b.2.1.a.a.a:Nat):Int) > 0 then(bY.q (N b.2.1.a.b.a) (N b.2.1.a.a.a) Zj,0,aB.q (bH.q b.2.2.a.r b.2.2.a.y b.2.2.a.u b.2.2.a.z b.2.2.a.k (N c.a.b.a) (N c.a.g.a) (N c.a.j.a) b.2.2.a.t b.2.2.a.B b.2.2.a.s b.2.2.a.a) (N c.b.a),f) else bnd (jd l (bH.q b.2.2.a.r b.2.2.a.y b.2.2.a.u b.2.2.a.z b.2.2.a.k (N c.a.b.a) (N c.a.g.a) (N c.a.j.a) b.2.2.a.t b.2.2.a.B b.2.2.a.s b.2.2.a.a)) λ m=>(bY.q (N b.2.1.a.b.a) (N b.2.1.a.a.a) (!m),0,aB.q (bH.q b.2.2.a.r b.2.2.a.y b.2.2.a.u b.2.2.a.z b.2.2.a.k (N c.a.b.a) (N c.a.g.a) (N c.a.j.a) b.2.2.a.t b.2.2.a.B b.2.2.a.s b.2.2.a.a) (N c.b.a),f) else(bY.q (N []) (N []) O,b.1,aB.q (bH.q b.2.2.a.r b.2.2.a.y b.2.2.a.u b.2.2.a.z b.2.2.a.k (N c.a.b.a) (N c.a.g.a) (N c.a.j.a) b.2.2.a.t b.2.2.a.B b.2.2.a.s b.2.2.a.a) (N c.b.a),f) else(bY.q (N []) (N []) O,180,c,f) else(bY.q (N []) (N []) O,180,c,f) else if g.g=8 then bnd (fU g) λ n=>if n=0 then if g.E=c.a.r then bnd (gB c.a) λ o=>bnd (jE (bD.q (bY.q (N []) (N []) O) (N [])) g c) λ a=>if a.1=0 then if((X a.2.1.a.a.a:Nat):Int) > 0 then(bY.q (N a.2.1.a.b.a) (N a.2.1.a.a.a) Zj,0,aB.q (bH.q a.2.2.a.r a.2.2.a.y a.2.2.a.u a.2.2.a.z a.2.2.a.k (N a.2.2.a.b.a) (N c.a.g.a) (N c.a.j.a) a.2.2.a.t a.2.2.a.B a.2.2.a.s a.2.2.a.a) (N c.b.a),f) else bnd (jd o (bH.q a.2.2.a.r a.2.2.a.y a.2.2.a.u a.2.2.a.z a.2.2.a.k (N a.2.2.a.b.a) (N c.a.g.a) (N c.a.j.a) a.2.2.a.t a.2.2.a.B a.2.2.a.s a.2.2.a.a)) λ p=>(bY.q (N a.2.1.a.b.a) (N a.2.1.a.a.a) (!p),0,aB.q (bH.q a.2.2.a.r a.2.2.a.y a.2.2.a.u a.2.2.a.z a.2.2.a.k (N a.2.2.a.b.a) (N c.a.g.a) (N c.a.j.a) a.2.2.a.t a.2.2.a.B a.2.2.a.s a.2.2.a.a) (N c.b.a),f) else(bY.q (N []) (N []) O,a.1,aB.q (bH.q a.2.2.a.r a.2.2.a.y a.2.2.a.u a.2.2.a.z a.2.2.a.k (N a.2.2.a.b.a) (N c.a.g.a) (N c.a.j.a) a.2.2.a.t a.2.2.a.B a.2.2.a.s a.2.2.a.a) (N c.b.a),f) else(bY.q (N []) (N []) O,180,c,f) else(bY.q (N []) (N []) O,180,c,f) else if g.g=5 then bnd (fU g) λ q=>if q=0 then if g.E=c.a.r then bnd (gB c.a) λ r=>bnd (iU (bD.q (bY.q (N []) (N []) O) (N [])) g c i f) λ d=>if d.1=0 then if((X d.2.1.a.a.a:Nat):Int) > 0 then(bY.q (N d.2.1.a.b.a) (N d.2.1.a.a.a) Zj,0,aB.q (bH.q c.a.r c.a.y c.a.u c.a.z c.a.k (N c.a.b.a) (N d.2.2.1.a.g.a) (N d.2.2.1.a.j.a) c.a.t c.a.B c.a.s c.a.a) (N d.2.2.1.b.a),d.2.2.2) else bnd (jd r (bH.q c.a.r c.a.y c.a.u c.a.z c.a.k (N c.a.b.a) (N d.2.2.1.a.g.a) (N d.2.2.1.a.j.a) c.a.t c.a.B c.a.s c.a.a)) λ s=>(bY.q (N d.2.1.a.b.a) (N d.2.1.a.a.a) (!s),0,aB.q (bH.q c.a.r c.a.y c.a.u c.a.z c.a.k (N c.a.b.a) (N d.2.2.1.a.g.a) (N d.2.2.1.a.j.a) c.a.t c.a.B c.a.s c.a.a) (N d.2.2.1.b.a),d.2.2.2) else(bY.q (N []) (N []) O,d.1,aB.q (bH.q c.a.r c.a.y c.a.u c.a.z c.a.k (N c.a.b.a) (N d.2.2.1.a.g.a) (N d.2.2.1.a.j.a) c.a.t c.a.B c.a.s c.a.a) (N d.2.2.1.b.a),d.2.2.2) else(bY.q (N []) (N []) O,180,c,f) else(bY.q (N []) (N []) O,180,c,f) else if g.g=3 then bnd (fU g) λ t=>if t=0 then if g.E=c.a.r then bnd (gB c.a) λ u=>bnd (jA (bD.q (bY.q (N []) (N []) O) (N [])) g c i f) λ e=>if e.1=0 then bnd (jd u (bH.q c.a.r c.a.y c.a.u c.a.z c.a.k (N c.a.b.a) (N e.2.2.1.a.g.a) (N e.2.2.1.a.j.a) e.2.2.1.a.t c.a.B c.a.s c.a.a)) λ v=>(bY.q (N e.2.1.a.b.a) (N []) (!v),0,aB.q (bH.q c.a.r c.a.y c.a.u c.a.z c.a.k (N c.a.b.a) (N e.2.2.1.a.g.a) (N e.2.2.1.a.j.a) e.2.2.1.a.t c.a.B c.a.s c.a.a) (N e.2.2.1.b.a),e.2.2.2) else(bY.q (N []) (N []) O,e.1,aB.q (bH.q c.a.r c.a.y c.a.u c.a.z c.a.k (N c.a.b.a) (N e.2.2.1.a.g.a) (N e.2.2.1.a.j.a) e.2.2.1.a.t c.a.B c.a.s c.a.a) (N e.2.2.1.b.a),e.2.2.2) else(bY.q (N []) (N []) O,180,c,f) else(bY.q (N []) (N []) O,180,c,f) else(bY.q (N []) (N []) O,180,c,f)
theorem jv (w D g0) (a:aB) (p g u j B y l J K L) (d:cz) (M lu C Z5 lv E aW Z6 lw F ak) (ai:StoreT) (ay ah au) (G:bn) (s t r) (r0:bY) (r1) (r2:aB) (r3:bn) (H:Own w D w [blk g0 (kB a p (X a.a.b.a) g u (X a.a.g.a) j y (X a.a.j.a) l a.a.t ak J (X a.b.a) K au) 78,row p (X a.a.b.a) g (q1 bF.L a.a.b.a) 83 2,row u (X a.a.g.a) j (q1 bA.L B) 80 2,sepL (q1 Ky B),row y (X a.a.j.a) l (q1 (eN .u64) a.a.j.a) 33 1,row J (X a.b.a) K (q1 aY.L L) 100 4,sepL (q1 Kq L),blk ak [T ay (X ai.a.a) ah] 29,blk au [T s (X G.a.a) t] 111,row s (X G.a.a) t (q1 aH.L r) 159 6,sepL (q1 Kj r)]) (I:s0 bA.abs B=a.a.g.a) (P:s0 aY.abs L=a.b.a) (nH:lu=X d.a.a) (aS:Ro w D λ w'=>bV w' 6 M (X d.a.a) (q1 aV.L d.a.a)) (uZ:X d.a.a<=C/\X d.a.a<=9223372036854775807) (aF:s0 aQ.abs aW=d.B.a) (nI:lv=X d.B.a) (aT:Ro w D λ w'=>bV w' 3 Z5 (X d.B.a) (q1 aQ.L aW)) (u6:X d.B.a<=E/\X d.B.a<=9223372036854775807) (R:∀ x ∈ aW,Ro w D (λ w'=>bV w' 2 x.a.A (X x.a.a) (q1 aG.L x.a.a))/\(X x.a.a<=x.a.c/\X x.a.a<=9223372036854775807)) (nJ:lw=X d.b.a) (aU:Ro w D λ w'=>bV w' 2 Z6 (X d.b.a) (q1 bF.L d.b.a)) (u7:X d.b.a<=F/\X d.b.a<=9223372036854775807) (fK:Ro w D λ w'=>bV w' 2 ay (X ai.a.a) (q1 aG.L ai.a.a)) (pO:X ai.a.a<=ah/\X ai.a.a<=9223372036854775807) (z:s0 aH.abs r=G.a.a) (Aa:Tk a.b.a a.a.g.a G.a.a) (Ab:Gt a.b.a) (Ac:X a.b.a+X a.a.g.a<=6) (Ad:X G.a.a<=6) (Ae:X ai.a.a<=4000/\X a.a.b.a<=6/\X a.a.j.a<=999) (Af: ¬ (d.g=10)) (Ag:X d.a.a<=140737488355328/\X d.B.a<=140737488355328/\X d.b.a<=140737488355328) (hr:dL a d ai G=(r0,r1,r2,r3)):
    Calls Tryz.prog 8 #[vP g0 0, Zq (Zb (fT d.g d.D d.E d.J d.F d.I d.G d.y d.r d.t d.u d.z d.k d.s d.C d.H d.j.a d.j.b M lu C Z5 lv E Z6 lw F))] w (dI λ v w'=> ∃ lD lF lG lH ji jk jl jm jo gT jq jr jw jy gU jB jC gV,v= .tuple #[Zq #[T lD (X r0.b.a) lF, T lG (X r0.a.a) lH, Y r0.g],vI r1]/\Own w D w' [row lD (X r0.b.a) lF (q1 bM.L ji) 47 21,sepL (q1 Km ji),row lG (X r0.a.a) lH (q1 aV.L r0.a.a) 62 6,blk g0 (kB r2 jk (X r2.a.b.a) jl jm (X r2.a.g.a) jo jq (X r2.a.j.a) jr r2.a.t ak jw (X r2.b.a) jy au) 78,row jk (X r2.a.b.a) jl (q1 bF.L r2.a.b.a) 83 2,row jm (X r2.a.g.a) jo (q1 bA.L gT) 80 2,sepL (q1 Ky gT),row jq (X r2.a.j.a) jr (q1 (eN .u64) r2.a.j.a) 33 1,row jw (X r2.b.a) jy (q1 aY.L gU) 100 4,sepL (q1 Kq gU),blk ak [T ay (X ai.a.a) ah] 29,blk au [T jB (X r3.a.a) jC] 111,row jB (X r3.a.a) jC (q1 aH.L gV) 159 6,sepL (q1 Kj gV)]/\(s0 bM.abs ji=r0.b.a)/\(s0 bA.abs gT=r2.a.g.a)/\(s0 aY.abs gU=r2.b.a)/\(s0 aH.abs gV=r3.a.a)):=by
 subst nH nI nJ
 have uW:=bf I
 have uX:=bf P
 have uY:=bf aF
 have pM:=bf z
 have ve:=zr 1 H
 have vg:=zr 2 H
 have vk:=zr 4 H
 have vo:=zr 5 H
 have pQ:=zr 9 H
 refine cb Tryz.func8 ?_
 refine sr (cB (jP d M C Z5 E Z6 F) 47 H ?_)
 intro dJ _ vv
 refine cB [T Zk 0 0, T Zk 0 0, Y O] 52 vv ?_
 intro jh _ vw
 refine An Z (JS (kL 13 [] (J6 Kg) vw ?_))
 intro _ vz
 refine qp dJ 0 1 Z (ql 2 Z 1 B8 Z Z Z (GX.do 0 Z f1 (Ki Tryz.call20 Z ?_ (λ _ _ k=>k))))
 refine cb Tryz.func20 ?_
 refine sr (Ar Z (WL.do Z (Ms (κ:=Int) (ν:=Option Nat) kI vF vz ?_)))
 intro dK _ vB
 refine KO (K9 (k:=3) (v:=(Zv 38)) vB (pG y6) X6 Z Z Z ?_)
 intro _ vC
 refine KO (K9 (k:=5) (v:=(Zv 39)) vC (pG y6) X6 Z Z Z ?_)
 intro _ vD
 refine KO (K9 (k:=8) (v:=(Zv 40)) vD (pG y6) X6 Z Z Z ?_)
 intro _ vE
 refine KO (K9 (k:=10) (v:=(Zv 41)) vE (pG y6) X6 Z Z Z ?_)
 intro _ vG
 refine KO (K9 (k:=11) (v:=(Zv 42)) vG (pG y6) X6 Z Z Z ?_)
 intro _ vH
 refine KO (K9 (k:=12) (v:=(Zv 43)) vH (pG y6) X6 Z Z Z ?_)
 intro _ vK
 refine Mz Z (An Z (rt (rs ?_)))
 have dx:=vK.pb [0]
 refine⟨.inr ⟨_,dx⟩, ?_⟩
 by_cases aD:d.g=12
 refine Lc (Good':=λ Z8=> ∃ L',Own w D Z8 ([blk jh [T Zk 0 0, T Zk 0 0, Y O] 52,blk dJ (jP d M C Z5 E Z6 F) 47,blk g0 (kB a p (X a.a.b.a) g u (X a.a.g.a) j y (X a.a.j.a) l a.a.t ak J (X a.b.a) K au) 78,row p (X a.a.b.a) g (q1 bF.L a.a.b.a) 83 2,row u (X a.a.g.a) j (q1 bA.L B) 80 2,sepL (q1 Ky B),row y (X a.a.j.a) l (q1 (eN .u64) a.a.j.a) 33 1,row J (X a.b.a) K (q1 aY.L L) 100 4,sepL (q1 Kq L),blk ak [T ay (X ai.a.a) ah] 29,blk au [T s (X G.a.a) t] 111,row s (X G.a.a) t (q1 aH.L r) 159 6,sepL (q1 Kj r),nX dK kI vF (fe (fe (fe (fe (fe (fe [] 3 (Zv 38)) 5 (Zv 39)) 8 (Zv 40)) 10 (Zv 41)) 11 (Zv 42)) 12 (Zv 43))]++L')) (λ _ ⟨L',h⟩=>⟨[nX dK kI vF (fe (fe (fe (fe (fe (fe [] 3 (Zv 38)) 5 (Zv 39)) 8 (Zv 40)) 10 (Zv 41)) 11 (Zv 42)) 12 (Zv 43))]++L',h⟩) ⟨_,dx⟩ (qt (v:= .tuple #[.func (.func 43) #[] #[], Y Zj]) 3 Z (λ _ ⟨_,H9⟩=>K3 (k:=d.g) (d0:=(Zk:Option Nat)) (o:=(Zv (Zv 43))) (i:=13) H9 Z (pG y6) X6 ZY Z Z (by rw [show d.g=12 from by omega]; rfl)) (qv 4 Z Z (qk (.func (.func 43) #[] #[]) 5 Z (qk (Y Zj) 6 Z (qa 7 Z Z (qa 8 Z Z (qn (JY (JS (JS ?_))))))))))
 have vL:=dx.px [] [13] []
 refine kL 13 [] (J6 (J6 Kg)) vL ?_
 intro _ vM
 refine qv 0 Z Z (qk (Y O) 1 Z (qv 2 Z Z (J2 (v:= Zq (Zb (jP d M C Z5 E Z6 F))) (rs:= []) 3 Z Z Z Z f1 (λ _ ⟨_,H9⟩=>J5 Z (J7 (cs:=(jP d M C Z5 E Z6 F)) I0 I2 ((H9.cls (i:=1) Z).lit (k:=0) (m:=21) Z))) ?_)))
 obtain⟨fM,dz⟩:=qq (fU d)
 obtain⟨_,pR,iq,pU,_⟩:=JZ vM
 refine KG 4 Z Z Z Z f1 (Ki X7 Z (pJ _ _ d M (X d.a.a) C Z5 (X d.B.a) E aW Z6 (X d.b.a) F fM pR Z (iq _ aS) U aF Z (iq _ aT) U (λ Z7 Q=>⟨iq _ (R Z7 Q).1,(R Z7 Q).2⟩) Z (iq _ aU) U g6 dz) ?_)
 rintro _ _ ⟨rfl,pV⟩
 have lg:=pU _ _ pV
 have yg:=rV dz
 have yh:=rW dz
 have yj:=tN dz
 refine⟨.inr ⟨_,lg⟩, (J2 (v:= Za (¬ (fM=0))) (rs:= []) 5 Z Z Z Z f1 (λ _ _=>Kc (e:= !(Zw (fM=0))) yk ZW) (qt (v:= Za (¬ (fM=0))) 6 Z (λ _ _=>QK Z) (qv 7 Z Z ?_)))⟩
 by_cases aN:fM=0
 refine J2 (v:=vP dJ 2) (rs:= []) 8 Z Z Z (dF (Nu aN)) f1 (λ _ _=>yk) (J2 (v:=vI d.E) (rs:= []) 9 Z Z Z (dF (Nu aN)) f1 (λ _ ⟨_,H9⟩=>J5 Z (bO.one B8 (Kw (H9.cls (i:=1) Z) Z))) (J2 (v:=vP g0 0) (rs:= []) 10 Z Z Z (dF (Nu aN)) f1 (λ _ _=>J3 Z) (J2 (v:=vP g0 0) (rs:= []) 11 Z Z Z (dF (Nu aN)) f1 (λ _ _=>yk) (J2 (v:=vP g0 0) (rs:= []) 12 Z Z Z (dF (Nu aN)) f1 (λ _ _=>yk) (J2 (v:=vP g0 0) (rs:= []) 13 Z Z Z (dF (Nu aN)) f1 (λ _ _=>yk) (J2 (v:=vI a.a.r) (rs:= []) 14 Z Z Z (dF (Nu aN)) f1 (λ _ ⟨_,H9⟩=>J5 Z (bO.one B8 (Kw (H9.cls (i:=2) Z) Z))) (J2 (v:= Za (¬ (d.E=a.a.r))) (rs:= []) 15 Z Z Z (dF (Nu aN)) f1 (λ _ _=>Kc (e:= !(Zw (d.E=a.a.r))) yk ZW) (qt (v:= Za (¬ (d.E=a.a.r))) 16 Z (λ _ _=>JU Z (dF (Nu aN)) Z) (qn (JY ?_))))))))))
 by_cases jD:d.E=a.a.r
 refine jF (dF (Nu jD)) (sk (sr (Mz Z (Kz (Zq #[vP g0 0, T Zk 0 0, T Zk 0 0, Y O, T Zk 0 0]) (cB [vP g0 0, T Zk 0 0, T Zk 0 0, Y O, T Zk 0 0] 92 lg ?_)))))
 intro eH _ nK
 refine Ar Z (Mz Z (Kz (vP g0 0) (Kz (vP g0 0) (La (fV a.a.r a.a.y a.a.u a.a.z a.a.k p (X a.a.b.a) g u (X a.a.g.a) j y (X a.a.j.a) l a.a.t a.a.B a.a.s.a a.a.s.b a.a.a.k a.a.a.s a.a.a.a a.a.a.j.a a.a.a.j.b) nK 3 X4 S0 ?_))))
 obtain⟨cK,jG⟩:=qq (gB a.a)
 obtain⟨_,pW,_,pX,iw⟩:=JZ nK
 refine cl X5 (ko _ _ a.a p (X a.a.b.a) g u (X a.a.g.a) j B y (X a.a.j.a) l cK pW Z (iw _ 4 _ Z bB) U I Z (iw _ 5 _ Z bB) U (λ Z7 Q=>⟨iw _ 6 _ Z (bL (P6.2 ⟨Z7,Q,b3⟩) bB),di (φ:=λ _=>_) nK (i:=6) Z (bL (P6.2 ⟨Z7,Q,b3⟩) dD)⟩) Z (iw _ 7 _ Z bB) U g5 (by first | assumption | exact λ _ Q=>absurd Q y2 | exact Tk.hops f8) jG) ?_
 rintro _ _ ⟨lh,jH,ll,jI,lm,jJ,vN,rfl,pY,lI⟩
 have lq:=pX _ _ pY
 have ym:=bf lI
 have yn:=zr 0 lq
 have yo:=zr 1 lq
 have yt:=zr 3 lq
 refine cB (fV 0 0 0 0 0 Zk 0 0 Zk 0 0 Zk 0 0 0 0 [] [] 0 0 0 [] []) 42 lq ?_
 intro _ _ vO
 refine cu (gZ cK lh jH ll jI lm jJ) 0 vO S0 ?_
 intro _ p8
 refine nt (JS (sr (Mz Z (Mz Z (La (jP d M C Z5 E Z6 F) p8 7 I0 I2 ?_)))))
 have vQ:=p8.pf [5,8]
 obtain⟨⟨dU,p9⟩,gW⟩:=qq (rO (bD.q (bY.q (N []) (N []) O) (N [])) d a)
 obtain⟨_,qb,iy,qc,_⟩:=KE vQ
 refine WL.do Z (KA Tryz.call43 Z Z (xe _ _ eH (bD.q (bY.q (N []) (N []) O) (N [])) Zk 0 Zk 0 Zk 0 d M (X d.a.a) C Z5 (X d.B.a) E aW Z6 (X d.b.a) F g0 a p g u j y l J K ak au dU p9 qb Z (iy _ aS) U aF Z (iy _ aT) U (λ Z7 Q=>⟨iy _ (R Z7 Q).1,(R Z7 Q).2⟩) Z (iy _ aU) U gW) ?_)
 rintro _ _ ⟨rfl,nL⟩
 have qd:=qc _ _ nL
 refine An Z (JS ?_)
 have lJ:=qd.px [] [8] []
 refine JW (Mz Z (fw (Za (¬ (dU=0))) (Kc (e:= !(Zw (dU=0))) yk ZW) (nt ?_)))
 by_cases iA:dU=0
 refine jF (dF (Nu iA)) (sk (JS (kL 18 [20] (J6 Kg) lJ ?_)))
 intro _ jK
 refine qv 0 Z Z (qv 1 Z Z (qp eH 0 2 Z (qp eH 1 3 Z (qp eH 2 4 Z (ql 5 Z 0 Q9 Z Z Z (qk (vI 0) 6 Z (qk (Y O) 7 Z (qv 8 Z Z (J2 (v:= Zq (Zb (gZ cK lh jH ll jI lm jJ))) (rs:= [[]]) 9 Z Z Z Z f1 (λ _ ⟨_,H9⟩=>J5 Z (J7 (cs:=(gZ cK lh jH ll jI lm jJ)) X4 S0 ((H9.cls (i:=2) Z).lit (k:=0) (m:=17) Z))) (J2 (v:=vP g0 0) (rs:= [[]]) 10 Z Z Z Z f1 (λ _ _=>J3 Z) (J2 (v:=vP g0 0) (rs:= [[]]) 11 Z Z Z Z f1 (λ _ _=>yk) (J2 (v:=vP g0 0) (rs:= [[]]) 12 Z Z Z Z f1 (λ _ _=>yk) (J2 (v:= Zq (Zb (fV a.a.r a.a.y a.a.u a.a.z a.a.k p (X a.a.b.a) g u (X a.a.g.a) j y (X a.a.j.a) l a.a.t a.a.B a.a.s.a a.a.s.b a.a.a.k a.a.a.s a.a.a.a a.a.a.j.a a.a.a.j.b))) (rs:= [[]]) 13 Z Z Z Z f1 (λ _ ⟨_,H9⟩=>J5 Z (J7 (cs:=(fV a.a.r a.a.y a.a.u a.a.z a.a.k p (X a.a.b.a) g u (X a.a.g.a) j y (X a.a.j.a) l a.a.t a.a.B a.a.s.a a.a.s.b a.a.a.k a.a.a.s a.a.a.a a.a.a.j.a a.a.a.j.b)) X4 S0 ((H9.cls (i:=1) Z).lit (k:=0) (m:=17) Z))) ?_)))))))))))))
 obtain⟨cO,jL⟩:=qq (jd cK a.a)
 obtain⟨_,nM,_,nN,bi⟩:=JZ jK
 refine KG 14 Z Z Z Z f1 (Ki X8 Z (nC _ _ cK lh (X cK.b.a) jH ll (X cK.g.a) jI vN lm (X cK.j.a) jJ a.a p (X a.a.b.a) g u (X a.a.g.a) j B y (X a.a.j.a) l cO nM Z (bi _ 3 _ Z bB) U lI Z (bi _ 4 _ Z bB) U (λ Z7 Q=>⟨bi _ 5 _ Z (bL (P6.2 ⟨Z7,Q,b3⟩) bB),di (φ:=λ _=>_) jK (i:=5) Z (bL (P6.2 ⟨Z7,Q,b3⟩) dD)⟩) Z (bi _ 6 _ Z bB) U Z (bi _ 8 _ Z bB) U I Z (bi _ 9 _ Z bB) U (λ Z7 Q=>⟨bi _ 10 _ Z (bL (P6.2 ⟨Z7,Q,b3⟩) bB),di (φ:=λ _=>_) jK (i:=10) Z (bL (P6.2 ⟨Z7,Q,b3⟩) dD)⟩) Z (bi _ 11 _ Z bB) U jL) ?_)
 rintro _ _ ⟨rfl,nO⟩
 have lK:=nN _ _ nO
 refine⟨.inr ⟨_,lK⟩, (J2 (v:= Y (!cO)) (rs:= [[]]) 15 Z Z Z Z f1 (λ _ _=>yk) (qt (v:= Y (!cO)) 16 Z (λ _ _=>QK Z) (qp eH 0 17 Z (qp eH 1 18 Z (qp eH 3 19 Z (qe 20 Z (Do.store (vs:= [Y (!cO)]) (o:=3) lK Z Z X9 Z Z Z Z ?_)))))))⟩
 intro _ qf
 refine⟨.inl f1, (qn (JY (JS ?_)))⟩
 have lL:=qf.px [] [2,3,4,5,6] []
 refine JW (Mz Z (Kz (vP eH 0) (Kz (vP eH 1) (La ([T Zk 0 0, T Zk 0 0, Y (!cO)]) lL 0 Y0 Y1 ?_))))
 have qg:=lL.pf [2]
 refine cu [T Zk 0 0, T Zk 0 0, Y (!cO)] 0 qg Y1 ?_
 intro jM lM
 refine An Z (rt (Ke (fQ (vs:= [Zq #[T Zk 0 0, T Zk 0 0, Y (!cO)],vI 0]) Z (bS.cell Z (J7 (cs:= [T Zk 0 0, T Zk 0 0, Y (!cO)]) Y0 Y1 ((lM.cls (i:=0) Z).lit (k:=0) (m:=3) Z)) (bS.tmp Z bS.nil)) (Nr Z)) ?_))
 have qh:=lM.sepNil
 have qi:=qh.free (bW 47 21)
 have qj:=qi.free (bW 62 6)
 have qm:=qj.px [1,2] [3,4] []
 obtain⟨rfl,rfl,rfl,rfl⟩:=eQ (zj hr (show _=(bY.q (N []) (N []) (!cO),0,a,G) from V (ip aD) (V (ae dz) (V (ip aN) (V (ip jD) (V (ae jG) (V (ae gW) (V (ip iA) (ae jL))))))))).symm
 exact⟨Zk,0,Zk,0, [],p,g,u,j,B,y,l,J,K,L,s,t,r,Z,qm,Z,I,P,z⟩
 refine jT (dT iA) (sr (Kz (Zq #[T Zk 0 0, T Zk 0 0, Y O]) (Mz Z ?_)))
 have qo:=lJ.pf [7]
 refine cu [T Zk 0 0, T Zk 0 0, Y O] 0 qo Y1 ?_
 intro jN lN
 refine An Z (rt (tR (Ke (fQ (vs:= [Zq #[T Zk 0 0, T Zk 0 0, Y O],vI dU]) Z (bS.cell Z (J7 (cs:= [T Zk 0 0, T Zk 0 0, Y O]) Y0 Y1 ((lN.cls (i:=0) Z).lit (k:=0) (m:=3) Z)) (bS.tmp Z bS.nil)) (Nr Z)) ?_)))
 have qw:=lN.sepNil
 have qx:=qw.free (bW 47 21)
 have qy:=qx.free (bW 62 6)
 have qz:=qy.px [1,2] [3,4,6,7,8,9,10] []
 obtain⟨rfl,rfl,rfl,rfl⟩:=eQ (zj hr (show _=(bY.q (N []) (N []) O,dU,a,G) from V (ip aD) (V (ae dz) (V (ip aN) (V (ip jD) (V (ae jG) (V (ae gW) (iN iA)))))))).symm
 exact⟨Zk,0,Zk,0, [],p,g,u,j,B,y,l,J,K,L,s,t,r,Z,qz,Z,I,P,z⟩
 refine jT (dT jD) (sr (Kz (Zq #[T Zk 0 0, T Zk 0 0, Y O]) (cu [T Zk 0 0, T Zk 0 0, Y O] 0 lg Y1 ?_)))
 intro jO lQ
 refine An Z (rt (tR (Ke (fQ (vs:= [Zq #[T Zk 0 0, T Zk 0 0, Y O],vI 180]) Z (bS.cell Z (J7 (cs:= [T Zk 0 0, T Zk 0 0, Y O]) Y0 Y1 ((lQ.cls (i:=0) Z).lit (k:=0) (m:=3) Z)) (bS.tmp Z bS.nil)) (Nr Z)) ?_)))
 have qA:=lQ.sepNil
 have qB:=qA.free (bW 47 21)
 have qC:=qB.free (bW 62 6)
 have qD:=qC.px [1,2] [3,4] []
 obtain⟨rfl,rfl,rfl,rfl⟩:=eQ (zj hr (show _=(bY.q (N []) (N []) O,180,a,G) from V (ip aD) (V (ae dz) (V (ip aN) (iN jD))))).symm
 exact⟨Zk,0,Zk,0, [],p,g,u,j,B,y,l,J,K,L,s,t,r,Z,qD,Z,I,P,z⟩
 refine JV (rs:= []) 8 Z Z Z (dT aN) f1 (JV (rs:= []) 9 Z Z Z (dT aN) f1 (JV (rs:= []) 10 Z Z Z (dT aN) f1 (JV (rs:= []) 11 Z Z Z (dT aN) f1 (JV (rs:= []) 12 Z Z Z (dT aN) f1 (JV (rs:= []) 13 Z Z Z (dT aN) f1 (JV (rs:= []) 14 Z Z Z (dT aN) f1 (JV (rs:= []) 15 Z Z Z (dT aN) f1 (qt (v:= Y Zj) 16 Z (λ _ _=>JX Z (dT aN) Z) (qn (JY (jt (sr (Kz (Zq #[T Zk 0 0, T Zk 0 0, Y O]) (cu [T Zk 0 0, T Zk 0 0, Y O] 0 lg Y1 ?_))))))))))))))
 intro jQ lS
 refine An Z (rt (tR (Ke (fQ (vs:= [Zq #[T Zk 0 0, T Zk 0 0, Y O],vI 180]) Z (bS.cell Z (J7 (cs:= [T Zk 0 0, T Zk 0 0, Y O]) Y0 Y1 ((lS.cls (i:=0) Z).lit (k:=0) (m:=3) Z)) (bS.tmp Z bS.nil)) (Nr Z)) ?_)))
 have qE:=lS.sepNil
 have qF:=qE.free (bW 47 21)
 have qG:=qF.free (bW 62 6)
 have qH:=qG.px [1,2] [3,4] []
 obtain⟨rfl,rfl,rfl,rfl⟩:=eQ (zj hr (show _=(bY.q (N []) (N []) O,180,a,G) from V (ip aD) (V (ae dz) (iN aN)))).symm
 exact⟨Zk,0,Zk,0, [],p,g,u,j,B,y,l,J,K,L,s,t,r,Z,qH,Z,I,P,z⟩
 by_cases av:d.g=11
 refine Lc (Good':=λ Z8=> ∃ L',Own w D Z8 ([blk jh [T Zk 0 0, T Zk 0 0, Y O] 52,blk dJ (jP d M C Z5 E Z6 F) 47,blk g0 (kB a p (X a.a.b.a) g u (X a.a.g.a) j y (X a.a.j.a) l a.a.t ak J (X a.b.a) K au) 78,row p (X a.a.b.a) g (q1 bF.L a.a.b.a) 83 2,row u (X a.a.g.a) j (q1 bA.L B) 80 2,sepL (q1 Ky B),row y (X a.a.j.a) l (q1 (eN .u64) a.a.j.a) 33 1,row J (X a.b.a) K (q1 aY.L L) 100 4,sepL (q1 Kq L),blk ak [T ay (X ai.a.a) ah] 29,blk au [T s (X G.a.a) t] 111,row s (X G.a.a) t (q1 aH.L r) 159 6,sepL (q1 Kj r),nX dK kI vF (fe (fe (fe (fe (fe (fe [] 3 (Zv 38)) 5 (Zv 39)) 8 (Zv 40)) 10 (Zv 41)) 11 (Zv 42)) 12 (Zv 43))]++L')) (λ _ ⟨L',h⟩=>⟨[nX dK kI vF (fe (fe (fe (fe (fe (fe [] 3 (Zv 38)) 5 (Zv 39)) 8 (Zv 40)) 10 (Zv 41)) 11 (Zv 42)) 12 (Zv 43))]++L',h⟩) ⟨_,dx⟩ (qt (v:= .tuple #[.func (.func 42) #[] #[], Y Zj]) 3 Z (λ _ ⟨_,H9⟩=>K3 (k:=d.g) (d0:=(Zk:Option Nat)) (o:=(Zv (Zv 42))) (i:=13) H9 Z (pG y6) X6 ZY Z Z (by rw [show d.g=11 from by omega]; rfl)) (qv 4 Z Z (qk (.func (.func 42) #[] #[]) 5 Z (qk (Y Zj) 6 Z (qa 7 Z Z (qa 8 Z Z (qn (JY (JS (JS ?_))))))))))
 have qI:=dx.px [] [13] []
 refine kL 13 [] (J6 (J6 Kg)) qI ?_
 intro _ qJ
 refine qv 0 Z Z (qk (Y O) 1 Z (qv 2 Z Z (J2 (v:= Zq (Zb (jP d M C Z5 E Z6 F))) (rs:= []) 3 Z Z Z Z f1 (λ _ ⟨_,H9⟩=>J5 Z (J7 (cs:=(jP d M C Z5 E Z6 F)) I0 I2 ((H9.cls (i:=1) Z).lit (k:=0) (m:=21) Z))) ?_)))
 obtain⟨dA,aX⟩:=qq (fU d)
 obtain⟨_,nP,eO,nQ,_⟩:=JZ qJ
 refine KG 4 Z Z Z Z f1 (Ki X7 Z (pJ _ _ d M (X d.a.a) C Z5 (X d.B.a) E aW Z6 (X d.b.a) F dA nP Z (eO _ aS) U aF Z (eO _ aT) U (λ Z7 Q=>⟨eO _ (R Z7 Q).1,(R Z7 Q).2⟩) Z (eO _ aU) U g6 aX) ?_)
 rintro _ _ ⟨rfl,nR⟩
 have iB:=nQ _ _ nR
 have vT:=rV aX
 have vV:=rW aX
 have vW:=tN aX
 refine⟨.inr ⟨_,iB⟩, (J2 (v:= Za (¬ (dA=0))) (rs:= []) 5 Z Z Z Z f1 (λ _ _=>Kc (e:= !(Zw (dA=0))) yk ZW) (qt (v:= Za (¬ (dA=0))) 6 Z (λ _ _=>QK Z) (qv 7 Z Z ?_)))⟩
 by_cases Z0:dA=0
 refine J2 (v:=vP dJ 2) (rs:= []) 8 Z Z Z (dF (Nu Z0)) f1 (λ _ _=>yk) (J2 (v:=vI d.E) (rs:= []) 9 Z Z Z (dF (Nu Z0)) f1 (λ _ ⟨_,H9⟩=>J5 Z (bO.one B8 (Kw (H9.cls (i:=1) Z) Z))) (J2 (v:=vP g0 0) (rs:= []) 10 Z Z Z (dF (Nu Z0)) f1 (λ _ _=>J3 Z) (J2 (v:=vP g0 0) (rs:= []) 11 Z Z Z (dF (Nu Z0)) f1 (λ _ _=>yk) (J2 (v:=vP g0 0) (rs:= []) 12 Z Z Z (dF (Nu Z0)) f1 (λ _ _=>yk) (J2 (v:=vP g0 0) (rs:= []) 13 Z Z Z (dF (Nu Z0)) f1 (λ _ _=>yk) (J2 (v:=vI a.a.r) (rs:= []) 14 Z Z Z (dF (Nu Z0)) f1 (λ _ ⟨_,H9⟩=>J5 Z (bO.one B8 (Kw (H9.cls (i:=2) Z) Z))) (J2 (v:= Za (¬ (d.E=a.a.r))) (rs:= []) 15 Z Z Z (dF (Nu Z0)) f1 (λ _ _=>Kc (e:= !(Zw (d.E=a.a.r))) yk ZW) (qt (v:= Za (¬ (d.E=a.a.r))) 16 Z (λ _ _=>JU Z (dF (Nu Z0)) Z) (qn (JY ?_))))))))))
 by_cases dV:d.E=a.a.r
 refine jF (dF (Nu dV)) (sk (sr (Mz Z (Kz (Zq #[vP g0 0, T Zk 0 0, T Zk 0 0, Y O, T Zk 0 0]) (cB [vP g0 0, T Zk 0 0, T Zk 0 0, Y O, T Zk 0 0] 92 iB ?_)))))
 intro aO _ jR
 refine Ar Z (Mz Z (Kz (vP g0 0) (Kz (vP g0 0) (La (fV a.a.r a.a.y a.a.u a.a.z a.a.k p (X a.a.b.a) g u (X a.a.g.a) j y (X a.a.j.a) l a.a.t a.a.B a.a.s.a a.a.s.b a.a.a.k a.a.a.s a.a.a.a a.a.a.j.a a.a.a.j.b) jR 3 X4 S0 ?_))))
 obtain⟨aI,eP⟩:=qq (gB a.a)
 obtain⟨_,nS,_,nT,eT⟩:=JZ jR
 refine cl X5 (ko _ _ a.a p (X a.a.b.a) g u (X a.a.g.a) j B y (X a.a.j.a) l aI nS Z (eT _ 4 _ Z bB) U I Z (eT _ 5 _ Z bB) U (λ Z7 Q=>⟨eT _ 6 _ Z (bL (P6.2 ⟨Z7,Q,b3⟩) bB),di (φ:=λ _=>_) jR (i:=6) Z (bL (P6.2 ⟨Z7,Q,b3⟩) dD)⟩) Z (eT _ 7 _ Z bB) U g5 (by first | assumption | exact λ _ Q=>absurd Q y2 | exact Tk.hops f8) eP) ?_
 rintro _ _ ⟨iC,fO,iD,fP,iE,fZ,qK,rfl,nU,jS⟩
 have iF:=nT _ _ nU
 have vY:=bf jS
 have vZ:=zr 0 iF
 have wh:=zr 1 iF
 have wm:=zr 3 iF
 refine cB (fV 0 0 0 0 0 Zk 0 0 Zk 0 0 Zk 0 0 0 0 [] [] 0 0 0 [] []) 42 iF ?_
 intro _ _ qL
 refine cu (gZ aI iC fO iD fP iE fZ) 0 qL S0 ?_
 intro jU lT
 refine nt (JS (sr (Mz Z (Mz Z (La (jP d M C Z5 E Z6 F) lT 7 I0 I2 ?_)))))
 have qM:=lT.sepNil
 have qN:=qM.free (bW 47 21)
 have qO:=qN.free (bW 62 6)
 have lU:=qO.pf [8,1,2,0,11]
 have wo:=zr 12 lU
 obtain⟨⟨dW,Z3,f⟩,eU⟩:=qq (eX (bD.q (bY.q (N []) (N []) O) (N [])) d a)
 obtain⟨_,nV,eY,nW,nY⟩:=Lh lU
 refine WL.do Z (KA Tryz.call42 Z Z (yB _ _ aO (bD.q (bY.q (N []) (N []) O) (N [])) Zk 0 [] Zk 0 Zk 0 d M (X d.a.a) C Z5 (X d.B.a) E aW Z6 (X d.b.a) F g0 a p g u j y l J K ak au dW Z3 f nV Z Z (eY _ aS) U aF Z (eY _ aT) U (λ Z7 Q=>⟨eY _ (R Z7 Q).1,(R Z7 Q).2⟩) Z (eY _ aU) U (nY _ 7 _ Z bB) U f2 eU) ?_)
 rintro _ _ ⟨bE,bG,lV,bI,bJ,rfl,nZ,gX⟩
 have jW:=nW _ _ nZ
 have wu:=bf gX
 have ww:=zr 1 jW
 have wy:=zr 3 jW
 refine An Z (JS ?_)
 have lW:=jW.px [] [11] []
 refine JW (Mz Z (fw (Za (¬ (dW=0))) (Kc (e:= !(Zw (dW=0))) yk ZW) (nt ?_)))
 by_cases gm:dW=0
 refine jF (dF (Nu gm)) (sk (JS (kL 21 [20] (J6 Kg) lW ?_)))
 intro _ iG
 refine qv 0 Z Z (qv 1 Z Z (qp aO 0 2 Z (qp aO 1 3 Z (qp aO 2 4 Z (ql 5 Z 0 Q9 Z Z Z (qk (vJ (X Z3.a.a.a)) 6 Z (qk (Za ((X Z3.a.a.a:Int) > 0)) 7 Z (qv 8 Z Z ?_))))))))
 by_cases az:(X Z3.a.a.a:Int) > 0
 refine JV (rs:= [[]]) 9 Z Z Z (dT az) f1 (JV (rs:= [[]]) 10 Z Z Z (dT az) f1 (JV (rs:= [[]]) 11 Z Z Z (dT az) f1 (JV (rs:= [[]]) 12 Z Z Z (dT az) f1 (JV (rs:= [[]]) 13 Z Z Z (dT az) f1 (JV (rs:= [[]]) 14 Z Z Z (dT az) f1 (JV (rs:= [[]]) 15 Z Z Z (dT az) f1 (qt (v:= Y Zj) 16 Z (λ _ _=>JX Z (dT az) Z) (qp aO 0 17 Z (qp aO 1 18 Z (qp aO 3 19 Z (qe 20 Z (Do.store (vs:= [Y Zj]) (o:=3) iG Z Z X9 Z Z Z Z ?_))))))))))))
 intro _ qP
 refine⟨.inl f1, (qn (JY (JS ?_)))⟩
 have lX:=qP.px [] [5,6,7,8,9] []
 refine JW (Mz Z (Kz (vP aO 0) (Kz (vP aO 1) (La ([T bE (X Z3.a.b.a) bG, T bI (X Z3.a.a.a) bJ, Y Zj]) lX 0 Y0 Y1 ?_))))
 have qQ:=lX.pf [5]
 refine cu [T bE (X Z3.a.b.a) bG, T bI (X Z3.a.a.a) bJ, Y Zj] 0 qQ Y1 ?_
 intro _ lY
 refine An Z (rt (Ke (fQ (vs:= [Zq #[T bE (X Z3.a.b.a) bG, T bI (X Z3.a.a.a) bJ, Y Zj],vI 0]) Z (bS.cell Z (J7 (cs:= [T bE (X Z3.a.b.a) bG, T bI (X Z3.a.a.a) bJ, Y Zj]) Y0 Y1 ((lY.cls (i:=0) Z).lit (k:=0) (m:=3) Z)) (bS.tmp Z bS.nil)) (Nr Z)) ?_))
 have qR:=lY.px [] [0,1] []
 obtain⟨rfl,rfl,rfl,rfl⟩:=eQ (zj hr (show _=(bY.q (N Z3.a.b.a) (N Z3.a.a.a) Zj,0,aB.q (bH.q f.a.r f.a.y f.a.u f.a.z f.a.k (N a.a.b.a) (N a.a.g.a) (N a.a.j.a) f.a.t f.a.B f.a.s f.a.a) (N a.b.a),G) from V (iN aD) (V (ip av) (V (ae aX) (V (ip Z0) (V (ip dV) (V (ae eP) (V (ae eU) (V (ip gm) (ip az)))))))))).symm
 exact⟨bE,bG,bI,bJ,lV,p,g,u,j,B,y,l,J,K,L,s,t,r,Z,qR,gX,I,P,z⟩
 refine J2 (v:= Zq (Zb (gZ aI iC fO iD fP iE fZ))) (rs:= [[]]) 9 Z Z Z (dF az) f1 (λ _ ⟨_,H9⟩=>J5 Z (J7 (cs:=(gZ aI iC fO iD fP iE fZ)) X4 S0 ((H9.cls (i:=5) Z).lit (k:=0) (m:=17) Z))) (J2 (v:=vP g0 0) (rs:= [[]]) 10 Z Z Z (dF az) f1 (λ _ _=>J3 Z) (J2 (v:=vP g0 0) (rs:= [[]]) 11 Z Z Z (dF az) f1 (λ _ _=>yk) (J2 (v:=vP g0 0) (rs:= [[]]) 12 Z Z Z (dF az) f1 (λ _ _=>yk) (J2 (v:= Zq (Zb (fV f.a.r f.a.y f.a.u f.a.z f.a.k p (X a.a.b.a) g u (X a.a.g.a) j y (X a.a.j.a) l f.a.t f.a.B f.a.s.a f.a.s.b f.a.a.k f.a.a.s f.a.a.a f.a.a.j.a f.a.a.j.b))) (rs:= [[]]) 13 Z Z Z (dF az) f1 (λ _ ⟨_,H9⟩=>J5 Z (J7 (cs:=(fV f.a.r f.a.y f.a.u f.a.z f.a.k p (X a.a.b.a) g u (X a.a.g.a) j y (X a.a.j.a) l f.a.t f.a.B f.a.s.a f.a.s.b f.a.a.k f.a.a.s f.a.a.a f.a.a.j.a f.a.a.j.b)) X4 S0 ((H9.cls (i:=4) Z).lit (k:=0) (m:=17) Z))) ?_))))
 obtain⟨cZ,jX⟩:=qq (jd aI (bH.q f.a.r f.a.y f.a.u f.a.z f.a.k (N a.a.b.a) (N a.a.g.a) (N a.a.j.a) f.a.t f.a.B f.a.s f.a.a))
 obtain⟨_,og,_,oh,bq⟩:=JZ iG
 refine KG 14 Z Z Z (dF az) f1 (Ki X8 Z (nC _ _ aI iC (X aI.b.a) fO iD (X aI.g.a) fP qK iE (X aI.j.a) fZ (bH.q f.a.r f.a.y f.a.u f.a.z f.a.k (N a.a.b.a) (N a.a.g.a) (N a.a.j.a) f.a.t f.a.B f.a.s f.a.a) p (X a.a.b.a) g u (X a.a.g.a) j B y (X a.a.j.a) l cZ og Z (bq _ 6 _ Z bB) U jS Z (bq _ 7 _ Z bB) U (λ Z7 Q=>⟨bq _ 8 _ Z (bL (P6.2 ⟨Z7,Q,b3⟩) bB),di (φ:=λ _=>_) iG (i:=8) Z (bL (P6.2 ⟨Z7,Q,b3⟩) dD)⟩) Z (bq _ 9 _ Z bB) U Z (bq _ 11 _ Z bB) U I Z (bq _ 12 _ Z bB) U (λ Z7 Q=>⟨bq _ 13 _ Z (bL (P6.2 ⟨Z7,Q,b3⟩) bB),di (φ:=λ _=>_) iG (i:=13) Z (bL (P6.2 ⟨Z7,Q,b3⟩) dD)⟩) Z (bq _ 14 _ Z bB) U jX) ?_)
 rintro _ _ ⟨rfl,ol⟩
 have lZ:=oh _ _ ol
 refine⟨.inr ⟨_,lZ⟩, (J2 (v:= Y (!cZ)) (rs:= [[]]) 15 Z Z Z (dF az) f1 (λ _ _=>yk) (qt (v:= Y (!cZ)) 16 Z (λ _ _=>JU Z (dF az) Z) (qp aO 0 17 Z (qp aO 1 18 Z (qp aO 3 19 Z (qe 20 Z (Do.store (vs:= [Y (!cZ)]) (o:=3) lZ Z Z X9 Z Z Z Z ?_)))))))⟩
 intro _ qU
 refine⟨.inl f1, (qn (JY (JS ?_)))⟩
 have l5:=qU.px [] [5,6,7,8,9] []
 refine JW (Mz Z (Kz (vP aO 0) (Kz (vP aO 1) (La ([T bE (X Z3.a.b.a) bG, T bI (X Z3.a.a.a) bJ, Y (!cZ)]) l5 0 Y0 Y1 ?_))))
 have qV:=l5.pf [5]
 refine cu [T bE (X Z3.a.b.a) bG, T bI (X Z3.a.a.a) bJ, Y (!cZ)] 0 qV Y1 ?_
 intro _ l6
 refine An Z (rt (Ke (fQ (vs:= [Zq #[T bE (X Z3.a.b.a) bG, T bI (X Z3.a.a.a) bJ, Y (!cZ)],vI 0]) Z (bS.cell Z (J7 (cs:= [T bE (X Z3.a.b.a) bG, T bI (X Z3.a.a.a) bJ, Y (!cZ)]) Y0 Y1 ((l6.cls (i:=0) Z).lit (k:=0) (m:=3) Z)) (bS.tmp Z bS.nil)) (Nr Z)) ?_))
 have qW:=l6.px [] [0,1] []
 obtain⟨rfl,rfl,rfl,rfl⟩:=eQ (zj hr (show _=(bY.q (N Z3.a.b.a) (N Z3.a.a.a) (!cZ),0,aB.q (bH.q f.a.r f.a.y f.a.u f.a.z f.a.k (N a.a.b.a) (N a.a.g.a) (N a.a.j.a) f.a.t f.a.B f.a.s f.a.a) (N a.b.a),G) from V (iN aD) (V (ip av) (V (ae aX) (V (ip Z0) (V (ip dV) (V (ae eP) (V (ae eU) (V (ip gm) (V (iN az) (ae jX))))))))))).symm
 exact⟨bE,bG,bI,bJ,lV,p,g,u,j,B,y,l,J,K,L,s,t,r,Z,qW,gX,I,P,z⟩
 refine jT (dT gm) (sr (Kz (Zq #[T Zk 0 0, T Zk 0 0, Y O]) (Mz Z ?_)))
 have qX:=lW.pf [10]
 refine cu [T Zk 0 0, T Zk 0 0, Y O] 0 qX Y1 ?_
 intro jY l7
 refine An Z (rt (tR (Ke (fQ (vs:= [Zq #[T Zk 0 0, T Zk 0 0, Y O],vI dW]) Z (bS.cell Z (J7 (cs:= [T Zk 0 0, T Zk 0 0, Y O]) Y0 Y1 ((l7.cls (i:=0) Z).lit (k:=0) (m:=3) Z)) (bS.tmp Z bS.nil)) (Nr Z)) ?_)))
 have qY:=l7.sepNil
 have qZ:=qY.free (bW 47 21)
 have q8:=qZ.free (bW 62 6)
 have q9:=q8.px [1,2] [3,4,5,6,7,9,10,11,12,13] []
 obtain⟨rfl,rfl,rfl,rfl⟩:=eQ (zj hr (show _=(bY.q (N []) (N []) O,dW,aB.q (bH.q f.a.r f.a.y f.a.u f.a.z f.a.k (N a.a.b.a) (N a.a.g.a) (N a.a.j.a) f.a.t f.a.B f.a.s f.a.a) (N a.b.a),G) from V (iN aD) (V (ip av) (V (ae aX) (V (ip Z0) (V (ip dV) (V (ae eP) (V (ae eU) (iN gm))))))))).symm
 exact⟨Zk,0,Zk,0, [],p,g,u,j,B,y,l,J,K,L,s,t,r,Z,q9,Z,I,P,z⟩
 refine jT (dT dV) (sr (Kz (Zq #[T Zk 0 0, T Zk 0 0, Y O]) (cu [T Zk 0 0, T Zk 0 0, Y O] 0 iB Y1 ?_)))
 intro jZ l8
 refine An Z (rt (tR (Ke (fQ (vs:= [Zq #[T Zk 0 0, T Zk 0 0, Y O],vI 180]) Z (bS.cell Z (J7 (cs:= [T Zk 0 0, T Zk 0 0, Y O]) Y0 Y1 ((l8.cls (i:=0) Z).lit (k:=0) (m:=3) Z)) (bS.tmp Z bS.nil)) (Nr Z)) ?_)))
 have rf:=l8.sepNil
 have rq:=rf.free (bW 47 21)
 have ru:=rq.free (bW 62 6)
 have ry:=ru.px [1,2] [3,4] []
 obtain⟨rfl,rfl,rfl,rfl⟩:=eQ (zj hr (show _=(bY.q (N []) (N []) O,180,a,G) from V (iN aD) (V (ip av) (V (ae aX) (V (ip Z0) (iN dV)))))).symm
 exact⟨Zk,0,Zk,0, [],p,g,u,j,B,y,l,J,K,L,s,t,r,Z,ry,Z,I,P,z⟩
 refine JV (rs:= []) 8 Z Z Z (dT Z0) f1 (JV (rs:= []) 9 Z Z Z (dT Z0) f1 (JV (rs:= []) 10 Z Z Z (dT Z0) f1 (JV (rs:= []) 11 Z Z Z (dT Z0) f1 (JV (rs:= []) 12 Z Z Z (dT Z0) f1 (JV (rs:= []) 13 Z Z Z (dT Z0) f1 (JV (rs:= []) 14 Z Z Z (dT Z0) f1 (JV (rs:= []) 15 Z Z Z (dT Z0) f1 (qt (v:= Y Zj) 16 Z (λ _ _=>JX Z (dT Z0) Z) (qn (JY (jt (sr (Kz (Zq #[T Zk 0 0, T Zk 0 0, Y O]) (cu [T Zk 0 0, T Zk 0 0, Y O] 0 iB Y1 ?_))))))))))))))
 intro j3 l9
 refine An Z (rt (tR (Ke (fQ (vs:= [Zq #[T Zk 0 0, T Zk 0 0, Y O],vI 180]) Z (bS.cell Z (J7 (cs:= [T Zk 0 0, T Zk 0 0, Y O]) Y0 Y1 ((l9.cls (i:=0) Z).lit (k:=0) (m:=3) Z)) (bS.tmp Z bS.nil)) (Nr Z)) ?_)))
 have rz:=l9.sepNil
 have rA:=rz.free (bW 47 21)
 have rC:=rA.free (bW 62 6)
 have rD:=rC.px [1,2] [3,4] []
 obtain⟨rfl,rfl,rfl,rfl⟩:=eQ (zj hr (show _=(bY.q (N []) (N []) O,180,a,G) from V (iN aD) (V (ip av) (V (ae aX) (iN Z0))))).symm
 exact⟨Zk,0,Zk,0, [],p,g,u,j,B,y,l,J,K,L,s,t,r,Z,rD,Z,I,P,z⟩
 by_cases aJ:d.g=8
 refine Lc (Good':=λ Z8=> ∃ L',Own w D Z8 ([blk jh [T Zk 0 0, T Zk 0 0, Y O] 52,blk dJ (jP d M C Z5 E Z6 F) 47,blk g0 (kB a p (X a.a.b.a) g u (X a.a.g.a) j y (X a.a.j.a) l a.a.t ak J (X a.b.a) K au) 78,row p (X a.a.b.a) g (q1 bF.L a.a.b.a) 83 2,row u (X a.a.g.a) j (q1 bA.L B) 80 2,sepL (q1 Ky B),row y (X a.a.j.a) l (q1 (eN .u64) a.a.j.a) 33 1,row J (X a.b.a) K (q1 aY.L L) 100 4,sepL (q1 Kq L),blk ak [T ay (X ai.a.a) ah] 29,blk au [T s (X G.a.a) t] 111,row s (X G.a.a) t (q1 aH.L r) 159 6,sepL (q1 Kj r),nX dK kI vF (fe (fe (fe (fe (fe (fe [] 3 (Zv 38)) 5 (Zv 39)) 8 (Zv 40)) 10 (Zv 41)) 11 (Zv 42)) 12 (Zv 43))]++L')) (λ _ ⟨L',h⟩=>⟨[nX dK kI vF (fe (fe (fe (fe (fe (fe [] 3 (Zv 38)) 5 (Zv 39)) 8 (Zv 40)) 10 (Zv 41)) 11 (Zv 42)) 12 (Zv 43))]++L',h⟩) ⟨_,dx⟩ (qt (v:= .tuple #[.func (.func 40) #[] #[], Y Zj]) 3 Z (λ _ ⟨_,H9⟩=>K3 (k:=d.g) (d0:=(Zk:Option Nat)) (o:=(Zv (Zv 40))) (i:=13) H9 Z (pG y6) X6 ZY Z Z (by rw [show d.g=8 from by omega]; rfl)) (qv 4 Z Z (qk (.func (.func 40) #[] #[]) 5 Z (qk (Y Zj) 6 Z (qa 7 Z Z (qa 8 Z Z (qn (JY (JS (JS ?_))))))))))
 have rE:=dx.px [] [13] []
 refine kL 13 [] (J6 (J6 Kg)) rE ?_
 intro _ rF
 refine qv 0 Z Z (qk (Y O) 1 Z (qv 2 Z Z (J2 (v:= Zq (Zb (jP d M C Z5 E Z6 F))) (rs:= []) 3 Z Z Z Z f1 (λ _ ⟨_,H9⟩=>J5 Z (J7 (cs:=(jP d M C Z5 E Z6 F)) I0 I2 ((H9.cls (i:=1) Z).lit (k:=0) (m:=21) Z))) ?_)))
 obtain⟨dB,aZ⟩:=qq (fU d)
 obtain⟨_,om,eZ,oo,_⟩:=JZ rF
 refine KG 4 Z Z Z Z f1 (Ki X7 Z (pJ _ _ d M (X d.a.a) C Z5 (X d.B.a) E aW Z6 (X d.b.a) F dB om Z (eZ _ aS) U aF Z (eZ _ aT) U (λ Z7 Q=>⟨eZ _ (R Z7 Q).1,(R Z7 Q).2⟩) Z (eZ _ aU) U g6 aZ) ?_)
 rintro _ _ ⟨rfl,oq⟩
 have iH:=oo _ _ oq
 have wC:=rV aZ
 have wD:=rW aZ
 have wE:=tN aZ
 refine⟨.inr ⟨_,iH⟩, (J2 (v:= Za (¬ (dB=0))) (rs:= []) 5 Z Z Z Z f1 (λ _ _=>Kc (e:= !(Zw (dB=0))) yk ZW) (qt (v:= Za (¬ (dB=0))) 6 Z (λ _ _=>QK Z) (qv 7 Z Z ?_)))⟩
 by_cases aa:dB=0
 refine J2 (v:=vP dJ 2) (rs:= []) 8 Z Z Z (dF (Nu aa)) f1 (λ _ _=>yk) (J2 (v:=vI d.E) (rs:= []) 9 Z Z Z (dF (Nu aa)) f1 (λ _ ⟨_,H9⟩=>J5 Z (bO.one B8 (Kw (H9.cls (i:=1) Z) Z))) (J2 (v:=vP g0 0) (rs:= []) 10 Z Z Z (dF (Nu aa)) f1 (λ _ _=>J3 Z) (J2 (v:=vP g0 0) (rs:= []) 11 Z Z Z (dF (Nu aa)) f1 (λ _ _=>yk) (J2 (v:=vP g0 0) (rs:= []) 12 Z Z Z (dF (Nu aa)) f1 (λ _ _=>yk) (J2 (v:=vP g0 0) (rs:= []) 13 Z Z Z (dF (Nu aa)) f1 (λ _ _=>yk) (J2 (v:=vI a.a.r) (rs:= []) 14 Z Z Z (dF (Nu aa)) f1 (λ _ ⟨_,H9⟩=>J5 Z (bO.one B8 (Kw (H9.cls (i:=2) Z) Z))) (J2 (v:= Za (¬ (d.E=a.a.r))) (rs:= []) 15 Z Z Z (dF (Nu aa)) f1 (λ _ _=>Kc (e:= !(Zw (d.E=a.a.r))) yk ZW) (qt (v:= Za (¬ (d.E=a.a.r))) 16 Z (λ _ _=>JU Z (dF (Nu aa)) Z) (qn (JY ?_))))))))))
 by_cases dX:d.E=a.a.r
 refine jF (dF (Nu dX)) (sk (sr (Mz Z (Kz (Zq #[vP g0 0, T Zk 0 0, T Zk 0 0, Y O, T Zk 0 0]) (cB [vP g0 0, T Zk 0 0, T Zk 0 0, Y O, T Zk 0 0] 92 iH ?_)))))
 intro aP _ j4
 refine Ar Z (Mz Z (Kz (vP g0 0) (Kz (vP g0 0) (La (fV a.a.r a.a.y a.a.u a.a.z a.a.k p (X a.a.b.a) g u (X a.a.g.a) j y (X a.a.j.a) l a.a.t a.a.B a.a.s.a a.a.s.b a.a.a.k a.a.a.s a.a.a.a a.a.a.j.a a.a.a.j.b) j4 3 X4 S0 ?_))))
 obtain⟨aK,fo⟩:=qq (gB a.a)
 obtain⟨_,ou,_,ow,fq⟩:=JZ j4
 refine cl X5 (ko _ _ a.a p (X a.a.b.a) g u (X a.a.g.a) j B y (X a.a.j.a) l aK ou Z (fq _ 4 _ Z bB) U I Z (fq _ 5 _ Z bB) U (λ Z7 Q=>⟨fq _ 6 _ Z (bL (P6.2 ⟨Z7,Q,b3⟩) bB),di (φ:=λ _=>_) j4 (i:=6) Z (bL (P6.2 ⟨Z7,Q,b3⟩) dD)⟩) Z (fq _ 7 _ Z bB) U g5 (by first | assumption | exact λ _ Q=>absurd Q y2 | exact Tk.hops f8) fo) ?_
 rintro _ _ ⟨iI,gp,iJ,gq,iK,gu,rG,rfl,oz,j5⟩
 have iL:=ow _ _ oz
 have wG:=bf j5
 have wH:=zr 0 iL
 have wI:=zr 1 iL
 have wJ:=zr 3 iL
 refine cB (fV 0 0 0 0 0 Zk 0 0 Zk 0 0 Zk 0 0 0 0 [] [] 0 0 0 [] []) 42 iL ?_
 intro _ _ rH
 refine cu (gZ aK iI gp iJ gq iK gu) 0 rH S0 ?_
 intro j6 ma
 refine nt (JS (sr (Mz Z (Mz Z (La (jP d M C Z5 E Z6 F) ma 7 I0 I2 ?_)))))
 have rJ:=ma.sepNil
 have rM:=rJ.free (bW 47 21)
 have rP:=rM.free (bW 62 6)
 have rQ:=rP.pf [8,1,2,0,11,12]
 obtain⟨⟨dY,Z4,b⟩,fu⟩:=qq (jE (bD.q (bY.q (N []) (N []) O) (N [])) d a)
 obtain⟨_,oC,fA,oD,_⟩:=KS rQ
 refine WL.do Z (KA Tryz.call40 Z Z (xc _ _ aP (bD.q (bY.q (N []) (N []) O) (N [])) Zk 0 [] Zk 0 Zk 0 d M (X d.a.a) C Z5 (X d.B.a) E aW Z6 (X d.b.a) F g0 a p g u j y l J K ak au dY Z4 b oC Z Z (fA _ aS) U aF Z (fA _ aT) U (λ Z7 Q=>⟨fA _ (R Z7 Q).1,(R Z7 Q).2⟩) Z (fA _ aU) U f2 fu) ?_)
 rintro _ _ ⟨bK,bN,mf,bP,bQ,dZ,dM,rfl,oF,gY⟩
 have iM:=oD _ _ oF
 have wL:=bf gY
 have wM:=zr 1 iM
 have wN:=zr 3 iM
 have wO:=zr 5 iM
 refine An Z (JS ?_)
 have mg:=iM.px [] [12] []
 refine JW (Mz Z (fw (Za (¬ (dY=0))) (Kc (e:= !(Zw (dY=0))) yk ZW) (nt ?_)))
 by_cases gy:dY=0
 refine jF (dF (Nu gy)) (sk (JS (kL 21 [20] (J6 Kg) mg ?_)))
 intro _ iO
 refine qv 0 Z Z (qv 1 Z Z (qp aP 0 2 Z (qp aP 1 3 Z (qp aP 2 4 Z (ql 5 Z 0 Q9 Z Z Z (qk (vJ (X Z4.a.a.a)) 6 Z (qk (Za ((X Z4.a.a.a:Int) > 0)) 7 Z (qv 8 Z Z ?_))))))))
 by_cases aA:(X Z4.a.a.a:Int) > 0
 refine JV (rs:= [[]]) 9 Z Z Z (dT aA) f1 (JV (rs:= [[]]) 10 Z Z Z (dT aA) f1 (JV (rs:= [[]]) 11 Z Z Z (dT aA) f1 (JV (rs:= [[]]) 12 Z Z Z (dT aA) f1 (JV (rs:= [[]]) 13 Z Z Z (dT aA) f1 (JV (rs:= [[]]) 14 Z Z Z (dT aA) f1 (JV (rs:= [[]]) 15 Z Z Z (dT aA) f1 (qt (v:= Y Zj) 16 Z (λ _ _=>JX Z (dT aA) Z) (qp aP 0 17 Z (qp aP 1 18 Z (qp aP 3 19 Z (qe 20 Z (Do.store (vs:= [Y Zj]) (o:=3) iO Z Z X9 Z Z Z Z ?_))))))))))))
 intro _ rR
 refine⟨.inl f1, (qn (JY (JS ?_)))⟩
 have mh:=rR.px [] [6,7,8,9,10] []
 refine JW (Mz Z (Kz (vP aP 0) (Kz (vP aP 1) (La ([T bK (X Z4.a.b.a) bN, T bP (X Z4.a.a.a) bQ, Y Zj]) mh 0 Y0 Y1 ?_))))
 have rT:=mh.pf [6]
 refine cu [T bK (X Z4.a.b.a) bN, T bP (X Z4.a.a.a) bQ, Y Zj] 0 rT Y1 ?_
 intro _ mi
 refine An Z (rt (Ke (fQ (vs:= [Zq #[T bK (X Z4.a.b.a) bN, T bP (X Z4.a.a.a) bQ, Y Zj],vI 0]) Z (bS.cell Z (J7 (cs:= [T bK (X Z4.a.b.a) bN, T bP (X Z4.a.a.a) bQ, Y Zj]) Y0 Y1 ((mi.cls (i:=0) Z).lit (k:=0) (m:=3) Z)) (bS.tmp Z bS.nil)) (Nr Z)) ?_))
 have rU:=mi.px [] [0,1] []
 obtain⟨rfl,rfl,rfl,rfl⟩:=eQ (zj hr (show _=(bY.q (N Z4.a.b.a) (N Z4.a.a.a) Zj,0,aB.q (bH.q b.a.r b.a.y b.a.u b.a.z b.a.k (N b.a.b.a) (N a.a.g.a) (N a.a.j.a) b.a.t b.a.B b.a.s b.a.a) (N a.b.a),G) from V (iN aD) (V (iN av) (V (ip aJ) (V (ae aZ) (V (ip aa) (V (ip dX) (V (ae fo) (V (ae fu) (V (ip gy) (ip aA))))))))))).symm
 exact⟨bK,bN,bP,bQ,mf,dZ,dM,u,j,B,y,l,J,K,L,s,t,r,Z,rU,gY,I,P,z⟩
 refine J2 (v:= Zq (Zb (gZ aK iI gp iJ gq iK gu))) (rs:= [[]]) 9 Z Z Z (dF aA) f1 (λ _ ⟨_,H9⟩=>J5 Z (J7 (cs:=(gZ aK iI gp iJ gq iK gu)) X4 S0 ((H9.cls (i:=6) Z).lit (k:=0) (m:=17) Z))) (J2 (v:=vP g0 0) (rs:= [[]]) 10 Z Z Z (dF aA) f1 (λ _ _=>J3 Z) (J2 (v:=vP g0 0) (rs:= [[]]) 11 Z Z Z (dF aA) f1 (λ _ _=>yk) (J2 (v:=vP g0 0) (rs:= [[]]) 12 Z Z Z (dF aA) f1 (λ _ _=>yk) (J2 (v:= Zq (Zb (fV b.a.r b.a.y b.a.u b.a.z b.a.k dZ (X b.a.b.a) dM u (X a.a.g.a) j y (X a.a.j.a) l b.a.t b.a.B b.a.s.a b.a.s.b b.a.a.k b.a.a.s b.a.a.a b.a.a.j.a b.a.a.j.b))) (rs:= [[]]) 13 Z Z Z (dF aA) f1 (λ _ ⟨_,H9⟩=>J5 Z (J7 (cs:=(fV b.a.r b.a.y b.a.u b.a.z b.a.k dZ (X b.a.b.a) dM u (X a.a.g.a) j y (X a.a.j.a) l b.a.t b.a.B b.a.s.a b.a.s.b b.a.a.k b.a.a.s b.a.a.a b.a.a.j.a b.a.a.j.b)) X4 S0 ((H9.cls (i:=4) Z).lit (k:=0) (m:=17) Z))) ?_))))
 obtain⟨df,kg⟩:=qq (jd aK (bH.q b.a.r b.a.y b.a.u b.a.z b.a.k (N b.a.b.a) (N a.a.g.a) (N a.a.j.a) b.a.t b.a.B b.a.s b.a.a))
 obtain⟨_,oG,_,oH,bu⟩:=JZ iO
 refine KG 14 Z Z Z (dF aA) f1 (Ki X8 Z (nC _ _ aK iI (X aK.b.a) gp iJ (X aK.g.a) gq rG iK (X aK.j.a) gu (bH.q b.a.r b.a.y b.a.u b.a.z b.a.k (N b.a.b.a) (N a.a.g.a) (N a.a.j.a) b.a.t b.a.B b.a.s b.a.a) dZ (X b.a.b.a) dM u (X a.a.g.a) j B y (X a.a.j.a) l df oG Z (bu _ 7 _ Z bB) U j5 Z (bu _ 8 _ Z bB) U (λ Z7 Q=>⟨bu _ 9 _ Z (bL (P6.2 ⟨Z7,Q,b3⟩) bB),di (φ:=λ _=>_) iO (i:=9) Z (bL (P6.2 ⟨Z7,Q,b3⟩) dD)⟩) Z (bu _ 10 _ Z bB) U Z (bu _ 5 _ Z bB) U I Z (bu _ 12 _ Z bB) U (λ Z7 Q=>⟨bu _ 13 _ Z (bL (P6.2 ⟨Z7,Q,b3⟩) bB),di (φ:=λ _=>_) iO (i:=13) Z (bL (P6.2 ⟨Z7,Q,b3⟩) dD)⟩) Z (bu _ 14 _ Z bB) U kg) ?_)
 rintro _ _ ⟨rfl,oI⟩
 have mo:=oH _ _ oI
 refine⟨.inr ⟨_,mo⟩, (J2 (v:= Y (!df)) (rs:= [[]]) 15 Z Z Z (dF aA) f1 (λ _ _=>yk) (qt (v:= Y (!df)) 16 Z (λ _ _=>JU Z (dF aA) Z) (qp aP 0 17 Z (qp aP 1 18 Z (qp aP 3 19 Z (qe 20 Z (Do.store (vs:= [Y (!df)]) (o:=3) mo Z Z X9 Z Z Z Z ?_)))))))⟩
 intro _ rX
 refine⟨.inl f1, (qn (JY (JS ?_)))⟩
 have mq:=rX.px [] [6,7,8,9,10] []
 refine JW (Mz Z (Kz (vP aP 0) (Kz (vP aP 1) (La ([T bK (X Z4.a.b.a) bN, T bP (X Z4.a.a.a) bQ, Y (!df)]) mq 0 Y0 Y1 ?_))))
 have rY:=mq.pf [6]
 refine cu [T bK (X Z4.a.b.a) bN, T bP (X Z4.a.a.a) bQ, Y (!df)] 0 rY Y1 ?_
 intro _ mr
 refine An Z (rt (Ke (fQ (vs:= [Zq #[T bK (X Z4.a.b.a) bN, T bP (X Z4.a.a.a) bQ, Y (!df)],vI 0]) Z (bS.cell Z (J7 (cs:= [T bK (X Z4.a.b.a) bN, T bP (X Z4.a.a.a) bQ, Y (!df)]) Y0 Y1 ((mr.cls (i:=0) Z).lit (k:=0) (m:=3) Z)) (bS.tmp Z bS.nil)) (Nr Z)) ?_))
 have rZ:=mr.px [] [0,1] []
 obtain⟨rfl,rfl,rfl,rfl⟩:=eQ (zj hr (show _=(bY.q (N Z4.a.b.a) (N Z4.a.a.a) (!df),0,aB.q (bH.q b.a.r b.a.y b.a.u b.a.z b.a.k (N b.a.b.a) (N a.a.g.a) (N a.a.j.a) b.a.t b.a.B b.a.s b.a.a) (N a.b.a),G) from V (iN aD) (V (iN av) (V (ip aJ) (V (ae aZ) (V (ip aa) (V (ip dX) (V (ae fo) (V (ae fu) (V (ip gy) (V (iN aA) (ae kg)))))))))))).symm
 exact⟨bK,bN,bP,bQ,mf,dZ,dM,u,j,B,y,l,J,K,L,s,t,r,Z,rZ,gY,I,P,z⟩
 refine jT (dT gy) (sr (Kz (Zq #[T Zk 0 0, T Zk 0 0, Y O]) (Mz Z ?_)))
 have r9:=mg.pf [11]
 refine cu [T Zk 0 0, T Zk 0 0, Y O] 0 r9 Y1 ?_
 intro kr mD
 refine An Z (rt (tR (Ke (fQ (vs:= [Zq #[T Zk 0 0, T Zk 0 0, Y O],vI dY]) Z (bS.cell Z (J7 (cs:= [T Zk 0 0, T Zk 0 0, Y O]) Y0 Y1 ((mD.cls (i:=0) Z).lit (k:=0) (m:=3) Z)) (bS.tmp Z bS.nil)) (Nr Z)) ?_)))
 have si:=mD.sepNil
 have sj:=si.free (bW 47 21)
 have su:=sj.free (bW 62 6)
 have sw:=su.px [1,2] [3,4,5,6,7,10,11,12,13,14] []
 obtain⟨rfl,rfl,rfl,rfl⟩:=eQ (zj hr (show _=(bY.q (N []) (N []) O,dY,aB.q (bH.q b.a.r b.a.y b.a.u b.a.z b.a.k (N b.a.b.a) (N a.a.g.a) (N a.a.j.a) b.a.t b.a.B b.a.s b.a.a) (N a.b.a),G) from V (iN aD) (V (iN av) (V (ip aJ) (V (ae aZ) (V (ip aa) (V (ip dX) (V (ae fo) (V (ae fu) (iN gy)))))))))).symm
 exact⟨Zk,0,Zk,0, [],dZ,dM,u,j,B,y,l,J,K,L,s,t,r,Z,sw,Z,I,P,z⟩
 refine jT (dT dX) (sr (Kz (Zq #[T Zk 0 0, T Zk 0 0, Y O]) (cu [T Zk 0 0, T Zk 0 0, Y O] 0 iH Y1 ?_)))
 intro ku mE
 refine An Z (rt (tR (Ke (fQ (vs:= [Zq #[T Zk 0 0, T Zk 0 0, Y O],vI 180]) Z (bS.cell Z (J7 (cs:= [T Zk 0 0, T Zk 0 0, Y O]) Y0 Y1 ((mE.cls (i:=0) Z).lit (k:=0) (m:=3) Z)) (bS.tmp Z bS.nil)) (Nr Z)) ?_)))
 have sD:=mE.sepNil
 have sF:=sD.free (bW 47 21)
 have sG:=sF.free (bW 62 6)
 have sH:=sG.px [1,2] [3,4] []
 obtain⟨rfl,rfl,rfl,rfl⟩:=eQ (zj hr (show _=(bY.q (N []) (N []) O,180,a,G) from V (iN aD) (V (iN av) (V (ip aJ) (V (ae aZ) (V (ip aa) (iN dX))))))).symm
 exact⟨Zk,0,Zk,0, [],p,g,u,j,B,y,l,J,K,L,s,t,r,Z,sH,Z,I,P,z⟩
 refine JV (rs:= []) 8 Z Z Z (dT aa) f1 (JV (rs:= []) 9 Z Z Z (dT aa) f1 (JV (rs:= []) 10 Z Z Z (dT aa) f1 (JV (rs:= []) 11 Z Z Z (dT aa) f1 (JV (rs:= []) 12 Z Z Z (dT aa) f1 (JV (rs:= []) 13 Z Z Z (dT aa) f1 (JV (rs:= []) 14 Z Z Z (dT aa) f1 (JV (rs:= []) 15 Z Z Z (dT aa) f1 (qt (v:= Y Zj) 16 Z (λ _ _=>JX Z (dT aa) Z) (qn (JY (jt (sr (Kz (Zq #[T Zk 0 0, T Zk 0 0, Y O]) (cu [T Zk 0 0, T Zk 0 0, Y O] 0 iH Y1 ?_))))))))))))))
 intro kv mF
 refine An Z (rt (tR (Ke (fQ (vs:= [Zq #[T Zk 0 0, T Zk 0 0, Y O],vI 180]) Z (bS.cell Z (J7 (cs:= [T Zk 0 0, T Zk 0 0, Y O]) Y0 Y1 ((mF.cls (i:=0) Z).lit (k:=0) (m:=3) Z)) (bS.tmp Z bS.nil)) (Nr Z)) ?_)))
 have sI:=mF.sepNil
 have sJ:=sI.free (bW 47 21)
 have sK:=sJ.free (bW 62 6)
 have sM:=sK.px [1,2] [3,4] []
 obtain⟨rfl,rfl,rfl,rfl⟩:=eQ (zj hr (show _=(bY.q (N []) (N []) O,180,a,G) from V (iN aD) (V (iN av) (V (ip aJ) (V (ae aZ) (iN aa)))))).symm
 exact⟨Zk,0,Zk,0, [],p,g,u,j,B,y,l,J,K,L,s,t,r,Z,sM,Z,I,P,z⟩
 by_cases bR:d.g=5
 refine Lc (Good':=λ Z8=> ∃ L',Own w D Z8 ([blk jh [T Zk 0 0, T Zk 0 0, Y O] 52,blk dJ (jP d M C Z5 E Z6 F) 47,blk g0 (kB a p (X a.a.b.a) g u (X a.a.g.a) j y (X a.a.j.a) l a.a.t ak J (X a.b.a) K au) 78,row p (X a.a.b.a) g (q1 bF.L a.a.b.a) 83 2,row u (X a.a.g.a) j (q1 bA.L B) 80 2,sepL (q1 Ky B),row y (X a.a.j.a) l (q1 (eN .u64) a.a.j.a) 33 1,row J (X a.b.a) K (q1 aY.L L) 100 4,sepL (q1 Kq L),blk ak [T ay (X ai.a.a) ah] 29,blk au [T s (X G.a.a) t] 111,row s (X G.a.a) t (q1 aH.L r) 159 6,sepL (q1 Kj r),nX dK kI vF (fe (fe (fe (fe (fe (fe [] 3 (Zv 38)) 5 (Zv 39)) 8 (Zv 40)) 10 (Zv 41)) 11 (Zv 42)) 12 (Zv 43))]++L')) (λ _ ⟨L',h⟩=>⟨[nX dK kI vF (fe (fe (fe (fe (fe (fe [] 3 (Zv 38)) 5 (Zv 39)) 8 (Zv 40)) 10 (Zv 41)) 11 (Zv 42)) 12 (Zv 43))]++L',h⟩) ⟨_,dx⟩ (qt (v:= .tuple #[.func (.func 39) #[] #[], Y Zj]) 3 Z (λ _ ⟨_,H9⟩=>K3 (k:=d.g) (d0:=(Zk:Option Nat)) (o:=(Zv (Zv 39))) (i:=13) H9 Z (pG y6) X6 ZY Z Z (by rw [show d.g=5 from by omega]; rfl)) (qv 4 Z Z (qk (.func (.func 39) #[] #[]) 5 Z (qk (Y Zj) 6 Z (qa 7 Z Z (qa 8 Z Z (qn (JY (JS (JS ?_))))))))))
 have sN:=dx.px [] [13] []
 refine kL 13 [] (J6 (J6 Kg)) sN ?_
 intro _ sO
 refine qv 0 Z Z (qk (Y O) 1 Z (qv 2 Z Z (J2 (v:= Zq (Zb (jP d M C Z5 E Z6 F))) (rs:= []) 3 Z Z Z Z f1 (λ _ ⟨_,H9⟩=>J5 Z (J7 (cs:=(jP d M C Z5 E Z6 F)) I0 I2 ((H9.cls (i:=1) Z).lit (k:=0) (m:=21) Z))) ?_)))
 obtain⟨dE,bg⟩:=qq (fU d)
 obtain⟨_,oJ,fB,oK,_⟩:=JZ sO
 refine KG 4 Z Z Z Z f1 (Ki X7 Z (pJ _ _ d M (X d.a.a) C Z5 (X d.B.a) E aW Z6 (X d.b.a) F dE oJ Z (fB _ aS) U aF Z (fB _ aT) U (λ Z7 Q=>⟨fB _ (R Z7 Q).1,(R Z7 Q).2⟩) Z (fB _ aU) U g6 bg) ?_)
 rintro _ _ ⟨rfl,oL⟩
 have iP:=oK _ _ oL
 have wR:=rV bg
 have wS:=rW bg
 have wT:=tN bg
 refine⟨.inr ⟨_,iP⟩, (J2 (v:= Za (¬ (dE=0))) (rs:= []) 5 Z Z Z Z f1 (λ _ _=>Kc (e:= !(Zw (dE=0))) yk ZW) (qt (v:= Za (¬ (dE=0))) 6 Z (λ _ _=>QK Z) (qv 7 Z Z ?_)))⟩
 by_cases af:dE=0
 refine J2 (v:=vP dJ 2) (rs:= []) 8 Z Z Z (dF (Nu af)) f1 (λ _ _=>yk) (J2 (v:=vI d.E) (rs:= []) 9 Z Z Z (dF (Nu af)) f1 (λ _ ⟨_,H9⟩=>J5 Z (bO.one B8 (Kw (H9.cls (i:=1) Z) Z))) (J2 (v:=vP g0 0) (rs:= []) 10 Z Z Z (dF (Nu af)) f1 (λ _ _=>J3 Z) (J2 (v:=vP g0 0) (rs:= []) 11 Z Z Z (dF (Nu af)) f1 (λ _ _=>yk) (J2 (v:=vP g0 0) (rs:= []) 12 Z Z Z (dF (Nu af)) f1 (λ _ _=>yk) (J2 (v:=vP g0 0) (rs:= []) 13 Z Z Z (dF (Nu af)) f1 (λ _ _=>yk) (J2 (v:=vI a.a.r) (rs:= []) 14 Z Z Z (dF (Nu af)) f1 (λ _ ⟨_,H9⟩=>J5 Z (bO.one B8 (Kw (H9.cls (i:=2) Z) Z))) (J2 (v:= Za (¬ (d.E=a.a.r))) (rs:= []) 15 Z Z Z (dF (Nu af)) f1 (λ _ _=>Kc (e:= !(Zw (d.E=a.a.r))) yk ZW) (qt (v:= Za (¬ (d.E=a.a.r))) 16 Z (λ _ _=>JU Z (dF (Nu af)) Z) (qn (JY ?_))))))))))
 by_cases d9:d.E=a.a.r
 refine jF (dF (Nu d9)) (sk (sr (Mz Z (Kz (Zq #[vP g0 0, T Zk 0 0, T Zk 0 0, Y O, T Zk 0 0]) (cB [vP g0 0, T Zk 0 0, T Zk 0 0, Y O, T Zk 0 0] 92 iP ?_)))))
 intro aR _ kw
 refine Ar Z (Mz Z (Kz (vP g0 0) (Kz (vP g0 0) (La (fV a.a.r a.a.y a.a.u a.a.z a.a.k p (X a.a.b.a) g u (X a.a.g.a) j y (X a.a.j.a) l a.a.t a.a.B a.a.s.a a.a.s.b a.a.a.k a.a.a.s a.a.a.a a.a.a.j.a a.a.a.j.b) kw 3 X4 S0 ?_))))
 obtain⟨aL,fC⟩:=qq (gB a.a)
 obtain⟨_,oM,_,oN,fD⟩:=JZ kw
 refine cl X5 (ko _ _ a.a p (X a.a.b.a) g u (X a.a.g.a) j B y (X a.a.j.a) l aL oM Z (fD _ 4 _ Z bB) U I Z (fD _ 5 _ Z bB) U (λ Z7 Q=>⟨fD _ 6 _ Z (bL (P6.2 ⟨Z7,Q,b3⟩) bB),di (φ:=λ _=>_) kw (i:=6) Z (bL (P6.2 ⟨Z7,Q,b3⟩) dD)⟩) Z (fD _ 7 _ Z bB) U g5 (by first | assumption | exact λ _ Q=>absurd Q y2 | exact Tk.hops f8) fC) ?_
 rintro _ _ ⟨iQ,gz,iR,gD,iT,gF,sP,rfl,oO,ky⟩
 have iV:=oN _ _ oO
 have wV:=bf ky
 have wW:=zr 0 iV
 have wX:=zr 1 iV
 have wY:=zr 3 iV
 refine cB (fV 0 0 0 0 0 Zk 0 0 Zk 0 0 Zk 0 0 0 0 [] [] 0 0 0 [] []) 42 iV ?_
 intro _ _ sQ
 refine cu (gZ aL iQ gz iR gD iT gF) 0 sQ S0 ?_
 intro iW mG
 refine nt (JS (sr (Mz Z (Mz Z (La (jP d M C Z5 E Z6 F) mG 7 I0 I2 ?_)))))
 have sS:=mG.sepNil
 have sU:=sS.free (bW 47 21)
 have sV:=sU.free (bW 62 6)
 have sW:=Own.upQ (sV.free (bW 211 2))
 have sZ:=sW.px [9,2,3,1] [] [4,5,6,7,8,10,11,13]
 obtain⟨⟨ed,Z1,Z2,iX⟩,fE⟩:=qq (iU (bD.q (bY.q (N []) (N []) O) (N [])) d a ai G)
 obtain⟨_,oP,dN,oQ,_⟩:=Mk sZ
 refine WL.do Z (KA Tryz.call39 Z Z (xg _ _ aR (bD.q (bY.q (N []) (N []) O) (N [])) Zk 0 [] Zk 0 Zk 0 d M (X d.a.a) C Z5 (X d.B.a) E aW Z6 (X d.b.a) F g0 a p g u j B y l J K L ak ai ay ah au G s t r ed Z1 Z2 iX oP Z Z (dN _ aS) U aF Z (dN _ aT) U (λ Z7 Q=>⟨dN _ (R Z7 Q).1,(R Z7 Q).2⟩) Z (dN _ aU) U I P (dN _ fK) U z f8 f8 j0 (by first | omega | exact Tk.n f8) (by first | omega | exact Tk.rows f8) f2 f2 fE) ?_)
 rintro _ _ ⟨bT,bU,mH,bX,bZ,_,_,ek,dO,iY,eu,dP,kz,kC,kD,kE,kF,kG,rfl,oU,ib,dQ,fF,fG⟩
 have dG:=oQ _ _ oU
 have w9:=bf ib
 have xh:=bf dQ
 have xk:=bf fF
 have xm:=bf fG
 have xn:=zr 1 dG
 have xq:=zr 3 dG
 have xu:=dG.rowCQ (i:=4) Z
 have xw:=zr 6 dG
 have xx:=zr 8 dG
 have xy:=zr 9 dG
 have xz:=zr 13 dG
 refine An Z (JS ?_)
 have mI:=dG.px [] [21] []
 refine JW (Mz Z (fw (Za (¬ (ed=0))) (Kc (e:= !(Zw (ed=0))) yk ZW) (nt ?_)))
 by_cases gG:ed=0
 refine jF (dF (Nu gG)) (sk (JS (kL 22 [20] (J6 Kg) mI ?_)))
 intro _ iZ
 refine qv 0 Z Z (qv 1 Z Z (qp aR 0 2 Z (qp aR 1 3 Z (qp aR 2 4 Z (ql 5 Z 0 Q9 Z Z Z (qk (vJ (X Z1.a.a.a)) 6 Z (qk (Za ((X Z1.a.a.a:Int) > 0)) 7 Z (qv 8 Z Z ?_))))))))
 by_cases aC:(X Z1.a.a.a:Int) > 0
 refine JV (rs:= [[]]) 9 Z Z Z (dT aC) f1 (JV (rs:= [[]]) 10 Z Z Z (dT aC) f1 (JV (rs:= [[]]) 11 Z Z Z (dT aC) f1 (JV (rs:= [[]]) 12 Z Z Z (dT aC) f1 (JV (rs:= [[]]) 13 Z Z Z (dT aC) f1 (JV (rs:= [[]]) 14 Z Z Z (dT aC) f1 (JV (rs:= [[]]) 15 Z Z Z (dT aC) f1 (qt (v:= Y Zj) 16 Z (λ _ _=>JX Z (dT aC) Z) (qp aR 0 17 Z (qp aR 1 18 Z (qp aR 3 19 Z (qe 20 Z (Do.store (vs:= [Y Zj]) (o:=3) iZ Z Z X9 Z Z Z Z ?_))))))))))))
 intro _ tq
 refine⟨.inl f1, (qn (JY (JS ?_)))⟩
 have mJ:=tq.px [] [15,16,17,18,19] []
 refine JW (Mz Z (Kz (vP aR 0) (Kz (vP aR 1) (La ([T bT (X Z1.a.b.a) bU, T bX (X Z1.a.a.a) bZ, Y Zj]) mJ 0 Y0 Y1 ?_))))
 have tu:=mJ.pf [15]
 refine cu [T bT (X Z1.a.b.a) bU, T bX (X Z1.a.a.a) bZ, Y Zj] 0 tu Y1 ?_
 intro _ mK
 refine An Z (rt (Ke (fQ (vs:= [Zq #[T bT (X Z1.a.b.a) bU, T bX (X Z1.a.a.a) bZ, Y Zj],vI 0]) Z (bS.cell Z (J7 (cs:= [T bT (X Z1.a.b.a) bU, T bX (X Z1.a.a.a) bZ, Y Zj]) Y0 Y1 ((mK.cls (i:=0) Z).lit (k:=0) (m:=3) Z)) (bS.tmp Z bS.nil)) (Nr Z)) ?_))
 have tC:=mK.px [2,3,4,6,16] [0,1,5] []
 obtain⟨rfl,rfl,rfl,rfl⟩:=eQ (zj hr (show _=(bY.q (N Z1.a.b.a) (N Z1.a.a.a) Zj,0,aB.q (bH.q a.a.r a.a.y a.a.u a.a.z a.a.k (N a.a.b.a) (N Z2.a.g.a) (N Z2.a.j.a) a.a.t a.a.B a.a.s a.a.a) (N Z2.b.a),iX) from V (iN aD) (V (iN av) (V (iN aJ) (V (ip bR) (V (ae bg) (V (ip af) (V (ip d9) (V (ae fC) (V (ae fE) (V (ip gG) (ip aC))))))))))))
 exact⟨bT,bU,bX,bZ,mH,p,g,ek,dO,iY,eu,dP,kz,kC,kD,kE,kF,kG,Z,tC,ib,dQ,fF,fG⟩
 refine J2 (v:= Zq (Zb (gZ aL iQ gz iR gD iT gF))) (rs:= [[]]) 9 Z Z Z (dF aC) f1 (λ _ ⟨_,H9⟩=>J5 Z (J7 (cs:=(gZ aL iQ gz iR gD iT gF)) X4 S0 ((H9.cls (i:=15) Z).lit (k:=0) (m:=17) Z))) (J2 (v:=vP g0 0) (rs:= [[]]) 10 Z Z Z (dF aC) f1 (λ _ _=>J3 Z) (J2 (v:=vP g0 0) (rs:= [[]]) 11 Z Z Z (dF aC) f1 (λ _ _=>yk) (J2 (v:=vP g0 0) (rs:= [[]]) 12 Z Z Z (dF aC) f1 (λ _ _=>yk) (J2 (v:= Zq (Zb (fV a.a.r a.a.y a.a.u a.a.z a.a.k p (X a.a.b.a) g ek (X Z2.a.g.a) dO eu (X Z2.a.j.a) dP a.a.t a.a.B a.a.s.a a.a.s.b a.a.a.k a.a.a.s a.a.a.a a.a.a.j.a a.a.a.j.b))) (rs:= [[]]) 13 Z Z Z (dF aC) f1 (λ _ ⟨_,H9⟩=>J5 Z (J7 (cs:=(fV a.a.r a.a.y a.a.u a.a.z a.a.k p (X a.a.b.a) g ek (X Z2.a.g.a) dO eu (X Z2.a.j.a) dP a.a.t a.a.B a.a.s.a a.a.s.b a.a.a.k a.a.a.s a.a.a.a a.a.a.j.a a.a.a.j.b)) X4 S0 ((H9.cls (i:=5) Z).lit (k:=0) (m:=17) Z))) ?_))))
 obtain⟨dh,kH⟩:=qq (jd aL (bH.q a.a.r a.a.y a.a.u a.a.z a.a.k (N a.a.b.a) (N Z2.a.g.a) (N Z2.a.j.a) a.a.t a.a.B a.a.s a.a.a))
 obtain⟨_,oV,_,oW,bv⟩:=JZ iZ
 refine KG 14 Z Z Z (dF aC) f1 (Ki X8 Z (nC _ _ aL iQ (X aL.b.a) gz iR (X aL.g.a) gD sP iT (X aL.j.a) gF (bH.q a.a.r a.a.y a.a.u a.a.z a.a.k (N a.a.b.a) (N Z2.a.g.a) (N Z2.a.j.a) a.a.t a.a.B a.a.s a.a.a) p (X a.a.b.a) g ek (X Z2.a.g.a) dO iY eu (X Z2.a.j.a) dP dh oV Z (bv _ 16 _ Z bB) U ky Z (bv _ 17 _ Z bB) U (λ Z7 Q=>⟨bv _ 18 _ Z (bL (P6.2 ⟨Z7,Q,b3⟩) bB),di (φ:=λ _=>_) iZ (i:=18) Z (bL (P6.2 ⟨Z7,Q,b3⟩) dD)⟩) Z (bv _ 19 _ Z bB) U Z (bv _ 21 _ Z bB) U dQ Z (bv _ 6 _ Z bB) U (λ Z7 Q=>⟨bv _ 7 _ Z (bL (P6.2 ⟨Z7,Q,b3⟩) bB),di (φ:=λ _=>_) iZ (i:=7) Z (bL (P6.2 ⟨Z7,Q,b3⟩) dD)⟩) Z (bv _ 8 _ Z bB) U kH) ?_)
 rintro _ _ ⟨rfl,oZ⟩
 have mM:=oW _ _ oZ
 refine⟨.inr ⟨_,mM⟩, (J2 (v:= Y (!dh)) (rs:= [[]]) 15 Z Z Z (dF aC) f1 (λ _ _=>yk) (qt (v:= Y (!dh)) 16 Z (λ _ _=>JU Z (dF aC) Z) (qp aR 0 17 Z (qp aR 1 18 Z (qp aR 3 19 Z (qe 20 Z (Do.store (vs:= [Y (!dh)]) (o:=3) mM Z Z X9 Z Z Z Z ?_)))))))⟩
 intro _ tF
 refine⟨.inl f1, (qn (JY (JS ?_)))⟩
 have mO:=tF.px [] [15,16,17,18,19] []
 refine JW (Mz Z (Kz (vP aR 0) (Kz (vP aR 1) (La ([T bT (X Z1.a.b.a) bU, T bX (X Z1.a.a.a) bZ, Y (!dh)]) mO 0 Y0 Y1 ?_))))
 have tH:=mO.pf [15]
 refine cu [T bT (X Z1.a.b.a) bU, T bX (X Z1.a.a.a) bZ, Y (!dh)] 0 tH Y1 ?_
 intro _ mP
 refine An Z (rt (Ke (fQ (vs:= [Zq #[T bT (X Z1.a.b.a) bU, T bX (X Z1.a.a.a) bZ, Y (!dh)],vI 0]) Z (bS.cell Z (J7 (cs:= [T bT (X Z1.a.b.a) bU, T bX (X Z1.a.a.a) bZ, Y (!dh)]) Y0 Y1 ((mP.cls (i:=0) Z).lit (k:=0) (m:=3) Z)) (bS.tmp Z bS.nil)) (Nr Z)) ?_))
 have tJ:=mP.px [2,3,4,6,16] [0,1,5] []
 obtain⟨rfl,rfl,rfl,rfl⟩:=eQ (zj hr (show _=(bY.q (N Z1.a.b.a) (N Z1.a.a.a) (!dh),0,aB.q (bH.q a.a.r a.a.y a.a.u a.a.z a.a.k (N a.a.b.a) (N Z2.a.g.a) (N Z2.a.j.a) a.a.t a.a.B a.a.s a.a.a) (N Z2.b.a),iX) from V (iN aD) (V (iN av) (V (iN aJ) (V (ip bR) (V (ae bg) (V (ip af) (V (ip d9) (V (ae fC) (V (ae fE) (V (ip gG) (V (iN aC) (ae kH)))))))))))))
 exact⟨bT,bU,bX,bZ,mH,p,g,ek,dO,iY,eu,dP,kz,kC,kD,kE,kF,kG,Z,tJ,ib,dQ,fF,fG⟩
 refine jT (dT gG) (sr (Kz (Zq #[T Zk 0 0, T Zk 0 0, Y O]) (Mz Z ?_)))
 have tK:=mI.pf [20]
 refine cu [T Zk 0 0, T Zk 0 0, Y O] 0 tK Y1 ?_
 intro kJ mQ
 refine An Z (rt (tR (Ke (fQ (vs:= [Zq #[T Zk 0 0, T Zk 0 0, Y O],vI ed]) Z (bS.cell Z (J7 (cs:= [T Zk 0 0, T Zk 0 0, Y O]) Y0 Y1 ((mQ.cls (i:=0) Z).lit (k:=0) (m:=3) Z)) (bS.tmp Z bS.nil)) (Nr Z)) ?_)))
 have tL:=mQ.sepNil
 have tO:=tL.free (bW 47 21)
 have tQ:=tO.free (bW 62 6)
 have tT:=tQ.pk [1,2,0,9,24,10,11,12,13,14,15,16,17,18]
 obtain⟨rfl,rfl,rfl,rfl⟩:=eQ (zj hr (show _=(bY.q (N []) (N []) O,ed,aB.q (bH.q a.a.r a.a.y a.a.u a.a.z a.a.k (N a.a.b.a) (N Z2.a.g.a) (N Z2.a.j.a) a.a.t a.a.B a.a.s a.a.a) (N Z2.b.a),iX) from V (iN aD) (V (iN av) (V (iN aJ) (V (ip bR) (V (ae bg) (V (ip af) (V (ip d9) (V (ae fC) (V (ae fE) (iN gG)))))))))))
 exact⟨Zk,0,Zk,0, [],p,g,ek,dO,iY,eu,dP,kz,kC,kD,kE,kF,kG,Z,tT,Z,dQ,fF,fG⟩
 refine jT (dT d9) (sr (Kz (Zq #[T Zk 0 0, T Zk 0 0, Y O]) (cu [T Zk 0 0, T Zk 0 0, Y O] 0 iP Y1 ?_)))
 intro kK mR
 refine An Z (rt (tR (Ke (fQ (vs:= [Zq #[T Zk 0 0, T Zk 0 0, Y O],vI 180]) Z (bS.cell Z (J7 (cs:= [T Zk 0 0, T Zk 0 0, Y O]) Y0 Y1 ((mR.cls (i:=0) Z).lit (k:=0) (m:=3) Z)) (bS.tmp Z bS.nil)) (Nr Z)) ?_)))
 have tV:=mR.sepNil
 have tX:=tV.free (bW 47 21)
 have tY:=tX.free (bW 62 6)
 have tZ:=tY.px [1,2] [3,4] []
 obtain⟨rfl,rfl,rfl,rfl⟩:=eQ (zj hr (show _=(bY.q (N []) (N []) O,180,a,G) from V (iN aD) (V (iN av) (V (iN aJ) (V (ip bR) (V (ae bg) (V (ip af) (iN d9)))))))).symm
 exact⟨Zk,0,Zk,0, [],p,g,u,j,B,y,l,J,K,L,s,t,r,Z,tZ,Z,I,P,z⟩
 refine JV (rs:= []) 8 Z Z Z (dT af) f1 (JV (rs:= []) 9 Z Z Z (dT af) f1 (JV (rs:= []) 10 Z Z Z (dT af) f1 (JV (rs:= []) 11 Z Z Z (dT af) f1 (JV (rs:= []) 12 Z Z Z (dT af) f1 (JV (rs:= []) 13 Z Z Z (dT af) f1 (JV (rs:= []) 14 Z Z Z (dT af) f1 (JV (rs:= []) 15 Z Z Z (dT af) f1 (qt (v:= Y Zj) 16 Z (λ _ _=>JX Z (dT af) Z) (qn (JY (jt (sr (Kz (Zq #[T Zk 0 0, T Zk 0 0, Y O]) (cu [T Zk 0 0, T Zk 0 0, Y O] 0 iP Y1 ?_))))))))))))))
 intro kM mU
 refine An Z (rt (tR (Ke (fQ (vs:= [Zq #[T Zk 0 0, T Zk 0 0, Y O],vI 180]) Z (bS.cell Z (J7 (cs:= [T Zk 0 0, T Zk 0 0, Y O]) Y0 Y1 ((mU.cls (i:=0) Z).lit (k:=0) (m:=3) Z)) (bS.tmp Z bS.nil)) (Nr Z)) ?_)))
 have uf:=mU.sepNil
 have ug:=uf.free (bW 47 21)
 have uh:=ug.free (bW 62 6)
 have ui:=uh.px [1,2] [3,4] []
 obtain⟨rfl,rfl,rfl,rfl⟩:=eQ (zj hr (show _=(bY.q (N []) (N []) O,180,a,G) from V (iN aD) (V (iN av) (V (iN aJ) (V (ip bR) (V (ae bg) (iN af))))))).symm
 exact⟨Zk,0,Zk,0, [],p,g,u,j,B,y,l,J,K,L,s,t,r,Z,ui,Z,I,P,z⟩
 by_cases gH:d.g=3
 refine Lc (Good':=λ Z8=> ∃ L',Own w D Z8 ([blk jh [T Zk 0 0, T Zk 0 0, Y O] 52,blk dJ (jP d M C Z5 E Z6 F) 47,blk g0 (kB a p (X a.a.b.a) g u (X a.a.g.a) j y (X a.a.j.a) l a.a.t ak J (X a.b.a) K au) 78,row p (X a.a.b.a) g (q1 bF.L a.a.b.a) 83 2,row u (X a.a.g.a) j (q1 bA.L B) 80 2,sepL (q1 Ky B),row y (X a.a.j.a) l (q1 (eN .u64) a.a.j.a) 33 1,row J (X a.b.a) K (q1 aY.L L) 100 4,sepL (q1 Kq L),blk ak [T ay (X ai.a.a) ah] 29,blk au [T s (X G.a.a) t] 111,row s (X G.a.a) t (q1 aH.L r) 159 6,sepL (q1 Kj r),nX dK kI vF (fe (fe (fe (fe (fe (fe [] 3 (Zv 38)) 5 (Zv 39)) 8 (Zv 40)) 10 (Zv 41)) 11 (Zv 42)) 12 (Zv 43))]++L')) (λ _ ⟨L',h⟩=>⟨[nX dK kI vF (fe (fe (fe (fe (fe (fe [] 3 (Zv 38)) 5 (Zv 39)) 8 (Zv 40)) 10 (Zv 41)) 11 (Zv 42)) 12 (Zv 43))]++L',h⟩) ⟨_,dx⟩ (qt (v:= .tuple #[.func (.func 38) #[] #[], Y Zj]) 3 Z (λ _ ⟨_,H9⟩=>K3 (k:=d.g) (d0:=(Zk:Option Nat)) (o:=(Zv (Zv 38))) (i:=13) H9 Z (pG y6) X6 ZY Z Z (by rw [show d.g=3 from by omega]; rfl)) (qv 4 Z Z (qk (.func (.func 38) #[] #[]) 5 Z (qk (Y Zj) 6 Z (qa 7 Z Z (qa 8 Z Z (qn (JY (JS (JS ?_))))))))))
 have uj:=dx.px [] [13] []
 refine kL 13 [] (J6 (J6 Kg)) uj ?_
 intro _ uk
 refine qv 0 Z Z (qk (Y O) 1 Z (qv 2 Z Z (J2 (v:= Zq (Zb (jP d M C Z5 E Z6 F))) (rs:= []) 3 Z Z Z Z f1 (λ _ ⟨_,H9⟩=>J5 Z (J7 (cs:=(jP d M C Z5 E Z6 F)) I0 I2 ((H9.cls (i:=1) Z).lit (k:=0) (m:=21) Z))) ?_)))
 obtain⟨dH,bz⟩:=qq (fU d)
 obtain⟨_,o5,fH,o6,_⟩:=JZ uk
 refine KG 4 Z Z Z Z f1 (Ki X7 Z (pJ _ _ d M (X d.a.a) C Z5 (X d.B.a) E aW Z6 (X d.b.a) F dH o5 Z (fH _ aS) U aF Z (fH _ aT) U (λ Z7 Q=>⟨fH _ (R Z7 Q).1,(R Z7 Q).2⟩) Z (fH _ aU) U g6 bz) ?_)
 rintro _ _ ⟨rfl,o7⟩
 have ja:=o6 _ _ o7
 have xC:=rV bz
 have xD:=rW bz
 have xE:=tN bz
 refine⟨.inr ⟨_,ja⟩, (J2 (v:= Za (¬ (dH=0))) (rs:= []) 5 Z Z Z Z f1 (λ _ _=>Kc (e:= !(Zw (dH=0))) yk ZW) (qt (v:= Za (¬ (dH=0))) 6 Z (λ _ _=>QK Z) (qv 7 Z Z ?_)))⟩
 by_cases aj:dH=0
 refine J2 (v:=vP dJ 2) (rs:= []) 8 Z Z Z (dF (Nu aj)) f1 (λ _ _=>yk) (J2 (v:=vI d.E) (rs:= []) 9 Z Z Z (dF (Nu aj)) f1 (λ _ ⟨_,H9⟩=>J5 Z (bO.one B8 (Kw (H9.cls (i:=1) Z) Z))) (J2 (v:=vP g0 0) (rs:= []) 10 Z Z Z (dF (Nu aj)) f1 (λ _ _=>J3 Z) (J2 (v:=vP g0 0) (rs:= []) 11 Z Z Z (dF (Nu aj)) f1 (λ _ _=>yk) (J2 (v:=vP g0 0) (rs:= []) 12 Z Z Z (dF (Nu aj)) f1 (λ _ _=>yk) (J2 (v:=vP g0 0) (rs:= []) 13 Z Z Z (dF (Nu aj)) f1 (λ _ _=>yk) (J2 (v:=vI a.a.r) (rs:= []) 14 Z Z Z (dF (Nu aj)) f1 (λ _ ⟨_,H9⟩=>J5 Z (bO.one B8 (Kw (H9.cls (i:=2) Z) Z))) (J2 (v:= Za (¬ (d.E=a.a.r))) (rs:= []) 15 Z Z Z (dF (Nu aj)) f1 (λ _ _=>Kc (e:= !(Zw (d.E=a.a.r))) yk ZW) (qt (v:= Za (¬ (d.E=a.a.r))) 16 Z (λ _ _=>JU Z (dF (Nu aj)) Z) (qn (JY ?_))))))))))
 by_cases gI:d.E=a.a.r
 refine jF (dF (Nu gI)) (sk (sr (Mz Z (Kz (Zq #[vP g0 0, T Zk 0 0, T Zk 0 0, Y O, T Zk 0 0]) (cB [vP g0 0, T Zk 0 0, T Zk 0 0, Y O, T Zk 0 0] 92 ja ?_)))))
 intro dm _ kN
 refine Ar Z (Mz Z (Kz (vP g0 0) (Kz (vP g0 0) (La (fV a.a.r a.a.y a.a.u a.a.z a.a.k p (X a.a.b.a) g u (X a.a.g.a) j y (X a.a.j.a) l a.a.t a.a.B a.a.s.a a.a.s.b a.a.a.k a.a.a.s a.a.a.a a.a.a.j.a a.a.a.j.b) kN 3 X4 S0 ?_))))
 obtain⟨aM,ic⟩:=qq (gB a.a)
 obtain⟨_,o8,_,o9,fI⟩:=JZ kN
 refine cl X5 (ko _ _ a.a p (X a.a.b.a) g u (X a.a.g.a) j B y (X a.a.j.a) l aM o8 Z (fI _ 4 _ Z bB) U I Z (fI _ 5 _ Z bB) U (λ Z7 Q=>⟨fI _ 6 _ Z (bL (P6.2 ⟨Z7,Q,b3⟩) bB),di (φ:=λ _=>_) kN (i:=6) Z (bL (P6.2 ⟨Z7,Q,b3⟩) dD)⟩) Z (fI _ 7 _ Z bB) U g5 (by first | assumption | exact λ _ Q=>absurd Q y2 | exact Tk.hops f8) ic) ?_
 rintro _ _ ⟨jb,gJ,jc,gK,je,gL,ul,rfl,pg,kP⟩
 have jf:=o9 _ _ pg
 have xH:=bf kP
 have xI:=zr 0 jf
 have xJ:=zr 1 jf
 have xK:=zr 3 jf
 refine cB (fV 0 0 0 0 0 Zk 0 0 Zk 0 0 Zk 0 0 0 0 [] [] 0 0 0 [] []) 42 jf ?_
 intro _ _ um
 refine cu (gZ aM jb gJ jc gK je gL) 0 um S0 ?_
 intro kQ mV
 refine nt (JS (sr (Mz Z (Mz Z (La (jP d M C Z5 E Z6 F) mV 7 I0 I2 ?_)))))
 have uo:=mV.sepNil
 have uq:=uo.free (bW 47 21)
 have ut:=Own.upQ (uq.free (bW 211 2))
 have kR:=ut.px [8,1,2] [] [3,4,5,6,7,9,10,12]
 have xL:=zr 1 kR
 have xO:=zr 21 kR
 obtain⟨⟨eB,eD,S,kS⟩,ig⟩:=qq (jA (bD.q (bY.q (N []) (N []) O) (N [])) d a ai G)
 obtain⟨_,pq,dR,pu,pz⟩:=Mj kR
 refine WL.do Z (KA Tryz.call38 Z Z (yC _ _ dm (bD.q (bY.q (N []) (N []) O) (N [])) Zk 0 [] Zk 0 Zk 0 d M (X d.a.a) C Z5 (X d.B.a) E aW Z6 (X d.b.a) F g0 a p g u j B y l J K L ak ai ay ah au G s t r eB eD S kS pq Z (λ _ _=>bV.nil _ _ _) U Z (dR _ aS) U aF Z (dR _ aT) U (λ Z7 Q=>⟨dR _ (R Z7 Q).1,(R Z7 Q).2⟩) Z (dR _ aU) U (pz _ 7 _ Z bB) U I P (dR _ fK) U z f8 f8 j0 (by first | omega | exact Tk.n f8) (by first | omega | exact Tk.rows f8) f2 f2 f2 ig) ?_)
 rintro _ _ ⟨gM,gN,uu,_,_,gP,eF,kT,gQ,eG,mW,mX,mY,mZ,ng,ni,rfl,pE,kU,fJ,ik,il⟩
 have dS:=pu _ _ pE
 have xP:=bf kU
 have xQ:=bf fJ
 have xR:=bf ik
 have xS:=bf il
 have xU:=zr 1 dS
 have xV:=dS.rowCQ (i:=3) Z
 have xW:=zr 5 dS
 have xX:=zr 7 dS
 have xY:=zr 8 dS
 have xZ:=zr 12 dS
 refine An Z (JS ?_)
 have nk:=dS.px [] [20] []
 refine JW (Mz Z (fw (Za (¬ (eB=0))) (Kc (e:= !(Zw (eB=0))) yk ZW) (nt ?_)))
 by_cases jg:eB=0
 refine jF (dF (Nu jg)) (sk (JS (kL 21 [20] (J6 Kg) nk ?_)))
 intro _ kV
 refine qv 0 Z Z (qv 1 Z Z (qp dm 0 2 Z (qp dm 1 3 Z (qp dm 2 4 Z (ql 5 Z 0 Q9 Z Z Z (qk (vI 0) 6 Z (qk (Y O) 7 Z (qv 8 Z Z (J2 (v:= Zq (Zb (gZ aM jb gJ jc gK je gL))) (rs:= [[]]) 9 Z Z Z Z f1 (λ _ ⟨_,H9⟩=>J5 Z (J7 (cs:=(gZ aM jb gJ jc gK je gL)) X4 S0 ((H9.cls (i:=14) Z).lit (k:=0) (m:=17) Z))) (J2 (v:=vP g0 0) (rs:= [[]]) 10 Z Z Z Z f1 (λ _ _=>J3 Z) (J2 (v:=vP g0 0) (rs:= [[]]) 11 Z Z Z Z f1 (λ _ _=>yk) (J2 (v:=vP g0 0) (rs:= [[]]) 12 Z Z Z Z f1 (λ _ _=>yk) (J2 (v:= Zq (Zb (fV a.a.r a.a.y a.a.u a.a.z a.a.k p (X a.a.b.a) g gP (X S.a.g.a) eF gQ (X S.a.j.a) eG S.a.t a.a.B a.a.s.a a.a.s.b a.a.a.k a.a.a.s a.a.a.a a.a.a.j.a a.a.a.j.b))) (rs:= [[]]) 13 Z Z Z Z f1 (λ _ ⟨_,H9⟩=>J5 Z (J7 (cs:=(fV a.a.r a.a.y a.a.u a.a.z a.a.k p (X a.a.b.a) g gP (X S.a.g.a) eF gQ (X S.a.j.a) eG S.a.t a.a.B a.a.s.a a.a.s.b a.a.a.k a.a.a.s a.a.a.a a.a.a.j.a a.a.a.j.b)) X4 S0 ((H9.cls (i:=4) Z).lit (k:=0) (m:=17) Z))) ?_)))))))))))))
 obtain⟨dn,kW⟩:=qq (jd aM (bH.q a.a.r a.a.y a.a.u a.a.z a.a.k (N a.a.b.a) (N S.a.g.a) (N S.a.j.a) S.a.t a.a.B a.a.s a.a.a))
 obtain⟨_,pF,_,pI,bC⟩:=JZ kV
 refine KG 14 Z Z Z Z f1 (Ki X8 Z (nC _ _ aM jb (X aM.b.a) gJ jc (X aM.g.a) gK ul je (X aM.j.a) gL (bH.q a.a.r a.a.y a.a.u a.a.z a.a.k (N a.a.b.a) (N S.a.g.a) (N S.a.j.a) S.a.t a.a.B a.a.s a.a.a) p (X a.a.b.a) g gP (X S.a.g.a) eF kT gQ (X S.a.j.a) eG dn pF Z (bC _ 15 _ Z bB) U kP Z (bC _ 16 _ Z bB) U (λ Z7 Q=>⟨bC _ 17 _ Z (bL (P6.2 ⟨Z7,Q,b3⟩) bB),di (φ:=λ _=>_) kV (i:=17) Z (bL (P6.2 ⟨Z7,Q,b3⟩) dD)⟩) Z (bC _ 18 _ Z bB) U Z (bC _ 20 _ Z bB) U fJ Z (bC _ 5 _ Z bB) U (λ Z7 Q=>⟨bC _ 6 _ Z (bL (P6.2 ⟨Z7,Q,b3⟩) bB),di (φ:=λ _=>_) kV (i:=6) Z (bL (P6.2 ⟨Z7,Q,b3⟩) dD)⟩) Z (bC _ 7 _ Z bB) U kW) ?_)
 rintro _ _ ⟨rfl,pK⟩
 have nu:=pI _ _ pK
 refine⟨.inr ⟨_,nu⟩, (J2 (v:= Y (!dn)) (rs:= [[]]) 15 Z Z Z Z f1 (λ _ _=>yk) (qt (v:= Y (!dn)) 16 Z (λ _ _=>QK Z) (qp dm 0 17 Z (qp dm 1 18 Z (qp dm 3 19 Z (qe 20 Z (Do.store (vs:= [Y (!dn)]) (o:=3) nu Z Z X9 Z Z Z Z ?_)))))))⟩
 intro _ uw
 refine⟨.inl f1, (qn (JY (JS ?_)))⟩
 have ny:=uw.px [] [14,15,16,17,18] []
 refine JW (Mz Z (Kz (vP dm 0) (Kz (vP dm 1) (La ([T gM (X eD.a.b.a) gN, T Zk 0 0, Y (!dn)]) ny 0 Y0 Y1 ?_))))
 have uy:=ny.pf [14]
 refine cu [T gM (X eD.a.b.a) gN, T Zk 0 0, Y (!dn)] 0 uy Y1 ?_
 intro uz nz
 refine An Z (rt (Ke (fQ (vs:= [Zq #[T gM (X eD.a.b.a) gN, T Zk 0 0, Y (!dn)],vI 0]) Z (bS.cell Z (J7 (cs:= [T gM (X eD.a.b.a) gN, T Zk 0 0, Y (!dn)]) Y0 Y1 ((nz.cls (i:=0) Z).lit (k:=0) (m:=3) Z)) (bS.tmp Z bS.nil)) (Nr Z)) ?_))
 have uA:=nz.free (bW 62 6)
 have uB:=uA.px [3,4,0,6,16] [1,2,5] []
 obtain⟨rfl,rfl,rfl,rfl⟩:=eQ (zj hr (show _=(bY.q (N eD.a.b.a) (N []) (!dn),0,aB.q (bH.q a.a.r a.a.y a.a.u a.a.z a.a.k (N a.a.b.a) (N S.a.g.a) (N S.a.j.a) S.a.t a.a.B a.a.s a.a.a) (N S.b.a),kS) from V (iN aD) (V (iN av) (V (iN aJ) (V (iN bR) (V (ip gH) (V (ae bz) (V (ip aj) (V (ip gI) (V (ae ic) (V (ae ig) (V (ip jg) (ae kW)))))))))))))
 exact⟨gM,gN,Zk,0,uu,p,g,gP,eF,kT,gQ,eG,mW,mX,mY,mZ,ng,ni,Z,uB,kU,fJ,ik,il⟩
 refine jT (dT jg) (sr (Kz (Zq #[T Zk 0 0, T Zk 0 0, Y O]) (Mz Z ?_)))
 have uC:=nk.pf [19]
 refine cu [T Zk 0 0, T Zk 0 0, Y O] 0 uC Y1 ?_
 intro kX nA
 refine An Z (rt (tR (Ke (fQ (vs:= [Zq #[T Zk 0 0, T Zk 0 0, Y O],vI eB]) Z (bS.cell Z (J7 (cs:= [T Zk 0 0, T Zk 0 0, Y O]) Y0 Y1 ((nA.cls (i:=0) Z).lit (k:=0) (m:=3) Z)) (bS.tmp Z bS.nil)) (Nr Z)) ?_)))
 have uD:=nA.sepNil
 have uE:=uD.free (bW 47 21)
 have uF:=uE.free (bW 62 6)
 have uG:=uF.pk [1,2,0,8,23,9,10,11,12,13,14,15,16,17]
 obtain⟨rfl,rfl,rfl,rfl⟩:=eQ (zj hr (show _=(bY.q (N []) (N []) O,eB,aB.q (bH.q a.a.r a.a.y a.a.u a.a.z a.a.k (N a.a.b.a) (N S.a.g.a) (N S.a.j.a) S.a.t a.a.B a.a.s a.a.a) (N S.b.a),kS) from V (iN aD) (V (iN av) (V (iN aJ) (V (iN bR) (V (ip gH) (V (ae bz) (V (ip aj) (V (ip gI) (V (ae ic) (V (ae ig) (iN jg))))))))))))
 exact⟨Zk,0,Zk,0, [],p,g,gP,eF,kT,gQ,eG,mW,mX,mY,mZ,ng,ni,Z,uG,Z,fJ,ik,il⟩
 refine jT (dT gI) (sr (Kz (Zq #[T Zk 0 0, T Zk 0 0, Y O]) (cu [T Zk 0 0, T Zk 0 0, Y O] 0 ja Y1 ?_)))
 intro kY nD
 refine An Z (rt (tR (Ke (fQ (vs:= [Zq #[T Zk 0 0, T Zk 0 0, Y O],vI 180]) Z (bS.cell Z (J7 (cs:= [T Zk 0 0, T Zk 0 0, Y O]) Y0 Y1 ((nD.cls (i:=0) Z).lit (k:=0) (m:=3) Z)) (bS.tmp Z bS.nil)) (Nr Z)) ?_)))
 have uH:=nD.sepNil
 have uI:=uH.free (bW 47 21)
 have uJ:=uI.free (bW 62 6)
 have uK:=uJ.px [1,2] [3,4] []
 obtain⟨rfl,rfl,rfl,rfl⟩:=eQ (zj hr (show _=(bY.q (N []) (N []) O,180,a,G) from V (iN aD) (V (iN av) (V (iN aJ) (V (iN bR) (V (ip gH) (V (ae bz) (V (ip aj) (iN gI))))))))).symm
 exact⟨Zk,0,Zk,0, [],p,g,u,j,B,y,l,J,K,L,s,t,r,Z,uK,Z,I,P,z⟩
 refine JV (rs:= []) 8 Z Z Z (dT aj) f1 (JV (rs:= []) 9 Z Z Z (dT aj) f1 (JV (rs:= []) 10 Z Z Z (dT aj) f1 (JV (rs:= []) 11 Z Z Z (dT aj) f1 (JV (rs:= []) 12 Z Z Z (dT aj) f1 (JV (rs:= []) 13 Z Z Z (dT aj) f1 (JV (rs:= []) 14 Z Z Z (dT aj) f1 (JV (rs:= []) 15 Z Z Z (dT aj) f1 (qt (v:= Y Zj) 16 Z (λ _ _=>JX Z (dT aj) Z) (qn (JY (jt (sr (Kz (Zq #[T Zk 0 0, T Zk 0 0, Y O]) (cu [T Zk 0 0, T Zk 0 0, Y O] 0 ja Y1 ?_))))))))))))))
 intro kZ nE
 refine An Z (rt (tR (Ke (fQ (vs:= [Zq #[T Zk 0 0, T Zk 0 0, Y O],vI 180]) Z (bS.cell Z (J7 (cs:= [T Zk 0 0, T Zk 0 0, Y O]) Y0 Y1 ((nE.cls (i:=0) Z).lit (k:=0) (m:=3) Z)) (bS.tmp Z bS.nil)) (Nr Z)) ?_)))
 have uL:=nE.sepNil
 have uM:=uL.free (bW 47 21)
 have uN:=uM.free (bW 62 6)
 have uO:=uN.px [1,2] [3,4] []
 obtain⟨rfl,rfl,rfl,rfl⟩:=eQ (zj hr (show _=(bY.q (N []) (N []) O,180,a,G) from V (iN aD) (V (iN av) (V (iN aJ) (V (iN bR) (V (ip gH) (V (ae bz) (iN aj)))))))).symm
 exact⟨Zk,0,Zk,0, [],p,g,u,j,B,y,l,J,K,L,s,t,r,Z,uO,Z,I,P,z⟩
 refine Lc (Good':=λ Z8=> ∃ L',Own w D Z8 ([blk jh [T Zk 0 0, T Zk 0 0, Y O] 52,blk dJ (jP d M C Z5 E Z6 F) 47,blk g0 (kB a p (X a.a.b.a) g u (X a.a.g.a) j y (X a.a.j.a) l a.a.t ak J (X a.b.a) K au) 78,row p (X a.a.b.a) g (q1 bF.L a.a.b.a) 83 2,row u (X a.a.g.a) j (q1 bA.L B) 80 2,sepL (q1 Ky B),row y (X a.a.j.a) l (q1 (eN .u64) a.a.j.a) 33 1,row J (X a.b.a) K (q1 aY.L L) 100 4,sepL (q1 Kq L),blk ak [T ay (X ai.a.a) ah] 29,blk au [T s (X G.a.a) t] 111,row s (X G.a.a) t (q1 aH.L r) 159 6,sepL (q1 Kj r),nX dK kI vF (fe (fe (fe (fe (fe (fe [] 3 (Zv 38)) 5 (Zv 39)) 8 (Zv 40)) 10 (Zv 41)) 11 (Zv 42)) 12 (Zv 43))]++L')) (λ _ ⟨L',h⟩=>⟨[nX dK kI vF (fe (fe (fe (fe (fe (fe [] 3 (Zv 38)) 5 (Zv 39)) 8 (Zv 40)) 10 (Zv 41)) 11 (Zv 42)) 12 (Zv 43))]++L',h⟩) ⟨_,dx⟩ (qt (v:= .tuple #[Zx, Y O]) 3 Z (λ _ ⟨_,H9⟩=>K3 (k:=d.g) (d0:=(Zk:Option Nat)) (o:=(Zk:Option (Option Nat))) (i:=13) H9 Z (pG y6) X6 ZY Z Z (HV U U U U U U)) (qv 4 Z Z (qk Zx 5 Z (qk (Y O) 6 Z (qa 7 Z Z (qa 8 Z Z (qn (JY (JS (JS ?_))))))))))
 have uP:=dx.px [] [13] []
 refine kL 13 [] (J6 (J6 Kg)) uP ?_
 intro _ uQ
 refine qv 0 Z Z (qk (Y Zj) 1 Z (qv 2 Z Z (JV (rs:= []) 3 Z Z Z Z f1 (JV (rs:= []) 4 Z Z Z Z f1 (JV (rs:= []) 5 Z Z Z Z f1 (qt (v:= Y Zj) 6 Z (λ _ _=>QJ Z) (qv 7 Z Z (JV (rs:= []) 8 Z Z Z Z f1 (JV (rs:= []) 9 Z Z Z Z f1 (JV (rs:= []) 10 Z Z Z Z f1 (JV (rs:= []) 11 Z Z Z Z f1 (JV (rs:= []) 12 Z Z Z Z f1 (JV (rs:= []) 13 Z Z Z Z f1 (JV (rs:= []) 14 Z Z Z Z f1 (JV (rs:= []) 15 Z Z Z Z f1 (qt (v:= Y Zj) 16 Z (λ _ _=>QJ Z) (qn (JY (jt (sr (Kz (Zq #[T Zk 0 0, T Zk 0 0, Y O]) (cu [T Zk 0 0, T Zk 0 0, Y O] 0 uQ Y1 ?_))))))))))))))))))))))
 intro lc nG
 refine An Z (rt (tR (Ke (fQ (vs:= [Zq #[T Zk 0 0, T Zk 0 0, Y O],vI 180]) Z (bS.cell Z (J7 (cs:= [T Zk 0 0, T Zk 0 0, Y O]) Y0 Y1 ((nG.cls (i:=0) Z).lit (k:=0) (m:=3) Z)) (bS.tmp Z bS.nil)) (Nr Z)) ?_)))
 have uR:=nG.sepNil
 have uS:=uR.free (bW 47 21)
 have uT:=uS.free (bW 62 6)
 have uU:=uT.px [1,2] [3,4] []
 obtain⟨rfl,rfl,rfl,rfl⟩:=eQ (zj hr (show _=(bY.q (N []) (N []) O,180,a,G) from V (iN aD) (V (iN av) (V (iN aJ) (V (iN bR) (iN gH)))))).symm
 exact⟨Zk,0,Zk,0, [],p,g,u,j,B,y,l,J,K,L,s,t,r,Z,uU,Z,I,P,z⟩
end
def yM (l:List Nat):Prop:=l.Pairwise (· < ·)
theorem CL {l:List Nat} (hs:yM l) {i j a b:Nat} (ha:l[i]? =Zv a) (hb:l[j]? =Zv b) (h:i < j):a < b:=by
  obtain⟨c,rfl⟩:=List.getElem?_eq_some_iff.1 ha
  obtain⟨d,rfl⟩:=List.getElem?_eq_some_iff.1 hb
  exact List.pairwise_iff_getElem.1 hs i j c d h
theorem HY (a b:Nat):l9 a b=Zw (a < b):=by
  unfold l9 jC
  simp only [bI]
  rw [ZK f7]
  exact decide_eq_decide.2 U
theorem zh {m:List Nat} (hs:yM m) (k:Nat):∀ (f i j:Nat),j - i < f->i<=j->j<=X m->(∀ q p,m[q]? =Zv p->q < i->p < k)->(∀ q p,m[q]? =Zv p->j<=q->¬ p < k)->
    ∃ r,fZ m k f i j=r/\r<=X m/\(∀ q p,m[q]? =Zv p->q < r->p < k)/\(∀ q p,m[q]? =Zv p->r<=q->¬ p < k)
  | 0,i,j,h,_,_,_,_=>U
  | f+1,i,j,h,hij,hj,hl,hg=>by
    unfold fZ
    by_cases b:(i:Int) < (j:Int)
    . obtain⟨x,hx⟩:∃ x,m[(i+j) / 2]? =Zv x:=⟨_,List.getElem?_eq_getElem U⟩
      rw [ZJ b,bI,bI,bG hx,HY]
      by_cases a:x < k
      . rw [ZJ (decide_eq_true a)]
        refine zh hs k f _ j U U hj (λ q p hq hlt=> ?_) hg
        rcases Nat.lt_or_ge q ((i+j) / 2) with e | e
        . exact Nat.lt_trans (CL hs hq hx e) a
        . have:q=(i+j) / 2:=U
          subst this
          rw [hx] at hq; cases hq
          exact a
      . rw [ZK (by rw [decide_eq_false a]; decide)]
        refine zh hs k f i _ U U U hl (λ q p hq hge hlt=> ?_)
        rcases Nat.lt_or_ge ((i+j) / 2) q with e | e
        . exact a (Nat.lt_trans (CL hs hx hq e) hlt)
        . have:q=(i+j) / 2:=U
          subst this
          rw [hx] at hq; cases hq
          exact a hlt
    . rw [ZK b]
      have:i=j:=U
      subst this
      exact⟨i,Z,hj,hl,hg⟩
theorem FJ {m:List Nat} (hs:yM m) (k:Nat):∃ a b f,m=a++b/\(∀ x ∈ a,x < k)/\(∀ x ∈ b,k<=x)/\dV m k=((X a:Int),f)/\(f=Zj->k ∈ m)/\(f=O->k ∉ m):=by
  obtain⟨r,l,t,c,g⟩:=zh hs k (Zc ((X m:Int) - 0)+1) 0 (X m) U U (Nat.le_refl _) (λ q p _ h=>U) (λ q p hq h=>by have:=(List.getElem?_eq_some_iff.1 hq).1; omega)
  have hlen:X (Zf r m)=r:=by rw [List.length_take]; omega
  have ha:∀ x ∈ Zf r m,x < k:=λ p hp=>by
    obtain⟨j,hj⟩:=List.mem_iff_getElem?.1 hp
    have hjr:j < r:=by have:=(List.getElem?_eq_some_iff.1 hj).1; omega
    rw [List.getElem?_take,ZJ hjr] at hj
    exact c j p hj hjr
  have hb:∀ x ∈ Ze r m,k<=x:=λ p hp=>by
    obtain⟨j,hj⟩:=List.mem_iff_getElem?.1 hp
    rw [List.getElem?_drop] at hj
    exact Nat.le_of_not_lt (g _ p hj U)
  have key:∃ f,dV m k=((r:Int),f)/\(f=Zj->k ∈ m)/\(f=O->k ∉ m):=by
    unfold dV lK
    simp only [bI,l]
    by_cases i:(r:Int) < ((X m:Nat):Int)
    . obtain⟨x,hx⟩:∃ x,m[r]? =Zv x:=⟨_,List.getElem?_eq_getElem U⟩
      rw [ZJ i,bG hx]
      by_cases d:(x:Int)=(k:Int)
      . rw [ZJ d]
        have:x=k:=U
        subst this
        exact⟨Zj,Z,λ _=>List.mem_of_getElem? hx,λ h=>Bool.noConfusion h⟩
      . rw [ZK d]
        simp only [Bool.false_eq_true,if_false]
        refine⟨O,Z,λ h=>Bool.noConfusion h,λ _ hk=> ?_⟩
        obtain⟨j,hj⟩:=List.mem_iff_getElem?.1 hk
        rcases Nat.lt_trichotomy j r with e | e | e
        . have:=c j k hj e; omega
        . subst e; rw [hx] at hj; cases hj; exact d Z
        . have:=CL hs hx hj e
          have:=g r x hx (Nat.le_refl _)
          omega
    . rw [ZK i]
      refine⟨O,Z,λ h=>Bool.noConfusion h,λ _ hk=> ?_⟩
      obtain⟨j,hj⟩:=List.mem_iff_getElem?.1 hk
      have n:=(List.getElem?_eq_some_iff.1 hj).1
      have:=c j k hj U
      omega
  obtain⟨f,o,k2,s⟩:=key
  exact⟨Zf r m,Ze r m,f,(List.take_append_drop r m).symm,ha,hb,by rw [hlen]; exact o,k2,s⟩
structure Rs (ws:List bK) (hs:List dG) (fin:List Nat) (rs:List aS):Prop where q::
  tk:Tk ws hs rs
  gt:Gt ws
  a:yM fin
theorem IW:Tk [] [] []:=⟨List.Pairwise.nil,List.Pairwise.nil,λ _ h=>absurd h List.not_mem_nil,Nt _,λ _ h=>absurd h List.not_mem_nil,λ _ h=>absurd h List.not_mem_nil,Fq,λ _ h=>absurd h List.not_mem_nil⟩
theorem dS {p r:bH} (h:gB p=r) (a:p.g.a= []:=by rfl) (b:p.j.a= []:=by rfl):Rs [] r.g.a r.j.a []:=by
  have e:p=r:=h
  subst e
  rw [a,b]
  exact⟨IW,λ _ h=>absurd h List.not_mem_nil,List.Pairwise.nil⟩
def Dn (m:aB) (n:Nat):Prop:=(n < m.a.t\/n ∈ m.a.j.a)/\¬ Tx m.b.a m.a.g.a n
theorem zV {m r:aB} {low:Nat} (hs:yM m.a.j.a) (h:iB m low=r):
    r.b=m.b/\r.a= { m.a with j:=r.a.j,t:=r.a.t } /\yM r.a.j.a/\X r.a.j.a<=X m.a.j.a/\m.a.t<=r.a.t/\
      (∀ n ∈ m.a.j.a,n < r.a.t\/n ∈ r.a.j.a):=by
  obtain⟨a,b,f,d,ha,_,hk,_,_⟩:=FJ hs (max m.a.t low)
  unfold iB jH at h
  rw [hk] at h
  simp only [bI] at h
  have g:(if(0:Int)=(X a:Int) then m.a.j.a else Zf (Zc 0) m.a.j.a++Ze (Zc (X a:Int)) m.a.j.a)=b:=by
    rw [d]
    by_cases c:(0:Int)=(X a:Int)
    . rw [ZJ c]
      have:a= []:=List.eq_nil_of_length_eq_zero U
      rw [this]; rfl
    . rw [ZK c,Int.toNat_natCast,List.drop_left' Z]; rfl
  rw [g] at h
  subst h
  refine⟨Z,Z, ?_, ?_,Nat.le_max_left _ _,λ n hn=> ?_⟩
  . rw [d] at hs; exact(List.pairwise_append.1 hs).2.1
  . show X b<=_; rw [d,List.length_append]; omega
  . rw [d] at hn
    rcases List.mem_append.1 hn with e | e
    . exact .inl (ha n e)
    . exact .inr e
theorem De {m r:aB} {k:Nat} (hs:yM m.a.j.a) (h:iG m k=r):
    yM r.a.j.a/\r.a.t=m.a.t/\(∀ n ∈ m.a.j.a,n ∈ r.a.j.a)/\(k < m.a.t\/k ∈ r.a.j.a)/\X r.a.j.a<=X m.a.j.a+1:=by
  unfold iG at h
  by_cases c:(k:Int) < (m.a.t:Int)
  . rw [ZJ c] at h
    subst h
    exact⟨hs,Z,λ _ h=>h, .inl U,Nat.le_succ _⟩
  . rw [ZK c] at h
    obtain⟨a,b,f,d,ha,hb,hk,j,l⟩:=FJ hs k
    rw [hk] at h
    simp only [bI] at h
    cases f with
    | true=>
      rw [ZJ Z] at h
      subst h
      exact⟨hs,Z,λ _ h=>h, .inr (j Z),Nat.le_succ _⟩
    | false=>
      rw [ZK f7] at h
      have hn:=l Z
      have o:kr m.a.j.a (X a:Int) k=a++k::b:=by
        unfold kr
        rw [Int.toNat_natCast,d]
        by_cases g:(X a:Int)=((X (a++b):Nat):Int)
        . rw [ZJ g]
          have:b= []:=List.eq_nil_of_length_eq_zero (by rw [List.length_append] at g; omega)
          rw [this]; simp
        . rw [ZK g,List.take_left' Z,List.drop_left' Z]
      rw [o] at h
      subst h
      have i:∀ x ∈ b,k < x:=λ x hx=>Nat.lt_of_le_of_ne (hb x hx) λ e=>hn (by rw [d,e]; exact List.mem_append_right _ hx)
      rw [d] at hs
      obtain⟨p,q,s⟩:=List.pairwise_append.1 hs
      refine⟨List.pairwise_append.2 ⟨p,List.pairwise_cons.2 ⟨i,q⟩,λ x hx y hy=> ?_⟩,Z,λ n hn=> ?_, .inr (List.mem_append_right _ b3), ?_⟩
      . rcases List.mem_cons.1 hy with e | e
        . rw [e]; exact ha x hx
        . exact s x hx y e
      . rw [d] at hn
        rcases List.mem_append.1 hn with e | e
        . exact List.mem_append_left _ e
        . exact List.mem_append_right _ (.tail _ e)
      . show X (a++k::b)<=_
        rw [d]; simp only [List.length_append,List.length_cons]; omega
theorem AV {p:bD} {m:aB} {s:StoreT} {tb:bn} {e:Int} {t:bD} {m':aB} {tb':bn} (h:eu p m s tb=(e,t,m',tb')) (hk:Tk m.b.a m.a.g.a tb.a.a) (hg:Gt m.b.a) (hli:Li p.b.a tb.a.a):IU p m t m' tb':=FI hk hg hli h
structure Kp (m m':aB) (tb':bn):Prop where q::
  a:Rs m'.b.a m'.a.g.a m'.a.j.a tb'.a.a
  g:m'.a.b=m.a.b
  b:X m'.a.j.a<=X m.a.j.a+1
  j:∀ n,Dn m n->Dn m' n
theorem Kp.same {m:aB} {tb:bn} (h:Rs m.b.a m.a.g.a m.a.j.a tb.a.a):Kp m m tb:=⟨h,Z,Nat.le_succ _,λ _ h=>h⟩
theorem FK {p t:bD} {x:cz} {m m':aB} {s:StoreT} {tb tb':bn} {e:Int} (hR:Rs m.b.a m.a.g.a m.a.j.a tb.a.a) (hf:X m.a.j.a<=999) (ho:X x.a.a<=24) (hl:p.b.a= [])
    (h:jA p x m s tb=(e,t,m',tb')):Kp m m' tb'/\t.a.a=p.a.a:=by
  unfold jA at h
  rw [bI] at h
  generalize hr:iB m x.t=r at h
  obtain⟨_,P,k,Q,R,G⟩:=zV hR.a hr
  obtain⟨a,b,f,S,_,_,hk,_,H⟩:=FJ k x.r
  rw [hk] at h
  simp only [bI] at h
  generalize c:aB.q (bH.q m.a.r m.a.y m.a.u m.a.z m.a.k (Ll.q m.a.b.a) (Ll.q m.a.g.a) (Ll.q r.a.j.a) r.a.t m.a.B m.a.s m.a.a) (Ll.q m.b.a)=m1 at h
  have q:∀ n,Dn m n->n < r.a.t\/n ∈ r.a.j.a:=λ n hn=>by
    rcases hn.1 with e | e
    . exact .inl U
    . exact G n e
  have d:Kp m m1 tb:=by
    subst c
    exact⟨⟨hR.tk,hR.gt,k⟩,Z,by show X r.a.j.a<=_; omega,λ n hn=>⟨q n hn,hn.2⟩⟩
  have u:m1.b.a=m.b.a:=by rw [<- c]
  have A:m1.a.g.a=m.a.g.a:=by rw [<- c]
  have I:m1.a.j.a=r.a.j.a:=by rw [<- c]
  by_cases y:f=Zj
  . rw [ZJ y] at h
    obtain⟨_,rfl,rfl,rfl⟩:=eQ h
    exact⟨d,Z⟩
  rw [ZK y] at h
  by_cases B:(x.r:Int) < (r.a.t:Int)
  . rw [ZJ B] at h
    obtain⟨_,rfl,rfl,rfl⟩:=eQ h
    exact⟨d,Z⟩
  rw [ZK B] at h
  cases hh:eG m1 x.r with
  | mk j bh=>
    rw [hh] at h
    cases bh with
    | true=>
      rw [ZJ Z] at h
      generalize hv:gY _ _ _ _=v at h
      obtain⟨g,_⟩:=v
      obtain⟨_,rfl,rfl,rfl⟩:=eQ h
      exact⟨d,Z⟩
    | false=>
      simp only [Bool.false_eq_true,if_false] at h
      cases hw:cK m1 x.r with
      | mk i bw=>
        rw [hw] at h
        cases bw with
        | true=>
          rw [ZJ Z] at h
          obtain⟨_,rfl,rfl,rfl⟩:=eQ h
          exact⟨d,Z⟩
        | false=>
          simp only [Bool.false_eq_true,if_false] at h
          cases hrf:jr m1 x with
          | true=>
            rw [hrf,ZJ Z] at h
            obtain⟨_,rfl,rfl,rfl⟩:=eQ h
            exact⟨d,Z⟩
          | false=>
            rw [hrf] at h
            simp only [Bool.false_eq_true,if_false] at h
            cases hlk:o9 x.a.a with
            | mk l J=>
              rw [hlk] at h
              by_cases C:J=0
              . rw [ZJ C] at h
                have z:=(wP hrf Z (by rw [A]; have:=hR.tk.n; omega) (by rw [u]; have:=hR.tk.n; omega) (by rw [I]; omega)).1
                have hll:=xW hlk
                obtain⟨D,E⟩:=CJ (o:=x.a.a) (l:=l) d.a.tk d.a.gt hh Z hw Z z ho U
                rw [u,A] at D
                rw [u] at E
                have txn:∀ n,Tx (Zf (Zc i) m.b.a++((bK.q x.r (Ll.q x.a.a) (Ll.q l) 0)::Ze (Zc i) m.b.a)) m.a.g.a n->n=x.r\/Tx m.b.a m.a.g.a n:=λ n hn=>by
                  rcases hn with ⟨w,hw,e⟩ | hn
                  . rcases mJ.1 hw with g | g
                    . exact .inl (by rw [<- e,g])
                    . exact .inr (.inl ⟨w,g,e⟩)
                  . exact .inr (.inr hn)
                have dead:∀ n,Dn m n->¬ (n=x.r\/Tx m.b.a m.a.g.a n):=λ n hn hc=>by
                  rcases hc with e | e
                  . rcases q n hn with g | g
                    . omega
                    . exact (H (Bool.eq_false_iff.2 y)) (by rw [<- e]; exact g)
                  . exact hn.2 e
                cases hg:fH p x.r (aB.q (bH.q m.a.r m.a.y m.a.u m.a.z m.a.k (Ll.q m.a.b.a) (Ll.q m.a.g.a) (Ll.q r.a.j.a) r.a.t m.a.B m.a.s m.a.a) (Ll.q (Zf (Zc i) m.b.a++((bK.q x.r (Ll.q x.a.a) (Ll.q l) 0)::Ze (Zc i) m.b.a)))) s tb with
                | mk K L=>
                  obtain⟨_,_,M⟩:=L
                  rw [hg] at h
                  have hG:=(tL D (by rw [hl]; exact zQ _) (by rw [hl]; exact λ _ h=>absurd h List.not_mem_nil) E hg).1
                  by_cases F:K=0
                  . rw [ZJ F] at h
                    simp only at h
                    generalize hlo:eu _ _ _ _=v at h
                    obtain⟨_,_,_,_⟩:=v
                    have hL:=AV hlo hG.tk hG.gt hG.b
                    obtain⟨_,rfl,rfl,rfl⟩:=eQ h
                    exact⟨⟨⟨hL.tk,hL.gt,k⟩,Z,by show X r.a.j.a<=_; omega,λ n hn=>⟨q n hn,λ hc=>dead n hn (txn n (hG.a n (hL.a n hc)))⟩⟩,Z⟩
                  . rw [ZK F] at h
                    obtain⟨_,rfl,rfl,rfl⟩:=eQ h
                    exact⟨⟨⟨hG.tk,hG.gt,k⟩,Z,by show X r.a.j.a<=_; omega,λ n hn=>⟨q n hn,λ hc=>dead n hn (txn n (hG.a n hc))⟩⟩,Z⟩
              . rw [ZK C] at h
                obtain⟨_,rfl,rfl,rfl⟩:=eQ h
                exact⟨d,Z⟩
theorem zi (p:bD):∀ (o w:List aV),X (ib p o w)<=X w+X o
  | [],w=>Nat.le_add_right _ _
  | x::o,w=>by
    unfold ib
    rw [bI]
    have a:=zi p o (w++ [x])
    have b:=zi p o w
    simp only [List.length_append,List.length_cons,List.length_nil] at *
    by_cases c:o5 x=Zj
    . rw [ZJ c]; omega
    . rw [ZK c]; omega
theorem HZ {p:bD} {o:List aV} {m:aB} {r:bD} (h:jW p o m=r):X r.a.a.a<=X p.a.a.a+X o:=by
  unfold jW at h
  rw [bI] at h
  subst h
  exact zi p o p.a.a.a
theorem GU {m m1 r:aB} {rs:List aS} {k:Nat} {j:Int} {b:Bool} {hs':List dG} (h:Tk m.b.a m.a.g.a rs) (hf:eG m k=(j,b))
    (c:(b=Zj/\hs'=Zf (Zc j) m.a.g.a++Ze (Zc j+1) m.a.g.a)\/(b=O/\hs'=m.a.g.a)) (hm:m1.b=m.b) (hd:eP m1 k=r):
    ∀ n,Tx r.b.a hs' n->n≠k/\Tx m.b.a m.a.g.a n:=by
  have hw:ug m1.b.a:=by rw [hm]; exact h.a
  rw [rA hw] at hd
  subst hd
  rw [hfind] at hf
  have e:hs'=zg k m.a.g.a:=by
    rcases c with ⟨rfl,e⟩ | ⟨rfl,e⟩
    . rw [e]; exact DZ h.hu hf
    . rw [e]; exact(D5 (hnot h.hu hf)).symm
  rw [e]
  rintro n (⟨w,hw,a⟩ | ⟨z,hz,a⟩)
  . have d:w ∈ qV k m.b.a:=by rw [<- hm]; exact hw
    obtain⟨f,g⟩:=List.mem_filter.1 d
    exact⟨by rw [<- a]; exact of_decide_eq_true g, .inl ⟨w,f,a⟩⟩
  . obtain⟨f,g⟩:=List.mem_filter.1 hz
    exact⟨by rw [<- a]; exact of_decide_eq_true g, .inr ⟨z,f,a⟩⟩
theorem D7 {p k l t:bD} {x:cz} {m m1 r rf g h m' mr:aB} {s:StoreT} {tb d tb':bn} {e j:Int} {b:Bool} {hs':List dG}
    (hd:eP m1 x.r=r) (hfi:iG g x.r=rf) (hrl:fP p x.r mr tb=(l,d)) (hlo:eu k h s d=(e,t,m',tb'))
    (hR:Rs m.b.a m.a.g.a m.a.j.a tb.a.a) (hl:p.b.a= []) (hf:eG m x.r=(j,b))
    (f:(b=Zj/\hs'=Zf (Zc j) m.a.g.a++Ze (Zc j+1) m.a.g.a)\/(b=O/\hs'=m.a.g.a))
    (hm:m1.b=m.b) (c:g.a.j.a=m.a.j.a/\g.a.t=m.a.t) (i:k.b.a=l.b.a) (a:h.b.a=r.b.a/\h.a.g.a=hs'):
    Kp m (aB.q (bH.q m.a.r m.a.y m.a.u m.a.z m.a.k (Ll.q m.a.b.a) (Ll.q m'.a.g.a) (Ll.q rf.a.j.a) m.a.t m.a.B m.a.s m.a.a) (Ll.q m'.b.a)) tb'/\
      Dn (aB.q (bH.q m.a.r m.a.y m.a.u m.a.z m.a.k (Ll.q m.a.b.a) (Ll.q m'.a.g.a) (Ll.q rf.a.j.a) m.a.t m.a.B m.a.s m.a.a) (Ll.q m'.b.a)) x.r:=by
  obtain⟨u,v,w,z⟩:=zT (hs':=hs') hR.tk hR.gt hf f hm hd hl hrl
  obtain⟨y,A,f3,o,q⟩:=De (by rw [c.1]; exact hR.a) hfi
  have hL:=AV hlo (by rw [a.1,a.2]; exact u) (by rw [a.1]; exact v) (by rw [i]; exact w)
  have tx:∀ n,Tx m'.b.a m'.a.g.a n->n≠x.r/\Tx m.b.a m.a.g.a n:=λ n hn=>by
    have:=hL.a n hn
    rw [a.1,a.2] at this
    exact (GU (hs':=hs') hR.tk hf f hm hd) n this
  rw [c.1] at f3 q
  rw [c.2] at o
  refine⟨⟨⟨hL.tk,hL.gt,y⟩,Z,q,λ n hn=>⟨?_,λ hc=>hn.2 (tx n hc).2⟩⟩,⟨o,λ hc=>(tx _ hc).1 Z⟩⟩
  rcases hn.1 with e | e
  . exact .inl e
  . exact .inr (f3 n e)
theorem Df {p t:bD} {x:cz} {m m':aB} {s:StoreT} {tb tb':bn} {e:Int} (hR:Rs m.b.a m.a.g.a m.a.j.a tb.a.a) (hl:p.b.a= []) (hw:p.a.a.a= [])
    (h:iU p x m s tb=(e,t,m',tb')):
    Kp m m' tb'/\X t.a.a.a<=24/\(t.a.a.a≠ []->x.H=Zj/\Tx m.b.a m.a.g.a x.r/\Dn m' x.r):=by
  unfold iU at h
  simp only [bI] at h
  cases hf:eG m x.r with
  | mk j b=>
    rw [hf] at h
    cases b with
    | true=>
      rw [ZJ Z] at h
      generalize hwr:(if x.H=Zj then _ else p.a.a.a)=Z8 at h
      generalize hd:eP _ _=r at h
      generalize hfi:iG _ _=rf at h
      generalize hrl:fP _ _ _ _=v at h
      obtain⟨w,l⟩:=v
      generalize hlo:eu _ _ _ _=v at h
      obtain⟨y,A,B,n⟩:=v
      obtain⟨_,rfl,rfl,rfl⟩:=eQ h
      obtain⟨o,k2⟩:=D7 hd hfi hrl hlo hR hl hf (.inl ⟨Z,Z⟩) Z ⟨Z,Z⟩ Z ⟨Z,Z⟩
      obtain⟨a,z,q,f,hz,ha⟩:∃ a z q,m.a.g.a=a++z::q/\z.r=x.r/\List.getD m.a.g.a (Zc j) Zy=z:=by
        rw [hfind] at hf
        rcases qE hR.tk.hu x.r with ⟨a,z,q,f,hp,ha,hq,k⟩ | ⟨a,q,f,ha,hq,k⟩
        . rw [k] at hf
          have:j=(X a:Int):=(ZX Prod.fst hf).symm
          refine⟨a,z,q,f,hp, ?_⟩
          rw [this,Int.toNat_natCast,f]
          simp
        . rw [k] at hf; exact CG (ZX Prod.snd hf).symm
      have g:z ∈ m.a.g.a:=by rw [f]; exact List.mem_append_right _ b3
      refine⟨o, ?_,λ hne=>⟨?_, .inr ⟨z,g,hz⟩,k2⟩⟩
      . show X Z8<=24
        rw [<- hwr]
        by_cases c:x.H=Zj
        . rw [ZJ c]
          generalize hcm:jW _ _ _=cm
          have u:=HZ hcm
          rw [ha] at u
          have k:=hR.tk.b z g
          have C:X p.a.a.a=0:=by rw [hw]; rfl
          simp only at u
          omega
        . rw [ZK c,hw]; decide
      . by_cases c:x.H=Zj
        . exact c
        . refine(hne ?_).elim
          show Z8= []
          rw [<- hwr,ZK c,hw]
    | false=>
      simp only [Bool.false_eq_true,if_false] at h
      cases hwa:cK m x.r with
      | mk i bw=>
        rw [hwa] at h
        cases bw with
        | true=>
          rw [ZJ Z] at h
          generalize hd:eP _ _=r at h
          generalize hfi:iG _ _=rf at h
          generalize hrl:fP _ _ _ _=v at h
          obtain⟨w,l⟩:=v
          generalize hlo:eu _ _ _ _=v at h
          obtain⟨y,A,B,n⟩:=v
          obtain⟨_,rfl,rfl,rfl⟩:=eQ h
          obtain⟨o,k2⟩:=D7 hd hfi hrl hlo hR hl hf (.inr ⟨Z,Z⟩) Z ⟨Z,Z⟩ Z ⟨Z,Z⟩
          have d:=hw
          exact⟨o,by show X p.a.a.a<=24; rw [hw]; decide,λ hne=>(hne d).elim⟩
        | false=>
          simp only [Bool.false_eq_true,if_false] at h
          obtain⟨_,rfl,rfl,rfl⟩:=eQ h
          exact⟨Kp.same hR,by show X p.a.a.a<=24; rw [hw]; decide,λ hne=>(hne hw).elim⟩
open Int renaming toNat->W
open List renaming getD->J0,mem_append->U3,mem_singleton->m6
section
open Go.RowKit
open Go.ChangeShapes
theorem D8 (k:Key):∀ (f n:Nat),mf k f (((n:Nat):Int) - 1)=((kZ k f n:Nat):Int) - 1\/n >= f
  | 0,n=> .inr U
  | f+1,n=>by
    unfold kZ mf
    simp only [bnd]
    by_cases b:(n:Int) > 0
    . have e:W ((n:Int) - 1)=n - 1:=U
      rw [ZJ b,ZJ U,e]
      by_cases a:(((J0 k (n - 1) Zy).toNat:Nat):Int)=255
      . rw [ZJ a,ZJ a]
        have:=D8 k f (n - 1)
        rw [show (((n - 1:Nat):Nat):Int) - 1=(n:Int) - 1 - 1 by omega] at this
        rcases this with h | h
        . exact .inl h
        . exact .inr U
      . rw [ZK a,ZK a]; exact .inl Z
    . rw [ZK b,ZK U]; exact .inl Z
theorem Jl {k:Key} (hk:xI k):qH k=(ai.q k (ph k),0):=by
  rw [<- Je hk]
  have hc:=tT.2 hk
  have b:jl k=0:=hc
  have c:qH k=if((X k:Nat):Int) < 12 then(ai.q k (k++([0])),0) else bnd (mf k ((W ((((X k) - 1:Nat):Int)+1))+1) (((X k) - 1:Nat):Int)) λ s=>if s < 0 then(ai.q k [],0) else(ai.q k ((Zf (W s) k)++([(J0 k (W s) Zy+(1:UInt8))])),0):=by
    unfold qH
    rw [bI,hc,ZJ Z]
    rfl
  have d:qx k=if((X k:Nat):Int) < 12 then(ai.q k (k++([0])),0) else bnd (kZ k (12+1) 12) λ s=>if(s:Int)=0 then(ai.q k [],0) else(ai.q k ((Zf (s - 1) k)++([(J0 k (s - 1) Zy+(1:UInt8))])),0):=by
    unfold qx
    rw [bI,b,ZJ Z]
    rfl
  rw [c,d]
  by_cases a:((X k:Nat):Int) < 12
  . rw [ZJ a,ZJ a]
  . rw [ZK a,ZK a]
    have hl:X k=12:=by have:=hk.2; omega
    have e:W (((X k - 1:Nat):Int)+1)+1=13:=U
    have f:(((X k - 1:Nat):Nat):Int)=((12:Nat):Int) - 1:=U
    have:=(D8 k 13 12).resolve_right U
    rw [e,f,this,show (12:Nat)+1=13 from Z]
    generalize kZ k 13 12=t
    rw [bI,bI]
    by_cases g:t=0
    . subst g
      rw [ZJ U,ZJ U]
    . rw [ZK U,ZK U,show W ((t:Int) - 1)=t - 1 by omega]
def VO (l:List aV):Prop:=∀ o ∈ l,eF o=0
def VM (l:List aG):Prop:=∀ p ∈ l,Ba p
def VL (l:List aL):Prop:=∀ x ∈ l,dP x.j=0
def VW (ws:List bK):Prop:=∀ w ∈ ws,VO w.j.a/\VL w.g.a
def VH (hs:List dG):Prop:=∀ h ∈ hs,VO h.a.a
theorem VO.nil:VO []:=λ _ h=>absurd h y2
theorem VO.app {a b:List aV} (ha:VO a) (hb:VO b):VO (a++b):=λ o ho=>(U3.1 ho).elim (ha o) (hb o)
theorem VO.tail {x:aV} {l:List aV} (h:VO (x::l)):VO l:=λ o ho=>h o (.tail _ ho)
theorem AX:∀ {l:List aV},VO l->j4 l=0
  | [],_=>rfl
  | x::l,h=>by
    have a:=AX h.tail
    unfold j4 at a ⊢
    unfold jO
    rw [bI,h x b3,ZJ Z]
    exact a
theorem IX {p:aG} (h:Ba p):eF (aV.q 2 p.j p.k [] [] 0)=0:=by
  rw [IJ Z,ZJ ⟨Z,Z,Z⟩,Em,ZJ (tT.2 h.1),ZK (by have:=h.2; dsimp only; omega)]
theorem H5 {x:aV} (h:eF x=0):dP (if x.g=1\/x.g=2\/x.g=3 then kz x else gF x)=0:=by
  by_cases c:x.g=1\/x.g=2\/x.g=3
  . rw [ZJ c]
    have hk:=zD h c
    unfold kz
    rw [bI,Jl hk]
    exact yU.2 (JF hk)
  . rw [ZK c]
    by_cases a:x.g=4\/x.g=5
    . exact yU.2 (wF h a)
    . rw [JP U] at h; cases h
theorem zW:∀ (l:List aV) (a:List aL),VO l->VL a->VL (gX l a)
  | [],a,_,h=>h
  | x::l,a,hv,h=>by
    have hs:=H5 (hv x b3)
    have g:∀ (r:ai) (b:Bool),dP r=0->VL (gX l (a++ [aL.q r b])):=λ r b hr=>zW l _ hv.tail λ y hy=>(U3.1 hy).elim (h y) λ hy=>by rw [m6.1 hy]; exact hr
    unfold gX
    by_cases c:x.g=1
    . rw [ZJ c,bI]; rw [ZJ (.inl c)] at hs; exact g _ _ hs
    rw [ZK c]
    by_cases d:x.g=2
    . rw [ZJ d,bI]; rw [ZJ (.inr (.inl d))] at hs; exact g _ _ hs
    rw [ZK d]
    by_cases e:x.g=3
    . rw [ZJ e,bI]; rw [ZJ (.inr (.inr e))] at hs; exact g _ _ hs
    rw [ZK U] at hs
    rw [ZK e]
    by_cases f:x.g=4
    . rw [ZJ f,bI]; exact g _ _ hs
    . rw [ZK f,bI]; exact g _ _ hs
theorem Gm {l:List aV} {r:List aL} {e:Int} (hv:VO l) (h:o9 l=(r,e)):VL r/\e=0:=by
  unfold o9 at h
  rw [bI,AX hv,ZJ Z,bI] at h
  obtain⟨rfl,rfl⟩:=fI h
  exact⟨zW l [] hv λ _ h=>absurd h y2,Z⟩
theorem CO (k:List UInt8):∀ (l:List aG) (v:List UInt8),lM k l= .inr (v,Zj)->∃ p ∈ l,p.k=v
  | [],v,h=>by cases h
  | x::l,v,h=>by
    unfold lM at h
    split at h
    . have a:(x.k,Zj)=(v,Zj):=Sum.inr.inj h
      exact⟨x, .head _,ZX Prod.fst a⟩
    . obtain⟨p,hp,e⟩:=CO k l v h
      exact⟨p, .tail _ hp,e⟩
theorem wQ (r:ai) (n:Int):∀ (l a:List aG), ∀ p ∈ iw r n l a,p ∈ a\/p ∈ l
  | [],a,p,h=> .inl h
  | x::l,a,p,h=>by
    unfold iw at h
    rw [bI] at h
    have b:p ∈ iw r n l a->p ∈ a\/p ∈ x::l:=λ h=>(wQ r n l a p h).imp id (.tail _)
    have c:p ∈ iw r n l (a++ [x])->p ∈ a\/p ∈ x::l:=λ h=>by
      rcases wQ r n l _ p h with h | h
      . rcases U3.1 h with h | h
        . exact .inl h
        . rw [m6.1 h]; exact .inr b3
      . exact .inr (.tail _ h)
    split at h
    . split at h
      . exact c h
      . split at h
        . exact c h
        . exact b h
    . exact b h
theorem H6 {m:aB} {o:aV} {s:StoreT} (hm:VM s.a.a) (ho:eF o=0):VM (nE m o s).1:=by
  unfold nE
  by_cases c:o.g=1
  . rw [ZJ c,bI]
    unfold rE
    rw [bI]
    generalize hf:rH s.a.a o.j=v
    obtain⟨v,b⟩:=v
    cases b with
    | false=>simp only [Bool.false_eq_true,if_false]; exact λ _ h=>absurd h y2
    | true=>
      simp only [if_true]
      intro p hp
      rw [m6.1 hp]
      refine⟨zD ho (.inl c), ?_⟩
      unfold rH at hf
      cases a:lM o.j s.a.a with
      | inl z=>rw [a] at hf; exact CG (ZX Prod.snd hf).symm
      | inr z=>
        rw [a] at hf
        have e:z=(v,Zj):=hf
        rw [e] at a
        obtain⟨q,hq,f⟩:=CO _ _ _ a
        show X v<=16
        rw [<- f]; exact(hm q hq).2
  . rw [ZK c]
    by_cases d:o.g=4
    . rw [ZJ d,bI]
      unfold qL qI
      simp only [bI]
      exact λ p hp=>(wQ _ _ _ _ p hp).elim (λ h=>absurd h y2) (hm p)
    . rw [ZK d]; exact λ _ h=>absurd h y2
theorem FL:∀ (q:List aG) (l:List aV),VM q->VO l->VO (jR q l)
  | [],l,_,h=>h
  | x::q,l,hm,h=>FL q _ (λ p hp=>hm p (.tail _ hp)) (h.app λ o ho=>by rw [m6.1 ho]; exact IX (hm x b3))
theorem FM (p:bD) (o:List aV) (m:aB) (s:StoreT) (hm:VM s.a.a):∀ (q l:List aV),VO q->VO l->VO (gW p o m s q l)
  | [],l,_,h=>h
  | x::q,l,hq,h=>by
    unfold gW
    simp only [bI]
    exact FM p o m s hm q _ hq.tail (FL _ _ (H6 hm (hq x b3)) h)
theorem IY {p:bD} {o:List aV} {m:aB} {s:StoreT} (hm:VM s.a.a) (ho:VO o) (hw:VO p.a.a.a):(nG p o m s).2=0:=by
  unfold nG
  simp only [bI]
  have ha:(rJ [] ((gW p o m s o []++p.a.a.a)++o)).2.2=0:=by
    unfold rJ
    rw [bI,ZJ (show gT []=0 from Z),bI,ZJ (AX (((FM p o m s hm o [] ho VO.nil).app hw).app ho)),bI]
  rw [ZJ ha]
theorem H7 {p t:bD} {h:dG} {m:aB} {s:StoreT} {e:Int} (hm:VM s.a.a) (ho:VO h.a.a) (hw:VO p.a.a.a) (hv:gY p h m s=(e,t)):e=0/\∃ y,t.a.b.a=p.a.b.a++y:=by
  unfold gY at hv
  rw [bI,ZJ (IY hm ho hw)] at hv
  obtain⟨rfl,rfl⟩:=fI hv
  exact⟨Z,_,Z⟩
def Nw (k:Nat) (rs:List aS):Prop:=∀ r ∈ rs,r.a=k->r.j=O
theorem Ew {m:List aS} (hs:Up m) {t:Nat} (h:Nw t m):gU (bn.q (Ll.q m)) t=O:=by
  unfold gU
  rw [bI]
  rcases ni hs t with ⟨a,p,q,rfl,hp,ha,hq,hf⟩ | ⟨a,q,rfl,ha,hq,hf⟩
  . rw [hf,ZJ Z,bI]
    simp only [Int.toNat_natCast,gd]
    exact h p i2 hp
  . rw [hf,ZK i2]
theorem IZ {m:List aS} (h:jZ m) {t:Nat} {x:aL} {s e:Int} {g d:List Nat} {r:bn} (hx:dP x.j=0) (hn:Nw t m) (hr:jc (bn.q (Ll.q m)) t x=(s,g,d,e,r)):e=0/\(s≠2->Nw t r.a.a):=by
  rw [wN h] at hr
  have k:s=_:=(ZX (λ q=>q.1) hr).symm
  have l:e=_:=(ZX (λ q=>q.2.2.2.1) hr).symm
  have n:r=_:=(ZX (λ q=>q.2.2.2.2) hr).symm
  rw [k,l,n]
  simp only
  unfold oU
  rw [ZJ hx,ZK (by rw [Ew h.up hn]; decide)]
  by_cases c:kN (bn.q (Ll.q m)) t x=Zj
  . rw [ZJ c]; exact⟨Z,λ _=>hn⟩
  rw [ZK c]
  by_cases f:192<=lv m
  . rw [ZJ f]; exact⟨Z,λ _=>hn⟩
  rw [ZK f]
  by_cases i:ed (bn.q (Ll.q m)) t x= []
  . rw [ZJ i]
    obtain⟨p,u⟩:=vZ m h.up t x
    have v:=wI m h.up t x
    have w:=h.len
    have y:=h.tot
    have o:lv (gR m t x)<=lv (jb m t x):=mP _ _
    have A:X (gR m t x)<=X (jb m t x):=List.length_filter_le _ _
    have hf:Fit (gR m t x):=⟨(sJ h.up t x).filter _,U,U⟩
    refine⟨Z,λ _ q hq hqt=> ?_⟩
    cases hw:q.j with
    | false=>rfl
    | true=>
      obtain⟨z,hz,a,b⟩:=(xU hf (CB h.up t x)).wt q hq hw
      have:=hn z hz (by rw [a,hqt])
      rw [b] at this; cases this
  rw [ZK i]
  by_cases j:J0 (ed (bn.q (Ll.q m)) t x) 0 Zy < t
  . rw [ZJ j]; exact⟨Z,λ _=>hn⟩
  . rw [ZK j]; exact⟨Z,λ h=>absurd Z h⟩
theorem i0 {p:Prop}(h:p:=by first | assumption | (dsimp only; exact dS (by assumption))):p:=h
end
theorem Jm (a b:Key):pM a b=M.ls a b:=by
  unfold pM M.ls
  by_cases c:a= []
  . rw [ZJ c,ZJ c]
  . rw [ZK c,ZK c]
    by_cases d:b= []
    . rw [ZK (λ q=>q d),ZJ d]
    . rw [ZJ d,ZK d]
theorem H8 {r s x:ai} {b:Bool} (h:iZ r s=(x,b)) (hb:b=Zj):dP x=0:=by
  subst hb
  unfold iZ at h
  simp only [bI,Jm] at h
  by_cases d:dP r=0
  . rw [ZJ d] at h
    by_cases f:dP s=0
    . rw [ZJ f] at h
      by_cases a:sD (qh r.a s.a) (M.ls r.b s.b)=Zj
      . rw [ZJ a] at h
        have e:=(ZX Prod.fst h).symm
        simp only at e
        subst e
        refine yU.2 (M.R_meet (l1:=r.a) (l2:=s.a) ⟨yU.1 d,yU.1 f, ?_⟩)
        unfold sD at a
        by_cases c:M.ls r.b s.b= []
        . exact .inl c
        . rw [ZK c] at a; exact .inr (of_decide_eq_true a)
      . rw [ZK a] at h; cases ZX Prod.snd h
    . rw [ZK f] at h; cases ZX Prod.snd h
  . rw [ZK d] at h; cases ZX Prod.snd h
theorem Gp {x:ai} (h:dP x=0):eF (aV.q 5 [] [] x.a x.b 0)=0:=by
  rw [Ju Z,ZJ ⟨Z,Z,Z⟩,GM]; exact h
theorem CP (l:List bF) (p:Int) (b:Bool):∀ (q:List bF) (a:List ai) (k:Nat),X (iT l p b q a k)<=X a+X q
  | [],a,k=>Nat.le_add_right _ _
  | x::q,a,k=>by
    unfold iT
    rw [bI]
    have c:=CP l p b q (a++ [(rF l (k:Int)).1]) (k+1)
    have d:=CP l p b q a (k+1)
    simp only [List.length_append,List.length_cons,List.length_nil] at *
    split
    . split
      . omega
      . omega
    . omega
theorem zX (l:List bF) (p:Int) (b:Bool):X (jw l p b)<=X l:=by
  unfold jw
  rw [bI]
  have:=CP l p b l [] 0
  rw [List.length_nil] at this
  omega
theorem AY (x:ai):∀ (q:List ai) (a:List aV),X (fM x q a)<=X a+X q
  | [],a=>Nat.le_add_right _ _
  | y::q,a=>by
    unfold fM
    rw [bI]
    have b:=AY x q (a++ [aV.q 5 [] [] (iZ x y).1.a (iZ x y).1.b 0])
    have c:=AY x q a
    simp only [List.length_append,List.length_cons,List.length_nil] at *
    split <;> omega
theorem D9 (p:bD) (l:List ai) (c:Nat) (hc:X l<=c):∀ (q:List ai) (a:List aV),X (gM p l q a)<=X a+c *X q
  | [],a=>Nat.le_add_right _ _
  | y::q,a=>by
    unfold gM
    rw [bI]
    have b:=D9 p l c hc q (fM y l a)
    have d:=AY y l a
    rw [List.length_cons,Nat.mul_succ]
    omega
theorem zY {p:bD} {a b:List ai} (c k:Nat) (hb:X b<=c) (ha:X a<=6) (hk:c *6<=k):X (gq p a b).a.a.a<=X p.a.a.a+k:=by
  unfold gq
  rw [bI]
  have d:=D9 p b c hb a p.a.a.a
  have e:c *X a<=c *6:=Nat.mul_le_mul_left _ ha
  show X (gM p b a p.a.a.a)<=_
  omega
theorem CQ (x:ai):∀ (q:List ai) (a:List aV),VO a->VO (fM x q a)
  | [],a,h=>h
  | y::q,a,h=>by
    unfold fM
    rw [bI]
    by_cases c:(iZ x y).2=Zj
    . rw [ZJ c]
      exact CQ x q _ (h.app λ z hz=>by rw [List.mem_singleton.1 hz]; exact Gp (H8 (Prod.ext Z Z) c))
    . rw [ZK c]; exact CQ x q a h
theorem FN (p:bD) (l:List ai):∀ (q:List ai) (a:List aV),VO a->VO (gM p l q a)
  | [],a,h=>h
  | y::q,a,h=>by
    unfold gM
    rw [bI]
    exact FN p l q _ (CQ y l a h)
theorem BI {p:bD} (a b:List ai) (h:VO p.a.a.a):VO (gq p a b).a.a.a:=by
  unfold gq
  rw [bI]
  exact FN p b a _ h
structure Al (m m':aB):Prop where q::
  w:m'.b.a=m.b.a
  h:m'.a.g.a=m.a.g.a
  f:m'.a.j.a=m.a.j.a
  l:m'.a.t=m.a.t
  i:m'.a.r=m.a.r
theorem Al.same (m:aB):Al m m:=⟨Z,Z,Z,Z,Z⟩
theorem Ex {p t:bD} {x:cz} {m m':aB} (h:mZ p x m=(t,m')) (e:X m.a.b.a<=6) (f:X x.b.a<=6):
    Al m m'/\m'.a.b.a=x.b.a/\m'.a.u=x.u/\X t.a.a.a<=X p.a.a.a+42/\(VO p.a.a.a->VO t.a.a.a):=by
  unfold mZ at h
  simp only [bI] at h
  have g:=zX m.a.b.a m.a.r Zj
  have i:=zX x.b.a m.a.r O
  by_cases c:(m.a.a.k:Int)=0
  . rw [ZJ c] at h
    obtain⟨rfl,rfl⟩:=fI h
    refine⟨⟨Z,Z,Z,Z,Z⟩,Z,Z, ?_,λ hv=>BI _ _ hv⟩
    have:=zY (p:=p) (a:=jw x.b.a m.a.r O) (b:=jw m.a.b.a m.a.r Zj) 6 36 U U U
    exact Nat.le_trans this U
  rw [ZK c] at h
  by_cases d:(m.a.a.k:Int)=(x.k:Int)
  . rw [ZJ d] at h
    obtain⟨rfl,rfl⟩:=fI h
    refine⟨⟨Z,Z,Z,Z,Z⟩,Z,Z, ?_,λ hv=>BI _ _ hv⟩
    have:=zY (p:=p) (a:=jw x.b.a m.a.r O) (b:=jw m.a.b.a m.a.r Zj) 6 36 U U U
    exact Nat.le_trans this U
  . rw [ZK d] at h
    obtain⟨rfl,rfl⟩:=fI h
    refine⟨⟨Z,Z,Z,Z,Z⟩,Z,Z, ?_,λ hv=>BI _ _ (BI _ _ hv)⟩
    have j:=zY (p:=p) (a:=jw x.b.a m.a.r O) (b:= [m.a.a.j]) 1 6 (Nat.le_refl _) U U
    refine Nat.le_trans (zY (p:=bD.q (bY.q (Ll.q p.a.b.a) (Ll.q (gq p (jw x.b.a m.a.r O) [m.a.a.j]).a.a.a) p.a.g) (Ll.q p.b.a)) (a:=jw x.b.a m.a.r O) (b:=jw m.a.b.a m.a.r Zj) 6 36 U U U) ?_
    show X (gq p _ _).a.a.a+36<=_
    omega
theorem vM {p t:bD} {x:cz} {m m':aB} {e:Int} (h:jE p x m=(e,t,m')) (a:X m.a.b.a<=6) (b:X x.b.a<=6):
    Al m m'/\X m'.a.b.a<=6/\x.u<=m'.a.u/\X t.a.a.a<=X p.a.a.a+42/\(VO p.a.a.a->VO t.a.a.a):=by
  unfold jE at h
  by_cases c:(x.u:Int) > (m.a.u:Int)
  . rw [ZJ c] at h
    simp only [bI] at h
    generalize hl:mZ _ _ _=v at h
    obtain⟨d,m1⟩:=v
    obtain⟨k,o,v,l,vo⟩:=Ex hl a b
    obtain⟨_,rfl,rfl⟩:=nM h
    refine⟨⟨Z,Z,Z,k.l,k.i⟩, ?_, ?_,l,vo⟩
    . show X m1.a.b.a<=6; rw [o]; exact b
    . show x.u<=m1.a.u; rw [v]; exact Nat.le_refl _
  . rw [ZK c] at h
    obtain⟨_,rfl,rfl⟩:=nM h
    exact⟨Al.same _,a,U,Nat.le_add_right _ _,λ h=>h⟩
theorem CR {p t:bD} {x:cz} {m m':aB} {e:Int} (h:jE p x m=(e,t,m')) (hv:x.u<=m.a.u):m'=m/\t.a.a=p.a.a:=by
  unfold jE at h
  rw [ZK U] at h
  obtain⟨_,rfl,rfl⟩:=nM h
  exact⟨Z,Z⟩
def Ld (x:cz) (m:aB):Prop:=∀ p, ∃ t,eX p x m=(0,t,m)/\t.a.a=p.a.a
theorem Ia (n:Nat):Zc (IntKind.u64.wrap (((n:Nat):Int)+1))=n+1\/Zc (IntKind.u64.wrap (((n:Nat):Int)+1)) < n:=by
  have e:IntKind.u64.wrap ((n:Int)+1)=((n:Int)+1) % 18446744073709551616:=Z
  rw [e]
  omega
theorem xX {x:cz} {m:aB} (a: ¬ ((x.k:Nat):Int)=0) (f:x.k=m.a.k) (b:lV m x.j=O) (d:rz x.a.a x.j=Zj)
    (g:m.a.a.k=x.k) (h:m.a.a.s=x.s) (i:m.a.a.a=x.C+1\/m.a.a.a < x.C) (e:m.a.a.j=x.j):Ld x m:=λ p=>by
  unfold eX
  rw [ZK a,ZJ U,bI,b,ZK f7,bI,d,ZJ Z,ZJ U,ZK U]
  simp only [lp]
  rw [ZK U]
  by_cases c:(x.C:Int) > (m.a.a.a:Int)
  . rw [ZJ c]
    exact⟨p,Z,Z⟩
  . rw [ZK c,ZJ (by rw [e]; exact⟨Z,Z⟩),ZK U]
    exact⟨_,Z,Z⟩
structure Lt (x:cz) (p t:bD) (m m':aB) (e:Int):Prop where q::
  e:e=0
  f:aB.q (bH.q m'.a.r m'.a.y m'.a.u m'.a.z m'.a.k (Ll.q m.a.b.a) (Ll.q m.a.g.a) (Ll.q m.a.j.a) m'.a.t m'.a.B m'.a.s m'.a.a) (Ll.q m.b.a)=m'
  i:m'.a.r=m.a.r
  w:t.a.a.a=p.a.a.a\/t.a.a.a=p.a.a.a++x.a.a
  d:Ld x m'
theorem qM {x:cz} {p t:bD} {m m':aB} {e:Int} (k:∀ p,eX p x m=(0,p,m)) (h:eX p x m=(e,t,m')):Lt x p t m m' e:=by
  rw [k] at h
  obtain⟨rfl,rfl,rfl⟩:=nM h
  exact⟨Z,Z,Z, .inl Z,λ p=>⟨p,k p,Z⟩⟩
theorem xY {x:cz} {p t:bD} {m m':aB} {e:Int} (h:eX p x m=(e,t,m')):Lt x p t m m' e:=by
  by_cases a:(x.k:Int)=0
  . exact qM (λ p=>by unfold eX; rw [ZJ a]) h
  by_cases d:(x.k:Int)=(m.a.k:Int)
  case neg=>exact qM (λ p=>by unfold eX; rw [ZK a,ZK d]) h
  cases b:lV m x.j with
  | true=>exact qM (λ p=>by unfold eX; rw [ZK a,ZJ d,bI,b,ZJ Z]) h
  | false=>
    cases c:rz x.a.a x.j with
    | false=>exact qM (λ p=>by unfold eX; rw [ZK a,ZJ d,bI,b,ZK f7,bI,c,ZK f7]) h
    | true=>
      by_cases g:(x.k:Int)=(m.a.a.k:Int)
      . by_cases i:(x.s:Int) > (m.a.a.s:Int)
        . by_cases j:(x.C:Int)=0
          . unfold eX at h
            rw [ZK a,ZJ d,bI,b,ZK f7,bI,c,ZJ Z,ZJ g,ZJ i,ZJ j] at h
            simp only [lp] at h
            rw [ZK U,ZK U,ZJ i2,ZJ (show (x.C:Int)=((0:Nat):Int) from by omega)] at h
            obtain⟨rfl,rfl,rfl⟩:=nM h
            exact⟨Z,Z,Z, .inr Z,xX a (by show x.k=m.a.k; omega) b c Z Z (.inl (show Zc (IntKind.u64.wrap (((0:Nat):Int)+1))=x.C+1 from by rw [show x.C=0 from by omega]; rfl)) Z⟩
          . exact qM (λ p=>by unfold eX; rw [ZK a,ZJ d,bI,b,ZK f7,bI,c,ZJ Z,ZJ g,ZJ i,ZK j]; rfl) h
        . by_cases l:(x.s:Int) < (m.a.a.s:Int)
          . exact qM (λ p=>by unfold eX; rw [ZK a,ZJ d,bI,b,ZK f7,bI,c,ZJ Z,ZJ g,ZK i]; simp only [lp]; rw [ZJ l]) h
          by_cases o:(x.C:Int) > (m.a.a.a:Int)
          . exact qM (λ p=>by unfold eX; rw [ZK a,ZJ d,bI,b,ZK f7,bI,c,ZJ Z,ZJ g,ZK i]; simp only [lp]; rw [ZK l,ZJ o]) h
          by_cases f:(x.j.a=m.a.a.j.a)/\(x.j.b=m.a.a.j.b)
          case neg=>exact qM (λ p=>by unfold eX; rw [ZK a,ZJ d,bI,b,ZK f7,bI,c,ZJ Z,ZJ g,ZK i]; simp only [lp]; rw [ZK l,ZK o,ZK f]) h
          have er:ai.q m.a.a.j.a m.a.a.j.b=x.j:=by rw [<- f.1, <- f.2]
          by_cases n:(x.C:Int)=(m.a.a.a:Int)
          . unfold eX at h
            rw [ZK a,ZJ d,bI,b,ZK f7,bI,c,ZJ Z,ZJ g,ZK i] at h
            simp only [lp] at h
            rw [ZK l,ZK o,ZJ f,ZJ n] at h
            obtain⟨rfl,rfl,rfl⟩:=nM h
            refine⟨Z,Z,Z, .inr Z,xX a (by show x.k=m.a.k; omega) b c (by show m.a.a.k=x.k; omega) (by show m.a.a.s=x.s; omega) ?_ er⟩
            have:=Ia m.a.a.a
            have r:x.C=m.a.a.a:=U
            rw [r]
            exact this
          . unfold eX at h
            have k:∀ p,eX p x m=(0,bD.q (bY.q (Ll.q (p.a.b.a++ [(cz.q 12 m.a.r x.D 0 0 0 0 0 0 0 0 0 x.k x.s x.C O (ai.q [] []) (Ll.q []) (Ll.q []) (Ll.q []))])) (Ll.q p.a.a.a) p.a.g) (Ll.q p.b.a),m):=λ p=>by
              unfold eX; rw [ZK a,ZJ d,bI,b,ZK f7,bI,c,ZJ Z,ZJ g,ZK i]; simp only [lp]; rw [ZK l,ZK o,ZJ f,ZK n]
            have q:eX p x m=(e,t,m'):=h
            rw [k] at q
            obtain⟨rfl,rfl,rfl⟩:=nM q
            exact⟨Z,Z,Z, .inl Z,λ p=>⟨_,k p,Z⟩⟩
      . by_cases j:(x.C:Int)=0
        . unfold eX at h
          rw [ZK a,ZJ d,bI,b,ZK f7,bI,c,ZJ Z,ZK g,ZJ j] at h
          obtain⟨rfl,rfl,rfl⟩:=nM h
          exact⟨Z,Z,Z, .inr Z,xX a (by show x.k=m.a.k; omega) b c Z Z (.inl (by show 1=x.C+1; omega)) Z⟩
        . exact qM (λ p=>by unfold eX; rw [ZK a,ZJ d,bI,b,ZK f7,bI,c,ZJ Z,ZK g,ZK j]) h
open List renaming append_assoc->q2,append_nil->s1,getElem?_eq_getElem->p3,mem_of_getElem?->G4
open Nat renaming le_of_lt_succ->X2,lt_of_lt_of_le->X1
theorem VW.set {ws:List bK} {i:Nat} {x y:bK} (h:VW ws) (hx:ws[i]? =Zv x) (ho:y.j=x.j) (hl:y.g=x.g):VW (List.set ws i y):=λ w hw=>by
  rcases List.mem_or_eq_of_mem_set hw with e | e
  . exact h w e
  . rw [e,ho,hl]; exact h x (G4 hx)
theorem VW.but {ws:List bK} (h:VW ws) (k:Nat):VW (qV k ws):=λ w hw=>h w (List.mem_filter.1 hw).1
theorem Gq (p:bD) (k:Nat) (m:aB) (s:StoreT) (r:Int):∀ (q:Nat) (l:List dC) (rs:List aS) (ws:List bK),Tk ws m.a.g.a rs->wm ws (W r) k->gm ws (W r) < q->Nw k rs->VW ws->
    (∀ l' rs' ws' x,gI p k m s r q l rs ws= .inl (l',rs',ws',x)->VW ws'/\VO x.j.a)/\
    (∀ e t m' tb',gI p k m s r q l rs ws= .inr (e,t,m',tb')->e=0/\VW m'.b.a/\m'.a.g.a=m.a.g.a/\∃ y,t.a.b.a=p.a.b.a++y):=by
  intro q
  induction q with
  | zero=>intro l rs ws _ _ h; omega
  | succ q ih=>
    intro l rs ws hk hw _ hn hv
    obtain⟨x,hx,_⟩:=id hw
    have hgm:=zM hx
    obtain⟨⟨B,C⟩,D,E⟩:=hk.wat hx
    rw [gI]
    simp only [bI,bG hx]
    by_cases a:x.b < ((X x.g.a:Nat):Int)
    . rw [ZJ a]
      have hlk:dP (List.getD x.g.a (W x.b) Zy).j=0:=by
        obtain⟨y,hy⟩:∃ y,x.g.a[W x.b]? =Zv y:=⟨_,p3 U⟩
        rw [bG hy]
        exact(hv x (G4 hx)).2 y (G4 hy)
      cases ha:jc (bn.q (N rs)) k (List.getD x.g.a (W x.b) Zy) with
      | mk sv j=>cases j with
        | mk g n=>cases n with
          | mk d o=>cases o with
            | mk e tb=>
              obtain⟨u,c⟩:=IZ hk.snd hlk hn ha
              simp only [tX]
              rw [ZJ u]
              by_cases f:sv=2
              . rw [ZJ f]
                refine⟨λ _ _ _ _ h=>(by cases h),λ w t m' tb' h=> ?_⟩
                obtain⟨rfl,rfl,rfl,rfl⟩:=eQ (Sum.inr.inj h)
                exact⟨Z,hv,Z, [],(s1 _).symm⟩
              . rw [ZK f]
                by_cases i:sv=3
                . rw [ZJ i]
                  refine⟨λ _ _ _ _ h=>(by cases h),λ w t m' tb' h=> ?_⟩
                  unfold iV at h
                  rw [bI,rA (m:=aB.q m.a (N ws)) hk.a] at h
                  simp only at h
                  generalize hr:fP _ _ _ _=v at h
                  obtain⟨F,z⟩:=v
                  obtain⟨rfl,rfl,rfl,rfl⟩:=eQ (Sum.inr.inj h)
                  exact⟨Z,hv.but k,Z,_,Z⟩
                . rw [ZK i]
                  have hbump:=(hk.ask hw ha).bump (y:=bK.q x.a (N x.j.a) (N x.g.a) (x.b+1)) hx Z Z Z (show (0:Int)<=x.b+1/\x.b+1<=((X x.g.a:Nat):Int) by omega)
                  have A:=zN (y:=bK.q x.a (N x.j.a) (N x.g.a) (x.b+1)) hx a Z Z
                  exact ih _ tb.a.a (List.set ws (W r) (bK.q x.a (N x.j.a) (N x.g.a) (x.b+1))) hbump (hw.set hx Z) U (c f) (hv.set hx Z Z)
    . rw [ZK a]
      refine⟨λ l' rs' ws' x' h=> ?_,λ _ _ _ _ h=>(by cases h)⟩
      obtain⟨rfl,rfl,rfl,rfl⟩:=eQ (Sum.inl.inj h)
      exact⟨hv,(hv x (G4 hx)).1⟩
structure Vt (p:bD) (s:StoreT) (ws:List bK) (hs:List dG):Prop where q::
  w:VW ws
  h:VH hs
  m:VM s.a.a
  o:VO p.a.a.a
theorem go_ok {p t:bD} {k:Nat} {m m':aB} {s:StoreT} {tb tb':bn} {e:Int} (h:fH p k m s tb=(e,t,m',tb')) (hk:Tk m.b.a m.a.g.a tb.a.a) (hn:Nw k tb.a.a) (v:Vt p s m.b.a m.a.g.a):
    e=0/\VW m'.b.a/\VH m'.a.g.a/\∃ y,t.a.b.a=p.a.b.a++y:=by
  unfold fH at h
  rw [bI] at h
  cases hf:cK m k with
  | mk i b=>
    rw [hf] at h
    cases b with
    | false=>
      rw [ZK i2] at h
      obtain⟨rfl,rfl,rfl,rfl⟩:=eQ h
      exact⟨Z,v.w,v.h, [],(s1 _).symm⟩
    | true=>
      rw [ZJ Z] at h
      have hw:=mR hk.a hf
      obtain⟨hl,hr⟩:=Gq p k m s i (gm m.b.a (W i)+1) p.b.a tb.a.a m.b.a hk hw U hn v.w
      cases hg:gI p k m s i (gm m.b.a (W i)+1) p.b.a tb.a.a m.b.a with
      | inr z=>
        obtain⟨a,g,j,f⟩:=z
        simp only at h
        rw [hg] at h
        obtain⟨rfl,rfl,rfl,rfl⟩:=eQ (show (a,g,j,f)=(e,t,m',tb') from h)
        obtain⟨c,d,l,n⟩:=hr _ _ _ _ hg
        exact⟨c,d,by rw [l]; exact v.h,n⟩
      | inl z=>
        obtain⟨l2,r,u,x⟩:=z
        simp only at h
        rw [hg] at h
        obtain⟨c,d⟩:=hl _ _ _ _ hg
        simp only [lp,bI,hfind] at h
        generalize hv:gY _ _ _ _=q at h
        obtain⟨C,D⟩:=q
        obtain⟨A,B⟩:=H7 (p:=bD.q p.a (N l2)) v.m d v.o hv
        obtain⟨rfl,rfl,rfl,rfl⟩:=eQ h
        refine⟨A,λ w hw=> ?_,λ z hz=> ?_,B⟩
        . rcases List.mem_append.1 hw with a | a
          . exact c w (List.mem_of_mem_take a)
          . exact c w (List.mem_of_mem_drop a)
        . rcases mJ.1 hz with a | a
          . rw [a]; exact d
          . exact v.h z a
theorem zZ (p:bD) (m:aB) (s:StoreT) (hm:VM s.a.a) (hw:VO p.a.a.a):∀ (q:Nat) (o:List cz) (l:List dC) (hs:List dG) (ws:List bK) (rs:List aS),Tk ws hs rs->Gt ws->Li l rs->ku l ws rs < q->VW ws->VH hs->(∃ y,o=p.a.b.a++y)->
    ∃ o' l' hs' ws' rs',fG p m s q o l hs ws rs= .inl (o',l',hs',ws',rs')/\VW ws'/\VH hs'/\∃ y,o'=p.a.b.a++y:=by
  intro q
  induction q with
  | zero=>intro o l hs ws rs _ _ _ h; omega
  | succ q ih=>
    intro o l hs ws rs hk hg hli hq vw vh ho
    rw [fG]
    simp only [bI]
    by_cases z:((X l:Nat):Int) > 0
    . rw [ZJ z]
      obtain⟨f,hf⟩:∃ f,l[0]? =Zv f:=⟨_,p3 U⟩
      rw [bG hf]
      by_cases j:f.g=Zj
      . rw [ZJ j]
        generalize hd:iV _ _ _=v
        obtain⟨A,B⟩:=v
        obtain⟨a,c,d,g⟩:=wO hk hg hli hf j hd
        unfold iV at hd
        rw [bI,rA hk.a] at hd
        obtain⟨rfl,rfl⟩:=fI hd
        exact ih _ _ _ _ _ a c d (X1 g (X2 hq)) (vw.but _) vh (by obtain⟨y,rfl⟩:=ho; exact⟨_,q2 _ _ _⟩)
      . rw [ZK j]
        have nw:Nw f.a rs:=λ r hr e=>hli.g f (G4 hf) (Bool.eq_false_iff.2 j) r hr e
        generalize hfd:cK _ _=C
        obtain⟨i,b⟩:=C
        cases b with
        | true=>
          simp only [if_true]
          obtain⟨x,hx,_⟩:=mR hk.a hfd
          have hx':=hx
          have hgx:=hg.wat hx'
          rw [bG hx']
          generalize hgo:fH _ _ _ _ _=v
          obtain⟨D,A,B,k⟩:=v
          obtain⟨a,c,d,g,_⟩:=yu (tb:=bn.q (N rs)) hk hg hli hf hfd hx Z Z hgo
          have hb:=hk.bump (y:=bK.q x.a (N x.j.a) (N x.g.a) (x.b+1)) hx' Z Z Z (by have:=hk.wat hx'; exact⟨show (0:Int)<=x.b+1 by omega,show x.b+1<=((X x.g.a:Nat):Int) by omega⟩)
          obtain⟨n,t,u,E,w⟩:=go_ok (tb:=bn.q (N rs)) hgo hb nw ⟨vw.set hx' Z Z,vh,hm,hw⟩
          rw [ZJ n]
          exact ih _ _ _ _ _ a c d (X1 g (X2 hq)) t u (by obtain⟨y,rfl⟩:=ho; exact⟨_,w.trans (q2 _ _ _)⟩)
        | false=>
          simp only [Bool.false_eq_true,if_false]
          generalize hgo:fH _ _ _ _ _=v
          obtain⟨D,A,B,k⟩:=v
          obtain⟨a,c,d,g,_⟩:=yw (tb:=bn.q (N rs)) hk hg hli hf hfd f7 Z hgo
          obtain⟨n,t,u,E,w⟩:=go_ok (tb:=bn.q (N rs)) hgo hk nw ⟨vw,vh,hm,hw⟩
          rw [ZJ n]
          exact ih _ _ _ _ _ a c d (X1 g (X2 hq)) t u (by obtain⟨y,rfl⟩:=ho; exact⟨_,w.trans (q2 _ _ _)⟩)
    . rw [ZK z]
      exact⟨_,_,_,_,_,Z,vw,vh,ho⟩
theorem look_ok {p t:bD} {m m':aB} {s:StoreT} {tb tb':bn} {e:Int} (h:eu p m s tb=(e,t,m',tb')) (hk:Tk m.b.a m.a.g.a tb.a.a) (hg:Gt m.b.a) (hli:Li p.b.a tb.a.a) (v:Vt p s m.b.a m.a.g.a):
    e=0/\VW m'.b.a/\VH m'.a.g.a/\∃ y,t.a.b.a=p.a.b.a++y:=by
  unfold eu at h
  obtain⟨j,_,b,c,d,a,f,g,i⟩:=zZ p m s v.m v.o (ku p.b.a m.b.a tb.a.a+1) p.a.b.a p.b.a m.a.g.a m.b.a tb.a.a hk hg hli (Nat.lt_succ_self _) v.w v.h ⟨[],(s1 _).symm⟩
  rw [a] at h
  obtain⟨rfl,rfl,rfl,rfl⟩:=eQ h
  exact⟨Z,f,g,i⟩
def Fw (n:Nat) (ws:List bK) (hs:List dG) (o:List cz):Prop:=Tx ws hs n\/∃ v ∈ o,v.g=4/\v.r=n/\v.F=5
theorem Fw.app {n:Nat} {ws ws':List bK} {hs hs':List dG} {o y:List cz} (h:Fw n ws hs o) (f:Tx ws hs n->Fw n ws' hs' (o++y)):Fw n ws' hs' (o++y):=
  h.elim f fun⟨v,hv,q⟩=> .inr ⟨v,List.mem_append_left _ hv,q⟩
theorem AZ {ws:List bK} {i:Nat} {x y:bK} {n:Nat} (hx:ws[i]? =Zv x) (e:y.a=x.a) (h:∃ w ∈ ws,w.a=n):∃ w ∈ List.set ws i y,w.a=n:=by
  obtain⟨w,hw,a⟩:=h
  obtain⟨j,hj⟩:=List.mem_iff_getElem?.1 hw
  by_cases c:i=j
  . subst c
    rw [hx] at hj
    cases hj
    exact⟨y,List.mem_of_getElem? (i:=i) (by rw [List.getElem?_set_self ((List.getElem?_eq_some_iff.1 hx).1)]),by rw [e,a]⟩
  . exact⟨w,List.mem_of_getElem? (i:=j) (by rw [List.getElem?_set_ne c]; exact hj),a⟩
theorem FO {ws:List bK} {hs:List dG} {n k:Nat} {o:List cz} {v:cz} (hv:v.g=4/\v.r=k/\v.F=5) (h:Tx ws hs n):Fw n (qV k ws) hs (o++ [v]):=by
  by_cases c:n=k
  . subst c; exact .inr ⟨v,List.mem_append_right _ b3,hv⟩
  . rcases h with ⟨w,hw,e⟩ | h
    . exact .inl (.inl ⟨w,List.mem_filter.2 ⟨hw,decide_eq_true U⟩,e⟩)
    . exact .inl (.inr h)
theorem Gr (p:bD) (k:Nat) (m:aB) (s:StoreT) (r:Int):∀ (q:Nat) (l:List dC) (rs:List aS) (ws:List bK),Tk ws m.a.g.a rs->wm ws (Zc r) k->gm ws (Zc r) < q->
    (∀ l' rs' ws' x,gI p k m s r q l rs ws= .inl (l',rs',ws',x)->(∀ n,(∃ w ∈ ws,w.a=n)->∃ w ∈ ws',w.a=n)/\ws'[Zc r]? =Zv x/\x.a=k)/\
    (∀ e t m' tb',gI p k m s r q l rs ws= .inr (e,t,m',tb')->∀ n,Tx ws m.a.g.a n->Fw n m'.b.a m'.a.g.a t.a.b.a):=by
  intro q
  induction q with
  | zero=>intro l rs ws _ _ h; omega
  | succ q ih=>
    intro l rs ws hk hw _
    obtain⟨x,hx,hxt⟩:=id hw
    have hgm:=zM hx
    obtain⟨⟨G,H⟩,I,J⟩:=hk.wat hx
    rw [gI]
    simp only [bI,bG hx]
    by_cases a:x.b < ((X x.g.a:Nat):Int)
    . rw [ZJ a]
      cases ha:jc (bn.q (Ll.q rs)) k (List.getD x.g.a (Zc x.b) Zy) with
      | mk sv o=>cases o with
        | mk g u=>cases u with
          | mk d z=>cases z with
            | mk e tb=>
              simp only [tX]
              by_cases f:e=0
              . rw [ZJ f]
                by_cases i:sv=2
                . rw [ZJ i]
                  refine⟨λ _ _ _ _ h=>(by cases h),λ c t m' tb' h n hn=> ?_⟩
                  obtain⟨rfl,rfl,rfl,rfl⟩:=eQ (Sum.inr.inj h)
                  exact .inl hn
                . rw [ZK i]
                  by_cases j:sv=3
                  . rw [ZJ j]
                    refine⟨λ _ _ _ _ h=>(by cases h),λ c t m' tb' h n hn=> ?_⟩
                    unfold iV at h
                    rw [bI,rA (m:=aB.q m.a (Ll.q ws)) hk.a] at h
                    simp only at h
                    generalize hr:fP _ _ _ _=v at h
                    obtain⟨K,A⟩:=v
                    obtain⟨rfl,rfl,rfl,rfl⟩:=eQ (Sum.inr.inj h)
                    exact FO ⟨Z,Z,Z⟩ hn
                  . rw [ZK j]
                    have hbump:=(hk.ask hw ha).bump (y:=bK.q x.a (Ll.q x.j.a) (Ll.q x.g.a) (x.b+1)) hx Z Z Z (show (0:Int)<=x.b+1/\x.b+1<=((X x.g.a:Nat):Int) by omega)
                    have B:=zN (y:=bK.q x.a (Ll.q x.j.a) (Ll.q x.g.a) (x.b+1)) hx a Z Z
                    obtain⟨C,D⟩:=ih ((l++d.map λ n=>dC.q n Zj)++g.map λ n=>dC.q n O) tb.a.a (List.set ws (Zc r) (bK.q x.a (Ll.q x.j.a) (Ll.q x.g.a) (x.b+1))) hbump (hw.set hx Z) U
                    refine⟨λ l' rs' ws' x' h=> ?_,λ c t m' tb' h n hn=>D _ _ _ _ h n (hn.imp (AZ hx Z) id)⟩
                    obtain⟨E,F⟩:=C _ _ _ _ h
                    exact⟨λ n hn=>E n (AZ hx Z hn),F⟩
              . rw [ZK f]
                refine⟨λ _ _ _ _ h=>(by cases h),λ c t m' tb' h n hn=> ?_⟩
                obtain⟨rfl,rfl,rfl,rfl⟩:=eQ (Sum.inr.inj h)
                exact .inl hn
    . rw [ZK a]
      refine⟨λ l' rs' ws' x' h=> ?_,λ _ _ _ _ h=>(by cases h)⟩
      obtain⟨rfl,rfl,rfl,rfl⟩:=eQ (Sum.inl.inj h)
      exact⟨λ _ h=>h,hx,hxt⟩
theorem Ey {p t:bD} {k n:Nat} {m m':aB} {s:StoreT} {tb tb':bn} {e:Int} (h:fH p k m s tb=(e,t,m',tb')) (hk:Tk m.b.a m.a.g.a tb.a.a) (hn:Tx m.b.a m.a.g.a n):Fw n m'.b.a m'.a.g.a t.a.b.a:=by
  unfold fH at h
  rw [bI] at h
  cases hf:cK m k with
  | mk i b=>
    rw [hf] at h
    cases b with
    | false=>
      rw [ZK i2] at h
      obtain⟨rfl,rfl,rfl,rfl⟩:=eQ h
      exact .inl hn
    | true=>
      rw [ZJ Z] at h
      have hw:=mR hk.a hf
      obtain⟨hl,hr⟩:=Gr p k m s i (gm m.b.a (Zc i)+1) p.b.a tb.a.a m.b.a hk hw U
      cases hg:gI p k m s i (gm m.b.a (Zc i)+1) p.b.a tb.a.a m.b.a with
      | inr z=>
        obtain⟨a,g,j,d⟩:=z
        simp only at h
        rw [hg] at h
        obtain⟨rfl,rfl,rfl,rfl⟩:=eQ (show (a,g,j,d)=(e,t,m',tb') from h)
        exact hr _ _ _ _ hg n hn
      | inl z=>
        obtain⟨_,l,o,x⟩:=z
        simp only at h
        rw [hg] at h
        obtain⟨r,u,v⟩:=hl _ _ _ _ hg
        simp only [lp,bI,hfind] at h
        generalize hv:gY _ _ _ _=q at h
        obtain⟨c,y⟩:=q
        obtain⟨rfl,rfl,rfl,rfl⟩:=eQ h
        refine .inl ?_
        rcases hn with hn | ⟨z,hz,a⟩
        . obtain⟨w,hw,a⟩:=r n hn
          rw [(rU u).1] at hw
          rcases List.mem_append.1 hw with c | c
          . exact .inl ⟨w,List.mem_append_left _ c,a⟩
          . rcases List.mem_cons.1 c with f | f
            . exact .inr ⟨_,mJ.2 (.inl Z),by rw [<- a,f]⟩
            . exact .inl ⟨w,List.mem_append_right _ f,a⟩
        . exact .inr ⟨z,mJ.2 (.inr hz),a⟩
theorem Ez (n:Nat) (p:bD) (m:aB) (s:StoreT) (hm:VM s.a.a) (hw:VO p.a.a.a):∀ (q:Nat) (o:List cz) (l:List dC) (hs:List dG) (ws:List bK) (rs:List aS),Tk ws hs rs->Gt ws->Li l rs->ku l ws rs < q->VW ws->VH hs->Fw n ws hs o->
    ∀ o' l' hs' ws' rs',fG p m s q o l hs ws rs= .inl (o',l',hs',ws',rs')->Fw n ws' hs' o':=by
  intro q
  induction q with
  | zero=>intro o l hs ws rs _ _ _ h; omega
  | succ q ih=>
    intro o l hs ws rs hk hg hli hq vw vh ho o' l' hs' ws' rs'
    rw [fG]
    simp only [bI]
    by_cases D:((X l:Nat):Int) > 0
    . rw [ZJ D]
      obtain⟨f,hf⟩:∃ f,l[0]? =Zv f:=⟨_,List.getElem?_eq_getElem U⟩
      rw [bG hf]
      by_cases t:f.g=Zj
      . rw [ZJ t]
        generalize hd:iV _ _ _=v
        obtain⟨u,a⟩:=v
        obtain⟨c,d,g,j⟩:=wO hk hg hli hf t hd
        unfold iV at hd
        rw [bI,rA hk.a] at hd
        obtain⟨rfl,rfl⟩:=fI hd
        exact ih _ _ _ _ _ c d g (Nat.lt_of_lt_of_le j (Nat.le_of_lt_succ hq)) (vw.but _) vh (ho.app (FO ⟨Z,Z,Z⟩)) _ _ _ _ _
      . rw [ZK t]
        have nw:Nw f.a rs:=λ r hr e=>hli.g f (List.mem_of_getElem? hf) (Bool.eq_false_iff.2 t) r hr e
        generalize hfd:cK _ _=E
        obtain⟨i,b⟩:=E
        cases b with
        | true=>
          simp only [if_true]
          obtain⟨x,hx,_⟩:=mR hk.a hfd
          have hx':=hx
          have hgx:=hg.wat hx'
          rw [bG hx']
          generalize hgo:fH _ _ _ _ _=v
          obtain⟨F,u,a,w⟩:=v
          obtain⟨c,d,g,j,_⟩:=yu (tb:=bn.q (Ll.q rs)) hk hg hli hf hfd hx Z Z hgo
          have hb:=hk.bump (y:=bK.q x.a (Ll.q x.j.a) (Ll.q x.g.a) (x.b+1)) hx' Z Z Z (by have:=hk.wat hx'; exact⟨show (0:Int)<=x.b+1 by omega,show x.b+1<=((X x.g.a:Nat):Int) by omega⟩)
          obtain⟨z,A,B,G,C⟩:=go_ok (tb:=bn.q (Ll.q rs)) hgo hb nw ⟨vw.set hx' Z Z,vh,hm,hw⟩
          have k2:Fw n a.b.a a.a.g.a u.a.b.a:=by
            rcases ho with k | ⟨v,hv,k⟩
            . exact Ey (tb:=bn.q (Ll.q rs)) hgo hb (k.imp (AZ hx' Z) id)
            . rw [C]; exact .inr ⟨v,List.mem_append_left _ hv,k⟩
          rw [ZJ z]
          exact ih _ _ _ _ _ c d g (Nat.lt_of_lt_of_le j (Nat.le_of_lt_succ hq)) A B k2 _ _ _ _ _
        | false=>
          simp only [Bool.false_eq_true,if_false]
          generalize hgo:fH _ _ _ _ _=v
          obtain⟨F,u,a,w⟩:=v
          obtain⟨c,d,g,j,_⟩:=yw (tb:=bn.q (Ll.q rs)) hk hg hli hf hfd f7 Z hgo
          obtain⟨z,A,B,G,C⟩:=go_ok (tb:=bn.q (Ll.q rs)) hgo hk nw ⟨vw,vh,hm,hw⟩
          have k2:Fw n a.b.a a.a.g.a u.a.b.a:=by
            rcases ho with k | ⟨v,hv,k⟩
            . exact Ey (tb:=bn.q (Ll.q rs)) hgo hk k
            . rw [C]; exact .inr ⟨v,List.mem_append_left _ hv,k⟩
          rw [ZJ z]
          exact ih _ _ _ _ _ c d g (Nat.lt_of_lt_of_le j (Nat.le_of_lt_succ hq)) A B k2 _ _ _ _ _
    . rw [ZK D]
      intro h
      obtain⟨rfl,rfl,rfl,rfl,rfl⟩:o=o'/\l=l'/\hs=hs'/\ws=ws'/\rs=rs':=by cases h; exact⟨Z,Z,Z,Z,Z⟩
      exact ho
theorem Ib {p t:bD} {n:Nat} {m m':aB} {s:StoreT} {tb tb':bn} {e:Int} (h:eu p m s tb=(e,t,m',tb')) (hk:Tk m.b.a m.a.g.a tb.a.a) (hg:Gt m.b.a) (hli:Li p.b.a tb.a.a) (v:Vt p s m.b.a m.a.g.a)
    (hn:Fw n m.b.a m.a.g.a p.a.b.a):Fw n m'.b.a m'.a.g.a t.a.b.a:=by
  unfold eu at h
  obtain⟨f,_,b,c,d,a,g,i,j⟩:=zZ p m s v.m v.o (ku p.b.a m.b.a tb.a.a+1) p.a.b.a p.b.a m.a.g.a m.b.a tb.a.a hk hg hli (Nat.lt_succ_self _) v.w v.h ⟨[],(List.append_nil _).symm⟩
  rw [a] at h
  obtain⟨rfl,rfl,rfl,rfl⟩:=eQ h
  exact Ez n p m s v.m v.o (ku p.b.a m.b.a tb.a.a+1) p.a.b.a p.b.a m.a.g.a m.b.a tb.a.a hk hg hli (Nat.lt_succ_self _) v.w v.h hn _ _ _ _ _ a
theorem xZ (p:bD):∀ (o w:List aV),VO o->VO w->VO (ib p o w)
  | [],w,_,h=>h
  | x::o,w,ho,h=>by
    unfold ib
    rw [bI]
    by_cases c:o5 x=Zj
    . rw [ZJ c]; exact xZ p o _ ho.tail (h.app λ y hy=>by rw [List.mem_singleton.1 hy]; exact ho x b3)
    . rw [ZK c]; exact xZ p o w ho.tail h
theorem I1 {p r:bD} {o:List aV} {m:aB} (h:jW p o m=r) (ho:VO o) (hw:VO p.a.a.a):VO r.a.a.a:=by
  unfold jW at h
  rw [bI] at h
  subst h
  exact xZ p o _ ho hw
structure Vd (k:Nat) (m m':aB) (t:bD):Prop where q::
  w:VW m'.b.a
  h:VH m'.a.g.a
  o:VO t.a.a.a
  x:∀ n,Tx m'.b.a m'.a.g.a n->n≠k/\Tx m.b.a m.a.g.a n
theorem GV {p g k t:bD} {x:cz} {m m1 r d m' mr:aB} {s:StoreT} {tb c tb':bn} {e j:Int} {b:Bool} {hs':List dG}
    (hd:eP m1 x.r=r) (hrl:fP p x.r mr tb=(k,c)) (hlo:eu g d s c=(e,t,m',tb'))
    (hR:Rs m.b.a m.a.g.a m.a.j.a tb.a.a) (hl:p.b.a= []) (hf:eG m x.r=(j,b))
    (f:(b=Zj/\hs'=Zf (Zc j) m.a.g.a++Ze (Zc j+1) m.a.g.a)\/(b=O/\hs'=m.a.g.a))
    (hm:m1.b=m.b) (i:g.b.a=k.b.a) (a:d.b.a=r.b.a/\d.a.g.a=hs') (vw:VW m.b.a) (vh:VH m.a.g.a) (vm:VM s.a.a) (vo:VO g.a.a.a):
    e=0/\VW m'.b.a/\VH m'.a.g.a/\(∃ y,t.a.b.a=g.a.b.a++y)/\(∀ n,Tx m'.b.a m'.a.g.a n->n≠x.r/\Tx m.b.a m.a.g.a n):=by
  obtain⟨u,v,w,G⟩:=zT (hs':=hs') hR.tk hR.gt hf f hm hd hl hrl
  have l:Tk d.b.a d.a.g.a c.a.a:=by rw [a.1,a.2]; exact u
  have o:Gt d.b.a:=by rw [a.1]; exact v
  have q:Li g.b.a c.a.a:=by rw [i]; exact w
  have A:VW d.b.a:=by
    rw [a.1, <- hd,rA (by rw [hm]; exact hR.tk.a),hm]
    exact vw.but _
  have B:VH d.a.g.a:=by
    rw [a.2]
    rcases f with ⟨_,e⟩ | ⟨_,e⟩
    . rw [e]; exact λ z hz=>(List.mem_append.1 hz).elim (λ h=>vh z (List.mem_of_mem_take h)) λ h=>vh z (List.mem_of_mem_drop h)
    . rw [e]; exact vh
  obtain⟨C,D,E,F⟩:=look_ok hlo l o q ⟨A,B,vm,vo⟩
  refine⟨C,D,E,F,λ n hn=> ?_⟩
  have:=(AV hlo l o q).a n hn
  rw [a.1,a.2] at this
  exact (GU (hs':=hs') hR.tk hf f hm hd) n this
theorem Bj {p t:bD} {x:cz} {m m':aB} {s:StoreT} {tb tb':bn} {e:Int} (h:iU p x m s tb=(e,t,m',tb')) (hR:Rs m.b.a m.a.g.a m.a.j.a tb.a.a) (hl:p.b.a= []) (hp:p.a.b.a= [])
    (v:Vt p s m.b.a m.a.g.a):e=0/\Vd x.r m m' t/\∃ z y,t.a.b.a=z::y/\z.g=6:=by
  unfold iU at h
  simp only [bI] at h
  rw [hp,List.nil_append] at h
  cases hf:eG m x.r with
  | mk j b=>
    rw [hf] at h
    cases b with
    | true=>
      rw [ZJ Z] at h
      generalize hwr:(if x.H=Zj then _ else p.a.a.a)=Z8 at h
      generalize hd:eP _ _=r at h
      generalize hfi:iG _ _=rf at h
      generalize hrl:fP _ _ _ _=q at h
      obtain⟨C,f⟩:=q
      generalize hlo:eu _ _ _ _=q at h
      obtain⟨D,E,F,g⟩:=q
      have hz:VO (List.getD m.a.g.a (Zc j) Zy).a.a:=by
        rw [hfind] at hf
        rcases qE hR.tk.hu x.r with ⟨a,z,q,k,hp,ha,hq,l⟩ | ⟨a,q,k,ha,hq,l⟩
        . rw [l] at hf
          have:j=(X a:Int):=(ZX Prod.fst hf).symm
          have G:List.getD m.a.g.a (Zc j) Zy=z:=by rw [this,Int.toNat_natCast,k]; simp
          rw [G]
          exact v.h z (by rw [k]; exact List.mem_append_right _ b3)
        . rw [l] at hf; exact CG (ZX Prod.snd hf).symm
      have vo:VO Z8:=by
        rw [<- hwr]
        by_cases c:x.H=Zj
        . rw [ZJ c]
          generalize hcm:jW _ _ _=cm
          exact I1 hcm hz v.o
        . rw [ZK c]; exact v.o
      obtain⟨u,k2,A,d,B⟩:=GV hd hrl hlo hR hl hf (.inl ⟨Z,Z⟩) Z Z ⟨Z,Z⟩ v.w v.h v.m vo
      obtain⟨rfl,rfl,rfl,rfl⟩:=eQ h
      obtain⟨y,d⟩:=d
      exact⟨u,⟨k2,A,vo,B⟩,_,y,d,Z⟩
    | false=>
      simp only [Bool.false_eq_true,if_false] at h
      cases hwa:cK m x.r with
      | mk i bw=>
        rw [hwa] at h
        cases bw with
        | true=>
          rw [ZJ Z] at h
          generalize hd:eP _ _=r at h
          generalize hfi:iG _ _=rf at h
          generalize hrl:fP _ _ _ _=q at h
          obtain⟨C,f⟩:=q
          generalize hlo:eu _ _ _ _=q at h
          obtain⟨D,E,F,g⟩:=q
          obtain⟨u,k2,A,d,B⟩:=GV hd hrl hlo hR hl hf (.inr ⟨Z,Z⟩) Z Z ⟨Z,Z⟩ v.w v.h v.m v.o
          obtain⟨rfl,rfl,rfl,rfl⟩:=eQ h
          obtain⟨y,d⟩:=d
          exact⟨u,⟨k2,A,v.o,B⟩,_,y,d,Z⟩
        | false=>
          simp only [Bool.false_eq_true,if_false] at h
          obtain⟨rfl,rfl,rfl,rfl⟩:=eQ h
          refine⟨Z,⟨v.w,v.h,v.o,λ n hn=>⟨λ e=> ?_,hn⟩⟩,_, [],Z,Z⟩
          rw [hfind] at hf
          rw [zR] at hwa
          subst e
          rcases hn with ⟨w,hw,e⟩ | ⟨z,hz,e⟩
          . exact Ev hR.tk.a hwa w hw e
          . exact hnot hR.tk.hu hf z hz e
structure Lo (m:aB) (low:Nat):Prop where q::
  a:max m.a.t low=m.a.t
  ge:∀ y ∈ m.a.j.a,m.a.t<=y
theorem Gs {m r:aB} {low:Nat} (hs:yM m.a.j.a) (h:iB m low=r):Lo r low:=by
  obtain⟨a,b,f,d,_,hb,hk,_,_⟩:=FJ hs (max m.a.t low)
  unfold iB jH at h
  rw [hk] at h
  simp only [bI] at h
  have e:(if(0:Int)=(X a:Int) then m.a.j.a else Zf (Zc 0) m.a.j.a++Ze (Zc (X a:Int)) m.a.j.a)=b:=by
    rw [d]
    by_cases c:(0:Int)=(X a:Int)
    . rw [ZJ c]
      have:a= []:=List.eq_nil_of_length_eq_zero U
      rw [this]; rfl
    . rw [ZK c,Int.toNat_natCast,List.drop_left' Z]; rfl
  rw [e] at h
  subst h
  exact⟨show max (max m.a.t low) low=max m.a.t low by omega,hb⟩
theorem Gu {m:aB} {low:Nat} (hs:yM m.a.j.a) (h:Lo m low):iB m low=m:=by
  obtain⟨a,b,f,c,ha,_,hk,_,_⟩:=FJ hs (max m.a.t low)
  unfold iB jH
  rw [hk]
  simp only [bI]
  have e:a= []:=by
    cases a with
    | nil=>rfl
    | cons y l=>
      have d:=ha y b3
      have g:=h.ge y (by rw [c]; exact .head _)
      have i:=h.a
      omega
  subst e
  rw [ZJ (show (0:Int)=((X ([]:List Nat):Nat):Int) from Z),h.a]
def Sd (m:aB) (x:cz):Prop:=
  (dV m.a.j.a x.r).2=Zj\/x.r < m.a.t\/Tx m.b.a m.a.g.a x.r\/jr m x=Zj
theorem EA {p t:bD} {x:cz} {m m':aB} {s:StoreT} {tb tb':bn} {e:Int} (h:jA p x m s tb=(e,t,m',tb')) (hR:Rs m.b.a m.a.g.a m.a.j.a tb.a.a) (hL:Lo m x.t) (hS:Sd m x):
    m'=m/\t.a.a=p.a.a:=by
  unfold jA at h
  rw [bI,Gu hR.a hL] at h
  simp only [bI] at h
  generalize a:aB.q (bH.q m.a.r m.a.y m.a.u m.a.z m.a.k (Ll.q m.a.b.a) (Ll.q m.a.g.a) (Ll.q m.a.j.a) m.a.t m.a.B m.a.s m.a.a) (Ll.q m.b.a)=m1 at h
  have em:m1=m:=a.symm
  clear a
  subst em
  by_cases c:(dV m1.a.j.a x.r).2=Zj
  . rw [ZJ c] at h
    obtain⟨_,rfl,rfl,rfl⟩:=eQ h
    exact⟨Z,Z⟩
  rw [ZK c] at h
  by_cases f:(x.r:Int) < (m1.a.t:Int)
  . rw [ZJ f] at h
    obtain⟨_,rfl,rfl,rfl⟩:=eQ h
    exact⟨Z,Z⟩
  rw [ZK f] at h
  cases hh:eG m1 x.r with
  | mk j bh=>
    rw [hh] at h
    cases bh with
    | true=>
      rw [ZJ Z] at h
      generalize hv:gY _ _ _ _=v at h
      obtain⟨b,g⟩:=v
      obtain⟨_,rfl,rfl,rfl⟩:=eQ h
      exact⟨Z,Z⟩
    | false=>
      simp only [Bool.false_eq_true,if_false] at h
      cases hw:cK m1 x.r with
      | mk i bw=>
        rw [hw] at h
        cases bw with
        | true=>
          rw [ZJ Z] at h
          obtain⟨_,rfl,rfl,rfl⟩:=eQ h
          exact⟨Z,Z⟩
        | false=>
          simp only [Bool.false_eq_true,if_false] at h
          have hrf:jr m1 x=Zj:=by
            rw [hfind] at hh
            rw [zR] at hw
            rcases hS with q | q | q | q
            . exact absurd q c
            . omega
            . rcases q with ⟨w,d,b⟩ | ⟨z,hz,b⟩
              . exact absurd b (Ev hR.tk.a hw w d)
              . exact absurd b (hnot hR.tk.hu hh z hz)
            . exact q
          rw [hrf,ZJ Z] at h
          obtain⟨_,rfl,rfl,rfl⟩:=eQ h
          exact⟨Z,Z⟩
abbrev Wf (m m':aB):aB:=aB.q (bH.q m.a.r m.a.y m.a.u m.a.z m.a.k (Ll.q m.a.b.a) (Ll.q m'.a.g.a) (Ll.q m'.a.j.a) m'.a.t m.a.B m.a.s m.a.a) (Ll.q m'.b.a)
theorem z8 {p t:bD} {x:cz} {m m':aB} {s:StoreT} {tb tb':bn} {e:Int} (h:jA p x m s tb=(e,t,m',tb')) (hR:Rs m.b.a m.a.g.a m.a.j.a tb.a.a) (hf:X m.a.j.a<=999) (ho:X x.a.a<=24) (hl:p.b.a= [])
    (hx:VO x.a.a) (v:Vt p s m.b.a m.a.g.a):VW m'.b.a/\VH m'.a.g.a/\Lo m' x.t/\(Sd m' x\/e=0/\∃ v ∈ t.a.b.a,v.g=4/\v.r=x.r/\v.F=5)/\Wf m m'=m':=by
  unfold jA at h
  rw [bI] at h
  generalize hr:iB m x.t=r at h
  obtain⟨_,_,_,_,_,_⟩:=zV hR.a hr
  have lo:=Gs hR.a hr
  simp only [bI] at h
  generalize b:aB.q (bH.q m.a.r m.a.y m.a.u m.a.z m.a.k (Ll.q m.a.b.a) (Ll.q m.a.g.a) (Ll.q r.a.j.a) r.a.t m.a.B m.a.s m.a.a) (Ll.q m.b.a)=m1 at h
  have k:m1.b.a=m.b.a:=by rw [<- b]
  have y:m1.a.g.a=m.a.g.a:=by rw [<- b]
  have C:m1.a.j.a=r.a.j.a:=by rw [<- b]
  have l1:m1.a.t=r.a.t:=by rw [<- b]
  have wf:Wf m m1=m1:=by rw [<- b]
  have c:Lo m1 x.t:=⟨by rw [l1]; exact lo.a,by rw [l1,C]; exact lo.ge⟩
  have f:VW m1.b.a/\VH m1.a.g.a:=by rw [k,y]; exact⟨v.w,v.h⟩
  have u:Tk m1.b.a m1.a.g.a tb.a.a:=by rw [k,y]; exact hR.tk
  have L:Gt m1.b.a:=by rw [k]; exact hR.gt
  by_cases D:(dV r.a.j.a x.r).2=Zj
  . rw [ZJ D] at h
    obtain⟨_,rfl,rfl,rfl⟩:=eQ h
    exact⟨f.1,f.2,c, .inl (.inl (by rw [C]; exact D)),wf⟩
  rw [ZK D] at h
  by_cases F:(x.r:Int) < (r.a.t:Int)
  . rw [ZJ F] at h
    obtain⟨_,rfl,rfl,rfl⟩:=eQ h
    exact⟨f.1,f.2,c, .inl (.inr (.inl U)),wf⟩
  rw [ZK F] at h
  cases hh:eG m1 x.r with
  | mk j bh=>
    rw [hh] at h
    cases bh with
    | true=>
      rw [ZJ Z] at h
      generalize hv:gY _ _ _ _=v at h
      obtain⟨g,_⟩:=v
      obtain⟨_,rfl,rfl,rfl⟩:=eQ h
      obtain⟨z,hz,A⟩:∃ z ∈ m1.a.g.a,z.r=x.r:=by
        rw [hfind] at hh
        rcases qE u.hu x.r with ⟨a,z,q,G,hp,ha,hq,H⟩ | ⟨a,q,G,ha,hq,H⟩
        . exact⟨z,by rw [G]; exact List.mem_append_right _ b3,hp⟩
        . rw [H] at hh; exact CG (ZX Prod.snd hh).symm
      exact⟨f.1,f.2,c, .inl (.inr (.inr (.inl (.inr ⟨z,hz,A⟩)))),wf⟩
    | false=>
      simp only [Bool.false_eq_true,if_false] at h
      cases hw:cK m1 x.r with
      | mk i bw=>
        rw [hw] at h
        cases bw with
        | true=>
          rw [ZJ Z] at h
          obtain⟨_,rfl,rfl,rfl⟩:=eQ h
          obtain⟨w,d,A⟩:=mR u.a hw
          exact⟨f.1,f.2,c, .inl (.inr (.inr (.inl (.inl ⟨w,List.mem_of_getElem? d,A⟩)))),wf⟩
        | false=>
          simp only [Bool.false_eq_true,if_false] at h
          cases hrf:jr m1 x with
          | true=>
            rw [hrf,ZJ Z] at h
            obtain⟨_,rfl,rfl,rfl⟩:=eQ h
            exact⟨f.1,f.2,c, .inl (.inr (.inr (.inr hrf))),wf⟩
          | false=>
            rw [hrf] at h
            simp only [Bool.false_eq_true,if_false] at h
            cases hlk:o9 x.a.a with
            | mk l A=>
              rw [hlk] at h
              obtain⟨hvl,M⟩:=Gm hx hlk
              rw [ZJ M] at h
              have E:=(wP hrf Z (by rw [y]; have:=hR.tk.n; omega) (by rw [k]; have:=hR.tk.n; omega) (by rw [C]; omega)).1
              have hll:=xW hlk
              obtain⟨B,I⟩:=CJ (o:=x.a.a) (l:=l) u L hh Z hw Z E ho U
              have nw:Nw x.r tb.a.a:=λ q hq e=>by
                rw [hfind] at hh
                rw [zR] at hw
                rcases u.g q hq with ⟨w,d,g⟩ | ⟨z,hz,g⟩
                . exact absurd (g.trans e) (Ev u.a hw w d)
                . exact absurd (g.trans e) (hnot u.hu hh z hz)
              rw [k,y] at B
              rw [k] at I
              have vn:VW (Zf (Zc i) m.b.a++((bK.q x.r (Ll.q x.a.a) (Ll.q l) 0)::Ze (Zc i) m.b.a)):=λ w d=>by
                rcases mJ.1 d with g | g
                . rw [g]; exact⟨hx,hvl⟩
                . exact v.w w g
              cases hg:fH p x.r (aB.q (bH.q m.a.r m.a.y m.a.u m.a.z m.a.k (Ll.q m.a.b.a) (Ll.q m.a.g.a) (Ll.q r.a.j.a) r.a.t m.a.B m.a.s m.a.a) (Ll.q (Zf (Zc i) m.b.a++((bK.q x.r (Ll.q x.a.a) (Ll.q l) 0)::Ze (Zc i) m.b.a)))) s tb with
              | mk e4 Z5=>
                obtain⟨_,_,_⟩:=Z5
                rw [hg] at h
                have hG:=(tL B (by rw [hl]; exact zQ _) (by rw [hl]; exact λ _ h=>absurd h List.not_mem_nil) I hg).1
                obtain⟨P,J,K,_⟩:=go_ok hg B nw ⟨vn,v.h,v.m,v.o⟩
                have Q:=Ey (n:=x.r) hg B (.inl ⟨_,mJ.2 (.inl Z),Z⟩)
                rw [ZJ P] at h
                simp only at h
                generalize hlo:eu _ _ _ _=q at h
                obtain⟨_,_,_,R⟩:=q
                obtain⟨S,k2,Z7,_⟩:=look_ok hlo hG.tk hG.gt hG.b ⟨J,K,v.m,v.o⟩
                have Z3:=Ib hlo hG.tk hG.gt hG.b ⟨J,K,v.m,v.o⟩ Q
                obtain⟨rfl,rfl,rfl,rfl⟩:=eQ h
                exact⟨k2,Z7,⟨lo.a,lo.ge⟩,Z3.imp (λ q=> .inr (.inr (.inl q))) λ q=>⟨S,q⟩,Z⟩
theorem CS {p t:bD} {x:cz} {m m':aB} {s:StoreT} {tb tb':bn} {e:Int} (h:iU p x m s tb=(e,t,m',tb')) (hR:Rs m.b.a m.a.g.a m.a.j.a tb.a.a) (hn: ¬ Tx m.b.a m.a.g.a x.r):
    m'=m/\t.a.a.a=p.a.a.a:=by
  unfold iU at h
  simp only [bI] at h
  cases hf:eG m x.r with
  | mk j b=>
    rw [hf] at h
    cases b with
    | true=>
      refine absurd ?_ hn
      rw [hfind] at hf
      rcases qE hR.tk.hu x.r with ⟨a,z,q,d,hp,ha,hq,f⟩ | ⟨a,q,d,ha,hq,f⟩
      . exact .inr ⟨z,by rw [d]; exact List.mem_append_right _ b3,hp⟩
      . rw [f] at hf; exact CG (ZX Prod.snd hf).symm
    | false=>
      simp only [Bool.false_eq_true,if_false] at h
      cases hwa:cK m x.r with
      | mk i bw=>
        rw [hwa] at h
        cases bw with
        | true=>
          obtain⟨w,c,g⟩:=mR hR.tk.a hwa
          exact absurd (.inl ⟨w,List.mem_of_getElem? c,g⟩) hn
        | false=>
          simp only [Bool.false_eq_true,if_false] at h
          obtain⟨_,rfl,rfl,rfl⟩:=eQ h
          exact⟨Z,Z⟩
open Nat renaming le_succ->W8,le_trans->P9
structure Tn (m m':aB) (tb':bn) (d:bY):Prop where q::
  a:Rs m'.b.a m'.a.g.a m'.a.j.a tb'.a.a
  g:X m'.a.b.a<=6
  b:X m'.a.j.a<=X m.a.j.a+1
  wr:X d.a.a<=42
theorem vz {m m':aB} {x:cz} {s:StoreT} {tb tb':bn} {d:bY} {e:Int} (hR:Rs m.b.a m.a.g.a m.a.j.a tb.a.a) (hf:X m.a.j.a<=999) (ho:X m.a.b.a<=6)
    (h:dL m x s tb=(d,e,m',tb')):Tn m m' tb' d:=by
  unfold dL at h
  simp only [bI] at h
  have no:∀ (b:Bool) (c:Int),(bY.q (Ll.q []) (Ll.q []) b,c,m,tb)=(d,e,m',tb')->Tn m m' tb' d:=λ b c h=>by
    obtain⟨rfl,rfl,rfl,rfl⟩:=eQ h
    exact⟨hR,ho,W8 _,Nt 42⟩
  by_cases i:x.g=12
  . rw [ZJ i] at h
    split at h
    . split at h
      . split at h
        . exact no _ _ h
        . exact no _ _ h
      . exact no _ _ h
    . exact no _ _ h
  rw [ZK i] at h
  by_cases g:x.g=11
  . rw [ZJ g] at h
    by_cases f:fU x=0
    case neg=>rw [ZK f] at h; exact no _ _ h
    rw [ZJ f] at h
    split at h
    . generalize hl:eX _ _ _=v at h
      obtain⟨l,j,n⟩:=v
      have k:=xY hl
      have w:X j.a.a.a<=42:=by
        rcases rW (x:=x) Z with q | q | q
        . exact absurd f q
        . exact absurd g q
        . rcases k.w with w | w
          . rw [w]; exact Nt 42
          . rw [w]; show X ([]++x.a.a)<=42; rw [List.nil_append]; omega
      rw [ZJ k.e] at h
      split at h
      . obtain⟨rfl,rfl,rfl,rfl⟩:=eQ h; exact⟨hR,ho,W8 _,w⟩
      . obtain⟨rfl,rfl,rfl,rfl⟩:=eQ h; exact⟨hR,ho,W8 _,w⟩
    . exact no _ _ h
  rw [ZK g] at h
  by_cases p:x.g=8
  . rw [ZJ p] at h
    by_cases f:fU x=0
    case neg=>rw [ZK f] at h; exact no _ _ h
    rw [ZJ f] at h
    split at h
    . generalize hl:jE _ _ _=v at h
      obtain⟨l,j,n⟩:=v
      have r:X x.b.a<=6:=by
        rcases tN (x:=x) Z with q | q | q
        . exact absurd f q
        . exact absurd p q
        . exact q
      obtain⟨k,o,_,w,_⟩:=vM hl ho r
      have y:=P9 w (Nat.le_of_eq (Nat.zero_add 42))
      split at h
      . split at h
        . obtain⟨rfl,rfl,rfl,rfl⟩:=eQ h; exact⟨hR,o,W8 _,y⟩
        . obtain⟨rfl,rfl,rfl,rfl⟩:=eQ h; exact⟨hR,o,W8 _,y⟩
      . obtain⟨rfl,rfl,rfl,rfl⟩:=eQ h; exact⟨hR,o,W8 _,Nt 42⟩
    . exact no _ _ h
  rw [ZK p] at h
  by_cases z:x.g=5
  . rw [ZJ z] at h
    split at h
    . split at h
      . generalize hdc:iU _ _ _ _ _=v at h
        obtain⟨l,j,n,t⟩:=v
        obtain⟨a,k2,_⟩:=Df hR Z Z hdc
        split at h
        . split at h
          . obtain⟨rfl,rfl,rfl,rfl⟩:=eQ h; exact⟨⟨a.a.tk,a.a.gt,a.a.a⟩,ho,a.b,P9 k2 f7⟩
          . obtain⟨rfl,rfl,rfl,rfl⟩:=eQ h; exact⟨⟨a.a.tk,a.a.gt,a.a.a⟩,ho,a.b,P9 k2 f7⟩
        . obtain⟨rfl,rfl,rfl,rfl⟩:=eQ h; exact⟨⟨a.a.tk,a.a.gt,a.a.a⟩,ho,a.b,Nt 42⟩
      . exact no _ _ h
    . exact no _ _ h
  rw [ZK z] at h
  by_cases u:x.g=3
  . rw [ZJ u] at h
    by_cases f:fU x=0
    case neg=>rw [ZK f] at h; exact no _ _ h
    rw [ZJ f] at h
    split at h
    . generalize hdc:jA _ _ _ _ _=v at h
      obtain⟨l,j,n,t⟩:=v
      have r:X x.a.a<=24:=by
        rcases rV (x:=x) Z with q | q | q
        . exact absurd f q
        . exact absurd u q
        . exact q
      obtain⟨a,k2⟩:=FK hR hf r Z hdc
      split at h
      . obtain⟨rfl,rfl,rfl,rfl⟩:=eQ h; exact⟨⟨a.a.tk,a.a.gt,a.a.a⟩,ho,a.b,Nt 42⟩
      . obtain⟨rfl,rfl,rfl,rfl⟩:=eQ h; exact⟨⟨a.a.tk,a.a.gt,a.a.a⟩,ho,a.b,Nt 42⟩
    . exact no _ _ h
  rw [ZK u] at h
  exact no _ _ h
theorem om {m m':aB} {x:cz} {s:StoreT} {tb tb':bn} {d:bY} {e:Int} (hR:Rs m.b.a m.a.g.a m.a.j.a tb.a.a) (hf:X m.a.j.a<=999) (ho:X m.a.b.a<=6)
    (h:dL m x s tb=(d,e,m',tb')):
    Rs m'.b.a m'.a.g.a m'.a.j.a tb'.a.a/\(X m'.a.b.a<=6/\X m'.a.j.a<=X m.a.j.a+1/\X d.a.a<=42/\X m'.b.a+X m'.a.g.a<=6):=by
  have k:=vz hR hf ho h
  exact⟨k.a,k.g,k.b,k.wr,k.a.tk.n⟩
open IntKind renaming u64->H3
open _root_.Go.Proofs.Tryz renaming call13->Y2,call8->Y4,func13->Y3,isAgg33->E0,isAgg50->W0,isAgg62->C1,sizeOf62->C0
section
open Go.RowKit
def wR:Bool:=
 bnd (ma (bH.q 1 0 0 1 0 (N ([(bF.q [] 1),(bF.q ([109]) 2)])) (N []) (N []) 0 0 (ai.q [] []) (fF.q 0 0 0 (ai.q [] [])))) λ p=>if p=0 then bnd (gB (bH.q 1 0 0 1 0 (N ([(bF.q [] 1),(bF.q ([109]) 2)])) (N []) (N []) 0 0 (ai.q [] []) (fF.q 0 0 0 (ai.q [] [])))) λ a=>bnd (dL (aB.q (bH.q a.r (W (H3.wrap (((a.y:Nat):Int)+1))) a.u a.z a.k (N a.b.a) (N a.g.a) (N a.j.a) a.t a.B a.s a.a) (N [])) (cz.q 3 0 1 0 0 0 0 0 5 0 0 1 0 0 0 O (ai.q [] []) (N ([(aV.q 2 ([97]) ([120]) [] [] 0)])) (N []) (N [])) (StoreT.q (N [])) (bn.q (N []))) λ c=>bnd (dL c.2.2.1 (cz.q 3 0 1 0 0 0 0 0 6 0 0 1 0 0 0 O (ai.q [] []) (N ([(aV.q 1 ([97]) [] [] [] 0)])) (N []) (N [])) (StoreT.q (N [])) c.2.2.2) λ d=>bnd (dL d.2.2.1 (cz.q 3 0 1 0 0 0 0 0 4 0 0 1 0 0 0 O (ai.q [] []) (N ([(aV.q 1 ([97]) [] [] [] 0)])) (N []) (N [])) (StoreT.q (N [])) d.2.2.2) λ e=>bnd (qD e.2.2.1) λ j=>bnd (dL e.2.2.1 (cz.q 5 0 1 0 0 0 0 0 5 0 0 0 0 0 0 Zj (ai.q [] []) (N []) (N []) (N [])) (StoreT.q (N [])) e.2.2.2) λ b=>bnd (dL b.2.2.1 (cz.q 3 0 1 0 0 0 0 0 7 0 0 1 0 0 0 O (ai.q [] []) (N ([(aV.q 2 ([122]) [] [] [] 0)])) (N []) (N [])) (StoreT.q (N [])) b.2.2.2) λ f=>bnd (dL f.2.2.1 (cz.q 6 1 0 0 0 0 0 0 0 0 0 0 0 0 0 O (ai.q [] []) (N []) (N []) (N [])) (StoreT.q (N [])) f.2.2.2) λ h=>bnd (gJ h.2.2.1) λ i=>if((X c.1.b.a:Nat):Int)=1 then bnd (J0 c.1.b.a 0 Zy) λ k=>if k.F=3 then if c.1.g=Zj then if((X d.1.b.a:Nat):Int)=1 then bnd (J0 d.1.b.a 0 Zy) λ l=>if l.F=5 then if((X e.1.b.a:Nat):Int)=0 then if((X j:Nat):Int)=1 then if((X b.1.a.a:Nat):Int)=1 then if((X b.1.b.a:Nat):Int)=2 then bnd (J0 b.1.b.a 0 Zy) λ m=>if m.g=6 then bnd (J0 b.1.b.a 1 Zy) λ g=>if((g.r:Nat):Int)=4 then if((X g.B.a:Nat):Int)=1 then bnd (J0 g.B.a 0 Zy) λ n=>if n.k=([120]) then if((X f.1.b.a:Nat):Int)=1 then bnd (J0 f.1.b.a 0 Zy) λ o=>if o.F=4 then if h.2.1=180 then if((X i.g.a:Nat):Int)=1 then Zw (((i.y:Nat):Int)=1) else O else O else O else O else O else O else O else O else O else O else O else O else O else O else O else O else O else O
theorem Dh (w D r0) (H:Own w D w []) (hr:wR=r0):
    Calls Tryz.prog 4 #[] w (dI λ v w'=>v= Y r0/\Own w D w' []):=by
 refine cb Tryz.func4 ?_
 refine sr (Ar Z ?_)
 refine WL.do Z (Ki Tryz.call7 Z ?_ (λ _ _ k=>k))
 refine cb Tryz.func7 ?_
 refine sr ?_
 refine cB (fV 0 0 0 0 0 Zk 0 0 Zk 0 0 Zk 0 0 0 0 [] [] 0 0 0 [] []) 42 H ?_
 intro uJ uK nQ
 refine ns (Kz (Zq #[Z9 ⟨Zb []⟩,vI 1]) (Kz (Zq #[Z9 ⟨Zb ([109])⟩,vI 2]) ?_))
 refine j6 [Z9 ⟨Zb []⟩,vI 1, Z9 ⟨Zb ([109])⟩,vI 2] 83 2 2 nQ ?_
 intro bC uL iq
 replace iq:=Ku (y:=row bC 2 2 (q1 bF.L ([(bF.q [] 1),(bF.q ([109]) 2)])) 83 2) Z iq
 refine Kz (Zq (Zb (fV 1 0 0 1 0 bC 2 2 Zk 0 0 Zk 0 0 0 0 [] [] 0 0 0 [] []))) ?_
 have nR:=iq.pb [0]
 refine cu (fV 1 0 0 1 0 bC 2 2 Zk 0 0 Zk 0 0 0 0 [] [] 0 0 0 [] []) 0 nR S0 ?_
 intro uM jA
 refine nt (rt (Ke (qg Z Z (J7 (cs:=(fV 1 0 0 1 0 bC 2 2 Zk 0 0 Zk 0 0 0 0 [] [] 0 0 0 [] [])) X4 S0 ((jA.cls (i:=0) Z).lit (k:=0) (m:=17) Z))) (Kz (Zq #[T Zk 0 0]) ?_)))
 refine cB [T Zk 0 0] 29 jA ?_
 intro aU uN nS
 refine Kz (.iface 27 (vP aU 0)) ?_
 refine WL.do Z (Ki Tryz.call6 Z ?_ (λ _ _ k=>k))
 refine cb Tryz.func6 ?_
 refine JS ?_
 have nT:=nS.pk [0,2]
 refine JW ?_
 refine cB (fV 1 0 0 1 0 bC 2 2 Zk 0 0 Zk 0 0 0 0 [] [] 0 0 0 [] []) 42 nT ?_
 intro nU uO jB
 refine Az Z (An Z (JS (sr (La (fV 1 0 0 1 0 bC 2 2 Zk 0 0 Zk 0 0 0 0 [] [] 0 0 0 [] []) jB 0 X4 S0 ?_))))
 obtain⟨fo,Z6⟩:∃ q,ma (bH.q 1 0 0 1 0 (N ([(bF.q [] 1),(bF.q ([109]) 2)])) (N []) (N []) 0 0 (ai.q [] []) (fF.q 0 0 0 (ai.q [] [])))=q:=⟨_,Z⟩
 obtain⟨uP,jC,rW,jD,jE⟩:=JZ jB
 refine cl Tryz.call16 (si _ _ (bH.q 1 0 0 1 0 (N ([(bF.q [] 1),(bF.q ([109]) 2)])) (N []) (N []) 0 0 (ai.q [] []) (fF.q 0 0 0 (ai.q [] []))) bC 2 2 Zk 0 0 [] Zk 0 0 fo jC Z (jE _ 2 _ Z bB) f9 Z Z (λ _ _=>bV.nil _ _ _) f9 (λ _ h9=>absurd h9 y2) Z (λ _ _=>bV.nil _ _ _) f9 g5 g5 Z6) ?_
 rintro _ uQ ⟨rfl,jF⟩
 have iw:=jD _ _ jF
 refine fw (Za (¬ (fo=0))) (Kc (e:= !(Zw (fo=0))) yk ZW) (Mz Z ?_)
 by_cases Z4:fo=0
 refine gw (.iface 27 (vP aU 0)) (dF (Nu Z4)) (J3 Z) (gw (Y O) (dF (Nu Z4)) yk (fw (Y O) (JU Z (dF (Nu Z4)) Z) (nt (jf (sk (sr (La (fV 1 0 0 1 0 bC 2 2 Zk 0 0 Zk 0 0 0 0 [] [] 0 0 0 [] []) iw 0 X4 S0 ?_)))))))
 obtain⟨b,J⟩:∃ q,gB (bH.q 1 0 0 1 0 (N ([(bF.q [] 1),(bF.q ([109]) 2)])) (N []) (N []) 0 0 (ai.q [] []) (fF.q 0 0 0 (ai.q [] [])))=q:=⟨_,Z⟩
 obtain⟨uR,jG,rX,jH,jI⟩:=JZ iw
 refine cl Tryz.call17 (ko _ _ (bH.q 1 0 0 1 0 (N ([(bF.q [] 1),(bF.q ([109]) 2)])) (N []) (N []) 0 0 (ai.q [] []) (fF.q 0 0 0 (ai.q [] []))) bC 2 2 Zk 0 0 [] Zk 0 0 b jG Z (jI _ 2 _ Z bB) f9 Z Z (λ _ _=>bV.nil _ _ _) f9 (λ _ h9=>absurd h9 y2) Z (λ _ _=>bV.nil _ _ _) f9 g5 (by first | assumption | exact λ _ h9=>absurd h9 y2 | exact Tk.hops f8) J) ?_
 rintro _ uS ⟨iy,iA,iB,iC,iD,iE,nV,rfl,jJ,fA⟩
 have fq:=jH _ _ jJ
 have rY:=bf fA
 have rZ:=zr 0 fq
 have r9:=zr 1 fq
 have sj:=zr 3 fq
 have su:X b.b.a=2:=ZX (λ q=>X q.b.a) J.symm
 have sw:X b.g.a=0:=ZX (λ q=>X q.g.a) J.symm
 have sD:X b.j.a=0:=ZX (λ q=>X q.j.a) J.symm
 refine Mz Z ?_
 refine WL.do Z (Ki Tryz.call18 Z ?_ (λ _ _ k=>k))
 refine cb Tryz.func18 ?_
 refine sr (Ar Z (Kz (Zq #[T Zk 0 0]) ?_))
 refine cB [T Zk 0 0] 111 fq ?_
 intro bu uT nW
 refine An Z (rt (rs (Kz (Zq #[vI b.r,vU b.y,vU b.u,vU b.z,vU b.k, T iy (X b.b.a) iA, T iB (X b.g.a) iC, T iD (X b.j.a) iE,vU b.t,vU b.B, Z9 ⟨Zb b.s.a⟩, Z9 ⟨Zb b.s.b⟩,vU b.a.k,vU b.a.s,vU b.a.a, Z9 ⟨Zb b.a.j.a⟩, Z9 ⟨Zb b.a.j.b⟩, .iface 27 (vP aU 0), T Zk 0 0,vP bu 0, Zz Zk]) ?_)))
 refine cB [vI b.r,vU b.y,vU b.u,vU b.z,vU b.k, T iy (X b.b.a) iA, T iB (X b.g.a) iC, T iD (X b.j.a) iE,vU b.t,vU b.B, Z9 ⟨Zb b.s.a⟩, Z9 ⟨Zb b.s.b⟩,vU b.a.k,vU b.a.s,vU b.a.a, Z9 ⟨Zb b.a.j.a⟩, Z9 ⟨Zb b.a.j.b⟩, .iface 27 (vP aU 0), T Zk 0 0,vP bu 0, Zz Zk] 78 nW ?_
 intro aF uU jK
 refine Ar Z (Mz Z (Kz (vP aF 0) (Kz (vP aF 0) (Kz (vP aF 1) (Lz (vU b.y) jK 0 E0 (fw (.int .u64 ((W (H3.wrap ((b.y:Int)+1)):Nat):Int)) (J4 (e:=H3.wrap ((b.y:Int)+1)) yk (kW _)) (Kz (vP aF 0) (Kz (vP aF 0) (Kz (vP aF 1) ?_)))))))))
 refine cu [.int .u64 ((W (H3.wrap ((b.y:Int)+1)):Nat):Int)] 1 jK Tryz.sizeOf33 ?_
 intro uV jL
 refine nt (JS (sr (Kz (vP nU 6) (Lz (T Zk 0 0) jL 6 Tryz.isAgg35 (Kz (vI 0) (Mn Z (bo (Lf 200 (JS ?_)))))))))
 have nX:=jL.px [] [6] []
 refine JW (Kz (Y O) (nt (JS (jf (Wp.exit (Ka (Ka (Kh (JY (sr (Mz Z (Az Z (An Z (rt (Ke (lw Z Z Z) (Mz Z (Kz (vP aF 0) (Kz (vI 0) (Az Z (An Z (JS (JS ?_))))))))))))))))))))))
 have nY:=nX.px [] [7] []
 refine JW (Mz Z (Kz (Y O) (Mz Z (gw (vI 0) Z (J3 Z) (Gz (Y O) Z (fw (Y O) (QK Z) (nt (jf (sk (sr (Mz Z (Kz (Zq #[vI 2, Z9 ⟨Zb ([97])⟩, Z9 ⟨Zb ([120])⟩, Z9 ⟨Zb []⟩, Z9 ⟨Zb []⟩,vI 0]) ?_))))))))))))
 refine WL.do Z (Ki Y2 Z ?_ (λ _ _ k=>k))
 refine cb Y3 ?_
 refine sr ?_
 refine cB [vI 2, Z9 ⟨Zb ([97])⟩, Z9 ⟨Zb ([120])⟩, Z9 ⟨Zb []⟩, Z9 ⟨Zb []⟩,vI 0] 62 nY ?_
 intro uW uX nZ
 refine cB (fT 0 0 0 0 0 0 0 0 0 0 0 0 0 0 0 O [] [] Zk 0 0 Zk 0 0 Zk 0 0) 47 nZ ?_
 intro uY uZ jM
 refine ns (Mz Z (La ([vI 2, Z9 ⟨Zb ([97])⟩, Z9 ⟨Zb ([120])⟩, Z9 ⟨Zb []⟩, Z9 ⟨Zb []⟩,vI 0]) jM 1 C1 C0 ?_))
 refine j6 [vI 2, Z9 ⟨Zb ([97])⟩, Z9 ⟨Zb ([120])⟩, Z9 ⟨Zb []⟩, Z9 ⟨Zb []⟩,vI 0] 62 6 1 jM ?_
 intro dn u6 iF
 replace iF:=Ku (y:=row dn 1 1 (q1 aV.L ([(aV.q 2 ([97]) ([120]) [] [] 0)])) 62 6) Z iF
 refine Kz (Zq (Zb (fT 3 0 1 0 0 0 0 0 5 0 0 1 0 0 0 O [] [] dn 1 1 Zk 0 0 Zk 0 0))) ?_
 have og:=iF.pf [1]
 refine cu (fT 3 0 1 0 0 0 0 0 5 0 0 1 0 0 0 O [] [] dn 1 1 Zk 0 0 Zk 0 0) 0 og I2 ?_
 intro fu jN
 refine nt (rt (Ke (qg Z Z (J7 (cs:=(fT 3 0 1 0 0 0 0 0 5 0 0 1 0 0 0 O [] [] dn 1 1 Zk 0 0 Zk 0 0)) I0 I2 ((jN.cls (i:=0) Z).lit (k:=0) (m:=21) Z))) ?_))
 have oh:Own w D fu (sepL (q1 Kq [])::_):=jN.sepNil
 have ol:Own w D fu (row Zk 0 0 (q1 aY.L []) 100 4::_):=oh.free (bW 100 4)
 have oo:Own w D fu (sepL (q1 Kj [])::_):=ol.sepNil
 have oq:Own w D fu (row Zk 0 0 (q1 aH.L []) 159 6::_):=oo.free (bW 159 6)
 have jO:=oq.pb [2,3,13,8,0,1,4,5,6]
 have ou:=zr 5 jO
 obtain⟨⟨Z8,fB,au,bI⟩,h⟩:∃ q:bY × Int × aB × bn,dL (aB.q (bH.q b.r (W (H3.wrap ((b.y:Int)+1))) b.u b.z b.k (N b.b.a) (N b.g.a) (N b.j.a) b.t b.B b.s b.a) (N [])) (cz.q 3 0 1 0 0 0 0 0 5 0 0 1 0 0 0 O (ai.q [] []) (N ([(aV.q 2 ([97]) ([120]) [] [] 0)])) (N []) (N [])) (StoreT.q (N [])) (bn.q (N []))=q:=⟨_,Z⟩
 obtain⟨sF,iG,ow,iH,iI⟩:=KT jO
 refine cl Y4 (jv _ _ aF (aB.q (bH.q b.r (W (H3.wrap ((b.y:Int)+1))) b.u b.z b.k (N b.b.a) (N b.g.a) (N b.j.a) b.t b.B b.s b.a) (N [])) iy iA iB iC nV iD iE Zk 0 [] (cz.q 3 0 1 0 0 0 0 0 5 0 0 1 0 0 0 O (ai.q [] []) (N ([(aV.q 2 ([97]) ([120]) [] [] 0)])) (N []) (N [])) dn 1 1 Zk 0 0 [] Zk 0 0 aU (StoreT.q (N [])) Zk 0 bu (bn.q (N [])) Zk 0 [] Z8 fB au bI iG fA Z Z (iI _ 1 _ Z bB) f9 Z Z (λ _ _=>bV.nil _ _ _) f9 (λ _ h9=>absurd h9 y2) Z (λ _ _=>bV.nil _ _ _) f9 (λ _ _=>bV.nil _ _ _) U Z (by first | assumption | exact Rs.tk f8 | (dsimp only; exact(dS f8).tk)) (by first | assumption | exact Rs.gt f8 | (dsimp only; exact(dS f8).gt)) (by first | omega | exact Tk.n f8 | exact(Rs.tk f8).n | (dsimp only; exact(dS f8).tk.n)) (by first | omega | exact Tk.rows f8 | exact(Rs.tk f8).rows | (dsimp only; exact(dS f8).tk.rows)) f2 f2 f2 h) ?_
 rintro _ sG ⟨aI,cO,fC,fD,jP,jQ,jR,jS,jT,jU,jV,jW,jX,jY,jZ,j3,j4,j5,rfl,iJ,dw,dx,dz,dA⟩
 have aJ:=iH _ _ iJ
 have oz:=bf dw
 have oC:=bf dx
 have oD:=bf dz
 have oF:=bf dA
 have oG:=zr 0 aJ
 have oH:=zr 2 aJ
 have oI:=zr 4 aJ
 have oJ:=zr 5 aJ
 have oK:=zr 7 aJ
 have oL:=zr 8 aJ
 have oM:=zr 12 aJ
 obtain⟨dB,dC⟩:=om (m:=(aB.q (bH.q b.r (W (H3.wrap ((b.y:Int)+1))) b.u b.z b.k (N b.b.a) (N b.g.a) (N b.j.a) b.t b.B b.s b.a) (N []))) (tb:=(bn.q (N []))) i0 g4 g4 h
 replace dB:Rs au.b.a au.a.g.a au.a.j.a bI.a.a:=dB
 replace dC:X au.a.b.a<=6/\X au.a.j.a<=X b.j.a+1/\X Z8.a.a<=42/\X au.b.a+X au.a.g.a<=6:=dC
 refine Mz Z (Kz (Zq #[T aI (X Z8.b.a) cO, T fC (X Z8.a.a) fD, Y Z8.g]) (Kz (vI fB) ?_))
 refine cB [T Zk 0 0, T Zk 0 0, Y O] 52 aJ ?_
 intro dE sH kg
 refine cu [T aI (X Z8.b.a) cO, T fC (X Z8.a.a) fD, Y Z8.g] 0 kg Y1 ?_
 intro sI kr
 refine An Z (JS ?_)
 have ku:=kr.px [] [15,16,17] []
 refine JW (Mz Z (Kz (Zq #[vI 1, Z9 ⟨Zb ([97])⟩, Z9 ⟨Zb []⟩, Z9 ⟨Zb []⟩, Z9 ⟨Zb []⟩,vI 0]) ?_))
 refine WL.do Z (Ki Y2 Z ?_ (λ _ _ k=>k))
 refine cb Y3 ?_
 refine sr ?_
 refine cB [vI 1, Z9 ⟨Zb ([97])⟩, Z9 ⟨Zb []⟩, Z9 ⟨Zb []⟩, Z9 ⟨Zb []⟩,vI 0] 62 ku ?_
 intro sJ sK kv
 refine cB (fT 0 0 0 0 0 0 0 0 0 0 0 0 0 0 0 O [] [] Zk 0 0 Zk 0 0 Zk 0 0) 47 kv ?_
 intro sM sN fE
 refine ns (Mz Z (La ([vI 1, Z9 ⟨Zb ([97])⟩, Z9 ⟨Zb []⟩, Z9 ⟨Zb []⟩, Z9 ⟨Zb []⟩,vI 0]) fE 1 C1 C0 ?_))
 refine j6 [vI 1, Z9 ⟨Zb ([97])⟩, Z9 ⟨Zb []⟩, Z9 ⟨Zb []⟩, Z9 ⟨Zb []⟩,vI 0] 62 6 1 fE ?_
 intro bJ sO dG
 replace dG:=Ku (y:=row bJ 1 1 (q1 aV.L ([(aV.q 1 ([97]) [] [] [] 0)])) 62 6) Z dG
 refine Kz (Zq (Zb (fT 3 0 1 0 0 0 0 0 6 0 0 1 0 0 0 O [] [] bJ 1 1 Zk 0 0 Zk 0 0))) ?_
 have kw:=dG.pf [1]
 refine cu (fT 3 0 1 0 0 0 0 0 6 0 0 1 0 0 0 O [] [] bJ 1 1 Zk 0 0 Zk 0 0) 0 kw I2 ?_
 intro sP fG
 refine nt (rt (Ke (qg Z Z (J7 (cs:=(fT 3 0 1 0 0 0 0 0 6 0 0 1 0 0 0 O [] [] bJ 1 1 Zk 0 0 Zk 0 0)) I0 I2 ((fG.cls (i:=0) Z).lit (k:=0) (m:=21) Z))) ?_))
 have ky:=fG.pb [0,1,2,3,4,5,6]
 obtain⟨⟨af,fH,av,bK⟩,j⟩:∃ q:bY × Int × aB × bn,dL au (cz.q 3 0 1 0 0 0 0 0 6 0 0 1 0 0 0 O (ai.q [] []) (N ([(aV.q 1 ([97]) [] [] [] 0)])) (N []) (N [])) (StoreT.q (N [])) bI=q:=⟨_,Z⟩
 obtain⟨sQ,iK,oN,iL,iM⟩:=KT ky
 refine cl Y4 (jv _ _ aF au jQ jR jS jT jU jV jW jX jY jZ (cz.q 3 0 1 0 0 0 0 0 6 0 0 1 0 0 0 O (ai.q [] []) (N ([(aV.q 1 ([97]) [] [] [] 0)])) (N []) (N [])) bJ 1 1 Zk 0 0 [] Zk 0 0 aU (StoreT.q (N [])) Zk 0 bu bI j3 j4 j5 af fH av bK iK dx dz Z (iM _ 1 _ Z bB) f9 Z Z (λ _ _=>bV.nil _ _ _) f9 (λ _ h9=>absurd h9 y2) Z (λ _ _=>bV.nil _ _ _) f9 (λ _ _=>bV.nil _ _ _) U dA (by first | assumption | exact Rs.tk f8 | (dsimp only; exact(dS f8).tk)) (by first | assumption | exact Rs.gt f8 | (dsimp only; exact(dS f8).gt)) (by first | omega | exact Tk.n f8 | exact(Rs.tk f8).n | (dsimp only; exact(dS f8).tk.n)) (by first | omega | exact Tk.rows f8 | exact(Rs.tk f8).rows | (dsimp only; exact(dS f8).tk.rows)) f2 f2 f2 j) ?_
 rintro _ sS ⟨aK,cZ,fI,fJ,kz,kC,kD,kE,kF,kG,kH,kI,kJ,kK,kL,kM,kN,kP,rfl,iO,dH,dJ,dK,dN⟩
 have aL:=iL _ _ iO
 have oO:=bf dH
 have oP:=bf dJ
 have oQ:=bf dK
 have oU:=bf dN
 have oV:=zr 0 aL
 have oW:=zr 2 aL
 have oZ:=zr 4 aL
 have o5:=zr 5 aL
 have o6:=zr 7 aL
 have o7:=zr 8 aL
 have o8:=zr 12 aL
 obtain⟨dO,dP⟩:=om (m:=au) (tb:=bI) i0 g4 g4 j
 replace dO:Rs av.b.a av.a.g.a av.a.j.a bK.a.a:=dO
 replace dP:X av.a.b.a<=6/\X av.a.j.a<=X au.a.j.a+1/\X af.a.a<=42/\X av.b.a+X av.a.g.a<=6:=dP
 refine Mz Z (Kz (Zq #[T aK (X af.b.a) cZ, T fI (X af.a.a) fJ, Y af.g]) (Kz (vI fH) ?_))
 refine cB [T Zk 0 0, T Zk 0 0, Y O] 52 aL ?_
 intro fK sU kQ
 refine cu [T aK (X af.b.a) cZ, T fI (X af.a.a) fJ, Y af.g] 0 kQ Y1 ?_
 intro sV kR
 refine An Z (JS ?_)
 have kS:=kR.px [] [15,16,17] []
 refine JW (Mz Z (Kz (Zq #[vI 1, Z9 ⟨Zb ([97])⟩, Z9 ⟨Zb []⟩, Z9 ⟨Zb []⟩, Z9 ⟨Zb []⟩,vI 0]) ?_))
 refine WL.do Z (Ki Y2 Z ?_ (λ _ _ k=>k))
 refine cb Y3 ?_
 refine sr ?_
 refine cB [vI 1, Z9 ⟨Zb ([97])⟩, Z9 ⟨Zb []⟩, Z9 ⟨Zb []⟩, Z9 ⟨Zb []⟩,vI 0] 62 kS ?_
 intro sW sZ kT
 refine cB (fT 0 0 0 0 0 0 0 0 0 0 0 0 0 0 0 O [] [] Zk 0 0 Zk 0 0 Zk 0 0) 47 kT ?_
 intro tq tu fM
 refine ns (Mz Z (La ([vI 1, Z9 ⟨Zb ([97])⟩, Z9 ⟨Zb []⟩, Z9 ⟨Zb []⟩, Z9 ⟨Zb []⟩,vI 0]) fM 1 C1 C0 ?_))
 refine j6 [vI 1, Z9 ⟨Zb ([97])⟩, Z9 ⟨Zb []⟩, Z9 ⟨Zb []⟩, Z9 ⟨Zb []⟩,vI 0] 62 6 1 fM ?_
 intro bN tC dQ
 replace dQ:=Ku (y:=row bN 1 1 (q1 aV.L ([(aV.q 1 ([97]) [] [] [] 0)])) 62 6) Z dQ
 refine Kz (Zq (Zb (fT 3 0 1 0 0 0 0 0 4 0 0 1 0 0 0 O [] [] bN 1 1 Zk 0 0 Zk 0 0))) ?_
 have kU:=dQ.pf [1]
 refine cu (fT 3 0 1 0 0 0 0 0 4 0 0 1 0 0 0 O [] [] bN 1 1 Zk 0 0 Zk 0 0) 0 kU I2 ?_
 intro tF fO
 refine nt (rt (Ke (qg Z Z (J7 (cs:=(fT 3 0 1 0 0 0 0 0 4 0 0 1 0 0 0 O [] [] bN 1 1 Zk 0 0 Zk 0 0)) I0 I2 ((fO.cls (i:=0) Z).lit (k:=0) (m:=21) Z))) ?_))
 have kV:=fO.pb [0,1,2,3,4,5,6,18,19,20,21]
 obtain⟨⟨ah,fP,Z1,bP⟩,l⟩:∃ q:bY × Int × aB × bn,dL av (cz.q 3 0 1 0 0 0 0 0 4 0 0 1 0 0 0 O (ai.q [] []) (N ([(aV.q 1 ([97]) [] [] [] 0)])) (N []) (N [])) (StoreT.q (N [])) bK=q:=⟨_,Z⟩
 obtain⟨tH,iP,o9,iQ,iR⟩:=KT kV
 refine cl Y4 (jv _ _ aF av kC kD kE kF kG kH kI kJ kK kL (cz.q 3 0 1 0 0 0 0 0 4 0 0 1 0 0 0 O (ai.q [] []) (N ([(aV.q 1 ([97]) [] [] [] 0)])) (N []) (N [])) bN 1 1 Zk 0 0 [] Zk 0 0 aU (StoreT.q (N [])) Zk 0 bu bK kM kN kP ah fP Z1 bP iP dJ dK Z (iR _ 1 _ Z bB) f9 Z Z (λ _ _=>bV.nil _ _ _) f9 (λ _ h9=>absurd h9 y2) Z (λ _ _=>bV.nil _ _ _) f9 (λ _ _=>bV.nil _ _ _) U dN (by first | assumption | exact Rs.tk f8 | (dsimp only; exact(dS f8).tk)) (by first | assumption | exact Rs.gt f8 | (dsimp only; exact(dS f8).gt)) (by first | omega | exact Tk.n f8 | exact(Rs.tk f8).n | (dsimp only; exact(dS f8).tk.n)) (by first | omega | exact Tk.rows f8 | exact(Rs.tk f8).rows | (dsimp only; exact(dS f8).tk.rows)) f2 f2 f2 l) ?_
 rintro _ tJ ⟨dR,dU,fQ,fU,tK,fZ,gm,gp,gq,kX,gu,gy,gz,dV,gD,kY,kZ,lc,rfl,iT,iU,dW,bU,dX⟩
 have aM:=iQ _ _ iT
 have pg:=bf iU
 have pq:=bf dW
 have pu:=bf bU
 have pz:=bf dX
 have pE:=zr 0 aM
 have pF:=zr 2 aM
 have pG:=zr 4 aM
 have pI:=zr 5 aM
 have pJ:=zr 7 aM
 have pK:=zr 8 aM
 have pM:=zr 12 aM
 obtain⟨dY,dZ⟩:=om (m:=av) (tb:=bK) i0 g4 g4 l
 replace dY:Rs Z1.b.a Z1.a.g.a Z1.a.j.a bP.a.a:=dY
 replace dZ:X Z1.a.b.a<=6/\X Z1.a.j.a<=X av.a.j.a+1/\X ah.a.a<=42/\X Z1.b.a+X Z1.a.g.a<=6:=dZ
 refine Mz Z (Kz (Zq #[T dR (X ah.b.a) dU, T fQ (X ah.a.a) fU, Y ah.g]) (Kz (vI fP) ?_))
 refine cB [T Zk 0 0, T Zk 0 0, Y O] 52 aM ?_
 intro lg tL lh
 refine cu [T dR (X ah.b.a) dU, T fQ (X ah.a.a) fU, Y ah.g] 0 lh Y1 ?_
 intro tN ll
 refine An Z (JS ?_)
 have lm:=ll.px [] [15,16,17] []
 refine JW (Mz Z ?_)
 have df:=lm.pf [4]
 have pO:=zr 9 df
 obtain⟨bv,u⟩:∃ q,qD Z1=q:=⟨_,Z⟩
 obtain⟨tO,iV,pQ,iW,bX⟩:=Kt df
 refine cl Tryz.call14 (wh _ _ aF Z1 fZ gm gp gq gu gy gz dV gD aU bu bv iV bU (bX _ 8 _ Z bB) U (λ x9 h9=>⟨bX _ 9 _ Z (bL (P6.2 ⟨x9,h9,b3⟩) bB),di (φ:=λ _=>_) df (i:=10) Z (bL (P6.2 ⟨x9,h9,b3⟩) dD),bX _ 9 _ Z (bL (P6.2 ⟨x9,h9, .tail _ b3⟩) bB),di (φ:=λ _=>_) df (i:=10) Z (bL (P6.2 ⟨x9,h9, .tail _ b3⟩) dD)⟩) f2 u) ?_
 rintro _ tQ ⟨lq,lu,rfl,iY⟩
 have gF:=iW _ _ iY
 have pR:=zr 0 gF
 refine Ar Z (Mz Z (Kz (Zq (Zb (fT 5 0 1 0 0 0 0 0 5 0 0 0 0 0 0 Zj [] [] Zk 0 0 Zk 0 0 Zk 0 0))) ?_))
 have lv:=gF.pf [1,6,7,8,9,10,11,12,13,14,15]
 obtain⟨⟨K,gG,ax,bQ⟩,o⟩:∃ q:bY × Int × aB × bn,dL Z1 (cz.q 5 0 1 0 0 0 0 0 5 0 0 0 0 0 0 Zj (ai.q [] []) (N []) (N []) (N [])) (StoreT.q (N [])) bP=q:=⟨_,Z⟩
 obtain⟨tT,iZ,pU,ja,pV⟩:=KT lv
 refine cl Y4 (jv _ _ aF Z1 fZ gm gp gq kX gu gy gz dV gD (cz.q 5 0 1 0 0 0 0 0 5 0 0 0 0 0 0 Zj (ai.q [] []) (N []) (N []) (N [])) Zk 0 0 Zk 0 0 [] Zk 0 0 aU (StoreT.q (N [])) Zk 0 bu bP kY kZ lc K gG ax bQ iZ dW bU Z (λ _ _=>bV.nil _ _ _) f9 Z Z (λ _ _=>bV.nil _ _ _) f9 (λ _ h9=>absurd h9 y2) Z (λ _ _=>bV.nil _ _ _) f9 (λ _ _=>bV.nil _ _ _) U dX (by first | assumption | exact Rs.tk f8 | (dsimp only; exact(dS f8).tk)) (by first | assumption | exact Rs.gt f8 | (dsimp only; exact(dS f8).gt)) (by first | omega | exact Tk.n f8 | exact(Rs.tk f8).n | (dsimp only; exact(dS f8).tk.n)) (by first | omega | exact Tk.rows f8 | exact(Rs.tk f8).rows | (dsimp only; exact(dS f8).tk.rows)) f2 f2 f2 o) ?_
 rintro _ tV ⟨E,aX,d9,ed,gH,lC,lD,lF,lG,lH,lI,lJ,lK,lL,lM,lN,lQ,lS,rfl,jb,bZ,ek,eu,eB⟩
 have aN:=ja _ _ jb
 have pW:=bf bZ
 have pX:=bf ek
 have pY:=bf eu
 have p8:=bf eB
 have p9:=zr 0 aN
 have qa:=zr 2 aN
 have qb:=zr 4 aN
 have qc:=zr 5 aN
 have qd:=zr 7 aN
 have qf:=zr 8 aN
 have qh:=zr 12 aN
 obtain⟨eF,eG⟩:=om (m:=Z1) (tb:=bP) i0 g4 g4 o
 replace eF:Rs ax.b.a ax.a.g.a ax.a.j.a bQ.a.a:=eF
 replace eG:X ax.a.b.a<=6/\X ax.a.j.a<=X Z1.a.j.a+1/\X K.a.a<=42/\X ax.b.a+X ax.a.g.a<=6:=eG
 refine Mz Z (Kz (Zq #[T E (X K.b.a) aX, T d9 (X K.a.a) ed, Y K.g]) (Kz (vI gG) ?_))
 refine cB [T Zk 0 0, T Zk 0 0, Y O] 52 aN ?_
 intro bz tX lT
 refine cu [T E (X K.b.a) aX, T d9 (X K.a.a) ed, Y K.g] 0 lT Y1 ?_
 intro tY lU
 refine Ar Z (Mz Z (Kz (Zq #[vI 2, Z9 ⟨Zb ([122])⟩, Z9 ⟨Zb []⟩, Z9 ⟨Zb []⟩, Z9 ⟨Zb []⟩,vI 0]) ?_))
 refine WL.do Z (Ki Y2 Z ?_ (λ _ _ k=>k))
 refine cb Y3 ?_
 refine sr ?_
 refine cB [vI 2, Z9 ⟨Zb ([122])⟩, Z9 ⟨Zb []⟩, Z9 ⟨Zb []⟩, Z9 ⟨Zb []⟩,vI 0] 62 lU ?_
 intro tZ uf lV
 refine cB (fT 0 0 0 0 0 0 0 0 0 0 0 0 0 0 0 O [] [] Zk 0 0 Zk 0 0 Zk 0 0) 47 lV ?_
 intro ug uh gI
 refine ns (Mz Z (La ([vI 2, Z9 ⟨Zb ([122])⟩, Z9 ⟨Zb []⟩, Z9 ⟨Zb []⟩, Z9 ⟨Zb []⟩,vI 0]) gI 1 C1 C0 ?_))
 refine j6 [vI 2, Z9 ⟨Zb ([122])⟩, Z9 ⟨Zb []⟩, Z9 ⟨Zb []⟩, Z9 ⟨Zb []⟩,vI 0] 62 6 1 gI ?_
 intro bR ui eH
 replace eH:=Ku (y:=row bR 1 1 (q1 aV.L ([(aV.q 2 ([122]) [] [] [] 0)])) 62 6) Z eH
 refine Kz (Zq (Zb (fT 3 0 1 0 0 0 0 0 7 0 0 1 0 0 0 O [] [] bR 1 1 Zk 0 0 Zk 0 0))) ?_
 have lX:=eH.pf [1]
 refine cu (fT 3 0 1 0 0 0 0 0 7 0 0 1 0 0 0 O [] [] bR 1 1 Zk 0 0 Zk 0 0) 0 lX I2 ?_
 intro uj gK
 refine nt (rt (Ke (qg Z Z (J7 (cs:=(fT 3 0 1 0 0 0 0 0 7 0 0 1 0 0 0 O [] [] bR 1 1 Zk 0 0 Zk 0 0)) I0 I2 ((gK.cls (i:=0) Z).lit (k:=0) (m:=21) Z))) ?_))
 have lY:=gK.pf [7,8,9,10,11,12,13,14,15,16,17]
 obtain⟨⟨ag,gL,ay,bS⟩,p⟩:∃ q:bY × Int × aB × bn,dL ax (cz.q 3 0 1 0 0 0 0 0 7 0 0 1 0 0 0 O (ai.q [] []) (N ([(aV.q 2 ([122]) [] [] [] 0)])) (N []) (N [])) (StoreT.q (N [])) bQ=q:=⟨_,Z⟩
 obtain⟨uk,jc,qi,jd,je⟩:=KT lY
 refine cl Y4 (jv _ _ aF ax lC lD lF lG lH lI lJ lK lL lM (cz.q 3 0 1 0 0 0 0 0 7 0 0 1 0 0 0 O (ai.q [] []) (N ([(aV.q 2 ([122]) [] [] [] 0)])) (N []) (N [])) bR 1 1 Zk 0 0 [] Zk 0 0 aU (StoreT.q (N [])) Zk 0 bu bQ lN lQ lS ag gL ay bS jc ek eu Z (je _ 1 _ Z bB) f9 Z Z (λ _ _=>bV.nil _ _ _) f9 (λ _ h9=>absurd h9 y2) Z (λ _ _=>bV.nil _ _ _) f9 (λ _ _=>bV.nil _ _ _) U eB (by first | assumption | exact Rs.tk f8 | (dsimp only; exact(dS f8).tk)) (by first | assumption | exact Rs.gt f8 | (dsimp only; exact(dS f8).gt)) (by first | omega | exact Tk.n f8 | exact(Rs.tk f8).n | (dsimp only; exact(dS f8).tk.n)) (by first | omega | exact Tk.rows f8 | exact(Rs.tk f8).rows | (dsimp only; exact(dS f8).tk.rows)) f2 f2 f2 p) ?_
 rintro _ ul ⟨aO,dh,gM,gN,lZ,l5,l6,l7,l8,l9,mf,mg,mh,mi,mo,mq,mr,mD,rfl,jg,eO,eP,eQ,eT⟩
 have aP:=jd _ _ jg
 have qj:=bf eO
 have ql:=bf eP
 have qm:=bf eQ
 have qo:=bf eT
 have qp:=zr 0 aP
 have qw:=zr 2 aP
 have qx:=zr 4 aP
 have qy:=zr 5 aP
 have qz:=zr 7 aP
 have qA:=zr 8 aP
 have qB:=zr 12 aP
 obtain⟨eU,eX⟩:=om (m:=ax) (tb:=bQ) i0 g4 g4 p
 replace eU:Rs ay.b.a ay.a.g.a ay.a.j.a bS.a.a:=eU
 replace eX:X ay.a.b.a<=6/\X ay.a.j.a<=X ax.a.j.a+1/\X ag.a.a<=42/\X ay.b.a+X ay.a.g.a<=6:=eX
 refine Mz Z (Kz (Zq #[T aO (X ag.b.a) dh, T gM (X ag.a.a) gN, Y ag.g]) (Kz (vI gL) ?_))
 refine cB [T Zk 0 0, T Zk 0 0, Y O] 52 aP ?_
 intro gP um mE
 refine cu [T aO (X ag.b.a) dh, T gM (X ag.a.a) gN, Y ag.g] 0 mE Y1 ?_
 intro uo mF
 refine An Z (JS ?_)
 have mG:=mF.px [] [15,16,17] []
 refine JW (Mz Z (Kz (Zq (Zb (fT 6 1 0 0 0 0 0 0 0 0 0 0 0 0 0 O [] [] Zk 0 0 Zk 0 0 Zk 0 0))) ?_))
 have mH:=mG.pf [4,5,6,7,8,9,10,11,12,13,14]
 obtain⟨⟨aR,bA,Z2,gQ⟩,r⟩:∃ q:bY × Int × aB × bn,dL ay (cz.q 6 1 0 0 0 0 0 0 0 0 0 0 0 0 0 O (ai.q [] []) (N []) (N []) (N [])) (StoreT.q (N [])) bS=q:=⟨_,Z⟩
 obtain⟨uq,jh,qE,ji,qF⟩:=KT mH
 refine cl Y4 (jv _ _ aF ay l5 l6 l7 l8 l9 mf mg mh mi mo (cz.q 6 1 0 0 0 0 0 0 0 0 0 0 0 0 0 O (ai.q [] []) (N []) (N []) (N [])) Zk 0 0 Zk 0 0 [] Zk 0 0 aU (StoreT.q (N [])) Zk 0 bu bS mq mr mD aR bA Z2 gQ jh eP eQ Z (λ _ _=>bV.nil _ _ _) f9 Z Z (λ _ _=>bV.nil _ _ _) f9 (λ _ h9=>absurd h9 y2) Z (λ _ _=>bV.nil _ _ _) f9 (λ _ _=>bV.nil _ _ _) U eT (by first | assumption | exact Rs.tk f8 | (dsimp only; exact(dS f8).tk)) (by first | assumption | exact Rs.gt f8 | (dsimp only; exact(dS f8).gt)) (by first | omega | exact Tk.n f8 | exact(Rs.tk f8).n | (dsimp only; exact(dS f8).tk.n)) (by first | omega | exact Tk.rows f8 | exact(Rs.tk f8).rows | (dsimp only; exact(dS f8).tk.rows)) f2 f2 f2 r) ?_
 rintro _ ut ⟨gT,gU,gV,gW,uu,mI,gX,mJ,gY,mK,mM,ib,mO,mP,uw,uy,uz,uA,rfl,jk,jl,eY,jm,jo⟩
 have aS:=ji _ _ jk
 have qG:=bf jl
 have qH:=bf eY
 have qI:=bf jm
 have qJ:=bf jo
 have qK:=zr 0 aS
 have qL:=zr 2 aS
 have qM:=zr 4 aS
 have qN:=zr 5 aS
 have qO:=zr 7 aS
 have qP:=zr 8 aS
 have qQ:=zr 12 aS
 obtain⟨eZ,fe⟩:=om (m:=ay) (tb:=bS) i0 g4 g4 r
 replace eZ:Rs Z2.b.a Z2.a.g.a Z2.a.j.a gQ.a.a:=eZ
 replace fe:X Z2.a.b.a<=6/\X Z2.a.j.a<=X ay.a.j.a+1/\X aR.a.a<=42/\X Z2.b.a+X Z2.a.g.a<=6:=fe
 refine Mz Z (Kz (Zq #[T gT (X aR.b.a) gU, T gV (X aR.a.a) gW, Y aR.g]) (Kz (vI bA) ?_))
 refine cB [T Zk 0 0, T Zk 0 0, Y O] 52 aS ?_
 intro uB uC mQ
 refine cu [T gT (X aR.b.a) gU, T gV (X aR.a.a) gW, Y aR.g] 0 mQ Y1 ?_
 intro uD mR
 refine An Z (JS ?_)
 have bT:=mR.px [] [0,1,2,3] []
 refine JW (Mz Z ?_)
 have qR:=zr 1 bT
 have qU:=zr 2 bT
 have qV:=zr 4 bT
 obtain⟨az,x⟩:∃ q,gJ Z2=q:=⟨_,Z⟩
 obtain⟨uE,jq,qW,jr,bD⟩:=Kt bT
 refine cl Tryz.call11 (lW _ _ aF Z2 mI gX mJ gY mK mM ib mO mP aU bu az jq (bD _ 0 _ Z bB) U eY (bD _ 1 _ Z bB) U (λ x9 h9=>⟨bD _ 2 _ Z (bL (P6.2 ⟨x9,h9,b3⟩) bB),di (φ:=λ _=>_) bT (i:=3) Z (bL (P6.2 ⟨x9,h9,b3⟩) dD)⟩) (bD _ 3 _ Z bB) U g5 (by first | assumption | exact Tk.hops f8 | exact(Rs.tk f8).hops) x) ?_
 rintro _ uF ⟨mU,mV,ic,ig,mW,mX,uG,rfl,jw,jy⟩
 have dm:=jr _ _ jw
 have qX:=bf jy
 have qY:=zr 0 dm
 have qZ:=zr 1 dm
 have q8:=zr 3 dm
 refine cB (fV 0 0 0 0 0 Zk 0 0 Zk 0 0 Zk 0 0 0 0 [] [] 0 0 0 [] []) 42 dm ?_
 intro il uH mY
 refine cu (gZ az mU mV ic ig mW mX) 0 mY S0 ?_
 intro uI mZ
 refine nt (JS ?_)
 have a:=mZ.px [] [5,6,7,8,9,10,11,12,13,14,15] []
 refine JW (Kz (vP dE 0) (Lz (T aI (X Z8.b.a) cO) a 22 W0 (Kz (vJ (X Z8.b.a)) (Kz (Za ((X Z8.b.a:Int)=1)) (Mz Z ?_)))))
 by_cases f:(X Z8.b.a:Int)=1
 refine Gz (vP dE 0) (dT f) (Gl (T aI (X Z8.b.a) cO) (dT f) a 22 W0 ?_)
 obtain⟨P,aZ⟩:=dM (ls:=jP) (i:=0) bM.len f7 (a.rds (i:=23) Z) f5
 have F:=ik dw aZ
 have q9:X P.a.a<=P.a.c/\X P.a.a<=9223372036854775807:=di a (i:=24) Z (φ:=λ _=>_) (bL (P6.2 ⟨P,G4 aZ,b3⟩) dD)
 have rf:X P.B.a=X (s0 aQ.abs P.B.a):=bf (Z:s0 aQ.abs P.B.a=s0 aQ.abs P.B.a)
 have rq:X P.B.a<=P.B.c/\X P.B.a<=9223372036854775807:=di a (i:=24) Z (φ:=λ _=>_) (bL (P6.2 ⟨P,G4 aZ, .tail _ b3⟩) dD)
 have ru:X P.b.a<=P.b.c/\X P.b.a<=9223372036854775807:=di a (i:=24) Z (φ:=λ _=>_) (bL (P6.2 ⟨P,G4 aZ, .tail _ b4⟩) dD)
 refine gw (Zz (Zv ⟨ab aI,ao aI+0 *21,Zk⟩)) (dT f) (J9 (qC) Z Z ((a.rds (i:=23) Z).addr (i:=0) U) U) (Gz (Zz (Zv ⟨ab aI,ao aI+0 *21+4,Zk⟩)) (dT f) (gw (vI P.F) (dT f) (J5 Z (bO.one B8 (((a.rds (i:=23) Z).elem bM.len aZ f7).at_ (k:=4) Z))) (Gz (Za (P.F=3)) (dT f) (fw (Za (P.F=3)) (JX Z (dT f) Z) (Mz Z ?_)))))
 by_cases G:P.F=3
 refine Gz (vP dE 2) (dT G) (Gl (Y Z8.g) (dT G) a 22 Tryz.isAgg4 (fw (Y Z8.g) (JX Z (dT G) Z) (Mz Z ?_)))
 rcases Nv (Z8.g) with s | s
 refine Gz (vP fK 0) s (Gl (T aK (X af.b.a) cZ) s a 18 W0 (Gz (vJ (X af.b.a)) s (Gz (Za ((X af.b.a:Int)=1)) s (fw (Za ((X af.b.a:Int)=1)) (JX Z s Z) (Mz Z ?_)))))
 by_cases g:(X af.b.a:Int)=1
 refine Gz (vP fK 0) (dT g) (Gl (T aK (X af.b.a) cZ) (dT g) a 18 W0 ?_)
 obtain⟨Q,bg⟩:=dM (ls:=kz) (i:=0) bM.len f7 (a.rds (i:=19) Z) f5
 have Z7:=ik dH bg
 have ry:X Q.a.a<=Q.a.c/\X Q.a.a<=9223372036854775807:=di a (i:=20) Z (φ:=λ _=>_) (bL (P6.2 ⟨Q,G4 bg,b3⟩) dD)
 have rz:X Q.B.a=X (s0 aQ.abs Q.B.a):=bf (Z:s0 aQ.abs Q.B.a=s0 aQ.abs Q.B.a)
 have rA:X Q.B.a<=Q.B.c/\X Q.B.a<=9223372036854775807:=di a (i:=20) Z (φ:=λ _=>_) (bL (P6.2 ⟨Q,G4 bg, .tail _ b3⟩) dD)
 have rC:X Q.b.a<=Q.b.c/\X Q.b.a<=9223372036854775807:=di a (i:=20) Z (φ:=λ _=>_) (bL (P6.2 ⟨Q,G4 bg, .tail _ b4⟩) dD)
 refine gw (Zz (Zv ⟨ab aK,ao aK+0 *21,Zk⟩)) (dT g) (J9 (qC) Z Z ((a.rds (i:=19) Z).addr (i:=0) U) U) (Gz (Zz (Zv ⟨ab aK,ao aK+0 *21+4,Zk⟩)) (dT g) (gw (vI Q.F) (dT g) (J5 Z (bO.one B8 (((a.rds (i:=19) Z).elem bM.len bg f7).at_ (k:=4) Z))) (Gz (Za (Q.F=5)) (dT g) (fw (Za (Q.F=5)) (JX Z (dT g) Z) (Mz Z ?_)))))
 by_cases z:Q.F=5
 refine Gz (vP lg 0) (dT z) (Gl (T dR (X ah.b.a) dU) (dT z) a 14 W0 (Gz (vJ (X ah.b.a)) (dT z) (Gz (Za ((X ah.b.a:Int)=0)) (dT z) (fw (Za ((X ah.b.a:Int)=0)) (JX Z (dT z) Z) (Mz Z ?_)))))
 by_cases M:(X ah.b.a:Int)=0
 refine gw (T lq (X bv) lu) (dT M) (J3 Z) (Gz (vJ (X bv)) (dT M) (Gz (Za ((X bv:Int)=1)) (dT M) (fw (Za ((X bv:Int)=1)) (JX Z (dT M) Z) (Mz Z ?_))))
 by_cases L:(X bv:Int)=1
 refine Gz (vP bz 1) (dT L) (Gl (T d9 (X K.a.a) ed) (dT L) a 9 Tryz.isAgg44 (Gz (vJ (X K.a.a)) (dT L) (Gz (Za ((X K.a.a:Int)=1)) (dT L) (fw (Za ((X K.a.a:Int)=1)) (JX Z (dT L) Z) (Mz Z ?_)))))
 by_cases Z5:(X K.a.a:Int)=1
 refine Gz (vP bz 0) (dT Z5) (Gl (T E (X K.b.a) aX) (dT Z5) a 9 W0 (Gz (vJ (X K.b.a)) (dT Z5) (Gz (Za ((X K.b.a:Int)=2)) (dT Z5) (fw (Za ((X K.b.a:Int)=2)) (JX Z (dT Z5) Z) (Mz Z ?_)))))
 by_cases B:(X K.b.a:Int)=2
 refine Gz (vP bz 0) (dT B) (Gl (T E (X K.b.a) aX) (dT B) a 9 W0 ?_)
 obtain⟨R,bi⟩:=dM (ls:=gH) (i:=0) bM.len f7 (a.rds (i:=10) Z) f5
 have ak:=ik bZ bi
 have rD:X R.a.a<=R.a.c/\X R.a.a<=9223372036854775807:=di a (i:=11) Z (φ:=λ _=>_) (bL (P6.2 ⟨R,G4 bi,b3⟩) dD)
 have rE:X R.B.a=X (s0 aQ.abs R.B.a):=bf (Z:s0 aQ.abs R.B.a=s0 aQ.abs R.B.a)
 have rF:X R.B.a<=R.B.c/\X R.B.a<=9223372036854775807:=di a (i:=11) Z (φ:=λ _=>_) (bL (P6.2 ⟨R,G4 bi, .tail _ b3⟩) dD)
 have rG:X R.b.a<=R.b.c/\X R.b.a<=9223372036854775807:=di a (i:=11) Z (φ:=λ _=>_) (bL (P6.2 ⟨R,G4 bi, .tail _ b4⟩) dD)
 refine gw (Zz (Zv ⟨ab E,ao E+0 *21,Zk⟩)) (dT B) (J9 (qC) Z Z ((a.rds (i:=10) Z).addr (i:=0) U) U) (Gz (Zz (Zv ⟨ab E,ao E+0 *21,Zk⟩)) (dT B) (gw (vI R.g) (dT B) (J5 Z (bO.one B8 (((a.rds (i:=10) Z).elem bM.len bi f7).at_ (k:=0) Z))) (Gz (Za (R.g=6)) (dT B) (fw (Za (R.g=6)) (JX Z (dT B) Z) (Mz Z ?_)))))
 by_cases I:R.g=6
 refine Gz (vP bz 0) (dT I) (Gl (T E (X K.b.a) aX) (dT I) a 9 W0 ?_)
 obtain⟨d,aa⟩:=dM (ls:=gH) (i:=1) bM.len f7 (a.rds (i:=10) Z) f5
 have aA:=ik bZ aa
 have rH:X d.a.a<=d.a.c/\X d.a.a<=9223372036854775807:=di a (i:=11) Z (φ:=λ _=>_) (bL (P6.2 ⟨d,G4 aa,b3⟩) dD)
 have rJ:X d.B.a=X (s0 aQ.abs d.B.a):=bf (Z:s0 aQ.abs d.B.a=s0 aQ.abs d.B.a)
 have rM:X d.B.a<=d.B.c/\X d.B.a<=9223372036854775807:=di a (i:=11) Z (φ:=λ _=>_) (bL (P6.2 ⟨d,G4 aa, .tail _ b3⟩) dD)
 have rO:X d.b.a<=d.b.c/\X d.b.a<=9223372036854775807:=di a (i:=11) Z (φ:=λ _=>_) (bL (P6.2 ⟨d,G4 aa, .tail _ b4⟩) dD)
 refine gw (Zz (Zv ⟨ab E,ao E+1 *21,Zk⟩)) (dT I) (J9 (qC) Z Z ((a.rds (i:=10) Z).addr (i:=1) U) U) (Gz (Zz (Zv ⟨ab E,ao E+1 *21+8,Zk⟩)) (dT I) (gw (vU d.r) (dT I) (J5 Z (bO.one E0 (((a.rds (i:=10) Z).elem bM.len aa f7).at_ (k:=8) Z))) (Gz (Za ((d.r:Int)=4)) (dT I) (fw (Za ((d.r:Int)=4)) (JX Z (dT I) Z) (Mz Z ?_)))))
 by_cases C:(d.r:Int)=4
 refine Gz (vP bz 0) (dT C) (Gl (T E (X K.b.a) aX) (dT C) a 9 W0 (gw (Zz (Zv ⟨ab E,ao E+1 *21,Zk⟩)) (dT C) (J9 (qC) Z Z ((a.rds (i:=10) Z).addr (i:=1) U) U) (Gz (Zz (Zv ⟨ab E,ao E+1 *21+19,Zk⟩)) (dT C) (gw (T d.B.A (X d.B.a) d.B.c) (dT C) (J5 Z (bO.one Tryz.isAgg45 (((a.rds (i:=10) Z).elem bM.len aa f7).at_ (k:=19) Z))) (gw (vJ (X (s0 aQ.abs d.B.a))) (dT C) (J4 (e:=(X d.B.a:Int)) yk (by rw [List.length_map])) (Gz (Za (((X (s0 aQ.abs d.B.a):Nat):Int)=1)) (dT C) (fw (Za (((X (s0 aQ.abs d.B.a):Nat):Int)=1)) (JX Z (dT C) Z) (Mz Z ?_))))))))
 by_cases t:((X (s0 aQ.abs d.B.a):Nat):Int)=1
 refine Gz (vP bz 0) (dT t) (Gl (T E (X K.b.a) aX) (dT t) a 9 W0 (gw (Zz (Zv ⟨ab E,ao E+1 *21,Zk⟩)) (dT t) (J9 (qC) Z Z ((a.rds (i:=10) Z).addr (i:=1) U) U) (Gz (Zz (Zv ⟨ab E,ao E+1 *21+19,Zk⟩)) (dT t) (gw (T d.B.A (X d.B.a) d.B.c) (dT t) (J5 Z (bO.one Tryz.isAgg45 (((a.rds (i:=10) Z).elem bM.len aa f7).at_ (k:=19) Z))) ?_))))
 obtain⟨aT,cK⟩:=dM (ls:=d.B.a) (i:=0) aQ.len f7 (show bV _ 3 d.B.A (X d.B.a) (q1 aQ.L d.B.a) from (di a (i:=11) Z (bL (P6.2 ⟨d,G4 aa, .tail _ b3⟩) bB))) f5
 have aG:=ik (Z:s0 aQ.abs d.B.a=s0 aQ.abs d.B.a) cK
 have rP:X aT.a.a<=aT.a.c/\X aT.a.a<=9223372036854775807:=di a (i:=11) Z (φ:=λ _=>_) (bL (P6.2 ⟨d,G4 aa, .tail _ b5⟩) (bL (P6.2 ⟨aT,G4 cK,b3⟩) dD))
 refine gw (Zz (Zv ⟨ab d.B.A,ao d.B.A+0 *3,Zk⟩)) (dT t) (J9 (vD) Z Z ((show bV _ 3 d.B.A (X d.B.a) (q1 aQ.L d.B.a) from (di a (i:=11) Z (bL (P6.2 ⟨d,G4 aa, .tail _ b3⟩) bB))).addr (i:=0) U) U) (Gz (Zz (Zv ⟨ab d.B.A,ao d.B.A+0 *3+1,Zk⟩)) (dT t) (gw (Z9 ⟨Zb aT.k⟩) (dT t) (J5 Z (bO.one Tryz.isAgg9 (((show bV _ 3 d.B.A (X d.B.a) (q1 aQ.L d.B.a) from (di a (i:=11) Z (bL (P6.2 ⟨d,G4 aa, .tail _ b3⟩) bB))).elem aQ.len cK f7).at_ (k:=1) Z))) (gw (Za (aT.k=([120]))) (dT t) (Lb Z Z) (fw (Za (aT.k=([120]))) (JX Z (dT t) Z) (Mz Z ?_)))))
 by_cases Z0:aT.k=([120])
 refine Gz (vP gP 0) (dT Z0) (Gl (T aO (X ag.b.a) dh) (dT Z0) a 5 W0 (Gz (vJ (X ag.b.a)) (dT Z0) (Gz (Za ((X ag.b.a:Int)=1)) (dT Z0) (fw (Za ((X ag.b.a:Int)=1)) (JX Z (dT Z0) Z) (Mz Z ?_)))))
 by_cases Z3:(X ag.b.a:Int)=1
 refine Gz (vP gP 0) (dT Z3) (Gl (T aO (X ag.b.a) dh) (dT Z3) a 5 W0 ?_)
 obtain⟨S,bq⟩:=dM (ls:=lZ) (i:=0) bM.len f7 (a.rds (i:=6) Z) f5
 have bE:=ik eO bq
 have rQ:X S.a.a<=S.a.c/\X S.a.a<=9223372036854775807:=di a (i:=7) Z (φ:=λ _=>_) (bL (P6.2 ⟨S,G4 bq,b3⟩) dD)
 have rR:X S.B.a=X (s0 aQ.abs S.B.a):=bf (Z:s0 aQ.abs S.B.a=s0 aQ.abs S.B.a)
 have rT:X S.B.a<=S.B.c/\X S.B.a<=9223372036854775807:=di a (i:=7) Z (φ:=λ _=>_) (bL (P6.2 ⟨S,G4 bq, .tail _ b3⟩) dD)
 have rU:X S.b.a<=S.b.c/\X S.b.a<=9223372036854775807:=di a (i:=7) Z (φ:=λ _=>_) (bL (P6.2 ⟨S,G4 bq, .tail _ b4⟩) dD)
 refine gw (Zz (Zv ⟨ab aO,ao aO+0 *21,Zk⟩)) (dT Z3) (J9 (qC) Z Z ((a.rds (i:=6) Z).addr (i:=0) U) U) (Gz (Zz (Zv ⟨ab aO,ao aO+0 *21+4,Zk⟩)) (dT Z3) (gw (vI S.F) (dT Z3) (J5 Z (bO.one B8 (((a.rds (i:=6) Z).elem bM.len bq f7).at_ (k:=4) Z))) (Gz (Za (S.F=4)) (dT Z3) (fw (Za (S.F=4)) (JX Z (dT Z3) Z) (Mz Z ?_)))))
 by_cases aC:S.F=4
 refine gw (vI bA) (dT aC) (J3 Z) (Gz (Za (bA=180)) (dT aC) (fw (Za (bA=180)) (JX Z (dT aC) Z) (Mz Z ?_)))
 by_cases aj:bA=180
 refine Gz (vP il 6) (dT aj) (Gl (T ic (X az.g.a) ig) (dT aj) a 0 Tryz.isAgg35 (Gz (vJ (X az.g.a)) (dT aj) (Gz (Za ((X az.g.a:Int)=1)) (dT aj) (fw (Za ((X az.g.a:Int)=1)) (JX Z (dT aj) Z) (Mz Z ?_)))))
 by_cases aD:(X az.g.a:Int)=1
 refine Gz (vP il 1) (dT aD) (Gl (vU az.y) (dT aD) a 0 E0 (Gz (Za ((az.y:Int)=1)) (dT aD) (fw (Za ((az.y:Int)=1)) (JX Z (dT aD) Z) (An Z (rt (rs ?_))))))
 have ng:=a.pk []
 obtain rfl:_=Zw ((az.y:Int)=1):=zj hr (V (ae Z6) (V (ip Z4) (V (ae J) (V (ae h) (V (ae j) (V (ae l) (V (ae u) (V (ae o) (V (ae p) (V (ae r) (V (ae x) (V (ip f) (V (ae (bG F)) (V (ip G) (V (ip s) (V (ip g) (V (ae (bG Z7)) (V (ip z) (V (ip M) (V (ip L) (V (ip Z5) (V (ip B) (V (ae (bG ak)) (V (ip I) (V (ae (bG aA)) (V (ip C) (V (ip t) (V (ae (bG aG)) (V (ip Z0) (V (ip Z3) (V (ae (bG bE)) (V (ip aC) (V (ip aj) (ip aD))))))))))))))))))))))))))))))))))
 exact⟨Z,ng⟩
 refine Sz (dF aD) (Sz (dF aD) (Sz (dF aD) (fw (Y O) (JU Z (dF aD) Z) (An Z (rt (rs ?_))))))
 have ni:=a.pk []
 obtain rfl:_=O:=zj hr (V (ae Z6) (V (ip Z4) (V (ae J) (V (ae h) (V (ae j) (V (ae l) (V (ae u) (V (ae o) (V (ae p) (V (ae r) (V (ae x) (V (ip f) (V (ae (bG F)) (V (ip G) (V (ip s) (V (ip g) (V (ae (bG Z7)) (V (ip z) (V (ip M) (V (ip L) (V (ip Z5) (V (ip B) (V (ae (bG ak)) (V (ip I) (V (ae (bG aA)) (V (ip C) (V (ip t) (V (ae (bG aG)) (V (ip Z0) (V (ip Z3) (V (ae (bG bE)) (V (ip aC) (V (ip aj) (iN aD))))))))))))))))))))))))))))))))))
 exact⟨Z,ni⟩
 refine Sz (dF aj) (Sz (dF aj) (Sz (dF aj) (Sz (dF aj) (fw (Y O) (JU Z (dF aj) Z) (Mz Z (QQ (QQ (QQ (fw (Y O) (QK Z) (An Z (rt (rs ?_))))))))))))
 have nk:=a.pk []
 obtain rfl:_=O:=zj hr (V (ae Z6) (V (ip Z4) (V (ae J) (V (ae h) (V (ae j) (V (ae l) (V (ae u) (V (ae o) (V (ae p) (V (ae r) (V (ae x) (V (ip f) (V (ae (bG F)) (V (ip G) (V (ip s) (V (ip g) (V (ae (bG Z7)) (V (ip z) (V (ip M) (V (ip L) (V (ip Z5) (V (ip B) (V (ae (bG ak)) (V (ip I) (V (ae (bG aA)) (V (ip C) (V (ip t) (V (ae (bG aG)) (V (ip Z0) (V (ip Z3) (V (ae (bG bE)) (V (ip aC) (iN aj)))))))))))))))))))))))))))))))))
 exact⟨Z,nk⟩
 refine Sz (dF aC) (Sz (dF aC) (fw (Y O) (JU Z (dF aC) Z) (Mz Z (QQ (QQ (QQ (QQ (fw (Y O) (QK Z) (Mz Z (QQ (QQ (QQ (fw (Y O) (QK Z) (An Z (rt (rs ?_))))))))))))))))
 have nu:=a.pk []
 obtain rfl:_=O:=zj hr (V (ae Z6) (V (ip Z4) (V (ae J) (V (ae h) (V (ae j) (V (ae l) (V (ae u) (V (ae o) (V (ae p) (V (ae r) (V (ae x) (V (ip f) (V (ae (bG F)) (V (ip G) (V (ip s) (V (ip g) (V (ae (bG Z7)) (V (ip z) (V (ip M) (V (ip L) (V (ip Z5) (V (ip B) (V (ae (bG ak)) (V (ip I) (V (ae (bG aA)) (V (ip C) (V (ip t) (V (ae (bG aG)) (V (ip Z0) (V (ip Z3) (V (ae (bG bE)) (iN aC))))))))))))))))))))))))))))))))
 exact⟨Z,nu⟩
 refine Sz (dF Z3) (Sz (dF Z3) (Sz (dF Z3) (Sz (dF Z3) (Sz (dF Z3) (Sz (dF Z3) (fw (Y O) (JU Z (dF Z3) Z) (Mz Z (QQ (QQ (fw (Y O) (QK Z) (Mz Z (QQ (QQ (QQ (QQ (fw (Y O) (QK Z) (Mz Z (QQ (QQ (QQ (fw (Y O) (QK Z) (An Z (rt (rs ?_))))))))))))))))))))))))
 have ny:=a.pk []
 obtain rfl:_=O:=zj hr (V (ae Z6) (V (ip Z4) (V (ae J) (V (ae h) (V (ae j) (V (ae l) (V (ae u) (V (ae o) (V (ae p) (V (ae r) (V (ae x) (V (ip f) (V (ae (bG F)) (V (ip G) (V (ip s) (V (ip g) (V (ae (bG Z7)) (V (ip z) (V (ip M) (V (ip L) (V (ip Z5) (V (ip B) (V (ae (bG ak)) (V (ip I) (V (ae (bG aA)) (V (ip C) (V (ip t) (V (ae (bG aG)) (V (ip Z0) (iN Z3))))))))))))))))))))))))))))))
 exact⟨Z,ny⟩
 refine Sz (dF Z0) (Sz (dF Z0) (Sz (dF Z0) (Sz (dF Z0) (fw (Y O) (JU Z (dF Z0) Z) (Mz Z (QQ (QQ (QQ (QQ (QQ (QQ (fw (Y O) (QK Z) (Mz Z (QQ (QQ (fw (Y O) (QK Z) (Mz Z (QQ (QQ (QQ (QQ (fw (Y O) (QK Z) (Mz Z (QQ (QQ (QQ (fw (Y O) (QK Z) (An Z (rt (rs ?_))))))))))))))))))))))))))))))
 have nz:=a.pk []
 obtain rfl:_=O:=zj hr (V (ae Z6) (V (ip Z4) (V (ae J) (V (ae h) (V (ae j) (V (ae l) (V (ae u) (V (ae o) (V (ae p) (V (ae r) (V (ae x) (V (ip f) (V (ae (bG F)) (V (ip G) (V (ip s) (V (ip g) (V (ae (bG Z7)) (V (ip z) (V (ip M) (V (ip L) (V (ip Z5) (V (ip B) (V (ae (bG ak)) (V (ip I) (V (ae (bG aA)) (V (ip C) (V (ip t) (V (ae (bG aG)) (iN Z0)))))))))))))))))))))))))))))
 exact⟨Z,nz⟩
 refine Sz (dF t) (Sz (dF t) (Sz (dF t) (Sz (dF t) (Sz (dF t) (Sz (dF t) (Sz (dF t) (Sz (dF t) (Sz (dF t) (fw (Y O) (JU Z (dF t) Z) (Mz Z (QQ (QQ (QQ (QQ (fw (Y O) (QK Z) (Mz Z (QQ (QQ (QQ (QQ (QQ (QQ (fw (Y O) (QK Z) (Mz Z (QQ (QQ (fw (Y O) (QK Z) (Mz Z (QQ (QQ (QQ (QQ (fw (Y O) (QK Z) (Mz Z (QQ (QQ (QQ (fw (Y O) (QK Z) (Az Z ?_)))))))))))))))))))))))))))))))))))))))
 refine nt (rt (rs ?_))
 have nA:=a.pk []
 obtain rfl:_=O:=zj hr (V (ae Z6) (V (ip Z4) (V (ae J) (V (ae h) (V (ae j) (V (ae l) (V (ae u) (V (ae o) (V (ae p) (V (ae r) (V (ae x) (V (ip f) (V (ae (bG F)) (V (ip G) (V (ip s) (V (ip g) (V (ae (bG Z7)) (V (ip z) (V (ip M) (V (ip L) (V (ip Z5) (V (ip B) (V (ae (bG ak)) (V (ip I) (V (ae (bG aA)) (V (ip C) (iN t)))))))))))))))))))))))))))
 exact⟨Z,nA⟩
 refine Sz (dF C) (Sz (dF C) (Sz (dF C) (Sz (dF C) (Sz (dF C) (Sz (dF C) (Sz (dF C) (fw (Y O) (JU Z (dF C) Z) (Mz Z (QQ (QQ (QQ (QQ (QQ (QQ (QQ (QQ (QQ (fw (Y O) (QK Z) (Mz Z (QQ (QQ (QQ (QQ (fw (Y O) (QK Z) (Mz Z (QQ (QQ (QQ (QQ (QQ (QQ (fw (Y O) (QK Z) (Mz Z (QQ (QQ (fw (Y O) (QK Z) (Mz Z (QQ (QQ ?_)))))))))))))))))))))))))))))))))))))))
 refine QQ (QQ (fw (Y O) (QK Z) (Mz Z (QQ (QQ (QQ (fw (Y O) (QK Z) (An Z (rt (rs ?_))))))))))
 have nC:=a.pk []
 obtain rfl:_=O:=zj hr (V (ae Z6) (V (ip Z4) (V (ae J) (V (ae h) (V (ae j) (V (ae l) (V (ae u) (V (ae o) (V (ae p) (V (ae r) (V (ae x) (V (ip f) (V (ae (bG F)) (V (ip G) (V (ip s) (V (ip g) (V (ae (bG Z7)) (V (ip z) (V (ip M) (V (ip L) (V (ip Z5) (V (ip B) (V (ae (bG ak)) (V (ip I) (V (ae (bG aA)) (iN C))))))))))))))))))))))))))
 exact⟨Z,nC⟩
 refine Sz (dF I) (Sz (dF I) (Sz (dF I) (Sz (dF I) (Sz (dF I) (Sz (dF I) (fw (Y O) (JU Z (dF I) Z) (Mz Z (QQ (QQ (QQ (QQ (QQ (QQ (QQ (fw (Y O) (QK Z) (Mz Z (QQ (QQ (QQ (QQ (QQ (QQ (QQ (QQ (QQ (fw (Y O) (QK Z) (Mz Z (QQ (QQ (QQ (QQ (fw (Y O) (QK Z) (Mz Z (QQ (QQ (QQ (QQ (QQ (QQ ?_)))))))))))))))))))))))))))))))))))))))
 refine fw (Y O) (QK Z) (Mz Z (QQ (QQ (fw (Y O) (QK Z) (Mz Z (QQ (QQ (QQ (QQ (fw (Y O) (QK Z) (Mz Z (QQ (QQ (QQ (fw (Y O) (QK Z) (An Z (rt (rs ?_))))))))))))))))))
 have nD:=a.pk []
 obtain rfl:_=O:=zj hr (V (ae Z6) (V (ip Z4) (V (ae J) (V (ae h) (V (ae j) (V (ae l) (V (ae u) (V (ae o) (V (ae p) (V (ae r) (V (ae x) (V (ip f) (V (ae (bG F)) (V (ip G) (V (ip s) (V (ip g) (V (ae (bG Z7)) (V (ip z) (V (ip M) (V (ip L) (V (ip Z5) (V (ip B) (V (ae (bG ak)) (iN I))))))))))))))))))))))))
 exact⟨Z,nD⟩
 refine Sz (dF B) (Sz (dF B) (Sz (dF B) (Sz (dF B) (Sz (dF B) (Sz (dF B) (fw (Y O) (JU Z (dF B) Z) (Mz Z (QQ (QQ (QQ (QQ (QQ (QQ (fw (Y O) (QK Z) (Mz Z (QQ (QQ (QQ (QQ (QQ (QQ (QQ (fw (Y O) (QK Z) (Mz Z (QQ (QQ (QQ (QQ (QQ (QQ (QQ (QQ (QQ (fw (Y O) (QK Z) (Mz Z (QQ (QQ (QQ (QQ ?_)))))))))))))))))))))))))))))))))))))))
 refine fw (Y O) (QK Z) (Mz Z (QQ (QQ (QQ (QQ (QQ (QQ (fw (Y O) (QK Z) (Mz Z (QQ (QQ (fw (Y O) (QK Z) (Mz Z (QQ (QQ (QQ (QQ (fw (Y O) (QK Z) (Mz Z (QQ (QQ (QQ (fw (Y O) (QK Z) (An Z (rt (rs ?_))))))))))))))))))))))))))
 have nE:=a.pk []
 obtain rfl:_=O:=zj hr (V (ae Z6) (V (ip Z4) (V (ae J) (V (ae h) (V (ae j) (V (ae l) (V (ae u) (V (ae o) (V (ae p) (V (ae r) (V (ae x) (V (ip f) (V (ae (bG F)) (V (ip G) (V (ip s) (V (ip g) (V (ae (bG Z7)) (V (ip z) (V (ip M) (V (ip L) (V (ip Z5) (iN B))))))))))))))))))))))
 exact⟨Z,nE⟩
 refine Sz (dF Z5) (Sz (dF Z5) (Sz (dF Z5) (Sz (dF Z5) (fw (Y O) (JU Z (dF Z5) Z) (Mz Z (QQ (QQ (QQ (QQ (QQ (QQ (fw (Y O) (QK Z) (Mz Z (QQ (QQ (QQ (QQ (QQ (QQ (fw (Y O) (QK Z) (Mz Z (QQ (QQ (QQ (QQ (QQ (QQ (QQ (fw (Y O) (QK Z) (Mz Z (QQ (QQ (QQ (QQ (QQ (QQ (QQ (QQ (QQ ?_)))))))))))))))))))))))))))))))))))))))
 refine fw (Y O) (QK Z) (Mz Z (QQ (QQ (QQ (QQ (fw (Y O) (QK Z) (Mz Z (QQ (QQ (QQ (QQ (QQ (QQ (fw (Y O) (QK Z) (Mz Z (QQ (QQ (fw (Y O) (QK Z) (Mz Z (QQ (QQ (QQ (QQ (fw (Y O) (QK Z) (Mz Z (QQ (QQ (QQ (fw (Y O) (QK Z) (An Z (rt (rs ?_))))))))))))))))))))))))))))))))
 have nG:=a.pk []
 obtain rfl:_=O:=zj hr (V (ae Z6) (V (ip Z4) (V (ae J) (V (ae h) (V (ae j) (V (ae l) (V (ae u) (V (ae o) (V (ae p) (V (ae r) (V (ae x) (V (ip f) (V (ae (bG F)) (V (ip G) (V (ip s) (V (ip g) (V (ae (bG Z7)) (V (ip z) (V (ip M) (V (ip L) (iN Z5)))))))))))))))))))))
 exact⟨Z,nG⟩
 refine Sz (dF L) (Sz (dF L) (Sz (dF L) (Sz (dF L) (fw (Y O) (JU Z (dF L) Z) (Mz Z (QQ (QQ (QQ (QQ (fw (Y O) (QK Z) (Mz Z (QQ (QQ (QQ (QQ (QQ (QQ (fw (Y O) (QK Z) (Mz Z (QQ (QQ (QQ (QQ (QQ (QQ (fw (Y O) (QK Z) (Mz Z (QQ (QQ (QQ (QQ (QQ (QQ (QQ (fw (Y O) (QK Z) (Mz Z (QQ (QQ (QQ ?_)))))))))))))))))))))))))))))))))))))))
 refine QQ (QQ (QQ (QQ (QQ (QQ (fw (Y O) (QK Z) (Mz Z (QQ (QQ (QQ (QQ (fw (Y O) (QK Z) (Mz Z (QQ (QQ (QQ (QQ (QQ (QQ (fw (Y O) (QK Z) (Mz Z (QQ (QQ (fw (Y O) (QK Z) (Mz Z (QQ (QQ (QQ (QQ (fw (Y O) (QK Z) (Mz Z (QQ (QQ (QQ (fw (Y O) (QK Z) (An Z (rt ?_)))))))))))))))))))))))))))))))))))))
 refine rs ?_
 have nH:=a.pk []
 obtain rfl:_=O:=zj hr (V (ae Z6) (V (ip Z4) (V (ae J) (V (ae h) (V (ae j) (V (ae l) (V (ae u) (V (ae o) (V (ae p) (V (ae r) (V (ae x) (V (ip f) (V (ae (bG F)) (V (ip G) (V (ip s) (V (ip g) (V (ae (bG Z7)) (V (ip z) (V (ip M) (iN L))))))))))))))))))))
 exact⟨Z,nH⟩
 refine Sz (dF M) (Sz (dF M) (Sz (dF M) (fw (Y O) (JU Z (dF M) Z) (Mz Z (QQ (QQ (QQ (QQ (fw (Y O) (QK Z) (Mz Z (QQ (QQ (QQ (QQ (fw (Y O) (QK Z) (Mz Z (QQ (QQ (QQ (QQ (QQ (QQ (fw (Y O) (QK Z) (Mz Z (QQ (QQ (QQ (QQ (QQ (QQ (fw (Y O) (QK Z) (Mz Z (QQ (QQ (QQ (QQ (QQ (QQ (QQ ?_)))))))))))))))))))))))))))))))))))))))
 refine fw (Y O) (QK Z) (Mz Z (QQ (QQ (QQ (QQ (QQ (QQ (QQ (QQ (QQ (fw (Y O) (QK Z) (Mz Z (QQ (QQ (QQ (QQ (fw (Y O) (QK Z) (Mz Z (QQ (QQ (QQ (QQ (QQ (QQ (fw (Y O) (QK Z) (Mz Z (QQ (QQ (fw (Y O) (QK Z) (Mz Z (QQ (QQ (QQ (QQ (fw (Y O) (QK Z) (Mz Z (QQ (QQ (QQ ?_)))))))))))))))))))))))))))))))))))))))
 refine fw (Y O) (QK Z) (An Z (rt (rs ?_)))
 have nI:=a.pk []
 obtain rfl:_=O:=zj hr (V (ae Z6) (V (ip Z4) (V (ae J) (V (ae h) (V (ae j) (V (ae l) (V (ae u) (V (ae o) (V (ae p) (V (ae r) (V (ae x) (V (ip f) (V (ae (bG F)) (V (ip G) (V (ip s) (V (ip g) (V (ae (bG Z7)) (V (ip z) (iN M)))))))))))))))))))
 exact⟨Z,nI⟩
 refine Sz (dF z) (Sz (dF z) (Sz (dF z) (Sz (dF z) (fw (Y O) (JU Z (dF z) Z) (Mz Z (QQ (QQ (QQ (fw (Y O) (QK Z) (Mz Z (QQ (QQ (QQ (QQ (fw (Y O) (QK Z) (Mz Z (QQ (QQ (QQ (QQ (fw (Y O) (QK Z) (Mz Z (QQ (QQ (QQ (QQ (QQ (QQ (fw (Y O) (QK Z) (Mz Z (QQ (QQ (QQ (QQ (QQ (QQ (fw (Y O) (QK Z) (Mz Z (QQ ?_)))))))))))))))))))))))))))))))))))))))
 refine QQ (QQ (QQ (QQ (QQ (QQ (fw (Y O) (QK Z) (Mz Z (QQ (QQ (QQ (QQ (QQ (QQ (QQ (QQ (QQ (fw (Y O) (QK Z) (Mz Z (QQ (QQ (QQ (QQ (fw (Y O) (QK Z) (Mz Z (QQ (QQ (QQ (QQ (QQ (QQ (fw (Y O) (QK Z) (Mz Z (QQ (QQ (fw (Y O) (QK Z) (Mz Z (QQ (QQ (QQ ?_)))))))))))))))))))))))))))))))))))))))
 refine QQ (fw (Y O) (QK Z) (Mz Z (QQ (QQ (QQ (fw (Y O) (QK Z) (An Z (rt (rs ?_)))))))))
 have nJ:=a.pk []
 obtain rfl:_=O:=zj hr (V (ae Z6) (V (ip Z4) (V (ae J) (V (ae h) (V (ae j) (V (ae l) (V (ae u) (V (ae o) (V (ae p) (V (ae r) (V (ae x) (V (ip f) (V (ae (bG F)) (V (ip G) (V (ip s) (V (ip g) (V (ae (bG Z7)) (iN z))))))))))))))))))
 exact⟨Z,nJ⟩
 refine Sz (dF g) (Sz (dF g) (Sz (dF g) (Sz (dF g) (Sz (dF g) (Sz (dF g) (fw (Y O) (JU Z (dF g) Z) (Mz Z (QQ (QQ (QQ (QQ (fw (Y O) (QK Z) (Mz Z (QQ (QQ (QQ (fw (Y O) (QK Z) (Mz Z (QQ (QQ (QQ (QQ (fw (Y O) (QK Z) (Mz Z (QQ (QQ (QQ (QQ (fw (Y O) (QK Z) (Mz Z (QQ (QQ (QQ (QQ (QQ (QQ (fw (Y O) (QK Z) (Mz Z (QQ ?_)))))))))))))))))))))))))))))))))))))))
 refine QQ (QQ (QQ (QQ (QQ (fw (Y O) (QK Z) (Mz Z (QQ (QQ (QQ (QQ (QQ (QQ (QQ (fw (Y O) (QK Z) (Mz Z (QQ (QQ (QQ (QQ (QQ (QQ (QQ (QQ (QQ (fw (Y O) (QK Z) (Mz Z (QQ (QQ (QQ (QQ (fw (Y O) (QK Z) (Mz Z (QQ (QQ (QQ (QQ (QQ (QQ (fw (Y O) (QK Z) ?_)))))))))))))))))))))))))))))))))))))))
 refine Mz Z (QQ (QQ (fw (Y O) (QK Z) (Mz Z (QQ (QQ (QQ (QQ (fw (Y O) (QK Z) (Mz Z (QQ (QQ (QQ (fw (Y O) (QK Z) (An Z (rt (rs ?_)))))))))))))))))
 have nK:=a.pk []
 obtain rfl:_=O:=zj hr (V (ae Z6) (V (ip Z4) (V (ae J) (V (ae h) (V (ae j) (V (ae l) (V (ae u) (V (ae o) (V (ae p) (V (ae r) (V (ae x) (V (ip f) (V (ae (bG F)) (V (ip G) (V (ip s) (iN g))))))))))))))))
 exact⟨Z,nK⟩
 refine Sz s (Sz s (Sz s (Sz s (fw (Y O) (JU Z s Z) (Mz Z (QQ (QQ (QQ (QQ (QQ (QQ (fw (Y O) (QK Z) (Mz Z (QQ (QQ (QQ (QQ (fw (Y O) (QK Z) (Mz Z (QQ (QQ (QQ (fw (Y O) (QK Z) (Mz Z (QQ (QQ (QQ (QQ (fw (Y O) (QK Z) (Mz Z (QQ (QQ (QQ (QQ (fw (Y O) (QK Z) (Mz Z (QQ (QQ (QQ ?_)))))))))))))))))))))))))))))))))))))))
 refine QQ (QQ (QQ (fw (Y O) (QK Z) (Mz Z (QQ (QQ (QQ (QQ (QQ (QQ (fw (Y O) (QK Z) (Mz Z (QQ (QQ (QQ (QQ (QQ (QQ (QQ (fw (Y O) (QK Z) (Mz Z (QQ (QQ (QQ (QQ (QQ (QQ (QQ (QQ (QQ (fw (Y O) (QK Z) (Mz Z (QQ (QQ (QQ (QQ (fw (Y O) (QK Z) (Mz Z (QQ ?_)))))))))))))))))))))))))))))))))))))))
 refine QQ (QQ (QQ (QQ (QQ (fw (Y O) (QK Z) (Mz Z (QQ (QQ (fw (Y O) (QK Z) (Mz Z (QQ (QQ (QQ (QQ (fw (Y O) (QK Z) (Mz Z (QQ (QQ (QQ (fw (Y O) (QK Z) (An Z (rt (rs ?_)))))))))))))))))))))))
 have nL:=a.pk []
 obtain rfl:_=O:=zj hr (V (ae Z6) (V (ip Z4) (V (ae J) (V (ae h) (V (ae j) (V (ae l) (V (ae u) (V (ae o) (V (ae p) (V (ae r) (V (ae x) (V (ip f) (V (ae (bG F)) (V (ip G) (eD s)))))))))))))))
 exact⟨Z,nL⟩
 refine Sz (dF G) (Sz (dF G) (fw (Y O) (JU Z (dF G) Z) (Mz Z (QQ (QQ (QQ (QQ (fw (Y O) (QK Z) (Mz Z (QQ (QQ (QQ (QQ (QQ (QQ (fw (Y O) (QK Z) (Mz Z (QQ (QQ (QQ (QQ (fw (Y O) (QK Z) (Mz Z (QQ (QQ (QQ (fw (Y O) (QK Z) (Mz Z (QQ (QQ (QQ (QQ (fw (Y O) (QK Z) (Mz Z (QQ (QQ (QQ (QQ (fw (Y O) (QK Z) ?_)))))))))))))))))))))))))))))))))))))))
 refine Mz Z (QQ (QQ (QQ (QQ (QQ (QQ (fw (Y O) (QK Z) (Mz Z (QQ (QQ (QQ (QQ (QQ (QQ (fw (Y O) (QK Z) (Mz Z (QQ (QQ (QQ (QQ (QQ (QQ (QQ (fw (Y O) (QK Z) (Mz Z (QQ (QQ (QQ (QQ (QQ (QQ (QQ (QQ (QQ (fw (Y O) (QK Z) (Mz Z (QQ (QQ (QQ ?_)))))))))))))))))))))))))))))))))))))))
 refine QQ (fw (Y O) (QK Z) (Mz Z (QQ (QQ (QQ (QQ (QQ (QQ (fw (Y O) (QK Z) (Mz Z (QQ (QQ (fw (Y O) (QK Z) (Mz Z (QQ (QQ (QQ (QQ (fw (Y O) (QK Z) (Mz Z (QQ (QQ (QQ (fw (Y O) (QK Z) (An Z (rt (rs ?_)))))))))))))))))))))))))))
 have nM:=a.pk []
 obtain rfl:_=O:=zj hr (V (ae Z6) (V (ip Z4) (V (ae J) (V (ae h) (V (ae j) (V (ae l) (V (ae u) (V (ae o) (V (ae p) (V (ae r) (V (ae x) (V (ip f) (V (ae (bG F)) (iN G))))))))))))))
 exact⟨Z,nM⟩
 refine Sz (dF f) (Sz (dF f) (Sz (dF f) (Sz (dF f) (Sz (dF f) (Sz (dF f) (fw (Y O) (JU Z (dF f) Z) (Mz Z (QQ (QQ (fw (Y O) (QK Z) (Mz Z (QQ (QQ (QQ (QQ (fw (Y O) (QK Z) (Mz Z (QQ (QQ (QQ (QQ (QQ (QQ (fw (Y O) (QK Z) (Mz Z (QQ (QQ (QQ (QQ (fw (Y O) (QK Z) (Mz Z (QQ (QQ (QQ (fw (Y O) (QK Z) (Mz Z (QQ (QQ (QQ ?_)))))))))))))))))))))))))))))))))))))))
 refine QQ (fw (Y O) (QK Z) (Mz Z (QQ (QQ (QQ (QQ (fw (Y O) (QK Z) (Mz Z (QQ (QQ (QQ (QQ (QQ (QQ (fw (Y O) (QK Z) (Mz Z (QQ (QQ (QQ (QQ (QQ (QQ (fw (Y O) (QK Z) (Mz Z (QQ (QQ (QQ (QQ (QQ (QQ (QQ (fw (Y O) (QK Z) (Mz Z (QQ (QQ (QQ (QQ (QQ (QQ ?_)))))))))))))))))))))))))))))))))))))))
 refine QQ (QQ (QQ (fw (Y O) (QK Z) (Mz Z (QQ (QQ (QQ (QQ (fw (Y O) (QK Z) (Mz Z (QQ (QQ (QQ (QQ (QQ (QQ (fw (Y O) (QK Z) (Mz Z (QQ (QQ (fw (Y O) (QK Z) (Mz Z (QQ (QQ (QQ (QQ (fw (Y O) (QK Z) (Mz Z (QQ (QQ (QQ (fw (Y O) (QK Z) (An Z (rt (rs ?_)))))))))))))))))))))))))))))))))))
 have nN:=a.pk []
 obtain rfl:_=O:=zj hr (V (ae Z6) (V (ip Z4) (V (ae J) (V (ae h) (V (ae j) (V (ae l) (V (ae u) (V (ae o) (V (ae p) (V (ae r) (V (ae x) (iN f))))))))))))
 exact⟨Z,nN⟩
 refine Sz (dT Z4) (Sz (dT Z4) (fw (Y Zj) (JX Z (dT Z4) Z) (nt (jt (sr (Az Z (An Z (rt (tR (Ke (lw Z Z Z) (Mz Z (Kz (Zz Zk) (Kz (vI 1) (Az Z (An Z (JS (JS ?_)))))))))))))))))
 have nO:=iw.pk []
 refine JW (Mz Z (Kz (Y Zj) (Mz Z (QQ (QQ (fw (Y Zj) (QJ Z) (nt (jt (sr (An Z (rt (tR (rs ?_)))))))))))))
 have nP:=nO.pk []
 obtain rfl:_=O:=zj hr (V (ae Z6) (iN Z4))
 exact⟨Z,nP⟩
end
open IntKind renaming i64->D3
open List renaming drop->r8
open Sum renaming inl->G0,inr->G1
open _root_.Go.Proofs.Tryz renaming isAgg35->D4,isAgg36->Q2,prog->y3,underlying33->E1,underlying38->C4,underlying9->B3
open Wp renaming exit->H0,loop->G3
section
open Go.RowKit
def kF (l1:List aV):List aV->Nat->Unit ⊕ Bool
  | [],c=>G0 ()
  | b::d,c=>bnd (J0 l1 c Zy) λ a=>if(b.g=a.g)/\(b.j=a.j)/\(b.k=a.k)/\(b.a=a.a)/\(b.b=a.b)/\(b.r=a.r) then kF l1 d (c+1) else G1 (O)
def rC (a:List aV) (l1:List aV):Bool:=
 if((X a:Nat):Int)=((X l1:Nat):Int) then lp (kF l1 a 0) λ _=>Zj else O
theorem A7 (w D r B C d s E F l1 P) (H:Own w D w []) (n:Ro w D λ w'=>bV w' 6 r B (q1 aV.L d)) (G:B=X d) (R:X d<=9223372036854775807) (t:Ro w D λ w'=>bV w' 6 s E (q1 aV.L l1)) (I:E=X l1) (S:X l1<=9223372036854775807) (hr:rC d l1=P):
    Calls y3 26 #[T r B C, T s E F] w (dI λ v w'=>v= Y P/\Own w D w' []):=by
 unfold rC at hr
 subst G I
 refine cb Tryz.func26 ?_
 refine sr (An Z (JS (sr (Mz Z (Kz (vJ (X d)) (Mz Z (Kz (vJ (X l1)) (fw (Za (¬ ((X d:Int)=(X l1:Int)))) (Kc (e:= !(Zw ((X d:Int)=(X l1:Int)))) yk ZW) (nt ?_)))))))))
 by_cases f:(X d:Int)=(X l1:Int)
 refine jF (dF (Nu f)) (sk (JS (sr (Mz Z (Kz (vJ (X d)) (Mn Z (bo ?_)))))))
 have J:=H.pk []
 obtain⟨K,g⟩:=nI λ (c:Nat) w'=>Own w D w' []/\c<=X d/\kF l1 d 0=kF l1 (r8 c d) c
 refine G3 (λ i:Nat=> [(4, Y O),(13,vJ i),(12,vJ (X d)),(0, T r (X d) C),(1, T s (X l1) F)]) K (λ i=>X d - i) 0 ⟨Z,Z,Z,Z,Z,ZV⟩ (g.2 ⟨J,U,Z⟩) ?_
 rintro c Z7 x
 show Wp _ _ _ [(4, Y O),(13,vJ c),(12,vJ (X d)),(0, T r (X d) C),(1, T s (X l1) F)] _ _
 obtain⟨o,Q,h⟩:=g.1 x
 refine sr (Kz (Za ((c:Int) < (X d:Int))) (nt (JS ?_)))
 by_cases y:(c:Int) < (X d:Int)
 obtain⟨a,l⟩:=dM (ls:=d) (i:=c) aV.len f7 (o.ro n) f5
 have m:=drop_at l
 refine jT (dT y) (sk (JS (bo (sr (Mz Z (An Z (JS ?_)))))))
 refine A8 [] (J6 (bJ.block (J6 (J6 (bJ.block (J6 Kg)))))) o ?_
 intro Z3 z
 refine qv 0 Z Z (qv 1 Z Z (qt (v:= Zz (Zv ⟨ab r,ao r+c *6,Zk⟩)) 2 Z (λ _ ⟨_,p⟩=>J9 (nH) Z Z ((p.ro n).addr (i:=c) U) U) (qt (v:= Zq (Zb (aV.L a))) 3 Z (λ _ ⟨_,p⟩=>J5 Z (J7 (cs:=(aV.L a)) Tryz.isAgg62 Tryz.sizeOf62 ((p.ro n).elem aV.len l f7))) (qv 4 Z Z (qv 5 Z Z ?_)))))
 obtain⟨b,j⟩:=mK (ls:=l1) (i:=c) f5
 refine qt (v:= Zz (Zv ⟨ab s,ao s+c *6,Zk⟩)) 6 Z (λ _ ⟨_,p⟩=>J9 (nH) Z Z ((p.ro t).addr (i:=c) U) U) (qt (v:= Zq (Zb (aV.L b))) 7 Z (λ _ ⟨_,p⟩=>J5 Z (J7 (cs:=(aV.L b)) Tryz.isAgg62 Tryz.sizeOf62 ((p.ro t).elem aV.len j f7))) (qt (v:= Za (¬ ((a.g=b.g)/\(a.j=b.j)/\(a.k=b.k)/\(a.a=b.a)/\(a.b=b.b)/\(a.r=b.r)))) 8 Z (λ _ _=>Kc (e:= !(Zw ((a.g=b.g)/\(a.j=b.j)/\(a.k=b.k)/\(a.a=b.a)/\(a.b=b.b)/\(a.r=b.r)))) (KL Z Z f1 Z (fK.struct Tryz.underlying62 f1 (KI (eH.cons (u:=vI a.g) (v:=vI b.g) f7 ZY ZY (fK.int y6) (eH.cons (u:= Z9 ⟨Zb a.j⟩) (v:= Z9 ⟨Zb b.j⟩) f7 ZY ZY (fK.string B3) (eH.cons (u:= Z9 ⟨Zb a.k⟩) (v:= Z9 ⟨Zb b.k⟩) f7 ZY ZY (fK.string B3) (eH.cons (u:= Z9 ⟨Zb a.a⟩) (v:= Z9 ⟨Zb b.a⟩) f7 ZY ZY (fK.string B3) (eH.cons (u:= Z9 ⟨Zb a.b⟩) (v:= Z9 ⟨Zb b.b⟩) f7 ZY ZY (fK.string B3) (eH.cons (u:=vI a.r) (v:=vI b.r) f7 ZY ZY (fK.int y6) (eH.nil.up (Nt _)))))))) ((ZX (Zw (a.g=b.g) && ·) ((ZX (Zw (a.j=b.j) && ·) ((ZX (Zw (a.k=b.k) && ·) ((ZX (Zw (a.a=b.a) && ·) ((ZX (Zw (a.b=b.b) && ·) jB).trans eT)).trans eT)).trans eT)).trans eT)).trans eT)))) ZW) (qn (JY ?_))))
 by_cases k:(a.g=b.g)/\(a.j=b.j)/\(a.k=b.k)/\(a.a=b.a)/\(a.b=b.b)/\(a.r=b.r)
 refine jF (dF (Nu k)) (Ko (bN (JY (JW (fw (vJ (c+1)) (J4 (e:=D3.wrap ((c:Int)+1)) yk f4) (Mz Z (WL.nil ?_)))))))
 have L:=z.pk []
 exact Kb (c+1) ⟨Z,Z,Z,Z,Z,ZV⟩ (g.2 ⟨L,U,V (h) (V (ZX (λ q=>kF l1 q c) m) (V (ae (bG j)) (ip k)))⟩) (by show X d - (c+1) < X d - c; omega)
 refine jT (dT k) (sr (An Z (rt (bR (tR (tR (bR (tR (rs ?_)))))))))
 have M:=z.pk []
 obtain rfl:_=O:=zj hr (V (ip f) (iX (V (h) (V (ZX (λ q=>kF l1 q c) m) (V (ae (bG j)) (iN k))))))
 exact⟨Z,M⟩
 refine jF (dF y) (H0 (Ka ?_))
 have A:kF l1 d 0=G0 ():=V (h) (V (ZX (λ q=>kF l1 q c) (eU (ls:=d) (i:=c) U)) Z)
 refine Ka (Kh (JY (sr (An Z (rt (rs ?_))))))
 have Z5:=o.pk []
 obtain rfl:_=Zj:=zj hr (V (ip f) (kH A))
 exact⟨Z,Z5⟩
 refine jT (dT f) (sr (An Z (rt (tR (rs ?_)))))
 have Z6:=H.pk []
 obtain rfl:=zj hr zq1
 exact⟨Z,Z6⟩
def l5 (l1:List bF):List bF->Nat->Unit ⊕ Bool
  | [],b=>G0 ()
  | c::d,b=>bnd (J0 l1 b Zy) λ a=>if(c.a=a.a)/\(c.b=a.b) then l5 l1 d (b+1) else G1 (O)
def uV (a:List bF) (l1:List bF):Bool:=
 if((X a:Nat):Int)=((X l1:Nat):Int) then lp (l5 l1 a 0) λ _=>Zj else O
theorem Di (w D r B C b s E F l1 P) (H:Own w D w []) (n:Ro w D λ w'=>bV w' 2 r B (q1 bF.L b)) (G:B=X b) (R:X b<=9223372036854775807) (t:Ro w D λ w'=>bV w' 2 s E (q1 bF.L l1)) (I:E=X l1) (S:X l1<=9223372036854775807) (hr:uV b l1=P):
    Calls y3 25 #[T r B C, T s E F] w (dI λ v w'=>v= Y P/\Own w D w' []):=by
 unfold uV at hr
 subst G I
 refine cb Tryz.func25 ?_
 refine sr (An Z (JS (sr (Mz Z (Kz (vJ (X b)) (Mz Z (Kz (vJ (X l1)) (fw (Za (¬ ((X b:Int)=(X l1:Int)))) (Kc (e:= !(Zw ((X b:Int)=(X l1:Int)))) yk ZW) (nt ?_)))))))))
 by_cases f:(X b:Int)=(X l1:Int)
 refine jF (dF (Nu f)) (sk (JS (sr (Mz Z (Kz (vJ (X b)) (Mn Z (bo ?_)))))))
 have J:=H.pk []
 obtain⟨K,g⟩:=nI λ (a:Nat) w'=>Own w D w' []/\a<=X b/\l5 l1 b 0=l5 l1 (r8 a b) a
 refine G3 (λ i:Nat=> [(4, Y O),(13,vJ i),(12,vJ (X b)),(0, T r (X b) C),(1, T s (X l1) F)]) K (λ i=>X b - i) 0 ⟨Z,Z,Z,Z,Z,ZV⟩ (g.2 ⟨J,U,Z⟩) ?_
 rintro a Z7 x
 show Wp _ _ _ [(4, Y O),(13,vJ a),(12,vJ (X b)),(0, T r (X b) C),(1, T s (X l1) F)] _ _
 obtain⟨o,Q,h⟩:=g.1 x
 refine sr (Kz (Za ((a:Int) < (X b:Int))) (nt (JS ?_)))
 by_cases y:(a:Int) < (X b:Int)
 obtain⟨c,l⟩:=dM (ls:=b) (i:=a) bF.len f7 (o.ro n) f5
 have m:=drop_at l
 refine jT (dT y) (sk (JS (bo (sr (Mz Z (An Z (JS ?_)))))))
 refine A8 [] (J6 (bJ.block (J6 (J6 (bJ.block (J6 Kg)))))) o ?_
 intro Z3 z
 refine qv 0 Z Z (qv 1 Z Z (qt (v:= Zz (Zv ⟨ab r,ao r+a *2,Zk⟩)) 2 Z (λ _ ⟨_,p⟩=>J9 (r9) Z Z ((p.ro n).addr (i:=a) U) U) (qt (v:= Zq (Zb (bF.L c))) 3 Z (λ _ ⟨_,p⟩=>J5 Z (J7 (cs:=(bF.L c)) Tryz.isAgg83 Tryz.sizeOf83 ((p.ro n).elem bF.len l f7))) (qv 4 Z Z (qv 5 Z Z ?_)))))
 obtain⟨d,j⟩:=mK (ls:=l1) (i:=a) f5
 refine qt (v:= Zz (Zv ⟨ab s,ao s+a *2,Zk⟩)) 6 Z (λ _ ⟨_,p⟩=>J9 (r9) Z Z ((p.ro t).addr (i:=a) U) U) (qt (v:= Zq (Zb (bF.L d))) 7 Z (λ _ ⟨_,p⟩=>J5 Z (J7 (cs:=(bF.L d)) Tryz.isAgg83 Tryz.sizeOf83 ((p.ro t).elem bF.len j f7))) (qt (v:= Za (¬ ((c.a=d.a)/\(c.b=d.b)))) 8 Z (λ _ _=>Kc (e:= !(Zw ((c.a=d.a)/\(c.b=d.b)))) (KL Z Z f1 Z (fK.struct Tryz.underlying83 f1 (KI (eH.cons (u:= Z9 ⟨Zb c.a⟩) (v:= Z9 ⟨Zb d.a⟩) f7 ZY ZY (fK.string B3) (eH.cons (u:=vI c.b) (v:=vI d.b) f7 ZY ZY (fK.int y6) (eH.nil.up (Nt _)))) ((ZX (Zw (c.a=d.a) && ·) jB).trans eT)))) ZW) (qn (JY ?_))))
 by_cases k:(c.a=d.a)/\(c.b=d.b)
 refine jF (dF (Nu k)) (Ko (bN (JY (JW (fw (vJ (a+1)) (J4 (e:=D3.wrap ((a:Int)+1)) yk f4) (Mz Z (WL.nil ?_)))))))
 have L:=z.pk []
 exact Kb (a+1) ⟨Z,Z,Z,Z,Z,ZV⟩ (g.2 ⟨L,U,V (h) (V (ZX (λ q=>l5 l1 q a) m) (V (ae (bG j)) (ip k)))⟩) (by show X b - (a+1) < X b - a; omega)
 refine jT (dT k) (sr (An Z (rt (bR (tR (tR (bR (tR (rs ?_)))))))))
 have M:=z.pk []
 obtain rfl:_=O:=zj hr (V (ip f) (iX (V (h) (V (ZX (λ q=>l5 l1 q a) m) (V (ae (bG j)) (iN k))))))
 exact⟨Z,M⟩
 refine jF (dF y) (H0 (Ka ?_))
 have A:l5 l1 b 0=G0 ():=V (h) (V (ZX (λ q=>l5 l1 q a) (eU (ls:=b) (i:=a) U)) Z)
 refine Ka (Kh (JY (sr (An Z (rt (rs ?_))))))
 have Z5:=o.pk []
 obtain rfl:_=Zj:=zj hr (V (ip f) (kH A))
 exact⟨Z,Z5⟩
 refine jT (dT f) (sr (An Z (rt (tR (rs ?_)))))
 have Z6:=H.pk []
 obtain rfl:=zj hr zq1
 exact⟨Z,Z6⟩
def jG (g:bH) (f:bH):List dG->Nat->Unit ⊕ Bool
  | [],b=>G0 ()
  | c::e,b=>bnd (J0 f.g.a b Zy) λ a=>if((c.r:Nat):Int)=((a.r:Nat):Int) then bnd (rC c.a.a a.a.a) λ d=>if d=Zj then jG g f e (b+1) else G1 (O) else G1 (O)
def jX (e:bH):List Nat->Nat->Unit ⊕ Bool
  | [],a=>G0 ()
  | c::d,a=>bnd (J0 e.j.a a Zy) λ b=>if((c:Nat):Int)=((b:Nat):Int) then jX e d (a+1) else G1 (O)
def mh (a:bH) (b:bH):Bool:=
 if a.r=b.r then if((a.y:Nat):Int)=((b.y:Nat):Int) then if((a.u:Nat):Int)=((b.u:Nat):Int) then if((a.z:Nat):Int)=((b.z:Nat):Int) then if((a.k:Nat):Int)=((b.k:Nat):Int) then bnd (uV a.b.a b.b.a) λ c=>if c=Zj then if((X a.g.a:Nat):Int)=((X b.g.a:Nat):Int) then if((X a.j.a:Nat):Int)=((X b.j.a:Nat):Int) then if((a.t:Nat):Int)=((b.t:Nat):Int) then if((a.B:Nat):Int)=((b.B:Nat):Int) then if(a.s.a=b.s.a)/\(a.s.b=b.s.b) then if(((a.a.k:Nat):Int)=((b.a.k:Nat):Int))/\(((a.a.s:Nat):Int)=((b.a.s:Nat):Int))/\(((a.a.a:Nat):Int)=((b.a.a:Nat):Int))/\((a.a.j.a=b.a.j.a)/\(a.a.j.b=b.a.j.b)) then lp (jG a b a.g.a 0) λ _=>lp (jX b a.j.a 0) λ _=>Zj else O else O else O else O else O else O else O else O else O else O else O else O
theorem uW (w D) (a:bH) (Q aQ R r aR M aj K aS S) (b:bH) (Z7 aT Z3 s aU Z4 ak Z5 aW Z1 r0) (H:Own w D w []) (bn:aQ=X a.b.a) (bq:Ro w D λ w'=>bV w' 2 Q (X a.b.a) (q1 bF.L a.b.a)) (dH:X a.b.a<=R/\X a.b.a<=9223372036854775807) (ay:Zh bA.abs aj=a.g.a) (bu:aR=X a.g.a) (Z8:Ro w D λ w'=>bV w' 2 r (X a.g.a) (q1 bA.L aj)) (dJ:X a.g.a<=M/\X a.g.a<=9223372036854775807) (az:∀ x ∈ aj,Ro w D (λ w'=>bV w' 6 x.a.A (X x.a.a) (q1 aV.L x.a.a))/\(X x.a.a<=x.a.c/\X x.a.a<=9223372036854775807)) (bv:aS=X a.j.a) (af:Ro w D λ w'=>bV w' 1 K (X a.j.a) (q1 (eN .u64) a.j.a)) (dK:X a.j.a<=S/\X a.j.a<=9223372036854775807) (bz:aT=X b.b.a) (bB:Ro w D λ w'=>bV w' 2 Z7 (X b.b.a) (q1 bF.L b.b.a)) (dL:X b.b.a<=Z3/\X b.b.a<=9223372036854775807) (aA:Zh bA.abs ak=b.g.a) (bC:aU=X b.g.a) (Z2:Ro w D λ w'=>bV w' 2 s (X b.g.a) (q1 bA.L ak)) (dN:X b.g.a<=Z4/\X b.g.a<=9223372036854775807) (aB:∀ x ∈ ak,Ro w D (λ w'=>bV w' 6 x.a.A (X x.a.a) (q1 aV.L x.a.a))/\(X x.a.a<=x.a.c/\X x.a.a<=9223372036854775807)) (bD:aW=X b.j.a) (aC:Ro w D λ w'=>bV w' 1 Z5 (X b.j.a) (q1 (eN .u64) b.j.a)) (dO:X b.j.a<=Z1/\X b.j.a<=9223372036854775807) (hr:mh a b=r0):
    Calls y3 12 #[Zq (Zb (fV a.r a.y a.u a.z a.k Q aQ R r aR M K aS S a.t a.B a.s.a a.s.b a.a.k a.a.s a.a.a a.a.j.a a.a.j.b)), Zq (Zb (fV b.r b.y b.u b.z b.k Z7 aT Z3 s aU Z4 Z5 aW Z1 b.t b.B b.s.a b.s.b b.a.k b.a.s b.a.a b.a.j.a b.a.j.b))] w (dI λ v w'=>v= Y r0/\Own w D w' []):=by
 unfold mh at hr
 subst bn bu bv bz bC bD
 have dE:=bf ay
 have dG:=bf aA
 refine cb Tryz.func12 ?_
 refine sr ?_
 refine cB (gZ a Q R r M K S) 42 H ?_
 intro t eG dP
 refine cB (gZ b Z7 Z3 s Z4 Z5 Z1) 42 dP ?_
 intro z eO I
 refine An Z (JS (sr (Kz (vP t 0) (Lz (vI a.r) I 1 Tryz.isAgg3 (Kz (vP z 0) (Lz (vI b.r) I 0 Tryz.isAgg3 (fw (Za (¬ (a.r=b.r))) (Kc (e:= !(Zw (a.r=b.r))) yk ZW) (Mz Z ?_))))))))
 by_cases g:a.r=b.r
 refine gw (vP t 1) (dF (Nu g)) yk (gw (vU a.y) (dF (Nu g)) (J5 Z (bO.one E0 (Kw (I.cls (i:=1) Z) Z))) (gw (vP z 1) (dF (Nu g)) yk (gw (vU b.y) (dF (Nu g)) (J5 Z (bO.one E0 (Kw (I.cls (i:=0) Z) Z))) (gw (Za (¬ ((a.y:Int)=(b.y:Int)))) (dF (Nu g)) (Kc (e:= !(Zw ((a.y:Int)=(b.y:Int)))) yk ZW) (fw (Za (¬ ((a.y:Int)=(b.y:Int)))) (JU Z (dF (Nu g)) Z) (Mz Z ?_))))))
 by_cases j:(a.y:Int)=(b.y:Int)
 refine gw (vP t 2) (dF (Nu j)) yk (gw (vU a.u) (dF (Nu j)) (J5 Z (bO.one E0 (Kw (I.cls (i:=1) Z) Z))) (gw (vP z 2) (dF (Nu j)) yk (gw (vU b.u) (dF (Nu j)) (J5 Z (bO.one E0 (Kw (I.cls (i:=0) Z) Z))) (gw (Za (¬ ((a.u:Int)=(b.u:Int)))) (dF (Nu j)) (Kc (e:= !(Zw ((a.u:Int)=(b.u:Int)))) yk ZW) (fw (Za (¬ ((a.u:Int)=(b.u:Int)))) (JU Z (dF (Nu j)) Z) (Mz Z ?_))))))
 by_cases l:(a.u:Int)=(b.u:Int)
 refine gw (vP t 3) (dF (Nu l)) yk (gw (vU a.z) (dF (Nu l)) (J5 Z (bO.one E0 (Kw (I.cls (i:=1) Z) Z))) (gw (vP z 3) (dF (Nu l)) yk (gw (vU b.z) (dF (Nu l)) (J5 Z (bO.one E0 (Kw (I.cls (i:=0) Z) Z))) (gw (Za (¬ ((a.z:Int)=(b.z:Int)))) (dF (Nu l)) (Kc (e:= !(Zw ((a.z:Int)=(b.z:Int)))) yk ZW) (fw (Za (¬ ((a.z:Int)=(b.z:Int)))) (JU Z (dF (Nu l)) Z) (Mz Z ?_))))))
 by_cases p:(a.z:Int)=(b.z:Int)
 refine gw (vP t 4) (dF (Nu p)) yk (gw (vU a.k) (dF (Nu p)) (J5 Z (bO.one E0 (Kw (I.cls (i:=1) Z) Z))) (gw (vP z 4) (dF (Nu p)) yk (gw (vU b.k) (dF (Nu p)) (J5 Z (bO.one E0 (Kw (I.cls (i:=0) Z) Z))) (gw (Za (¬ ((a.k:Int)=(b.k:Int)))) (dF (Nu p)) (Kc (e:= !(Zw ((a.k:Int)=(b.k:Int)))) yk ZW) (fw (Za (¬ ((a.k:Int)=(b.k:Int)))) (JU Z (dF (Nu p)) Z) (Mz Z ?_))))))
 by_cases n:(a.k:Int)=(b.k:Int)
 refine gw (vP t 5) (dF (Nu n)) yk (gw (T Q (X a.b.a) R) (dF (Nu n)) (J5 Z (bO.one Tryz.isAgg34 (Kw (I.cls (i:=1) Z) Z))) (gw (vP z 5) (dF (Nu n)) yk (gw (T Z7 (X b.b.a) Z3) (dF (Nu n)) (J5 Z (bO.one Tryz.isAgg34 (Kw (I.cls (i:=0) Z) Z))) ?_)))
 obtain⟨aM,G⟩:∃ q,uV a.b.a b.b.a=q:=⟨_,Z⟩
 obtain⟨eP,bL,aX,bM,dZ⟩:=JZ I
 refine oI (dF (Nu n)) Tryz.call25 (Di _ _ Q (X a.b.a) R a.b.a Z7 (X b.b.a) Z3 b.b.a aM bL (aX _ bq) Z U (aX _ bB) Z U G) ?_
 rintro _ eQ ⟨rfl,bP⟩
 have B:=bM _ _ bP
 refine gw (Y (!aM)) (dF (Nu n)) yk (fw (Y (!aM)) (JU Z (dF (Nu n)) Z) (Mz Z ?_))
 rcases Nv (aM) with h | h
 refine Gz (vP t 6) (cn h) (Gl (T r (X a.g.a) M) (cn h) B 1 D4 (Gz (vJ (X a.g.a)) (cn h) (Gz (vP z 6) (cn h) (Gl (T s (X b.g.a) Z4) (cn h) B 0 D4 (Gz (vJ (X b.g.a)) (cn h) (gw (Za (¬ ((X a.g.a:Int)=(X b.g.a:Int)))) (cn h) (Kc (e:= !(Zw ((X a.g.a:Int)=(X b.g.a:Int)))) yk ZW) (fw (Za (¬ ((X a.g.a:Int)=(X b.g.a:Int)))) (JU Z (cn h) Z) (Mz Z ?_))))))))
 by_cases o:(X a.g.a:Int)=(X b.g.a:Int)
 refine gw (vP t 7) (dF (Nu o)) yk (gw (T K (X a.j.a) S) (dF (Nu o)) (J5 Z (bO.one Q2 (Kw (B.cls (i:=1) Z) Z))) (gw (vJ (X a.j.a)) (dF (Nu o)) yk (gw (vP z 7) (dF (Nu o)) yk (gw (T Z5 (X b.j.a) Z1) (dF (Nu o)) (J5 Z (bO.one Q2 (Kw (B.cls (i:=0) Z) Z))) (gw (vJ (X b.j.a)) (dF (Nu o)) yk (gw (Za (¬ ((X a.j.a:Int)=(X b.j.a:Int)))) (dF (Nu o)) (Kc (e:= !(Zw ((X a.j.a:Int)=(X b.j.a:Int)))) yk ZW) (fw (Za (¬ ((X a.j.a:Int)=(X b.j.a:Int)))) (JU Z (dF (Nu o)) Z) (Mz Z ?_))))))))
 by_cases C:(X a.j.a:Int)=(X b.j.a:Int)
 refine gw (vP t 8) (dF (Nu C)) yk (gw (vU a.t) (dF (Nu C)) (J5 Z (bO.one E0 (Kw (B.cls (i:=1) Z) Z))) (gw (vP z 8) (dF (Nu C)) yk (gw (vU b.t) (dF (Nu C)) (J5 Z (bO.one E0 (Kw (B.cls (i:=0) Z) Z))) (gw (Za (¬ ((a.t:Int)=(b.t:Int)))) (dF (Nu C)) (Kc (e:= !(Zw ((a.t:Int)=(b.t:Int)))) yk ZW) (fw (Za (¬ ((a.t:Int)=(b.t:Int)))) (JU Z (dF (Nu C)) Z) (Mz Z ?_))))))
 by_cases E:(a.t:Int)=(b.t:Int)
 refine gw (vP t 9) (dF (Nu E)) yk (gw (vU a.B) (dF (Nu E)) (J5 Z (bO.one E0 (Kw (B.cls (i:=1) Z) Z))) (gw (vP z 9) (dF (Nu E)) yk (gw (vU b.B) (dF (Nu E)) (J5 Z (bO.one E0 (Kw (B.cls (i:=0) Z) Z))) (gw (Za (¬ ((a.B:Int)=(b.B:Int)))) (dF (Nu E)) (Kc (e:= !(Zw ((a.B:Int)=(b.B:Int)))) yk ZW) (fw (Za (¬ ((a.B:Int)=(b.B:Int)))) (JU Z (dF (Nu E)) Z) (Mz Z ?_))))))
 by_cases F:(a.B:Int)=(b.B:Int)
 refine gw (vP t 10) (dF (Nu F)) yk (gw (Zq (Zb (ai.L a.s))) (dF (Nu F)) (J5 Z (J7 (cs:=(ai.L a.s)) Tryz.isAgg38 Tryz.sizeOf38 ((B.cls (i:=1) Z).lit (k:=10) (m:=2) Z))) (gw (vP z 10) (dF (Nu F)) yk (gw (Zq (Zb (ai.L b.s))) (dF (Nu F)) (J5 Z (J7 (cs:=(ai.L b.s)) Tryz.isAgg38 Tryz.sizeOf38 ((B.cls (i:=0) Z).lit (k:=10) (m:=2) Z))) (gw (Za (¬ ((a.s.a=b.s.a)/\(a.s.b=b.s.b)))) (dF (Nu F)) (Kc (e:= !(Zw ((a.s.a=b.s.a)/\(a.s.b=b.s.b)))) (KL Z Z f1 Z (fK.struct C4 f1 (KI (eH.cons (u:= Z9 ⟨Zb a.s.a⟩) (v:= Z9 ⟨Zb b.s.a⟩) f7 ZY ZY (fK.string B3) (eH.cons (u:= Z9 ⟨Zb a.s.b⟩) (v:= Z9 ⟨Zb b.s.b⟩) f7 ZY ZY (fK.string B3) (eH.nil.up (Nt _)))) ((ZX (Zw (a.s.a=b.s.a) && ·) jB).trans eT)))) ZW) (fw (Za (¬ ((a.s.a=b.s.a)/\(a.s.b=b.s.b)))) (JU Z (dF (Nu F)) Z) (Mz Z ?_))))))
 by_cases J:(a.s.a=b.s.a)/\(a.s.b=b.s.b)
 refine gw (vP t 12) (dF (Nu J)) yk (gw (Zq (Zb (fF.L a.a))) (dF (Nu J)) (J5 Z (J7 (cs:=(fF.L a.a)) Tryz.isAgg40 Tryz.sizeOf40 ((B.cls (i:=1) Z).lit (k:=12) (m:=5) Z))) (gw (vP z 12) (dF (Nu J)) yk (gw (Zq (Zb (fF.L b.a))) (dF (Nu J)) (J5 Z (J7 (cs:=(fF.L b.a)) Tryz.isAgg40 Tryz.sizeOf40 ((B.cls (i:=0) Z).lit (k:=12) (m:=5) Z))) (gw (Za (¬ (((a.a.k:Int)=(b.a.k:Int))/\((a.a.s:Int)=(b.a.s:Int))/\((a.a.a:Int)=(b.a.a:Int))/\((a.a.j.a=b.a.j.a)/\(a.a.j.b=b.a.j.b))))) (dF (Nu J)) (Kc (e:= !(Zw (((a.a.k:Int)=(b.a.k:Int))/\((a.a.s:Int)=(b.a.s:Int))/\((a.a.a:Int)=(b.a.a:Int))/\((a.a.j.a=b.a.j.a)/\(a.a.j.b=b.a.j.b))))) (KL Z Z f1 Z (fK.struct Tryz.underlying40 f1 (KI (eH.cons (u:=vU a.a.k) (v:=vU b.a.k) f7 ZY ZY ((fK.int E1).up f7) (eH.cons (u:=vU a.a.s) (v:=vU b.a.s) f7 ZY ZY ((fK.int E1).up f7) (eH.cons (u:=vU a.a.a) (v:=vU b.a.a) f7 ZY ZY ((fK.int E1).up f7) (eH.cons (u:= Zq (Zb (ai.L a.a.j))) (v:= Zq (Zb (ai.L b.a.j))) f7 ZY ZY (fK.struct C4 f1 (KI (eH.cons (u:= Z9 ⟨Zb a.a.j.a⟩) (v:= Z9 ⟨Zb b.a.j.a⟩) f7 ZY ZY (fK.string B3) (eH.cons (u:= Z9 ⟨Zb a.a.j.b⟩) (v:= Z9 ⟨Zb b.a.j.b⟩) f7 ZY ZY (fK.string B3) (eH.nil.up (Nt _)))) ((ZX (Zw (a.a.j.a=b.a.j.a) && ·) jB).trans eT))) (eH.nil.up (Nt _)))))) ((ZX (Zw ((a.a.k:Int)=(b.a.k:Int)) && ·) ((ZX (Zw ((a.a.s:Int)=(b.a.s:Int)) && ·) ((ZX (Zw ((a.a.a:Int)=(b.a.a:Int)) && ·) jB).trans eT)).trans eT)).trans eT)))) ZW) (fw (Za (¬ (((a.a.k:Int)=(b.a.k:Int))/\((a.a.s:Int)=(b.a.s:Int))/\((a.a.a:Int)=(b.a.a:Int))/\((a.a.j.a=b.a.j.a)/\(a.a.j.b=b.a.j.b))))) (JU Z (dF (Nu J)) Z) (nt ?_))))))
 by_cases ag:((a.a.k:Int)=(b.a.k:Int))/\((a.a.s:Int)=(b.a.s:Int))/\((a.a.a:Int)=(b.a.a:Int))/\((a.a.j.a=b.a.j.a)/\(a.a.j.b=b.a.j.b))
 refine jF (dF (Nu ag)) (sk (JS (sr (Kz (vP t 6) (Lz (T r (X a.g.a) M) B 1 D4 (Kz (vJ (X a.g.a)) (Mn Z (bo ?_))))))))
 have dQ:=B.pf []
 obtain⟨dR,aD⟩:=nI λ (d:Nat) w'=>Own w D w' [blk z (gZ b Z7 Z3 s Z4 Z5 Z1) 42,blk t (gZ a Q R r M K S) 42]/\d<=X a.g.a/\jG a b a.g.a 0=jG a b (r8 d a.g.a) d
 refine G3 (λ i:Nat=> [(4, Y O),(97,vJ i),(96,vJ (X a.g.a)),(3,vP z 0),(2,vP t 0)]) dR (λ i=>X a.g.a - i) 0 ⟨Z,Z,Z,Z,Z,ZV⟩ (aD.2 ⟨dQ,U,Z⟩) ?_
 rintro d eX bQ
 show Wp _ _ _ [(4, Y O),(97,vJ d),(96,vJ (X a.g.a)),(3,vP z 0),(2,vP t 0)] _ _
 obtain⟨aN,d9,au⟩:=aD.1 bQ
 refine sr (Kz (Za ((d:Int) < (X a.g.a:Int))) (nt (JS ?_)))
 by_cases bS:(d:Int) < (X a.g.a:Int)
 obtain⟨Z6,Z0⟩:=dM (ls:=aj) (i:=d) bA.len f7 (aN.ro Z8) f5
 have bT:=ik ay Z0
 have ed:=(az _ (G4 Z0)).2
 have aF:=drop_at bT
 refine jT (dT bS) (sk (JS (bo (sr (Mz Z (An Z (JS ?_)))))))
 refine oZ [] (J6 (bJ.block (J6 (J6 (bJ.block (J6 Kg)))))) aN ?_
 intro eY bU
 refine qp t 6 0 Z (ql 1 Z 1 D4 Z Z Z (qv 2 Z Z (qt (v:= Zz (Zv ⟨ab r,ao r+d *2,Zk⟩)) 3 Z (λ _ ⟨_,L⟩=>J9 (kY) Z Z ((L.ro Z8).addr (i:=d) U) U) (qk (Zz (Zv ⟨ab r,ao r+d *2,Zk⟩)) 4 Z (qt (v:=vU Z6.r) 5 Z (λ _ ⟨_,L⟩=>J5 Z (bO.one E0 (((L.ro Z8).elem bA.len Z0 f7).at_ (k:=0) Z))) (qp z 6 6 Z (ql 7 Z 0 D4 Z Z Z (qv 8 Z Z ?_))))))))
 obtain⟨P,aa⟩:=mK (ls:=ak) (i:=d) f5
 have aG:=ik aA aa
 have ek:=(aB _ (G4 aa)).2
 refine qt (v:= Zz (Zv ⟨ab s,ao s+d *2,Zk⟩)) 9 Z (λ _ ⟨_,L⟩=>J9 (kY) Z Z ((L.ro Z2).addr (i:=d) U) U) (qk (Zz (Zv ⟨ab s,ao s+d *2,Zk⟩)) 10 Z (qt (v:=vU P.r) 11 Z (λ _ ⟨_,L⟩=>J5 Z (bO.one E0 (((L.ro Z2).elem bA.len aa f7).at_ (k:=0) Z))) (qt (v:= Za (¬ ((Z6.r:Int)=(P.r:Int)))) 12 Z (λ _ _=>Kc (e:= !(Zw ((Z6.r:Int)=(P.r:Int)))) yk ZW) (qv 13 Z Z ?_))))
 by_cases f:(Z6.r:Int)=(P.r:Int)
 refine J2 (v:=vP t 6) (rs:= []) 14 Z Z Z (dF (Nu f)) f1 (λ _ _=>yk) (J2 (v:= T r (X a.g.a) M) (rs:= []) 15 Z Z Z (dF (Nu f)) f1 (λ _ ⟨_,L⟩=>J5 Z (bO.one D4 (Kw (L.cls (i:=1) Z) Z))) (J2 (v:=vJ d) (rs:= []) 16 Z Z Z (dF (Nu f)) f1 (λ _ _=>J3 Z) (J2 (v:= Zz (Zv ⟨ab r,ao r+d *2,Zk⟩)) (rs:= []) 17 Z Z Z (dF (Nu f)) f1 (λ _ ⟨_,L⟩=>J9 (kY) Z Z ((L.ro Z8).addr (i:=d) U) U) (J2 (v:= Zz (Zv ⟨ab r,ao r+d *2+1,Zk⟩)) (rs:= []) 18 Z Z Z (dF (Nu f)) f1 (λ _ _=>yk) (J2 (v:= T Z6.a.A (X Z6.a.a) Z6.a.c) (rs:= []) 19 Z Z Z (dF (Nu f)) f1 (λ _ ⟨_,L⟩=>J5 Z (bO.one Tryz.isAgg44 (((L.ro Z8).elem bA.len Z0 f7).at_ (k:=1) Z))) (J2 (v:=vP z 6) (rs:= []) 20 Z Z Z (dF (Nu f)) f1 (λ _ _=>yk) (J2 (v:= T s (X b.g.a) Z4) (rs:= []) 21 Z Z Z (dF (Nu f)) f1 (λ _ ⟨_,L⟩=>J5 Z (bO.one D4 (Kw (L.cls (i:=0) Z) Z))) (J2 (v:=vJ d) (rs:= []) 22 Z Z Z (dF (Nu f)) f1 (λ _ _=>J3 Z) (J2 (v:= Zz (Zv ⟨ab s,ao s+d *2,Zk⟩)) (rs:= []) 23 Z Z Z (dF (Nu f)) f1 (λ _ ⟨_,L⟩=>J9 (kY) Z Z ((L.ro Z2).addr (i:=d) U) U) (J2 (v:= Zz (Zv ⟨ab s,ao s+d *2+1,Zk⟩)) (rs:= []) 24 Z Z Z (dF (Nu f)) f1 (λ _ _=>yk) (J2 (v:= T P.a.A (X P.a.a) P.a.c) (rs:= []) 25 Z Z Z (dF (Nu f)) f1 (λ _ ⟨_,L⟩=>J5 Z (bO.one Tryz.isAgg44 (((L.ro Z2).elem bA.len aa f7).at_ (k:=1) Z))) ?_)))))))))))
 obtain⟨aO,aH⟩:∃ q,rC Z6.a.a P.a.a=q:=⟨_,Z⟩
 obtain⟨eZ,bW,aY,bX,eu⟩:=JZ bU
 refine KG 26 Z Z Z (dF (Nu f)) f1 (Ki Tryz.call26 Z (A7 _ _ Z6.a.A (X Z6.a.a) Z6.a.c Z6.a.a P.a.A (X P.a.a) P.a.c P.a.a aO bW (aY _ (az _ (G4 Z0)).1) Z U (aY _ (aB _ (G4 aa)).1) Z U aH) ?_)
 rintro _ fe ⟨rfl,bY⟩
 have bE:=bX _ _ bY
 refine⟨.inr ⟨_,bE⟩, ?_⟩
 refine J2 (v:= Y (!aO)) (rs:= []) 27 Z Z Z (dF (Nu f)) f1 (λ _ _=>yk) (qt (v:= Y (!aO)) 28 Z (λ _ _=>JU Z (dF (Nu f)) Z) (qn (JY ?_)))
 rcases Nv (aO) with aI | aI
 refine jF (cn aI) (Ko (bN (JY (JW (fw (vJ (d+1)) (J4 (e:=D3.wrap ((d:Int)+1)) yk f4) (Mz Z (WL.nil ?_)))))))
 have dS:=bE.pf []
 exact Kb (d+1) ⟨Z,Z,Z,Z,Z,ZV⟩ (aD.2 ⟨dS,U,V (au) (V (ZX (λ q=>jG a b q d) aF) (V (ae (bG aG)) (V (ip f) (V (ae aH) (ip aI)))))⟩) (by show X a.g.a - (d+1) < X a.g.a - d; omega)
 refine jT (cn aI) (sr (An Z (rt (bR (tR (tR (bR (tR (rs ?_)))))))))
 have dU:=bE.pk []
 obtain rfl:_=O:=zj hr (V (ip g) (V (ip j) (V (ip l) (V (ip p) (V (ip n) (V (ae G) (V (ip h) (V (ip o) (V (ip C) (V (ip E) (V (ip F) (V (ip J) (V (ip ag) (iX (V (au) (V (ZX (λ q=>jG a b q d) aF) (V (ae (bG aG)) (V (ip f) (V (ae aH) (eD aI))))))))))))))))))))
 exact⟨Z,dU⟩
 refine JV (rs:= []) 14 Z Z Z (dT f) f1 (JV (rs:= []) 15 Z Z Z (dT f) f1 (JV (rs:= []) 16 Z Z Z (dT f) f1 (JV (rs:= []) 17 Z Z Z (dT f) f1 (JV (rs:= []) 18 Z Z Z (dT f) f1 (JV (rs:= []) 19 Z Z Z (dT f) f1 (JV (rs:= []) 20 Z Z Z (dT f) f1 (JV (rs:= []) 21 Z Z Z (dT f) f1 (JV (rs:= []) 22 Z Z Z (dT f) f1 (JV (rs:= []) 23 Z Z Z (dT f) f1 (JV (rs:= []) 24 Z Z Z (dT f) f1 (JV (rs:= []) 25 Z Z Z (dT f) f1 (JV (rs:= []) 26 Z Z Z (dT f) f1 (JV (rs:= []) 27 Z Z Z (dT f) f1 (qt (v:= Y Zj) 28 Z (λ _ _=>JX Z (dT f) Z) (qn (JY (jt (sr (An Z (rt (bR (tR (tR (bR (tR (rs ?_))))))))))))))))))))))))))
 have dV:=bU.pk []
 obtain rfl:_=O:=zj hr (V (ip g) (V (ip j) (V (ip l) (V (ip p) (V (ip n) (V (ae G) (V (ip h) (V (ip o) (V (ip C) (V (ip E) (V (ip F) (V (ip J) (V (ip ag) (iX (V (au) (V (ZX (λ q=>jG a b q d) aF) (V (ae (bG aG)) (iN f))))))))))))))))))
 exact⟨Z,dV⟩
 refine jF (dF bS) (H0 (Ka ?_))
 have aZ:jG a b a.g.a 0=G0 ():=V (au) (V (ZX (λ q=>jG a b q d) (eU (ls:=a.g.a) (i:=d) U)) Z)
 refine Ka (Kh (JY (JS (sr (Kz (vP t 7) (Lz (T K (X a.j.a) S) aN 1 Q2 (Kz (vJ (X a.j.a)) (Mn Z (bo ?_)))))))))
 have dW:=aN.pf []
 obtain⟨dX,aJ⟩:=nI λ (y:Nat) w'=>Own w D w' [blk z (gZ b Z7 Z3 s Z4 Z5 Z1) 42,blk t (gZ a Q R r M K S) 42]/\y<=X a.j.a/\jX b a.j.a 0=jX b (r8 y a.j.a) y
 refine G3 (λ i:Nat=> [(4, Y O),(133,vJ i),(132,vJ (X a.j.a)),(3,vP z 0),(2,vP t 0)]) dX (λ i=>X a.j.a - i) 0 ⟨Z,Z,Z,Z,Z,ZV⟩ (aJ.2 ⟨dW,U,Z⟩) ?_
 rintro y fo bZ
 show Wp _ _ _ [(4, Y O),(133,vJ y),(132,vJ (X a.j.a)),(3,vP z 0),(2,vP t 0)] _ _
 obtain⟨bI,eB,aK⟩:=aJ.1 bZ
 refine sr (Kz (Za ((y:Int) < (X a.j.a:Int))) (nt (JS ?_)))
 by_cases cu:(y:Int) < (X a.j.a:Int)
 obtain⟨aP,bg⟩:=dM (ls:=a.j.a) (i:=y) iQ f7 (bI.ro af) f5
 have aL:=drop_at bg
 refine jT (dT cu) (sk (JS (bo (sr (Mz Z (An Z (JS ?_)))))))
 refine oZ [] (J6 (bJ.block (J6 (J6 (bJ.block (J6 Kg)))))) bI ?_
 intro eF bi
 refine qp t 7 0 Z (ql 1 Z 1 Q2 Z Z Z (qv 2 Z Z (qt (v:= Zz (Zv ⟨ab K,ao K+y *1,Zk⟩)) 3 Z (λ _ ⟨_,L⟩=>J9 (jk) Z Z ((L.ro af).addr (i:=y) U) U) (qt (v:=vU aP) 4 Z (λ _ ⟨_,L⟩=>J5 Z (bO.one E0 (((L.ro af).elem iQ bg f7).at_ (k:=0) Z))) (qp z 7 5 Z (ql 6 Z 0 Q2 Z Z Z (qv 7 Z Z ?_)))))))
 obtain⟨av,ah⟩:=mK (ls:=b.j.a) (i:=y) f5
 refine qt (v:= Zz (Zv ⟨ab Z5,ao Z5+y *1,Zk⟩)) 8 Z (λ _ ⟨_,L⟩=>J9 (jk) Z Z ((L.ro aC).addr (i:=y) U) U) (qt (v:=vU av) 9 Z (λ _ ⟨_,L⟩=>J5 Z (bO.one E0 (((L.ro aC).elem iQ ah f7).at_ (k:=0) Z))) (qt (v:= Za (¬ ((aP:Int)=(av:Int)))) 10 Z (λ _ _=>Kc (e:= !(Zw ((aP:Int)=(av:Int)))) yk ZW) (qn (JY ?_))))
 by_cases ax:(aP:Int)=(av:Int)
 refine jF (dF (Nu ax)) (Ko (bN (JY (JW (fw (vJ (y+1)) (J4 (e:=D3.wrap ((y:Int)+1)) yk f4) (Mz Z (WL.nil ?_)))))))
 have cz:=bi.pf []
 exact Kb (y+1) ⟨Z,Z,Z,Z,Z,ZV⟩ (aJ.2 ⟨cz,U,V (aK) (V (ZX (λ q=>jX b q y) aL) (V (ae (bG ah)) (ip ax)))⟩) (by show X a.j.a - (y+1) < X a.j.a - y; omega)
 refine jT (dT ax) (sr (An Z (rt (bR (tR (tR (bR (tR (rs ?_)))))))))
 have cK:=bi.pk []
 obtain rfl:_=O:=zj hr (V (ip g) (V (ip j) (V (ip l) (V (ip p) (V (ip n) (V (ae G) (V (ip h) (V (ip o) (V (ip C) (V (ip E) (V (ip F) (V (ip J) (V (ip ag) (V (kH aZ) (iX (V (aK) (V (ZX (λ q=>jX b q y) aL) (V (ae (bG ah)) (iN ax)))))))))))))))))))
 exact⟨Z,cK⟩
 refine jF (dF cu) (H0 (Ka ?_))
 have bK:jX b a.j.a 0=G0 ():=V (aK) (V (ZX (λ q=>jX b q y) (eU (ls:=a.j.a) (i:=y) U)) Z)
 refine Ka (Kh (JY (JS ?_)))
 have cO:=bI.pk []
 refine JW (An Z (rt (rs ?_)))
 have cZ:=cO.pk []
 obtain rfl:_=Zj:=zj hr (V (ip g) (V (ip j) (V (ip l) (V (ip p) (V (ip n) (V (ae G) (V (ip h) (V (ip o) (V (ip C) (V (ip E) (V (ip F) (V (ip J) (V (ip ag) (V (kH aZ) (kH bK)))))))))))))))
 exact⟨Z,cZ⟩
 refine jT (dT ag) (sr (An Z (rt (tR (rs ?_)))))
 have df:=B.pk []
 obtain rfl:=zj hr zq13
 exact⟨Z,df⟩
 refine Sz (dT J) (Sz (dT J) (Sz (dT J) (Sz (dT J) (Sz (dT J) (fw (Y Zj) (JX Z (dT J) Z) (nt (jt (sr (An Z (rt (tR (rs ?_))))))))))))
 have dh:=B.pk []
 obtain rfl:=zj hr zq12
 exact⟨Z,dh⟩
 refine Sz (dT F) (Sz (dT F) (Sz (dT F) (Sz (dT F) (Sz (dT F) (fw (Y Zj) (JX Z (dT F) Z) (Mz Z (QQ (QQ (QQ (QQ (QQ (fw (Y Zj) (QJ Z) (nt (jt (sr (An Z (rt (tR (rs ?_)))))))))))))))))))
 have di:=B.pk []
 obtain rfl:=zj hr zq11
 exact⟨Z,di⟩
 refine Sz (dT E) (Sz (dT E) (Sz (dT E) (Sz (dT E) (Sz (dT E) (fw (Y Zj) (JX Z (dT E) Z) (Mz Z (QQ (QQ (QQ (QQ (QQ (fw (Y Zj) (QJ Z) (Mz Z (QQ (QQ (QQ (QQ (QQ (fw (Y Zj) (QJ Z) (nt (jt (sr (An Z (rt (tR (rs ?_))))))))))))))))))))))))))
 have dm:=B.pk []
 obtain rfl:=zj hr zq10
 exact⟨Z,dm⟩
 refine Sz (dT C) (Sz (dT C) (Sz (dT C) (Sz (dT C) (Sz (dT C) (fw (Y Zj) (JX Z (dT C) Z) (Mz Z (QQ (QQ (QQ (QQ (QQ (fw (Y Zj) (QJ Z) (Mz Z (QQ (QQ (QQ (QQ (QQ (fw (Y Zj) (QJ Z) (Mz Z (QQ (QQ (QQ (QQ (QQ (fw (Y Zj) (QJ Z) (nt (jt (sr (An Z (rt (tR (rs ?_)))))))))))))))))))))))))))))))))
 have dn:=B.pk []
 obtain rfl:=zj hr zq9
 exact⟨Z,dn⟩
 refine Sz (dT o) (Sz (dT o) (Sz (dT o) (Sz (dT o) (Sz (dT o) (Sz (dT o) (Sz (dT o) (fw (Y Zj) (JX Z (dT o) Z) (Mz Z (QQ (QQ (QQ (QQ (QQ (fw (Y Zj) (QJ Z) (Mz Z (QQ (QQ (QQ (QQ (QQ (fw (Y Zj) (QJ Z) (Mz Z (QQ (QQ (QQ (QQ (QQ (fw (Y Zj) (QJ Z) (Mz Z (QQ (QQ (QQ (QQ (QQ (fw (Y Zj) (QJ Z) (nt (jt (JS ?_))))))))))))))))))))))))))))))))))))))
 refine JW (An Z (rt (tR (rs ?_))))
 have dw:=B.pk []
 obtain rfl:=zj hr zq8
 exact⟨Z,dw⟩
 refine Sz (cn h) (Sz (cn h) (Sz (cn h) (Sz (cn h) (Sz (cn h) (Sz (cn h) (Sz (cn h) (fw (Y Zj) (JX Z (cn h) Z) (Mz Z (QQ (QQ (QQ (QQ (QQ (QQ (QQ (fw (Y Zj) (QJ Z) (Mz Z (QQ (QQ (QQ (QQ (QQ (fw (Y Zj) (QJ Z) (Mz Z (QQ (QQ (QQ (QQ (QQ (fw (Y Zj) (QJ Z) (Mz Z (QQ (QQ (QQ (QQ (QQ (fw (Y Zj) (QJ Z) (Mz Z (QQ ?_)))))))))))))))))))))))))))))))))))))))
 refine QQ (QQ (QQ (QQ (fw (Y Zj) (QJ Z) (nt (jt (sr (An Z (rt (tR (rs ?_)))))))))))
 have dx:=B.pk []
 obtain rfl:=zj hr zq7
 exact⟨Z,dx⟩
 refine Sz (dT n) (Sz (dT n) (Sz (dT n) (Sz (dT n) (Sz (dT n) (Sz (dT n) (fw (Y Zj) (JX Z (dT n) Z) (Mz Z (QQ (QQ (QQ (QQ (QQ (QQ (QQ (fw (Y Zj) (QJ Z) (Mz Z (QQ (QQ (QQ (QQ (QQ (QQ (QQ (fw (Y Zj) (QJ Z) (Mz Z (QQ (QQ (QQ (QQ (QQ (fw (Y Zj) (QJ Z) (Mz Z (QQ (QQ (QQ (QQ (QQ (fw (Y Zj) (QJ Z) (Mz Z ?_)))))))))))))))))))))))))))))))))))))))
 refine QQ (QQ (QQ (QQ (QQ (fw (Y Zj) (QJ Z) (Mz Z (QQ (QQ (QQ (QQ (QQ (fw (Y Zj) (QJ Z) (nt (jt (sr (An Z (rt (tR (rs ?_)))))))))))))))))))
 have dz:=I.pk []
 obtain rfl:=zj hr zq5
 exact⟨Z,dz⟩
 refine Sz (dT p) (Sz (dT p) (Sz (dT p) (Sz (dT p) (Sz (dT p) (fw (Y Zj) (JX Z (dT p) Z) (Mz Z (QQ (QQ (QQ (QQ (QQ (QQ (fw (Y Zj) (QJ Z) (Mz Z (QQ (QQ (QQ (QQ (QQ (QQ (QQ (fw (Y Zj) (QJ Z) (Mz Z (QQ (QQ (QQ (QQ (QQ (QQ (QQ (fw (Y Zj) (QJ Z) (Mz Z (QQ (QQ (QQ (QQ (QQ (fw (Y Zj) (QJ Z) (Mz Z ?_)))))))))))))))))))))))))))))))))))))))
 refine QQ (QQ (QQ (QQ (QQ (fw (Y Zj) (QJ Z) (Mz Z (QQ (QQ (QQ (QQ (QQ (fw (Y Zj) (QJ Z) (Mz Z (QQ (QQ (QQ (QQ (QQ (fw (Y Zj) (QJ Z) (nt (jt (sr (An Z (rt (tR (rs ?_))))))))))))))))))))))))))
 have dA:=I.pk []
 obtain rfl:=zj hr zq4
 exact⟨Z,dA⟩
 refine Sz (dT l) (Sz (dT l) (Sz (dT l) (Sz (dT l) (Sz (dT l) (fw (Y Zj) (JX Z (dT l) Z) (Mz Z (QQ (QQ (QQ (QQ (QQ (fw (Y Zj) (QJ Z) (Mz Z (QQ (QQ (QQ (QQ (QQ (QQ (fw (Y Zj) (QJ Z) (Mz Z (QQ (QQ (QQ (QQ (QQ (QQ (QQ (fw (Y Zj) (QJ Z) (Mz Z (QQ (QQ (QQ (QQ (QQ (QQ (QQ (fw (Y Zj) (QJ Z) (Mz Z ?_)))))))))))))))))))))))))))))))))))))))
 refine QQ (QQ (QQ (QQ (QQ (fw (Y Zj) (QJ Z) (Mz Z (QQ (QQ (QQ (QQ (QQ (fw (Y Zj) (QJ Z) (Mz Z (QQ (QQ (QQ (QQ (QQ (fw (Y Zj) (QJ Z) (Mz Z (QQ (QQ (QQ (QQ (QQ (fw (Y Zj) (QJ Z) (nt (jt (sr (An Z (rt (tR (rs ?_)))))))))))))))))))))))))))))))))
 have dB:=I.pk []
 obtain rfl:=zj hr zq3
 exact⟨Z,dB⟩
 refine Sz (dT j) (Sz (dT j) (Sz (dT j) (Sz (dT j) (Sz (dT j) (fw (Y Zj) (JX Z (dT j) Z) (Mz Z (QQ (QQ (QQ (QQ (QQ (fw (Y Zj) (QJ Z) (Mz Z (QQ (QQ (QQ (QQ (QQ (fw (Y Zj) (QJ Z) (Mz Z (QQ (QQ (QQ (QQ (QQ (QQ (fw (Y Zj) (QJ Z) (Mz Z (QQ (QQ (QQ (QQ (QQ (QQ (QQ (fw (Y Zj) (QJ Z) (Mz Z (QQ (QQ ?_)))))))))))))))))))))))))))))))))))))))
 refine QQ (QQ (QQ (QQ (QQ (fw (Y Zj) (QJ Z) (Mz Z (QQ (QQ (QQ (QQ (QQ (fw (Y Zj) (QJ Z) (Mz Z (QQ (QQ (QQ (QQ (QQ (fw (Y Zj) (QJ Z) (Mz Z (QQ (QQ (QQ (QQ (QQ (fw (Y Zj) (QJ Z) (Mz Z (QQ (QQ (QQ (QQ (QQ (fw (Y Zj) (QJ Z) (nt (jt (sr (Az Z ?_)))))))))))))))))))))))))))))))))))))
 refine nt (rt (tR (rs ?_)))
 have dC:=I.pk []
 obtain rfl:=zj hr zq2
 exact⟨Z,dC⟩
 refine Sz (dT g) (Sz (dT g) (Sz (dT g) (Sz (dT g) (Sz (dT g) (fw (Y Zj) (JX Z (dT g) Z) (Mz Z (QQ (QQ (QQ (QQ (QQ (fw (Y Zj) (QJ Z) (Mz Z (QQ (QQ (QQ (QQ (QQ (fw (Y Zj) (QJ Z) (Mz Z (QQ (QQ (QQ (QQ (QQ (fw (Y Zj) (QJ Z) (Mz Z (QQ (QQ (QQ (QQ (QQ (QQ (fw (Y Zj) (QJ Z) (Mz Z (QQ (QQ (QQ (QQ ?_)))))))))))))))))))))))))))))))))))))))
 refine QQ (QQ (QQ (fw (Y Zj) (QJ Z) (Mz Z (QQ (QQ (QQ (QQ (QQ (QQ (QQ (fw (Y Zj) (QJ Z) (Mz Z (QQ (QQ (QQ (QQ (QQ (fw (Y Zj) (QJ Z) (Mz Z (QQ (QQ (QQ (QQ (QQ (fw (Y Zj) (QJ Z) (Mz Z (QQ (QQ (QQ (QQ (QQ (fw (Y Zj) (QJ Z) (Mz Z (QQ (QQ (QQ (QQ (QQ ?_)))))))))))))))))))))))))))))))))))))))
 refine fw (Y Zj) (QJ Z) (nt (jt (sr (An Z (rt (tR (rs ?_)))))))
 have dD:=I.pk []
 obtain rfl:=zj hr zq1
 exact⟨Z,dD⟩
end
theorem uj {α:Type} [Inhabited α] {l:List α} {k:Nat} {x:α} {q:List α} (h:Ze k l=x::q):List.getD l k Zy=x/\Ze (k+1) l=q:=by
  have a:l[k]? =Zv x:=by
    have:=ZX (λ z=>z[0]?) h
    simp only [List.getElem?_drop,List.getElem?_cons_zero,Nat.add_zero] at this
    exact this
  refine⟨by rw [List.getD,a]; rfl, ?_⟩
  rw [show k+1=k+1 from Z, <- List.drop_drop,h]
  rfl
theorem I4 (l:List aV):∀ (q:List aV) (k:Nat),Ze k l=q->kF l q k= .inl ()
  | [],_,_=>rfl
  | x::q,k,h=>by
    obtain⟨a,b⟩:=uj h
    unfold kF
    rw [bI,a,ZJ ⟨Z,Z,Z,Z,Z,Z⟩]
    exact I4 l q _ b
theorem Ic (l:List aV):rC l l=Zj:=by
  unfold rC
  rw [ZJ Z,I4 l l 0 Z]
  rfl
theorem I5 (l:List bF):∀ (q:List bF) (k:Nat),Ze k l=q->l5 l q k= .inl ()
  | [],_,_=>rfl
  | x::q,k,h=>by
    obtain⟨a,b⟩:=uj h
    unfold l5
    rw [bI,a,ZJ ⟨Z,Z⟩]
    exact I5 l q _ b
theorem Ie (l:List bF):uV l l=Zj:=by
  unfold uV
  rw [ZJ Z,I5 l l 0 Z]
  rfl
theorem GZ (p:bH):∀ (q:List dG) (k:Nat),Ze k p.g.a=q->jG p p q k= .inl ()
  | [],_,_=>rfl
  | x::q,k,h=>by
    obtain⟨a,b⟩:=uj h
    unfold jG
    rw [bI,a,ZJ Z,bI,Ic,ZJ Z]
    exact GZ p q _ b
theorem G5 (p:bH):∀ (q:List Nat) (k:Nat),Ze k p.j.a=q->jX p q k= .inl ()
  | [],_,_=>rfl
  | x::q,k,h=>by
    obtain⟨a,b⟩:=uj h
    unfold jX
    rw [bI,a,ZJ Z]
    exact G5 p q _ b
theorem nd {p:Prop} [Decidable p] (h:p):Zw (¬ p)=O:=decide_eq_false (λ n=>n h)
theorem Ig (p:bH):mh p p=Zj:=by
  unfold mh
  simp only [bI,Ie,GZ p p.g.a 0 Z,G5 p p.j.a 0 Z,lp,not_true_eq_false,decide_false,if_true,Bool.not_true,and_self]
theorem I6 (l:List bF):∀ (q:List bF) (k:Nat),Ze k l=q->eY l q k= .inl ()
  | [],_,_=>rfl
  | x::q,k,h=>by
    obtain⟨a,b⟩:=uj h
    unfold eY
    rw [bI,a,ZJ ⟨Z,Z⟩]
    exact I6 l q _ b
theorem Ih (l:List bF):jD l l=Zj:=by
  unfold jD
  rw [ZJ Z,I6 l l 0 Z]
  rfl
theorem I7 (l:List Nat):∀ (q:List Nat) (k:Nat),Ze k l=q->gu l q k= .inl ()
  | [],_,_=>rfl
  | x::q,k,h=>by
    obtain⟨a,b⟩:=uj h
    unfold gu
    rw [bI,a,ZJ Z]
    exact I7 l q _ b
theorem Ii (l:List Nat):kC l l=Zj:=by
  unfold kC
  rw [ZJ Z,I7 l l 0 Z]
  rfl
theorem G6 (l:List aV):∀ (q:List aV) (k:Nat),Ze k l=q->gy l q k= .inl ()
  | [],_,_=>rfl
  | x::q,k,h=>by
    obtain⟨a,b⟩:=uj h
    unfold gy
    rw [bI,a,ZJ ⟨Z,Z,Z,Z,Z,Z⟩]
    exact G6 l q _ b
theorem Gv (l:List aV):kD l l=Zj:=by
  unfold kD
  rw [ZJ Z,G6 l l 0 Z]
  rfl
theorem Ij (x:dG):nS x x=Zj:=by
  unfold nS
  rw [ZJ Z,bI,Gv]
theorem I8 (l:List dG):∀ (q:List dG) (k:Nat),Ze k l=q->dH l q k= .inl ()
  | [],_,_=>rfl
  | x::q,k,h=>by
    obtain⟨a,b⟩:=uj h
    unfold dH
    rw [bI,a,bI,Ij,ZJ Z]
    exact I8 l q _ b
theorem Ik (l:List dG):gG l l=Zj:=by
  unfold gG
  rw [ZJ Z,I8 l l 0 Z]
  rfl
theorem FP (s:bH):jd s s=Zj:=by
  unfold jd
  rw [ZJ Z,ZJ Z,ZJ Z,ZJ Z,ZJ Z,ZJ Z,ZJ ⟨Z,Z⟩,ZJ ⟨Z,Z,Z,Z,Z⟩,bI,Ih,ZJ Z,bI,Ii,ZJ Z,bI,Ik]
theorem CU (p:aG):∀ (l a:List aG) (b:Bool), ∀ q ∈ (gV p l a b).1,q=p\/q ∈ a\/q ∈ l
  | [],a,b,q,h=> .inr (.inl h)
  | x::l,a,b,q,h=>by
    have g:∀ (a':List aG) (b':Bool),(∀ z ∈ a',z=p\/z ∈ a\/z=x)->q ∈ (gV p l a' b').1->q=p\/q ∈ a\/q ∈ x::l:=λ a' b' ha hq=>by
      rcases CU p l a' b' q hq with h | h | h
      . exact .inl h
      . rcases ha q h with h | h | h
        . exact .inl h
        . exact .inr (.inl h)
        . rw [h]; exact .inr (.inr b3)
      . exact .inr (.inr (.tail _ h))
    have c:∀ z ∈ a,z=p\/z ∈ a\/z=x:=λ z hz=> .inr (.inl hz)
    have d:∀ z ∈ a++ [x],z=p\/z ∈ a\/z=x:=λ z hz=>(List.mem_append.1 hz).elim (λ h=> .inr (.inl h)) λ h=> .inr (.inr (List.mem_singleton.1 h))
    have e:∀ z ∈ a++ [p],z=p\/z ∈ a\/z=x:=λ z hz=>(List.mem_append.1 hz).elim (λ h=> .inr (.inl h)) λ h=> .inl (List.mem_singleton.1 h)
    have f:∀ z ∈ (a++ [p])++ [x],z=p\/z ∈ a\/z=x:=λ z hz=>(List.mem_append.1 hz).elim (e z) λ h=> .inr (.inr (List.mem_singleton.1 h))
    unfold gV at h
    split at h
    . split at h
      . exact g _ _ d h
      . exact g _ _ c h
    . split at h
      . split at h
        . exact g _ _ f h
        . exact g _ _ e h
      . split at h
        . exact g _ _ d h
        . exact g _ _ c h
theorem CV (r:ai):∀ (l a:List aG), ∀ p ∈ jy r l a,p ∈ a\/p ∈ l
  | [],a,p,h=> .inl h
  | x::l,a,p,h=>by
    unfold jy at h
    rw [bI] at h
    split at h
    . exact(CV r l a p h).imp id (.tail _)
    . rcases CV r l _ p h with h | h
      . rcases List.mem_append.1 h with h | h
        . exact .inl h
        . rw [List.mem_singleton.1 h]; exact .inr b3
      . exact .inr (.tail _ h)
theorem Jn {M:List aG} {o:aV} (h:VM M) (ho:eF o=0):VM (xK M o).1:=by
  have hw:∀ r:ai,VM (ou M r):=λ r p hp=>by
    unfold ou at hp
    rw [bI] at hp
    exact(CV r M [] p hp).elim (λ h=>absurd h List.not_mem_nil) (h p)
  unfold xK
  simp only [bI]
  split
  . exact h
  split
  . rename_i a
    have hp:Ba (aG.q o.j o.k):=⟨zD ho (.inr (.inl a)),EZ ho a⟩
    intro q hq
    unfold yh at hq
    rw [bI] at hq
    have key:∀ q ∈ (gV (aG.q o.j o.k) M [] O).1,Ba q:=λ q hq=>by
      rcases CU _ _ _ _ q hq with e | e | e
      . rw [e]; exact hp
      . exact absurd e List.not_mem_nil
      . exact h q e
    split at hq
    . exact key q hq
    . rcases List.mem_append.1 hq with e | e
      . exact key q e
      . rw [List.mem_singleton.1 e]; exact hp
  split
  . exact hw _
  split
  . exact h
  . exact hw _
theorem Bl:∀ (o:List aV) (M:List aG) (r:List dA),VM M->VO o->VM (lg o M r).1
  | [],M,r,h,_=>h
  | x::o,M,r,h,ho=>by
    unfold lg
    rw [bI]
    exact Bl o _ _ (Jn h (ho x b3)) ho.tail
theorem Gw {M:List aG} {o:List aV} (h:VM M) (ho:VO o):VM (qz M o).1:=by
  unfold qz
  simp only [bI]
  split
  . split
    . exact Bl o M [] h ho
    . exact λ _ h=>absurd h List.not_mem_nil
  . exact λ _ h=>absurd h List.not_mem_nil
theorem Bn:∀ {l:List aV},qX l=Zj->VO l
  | [],_=>VO.nil
  | x::l,h=>by
    unfold qX lD at h
    rw [bI] at h
    by_cases c:eF x=0
    . rw [ZJ c] at h
      have:=Bn (l:=l) h
      exact λ o ho=>(List.mem_cons.1 ho).elim (λ e=>by rw [e]; exact c) (this o)
    . rw [ZK c] at h; cases h
theorem FQ {x:cz} (a:fU x=0) (hk:x.g=3):VO x.a.a:=by
  have:=zU Z a hk
  unfold mO at this
  rw [ZK f7,ZJ Z] at this
  split at this
  . split at this
    . exact Bn this
    . cases this
  . cases this
theorem Aa:∀ {l:List aV},qw l=Zj->VO l
  | [],_=>VO.nil
  | x::l,h=>by
    unfold qw kM pX at h
    simp only [bI] at h
    by_cases a:o5 x=Zj
    . rw [ZJ a] at h
      by_cases c:eF x=0
      . rw [ZJ c] at h
        have:=Aa (l:=l) h
        exact λ o ho=>(List.mem_cons.1 ho).elim (λ e=>by rw [e]; exact c) (this o)
      . rw [ZK c] at h; cases h
    . rw [ZK a,ZK f7] at h; cases h
theorem Gy {x:cz} (a:fU x=0) (hk:x.g=11):VO x.a.a:=by
  have:=Bi Z a hk
  unfold mO at this
  rw [ZK f7,ZK f7] at this
  split at this
  . exact Aa this
  . cases this
structure Dv (ws:List bK) (hs:List dG) (M:List aG):Prop where q::
  w:VW ws
  h:VH hs
  m:VM M
theorem rP {p r:bH} {l:List aG} {e:Int} (h:gB p=r) (hc:l8 l=e) (he:e=0) (a:p.g.a= []:=by rfl):Dv [] r.g.a l:=
  ⟨λ _ h=>absurd h y2,by
    have b:p=r:=h
    subst b
    rw [a]; exact λ _ h=>absurd h y2,(sH.1 (by rw [Jd,hc,he])).1⟩
theorem FR {m m':aB} {x:cz} {s:StoreT} {tb tb':bn} {d:bY} {e:Int} (h:dL m x s tb=(d,e,m',tb')) (hR:Rs m.b.a m.a.g.a m.a.j.a tb.a.a) (hD:Dv m.b.a m.a.g.a s.a.a) (hf:X m.a.j.a<=999) (ho:X m.a.b.a<=6):
    VW m'.b.a/\VH m'.a.g.a/\VO d.a.a:=by
  unfold dL at h
  simp only [bI] at h
  have no:∀ (b:Bool) (c:Int),(bY.q (N []) (N []) b,c,m,tb)=(d,e,m',tb')->VW m'.b.a/\VH m'.a.g.a/\VO d.a.a:=λ b c h=>by
    obtain⟨rfl,rfl,rfl,rfl⟩:=eQ h
    exact⟨hD.w,hD.h,VO.nil⟩
  by_cases g:x.g=12
  . rw [ZJ g] at h
    split at h
    . split at h
      . split at h
        . exact no _ _ h
        . exact no _ _ h
      . exact no _ _ h
    . exact no _ _ h
  rw [ZK g] at h
  by_cases f:x.g=11
  . rw [ZJ f] at h
    by_cases a:fU x=0
    case neg=>rw [ZK a] at h; exact no _ _ h
    rw [ZJ a] at h
    split at h
    . generalize hl:eX _ _ _=v at h
      obtain⟨n,i,p⟩:=v
      have k:=xY hl
      have w:VO i.a.a.a:=by
        rcases k.w with w | w
        . rw [w]; exact VO.nil
        . rw [w]; exact VO.nil.app (Gy a f)
      rw [ZJ k.e] at h
      split at h
      . obtain⟨rfl,rfl,rfl,rfl⟩:=eQ h; exact⟨hD.w,hD.h,w⟩
      . obtain⟨rfl,rfl,rfl,rfl⟩:=eQ h; exact⟨hD.w,hD.h,w⟩
    . exact no _ _ h
  rw [ZK f] at h
  by_cases r:x.g=8
  . rw [ZJ r] at h
    by_cases a:fU x=0
    case neg=>rw [ZK a] at h; exact no _ _ h
    rw [ZJ a] at h
    split at h
    . generalize hl:jE _ _ _=v at h
      obtain⟨n,i,p⟩:=v
      obtain⟨_,_,_,_,w⟩:=vM hl ho (AU (AR Z a r))
      have j:VO i.a.a.a:=w VO.nil
      split at h
      . split at h
        . obtain⟨rfl,rfl,rfl,rfl⟩:=eQ h; exact⟨hD.w,hD.h,j⟩
        . obtain⟨rfl,rfl,rfl,rfl⟩:=eQ h; exact⟨hD.w,hD.h,j⟩
      . obtain⟨rfl,rfl,rfl,rfl⟩:=eQ h; exact⟨hD.w,hD.h,VO.nil⟩
    . exact no _ _ h
  rw [ZK r] at h
  by_cases u:x.g=5
  . rw [ZJ u] at h
    split at h
    . split at h
      . generalize hdc:iU _ _ _ _ _=v at h
        obtain⟨n,i,p,t⟩:=v
        obtain⟨z,k2,_⟩:=Bj hdc hR Z Z ⟨hD.w,hD.h,hD.m,VO.nil⟩
        rw [ZJ z] at h
        split at h
        . obtain⟨rfl,rfl,rfl,rfl⟩:=eQ h; exact⟨k2.w,k2.h,k2.o⟩
        . obtain⟨rfl,rfl,rfl,rfl⟩:=eQ h; exact⟨k2.w,k2.h,k2.o⟩
      . exact no _ _ h
    . exact no _ _ h
  rw [ZK u] at h
  by_cases l:x.g=3
  . rw [ZJ l] at h
    by_cases a:fU x=0
    case neg=>rw [ZK a] at h; exact no _ _ h
    rw [ZJ a] at h
    split at h
    . generalize hdc:jA _ _ _ _ _=v at h
      obtain⟨n,i,p,t⟩:=v
      have A:X x.a.a<=24:=by
        rcases rV (x:=x) Z with q | q | q
        . exact absurd a q
        . exact absurd l q
        . exact q
      obtain⟨y,j,_⟩:=z8 hdc hR hf A Z (FQ a l) ⟨hD.w,hD.h,hD.m,VO.nil⟩
      split at h
      . obtain⟨rfl,rfl,rfl,rfl⟩:=eQ h; exact⟨y,j,VO.nil⟩
      . obtain⟨rfl,rfl,rfl,rfl⟩:=eQ h; exact⟨y,j,VO.nil⟩
    . exact no _ _ h
  rw [ZK l] at h
  exact no _ _ h
theorem Ea {m m':aB} {x:cz} {s:StoreT} {tb tb':bn} {d:bY} {e:Int} {M':List aG} {r:List dA} {f:Int} (h:dL m x s tb=(d,e,m',tb')) (ha:qz s.a.a d.a.a=(M',r,f)) (hR:Rs m.b.a m.a.g.a m.a.j.a tb.a.a) (hD:Dv m.b.a m.a.g.a s.a.a) (hf:X m.a.j.a<=999) (ho:X m.a.b.a<=6):
    Dv m'.b.a m'.a.g.a M':=by
  obtain⟨a,b,c⟩:=FR h hR hD hf ho
  have k:=Gw hD.m c
  rw [ha] at k
  exact⟨a,b,k⟩
theorem zk {m m':aB} {x:cz} {s:StoreT} {tb tb':bn} {d:bY} {e:Int} (h:dL m x s tb=(d,e,m',tb')) (hR:Rs m.b.a m.a.g.a m.a.j.a tb.a.a) (hD:Dv m.b.a m.a.g.a s.a.a) (hf:X m.a.j.a<=999) (ho:X m.a.b.a<=6):
    Dv m'.b.a m'.a.g.a s.a.a:=by
  obtain⟨a,b,_⟩:=FR h hR hD hf ho
  exact⟨a,b,hD.m⟩
def Nx (m m':aB) (d:bY):Prop:=d.a.a= []/\d.g=O/\m'.a=m.a
theorem x8 {m m' mm:aB} {o:List cz} {Z8:List aV} {d:bY} {e c:Int} {tb tb':bn} (hW:Z8= []) (hm:mm.a=m.a) (h:(bY.q (N o) (N Z8) (!(jd m.a mm.a)),c,mm,tb)=(d,e,m',tb')):Nx m m' d:=by
  rw [hm,FP] at h
  obtain⟨rfl,rfl,rfl,rfl⟩:=eQ h
  exact⟨hW,Z,hm⟩
theorem GA (s:bH):gB s=s:=Z
theorem EB {m m1 F:aB} {x:cz} {s S:StoreT} {tb r y:bn} {d a:bY} {e Z6:Int} (g:dL m x s tb=(d,e,m1,r)) (b:dL m1 x S r=(a,Z6,F,y))
    (hR:Rs m.b.a m.a.g.a m.a.j.a tb.a.a) (hD:Dv m.b.a m.a.g.a s.a.a) (hf:X m.a.j.a<=999) (ho:X m.a.b.a<=6)
    (hnd:x.g=3->¬ ∃ v ∈ d.b.a,v.g=4/\v.r=x.r/\v.F=5):Nx m1 F a:=by
  have z:=(vz hR hf ho g).a
  unfold dL at g b
  simp only [bI,GA] at g b
  have no:∀ (c:Int),(bY.q (N []) (N []) O,c,m1,r)=(a,Z6,F,y)->Nx m1 F a:=λ c h=>by
    obtain⟨rfl,rfl,rfl,rfl⟩:=eQ h
    exact⟨Z,Z,Z⟩
  by_cases A:x.g=12
  . rw [ZJ A] at b
    split at b
    . split at b
      . split at b
        . exact x8 (mm:=m1) Z Z b
        . exact no _ b
      . exact no _ b
    . exact no _ b
  rw [ZK A] at g b
  by_cases B:x.g=11
  . rw [ZJ B] at g b
    by_cases l:fU x=0
    case neg=>rw [ZK l] at b; exact no _ b
    rw [ZJ l] at g b
    by_cases j:x.E=m.a.r
    . rw [ZJ j] at g
      generalize hl:eX _ _ _=v at g
      obtain⟨G,H,o⟩:=v
      have k:=xY hl
      rw [ZJ k.e] at g
      have em:o=m1:=by
        split at g
        . obtain⟨_,_,q,_⟩:=eQ g; exact k.f.symm.trans q
        . obtain⟨_,_,q,_⟩:=eQ g; exact k.f.symm.trans q
      subst em
      rw [ZJ (by rw [k.i]; exact j)] at b
      obtain⟨u,Z7,t⟩:=k.d (bD.q (bY.q (N []) (N []) O) (N []))
      rw [Z7] at b
      have p:u.a.a.a= []:=by rw [t]
      simp only at b
      rw [ZJ ZV,ZK (by rw [p]; decide)] at b
      exact x8 (m:=o) p Z b
    . rw [ZK j] at g
      obtain⟨_,_,rfl,rfl⟩:=eQ g
      rw [ZK j] at b
      exact no _ b
  rw [ZK B] at g b
  by_cases I:x.g=8
  . rw [ZJ I] at g b
    by_cases l:fU x=0
    case neg=>rw [ZK l] at b; exact no _ b
    rw [ZJ l] at g b
    by_cases j:x.E=m.a.r
    . rw [ZJ j] at g
      generalize hl:jE _ _ _=v at g
      obtain⟨G,H,o⟩:=v
      obtain⟨k,_,kv,_,_⟩:=vM hl ho (AU (AR Z l I))
      have hv:m1.a.u=o.a.u/\m1.a.r=o.a.r:=by
        split at g
        . split at g
          . obtain⟨_,_,rfl,_⟩:=eQ g; exact⟨rfl,rfl⟩
          . obtain⟨_,_,rfl,_⟩:=eQ g; exact⟨rfl,rfl⟩
        . obtain⟨_,_,rfl,_⟩:=eQ g; exact⟨rfl,rfl⟩
      rw [ZJ (by rw [hv.2,k.i]; exact j)] at b
      generalize J:jE _ _ _=C at b
      obtain⟨P,u,D⟩:=C
      obtain⟨rfl,t⟩:=CR J (by rw [hv.1]; exact kv)
      have p:u.a.a.a= []:=by rw [t]
      simp only at b
      split at b
      . rw [ZK (by rw [p]; decide)] at b
        exact x8 (m:=D) p Z b
      . obtain⟨rfl,rfl,rfl,rfl⟩:=eQ b
        exact⟨rfl,rfl,rfl⟩
    . rw [ZK j] at g
      obtain⟨_,_,rfl,rfl⟩:=eQ g
      rw [ZK j] at b
      exact no _ b
  rw [ZK I] at g b
  by_cases Q:x.g=5
  . rw [ZJ Q] at g b
    by_cases l:fU x=0
    case neg=>rw [ZK l] at b; exact no _ b
    rw [ZJ l] at g b
    by_cases j:x.E=m.a.r
    . rw [ZJ j] at g
      generalize hdc:iU _ _ _ _ _=v at g
      obtain⟨G,H,o,K⟩:=v
      obtain⟨Z3,k2,_⟩:=Bj hdc hR Z Z ⟨hD.w,hD.h,hD.m,VO.nil⟩
      rw [ZJ Z3] at g
      have hn: ¬ Tx m1.b.a m1.a.g.a x.r/\m1.a.r=m.a.r:=by
        split at g
        . obtain⟨_,_,rfl,_⟩:=eQ g; exact⟨λ q=>(k2.x _ q).1 rfl,rfl⟩
        . obtain⟨_,_,rfl,_⟩:=eQ g; exact⟨λ q=>(k2.x _ q).1 rfl,rfl⟩
      rw [ZJ (by rw [hn.2]; exact j)] at b
      generalize n:iU _ _ _ _ _=C at b
      obtain⟨P,u,D,L⟩:=C
      obtain⟨rfl,p⟩:=CS n z hn.1
      have R:u.a.a.a= []:=p
      simp only at b
      split at b
      . rw [ZK (by rw [R]; decide)] at b
        exact x8 (m:=D) R Z b
      . obtain⟨rfl,rfl,rfl,rfl⟩:=eQ b
        exact⟨rfl,rfl,rfl⟩
    . rw [ZK j] at g
      obtain⟨_,_,rfl,rfl⟩:=eQ g
      rw [ZK j] at b
      exact no _ b
  rw [ZK Q] at g b
  by_cases E:x.g=3
  . rw [ZJ E] at g b
    by_cases l:fU x=0
    case neg=>rw [ZK l] at b; exact no _ b
    rw [ZJ l] at g b
    by_cases j:x.E=m.a.r
    . rw [ZJ j] at g
      generalize hdc:jA _ _ _ _ _=v at g
      obtain⟨G,H,o,K⟩:=v
      have M:X x.a.a<=24:=by
        rcases rV (x:=x) Z with q | q | q
        . exact absurd l q
        . exact absurd E q
        . exact q
      obtain⟨_,_,lo,sd,wf⟩:=z8 hdc hR hf M Z (FQ l E) ⟨hD.w,hD.h,hD.m,VO.nil⟩
      have hi:o.a.r=m.a.r:=by rw [<- wf]
      have em:o=m1/\Sd o x:=by
        by_cases Z5:G=0
        . rw [ZJ Z5] at g
          obtain⟨Z4,_,q,_⟩:=eQ g
          refine⟨wf.symm.trans q,sd.resolve_right λ t=>hnd E ?_⟩
          rw [<- Z4]; exact t.2
        . rw [ZK Z5] at g
          obtain⟨_,_,q,_⟩:=eQ g
          exact⟨wf.symm.trans q,sd.resolve_right λ t=>Z5 t.1⟩
      obtain⟨em,sd⟩:=em
      subst em
      rw [ZJ (by rw [hi]; exact j)] at b
      generalize n:jA _ _ _ _ _=C at b
      obtain⟨P,u,D,L⟩:=C
      obtain⟨rfl,p⟩:=EA n z lo sd
      simp only at b
      split at b
      . exact x8 (m:=D) Z Z b
      . obtain⟨rfl,rfl,rfl,rfl⟩:=eQ b
        exact⟨rfl,rfl,rfl⟩
    . rw [ZK j] at g
      obtain⟨_,_,rfl,rfl⟩:=eQ g
      rw [ZK j] at b
      exact no _ b
  rw [ZK E] at b
  exact no _ b
end Go.Proofs.YtnpdpklckacpnaaGreat
