/- The layers told, part 4. Conditions: none beyond each law's own. -/
import Derived.Test.YtbkagebjhbphaaaGreatJc
namespace Go.Proofs.YtbkagebjhbphaaaGreat
set_option maxHeartbeats 4000000
set_option maxRecDepth 100000
set_option linter.unusedVariables false
set_option linter.unusedSimpArgs false
set_option linter.unusedSectionVars false
open Int renaming toNat->D0
open IntKind renaming i64->C5,u64->D1,u8->O5
open List renaming drop->r3,flatMap->q3,flatMap_append->r4,length->r8,length_append->o1,length_cons->s0,length_map->s3,length_nil->F2,mem_of_getElem?->D3,toArray->v9
open Ll renaming mk->E2
open _root_.Go.Proofs.Tryz renaming call119->O6,call77->O7,call79->O9,func77->O8,isAgg153->I0,isAgg28->D4,isAgg3->C4,isAgg9->C2,prog->v8,sizeOf149->E6,sizeOf153->I2,underlying134->O4
open WL renaming nil->C6
open Wp renaming exit->C7,loop->C3
section
open Go.RowKit
def nK:Nat->Nat->List UInt8->Nat × (List UInt8)
  | 0,a,b=>default
  | c+1,a,b=>if(a:Int) >= 128 then nK c (a / 128) (b++ [((UInt8.ofNat a) ||| (128:UInt8))]) else(a,b)
def sj (a:Nat):(List UInt8):=
 bnd (nK (a+1) a []) λ sLrL=>(sLrL.2++ [(UInt8.ofNat sLrL.1)])
theorem wG (w D c j) (H:Own w D w []) (t:c<=18446744073709551615) (hr:sj c=j):
    Calls v8 117 #[vU c] w (d9 λ v w'=> ∃ U V,v= .slice U j.length V/\Own w D w' [row U j.length V (q3 eB j) 5 1]/\(1<=j.length/\j.length<=10)/\(c >= 128\/j.length=1)):=by
 unfold sj at hr
 refine cb Tryz.func117 ?_
 refine sr (Ar rfl ?_)
 refine WL.do rfl (KI (m:=10) (size:=1) (bytes:=1) (z:= .int .u8 0) O4 e7 H rfl rfl e6 (by unfold maxLen; omega) ?_)
 intro F af G
 refine An rfl (Ic (bo ?_))
 have I:=G.pf []
 obtain⟨J,d⟩:=Au λ (a:Nat) l (n:Nat) b (f:Nat) w'=>Own w D w' [row l b.length n (q3 eB b) 5 1]/\lY b.length a/\b.length<=9/\(c >= 128\/(b.length=0/\a=c))/\a < f/\nK (c+1) c []=nK f a b
 refine C3 (λ i:Nat × (Option Addr) × Nat × (List UInt8) × Nat=> [(0,vU i.1),(3, .slice i.2.1 i.2.2.2.1.length i.2.2.1),(2, .slice none 0 0)]) J (λ i=>i.2.2.2.2) (c,F,10, [],c+1) ⟨rfl,rfl,rfl,trivial⟩ (d.2 ⟨I,(show lY (0) c/\0<=9/\(c >= 128\/(0=0/\c=c))/\c < (c+1)/\nK (c+1) c []=nK (c+1) c [] from ⟨by first | exact lY.zero t | exact lY.step f5 j2,by first | exact Lg _ | (have q9:=lY.le f5 e6; simp only [o1,s0,F2]; omega),e6,e6,rfl⟩)⟩) ?_
 rintro ⟨a,l,n,b,f⟩ ai u
 obtain⟨x,W,X,Y,Z,h⟩:=d.1 u
 obtain⟨o,A⟩:∃ q,f=q+1:=⟨f - 1,e6⟩
 subst A
 refine Ic (sr (Mz rfl (Kz (.bool (decide ((a:Int) >= 128))) (nt ?_))))
 by_cases g:(a:Int) >= 128
 refine jT (dT g) (sk (bo (sr (Mz rfl (Mz rfl (fw (.int .u8 (((UInt8.ofNat a).toNat:Nat):Int)) (Ie (e:=O5.wrap (a:Int)) yk (yO _)) (fw (.int .u8 ((((UInt8.ofNat a) ||| (128:UInt8)).toNat:Nat):Int)) (Ie (e:=O5.wrap (((BitVec.ofInt 8 (((UInt8.ofNat a).toNat:Nat):Int) ||| BitVec.ofInt 8 128).toNat:Nat):Int)) yk (u8_or (UInt8.ofNat a) (128:UInt8))) ?_)))))))
 refine lg [.int .u8 ((((UInt8.ofNat a) ||| (128:UInt8)).toNat:Nat):Int)] 5 1 1 x ?_
 intro K aj p
 replace p:=IL (y:=row K 1 1 (q3 eB ([((UInt8.ofNat a) ||| (128:UInt8))])) 5 1) rfl p
 have B:=p.pb [0]
 refine WL.do rfl (IM (k:=b.length) (m:=1) (yf) B rfl rfl (jv O4 (B.rds (i:=1) rfl) (fU xX ([((UInt8.ofNat a) ||| (128:UInt8))]))) rfl e6 (s:=r8 (b++ [((UInt8.ofNat a) ||| (128:UInt8))])) f7 (r4).symm ?_)
 intro L M ak N
 have aa:r8 (b++ [((UInt8.ofNat a) ||| (128:UInt8))])=b.length+1:=by simp only [o1,s0,F2]
 refine An rfl (Ib (Mz rfl (fw (vU (a / 128)) (Ie (e:=Int.fdiv (a:Int) 128) yk (nV _ 7 _ f4)) (Az rfl (C6 (bN ?_))))))
 have O:=N.pk [0]
 exact Ir (a / 128,L,M,(b++ [((UInt8.ofNat a) ||| (128:UInt8))]),o) ⟨rfl,rfl,rfl,trivial⟩ (d.2 ⟨O,by first | exact lY.zero t | exact lY.step f5 j2,by first | exact Lg _ | (have q9:=lY.le f5 e6; simp only [o1,s0,F2]; omega),e6,e6,Eq.trans (h) (if_pos g)⟩) (by show o < o+1; omega)
 refine jF (dF g) (C7 (Il ?_))
 have C:nK (c+1) c []=(a,b):=et (h) (iN g)
 refine Il (IB (Ig (sr (Mz rfl (Mz rfl (fw (.int .u8 (((UInt8.ofNat a).toNat:Nat):Int)) (Ie (e:=O5.wrap (a:Int)) yk (yO _)) ?_))))))
 refine lg [.int .u8 (((UInt8.ofNat a).toNat:Nat):Int)] 5 1 1 x ?_
 intro P au r
 replace r:=IL (y:=row P 1 1 (q3 eB ([(UInt8.ofNat a)])) 5 1) rfl r
 have E:=r.pb [0]
 refine WL.do rfl (IM (k:=b.length) (m:=1) (yf) E rfl rfl (jv O4 (E.rds (i:=1) rfl) (fU xX ([(UInt8.ofNat a)]))) rfl e6 (s:=r8 (b++ [(UInt8.ofNat a)])) f7 (r4).symm ?_)
 intro Q R av S
 have ae:r8 (b++ [(UInt8.ofNat a)])=b.length+1:=by simp only [o1,s0,F2]
 refine An rfl (rt (rs ?_))
 have T:=S.pk [0]
 obtain rfl:=zj hr zq1
 exact⟨Q,R,rfl,T,g1,g1⟩
def vw (b:List UInt8):(List UInt8):=
 bnd (sj b.length) λ a=>(a++b)
theorem zM (w D b g) (H:Own w D w []) (C:b.length<=140737488351232) (hr:vw b=g):
    Calls v8 141 #[.string ⟨v9 b⟩] w (d9 λ v w'=> ∃ u x,v= .slice u g.length x/\Own w D w' [row u g.length x (q3 eB g) 5 1]/\(g.length<=b.length+10)/\(b.length >= 128\/g.length=b.length+1)):=by
 unfold vw at hr
 refine cb Tryz.func141 ?_
 refine sr (Ar rfl (Mz rfl (Kz (vJ b.length) (fw (vU b.length) (Ie (e:=D1.wrap (b.length:Int)) yk (IntWalk.u64_in _ e6)) ?_))))
 obtain⟨a,c⟩:∃ q,sj b.length=q:=⟨_,rfl⟩
 obtain⟨E,h,y,j,z⟩:=Ii H
 refine cl Tryz.call117 (wG _ _ b.length a h e6 c) ?_
 rintro _ F ⟨G,I,rfl,l,d,f⟩
 have n:=j _ _ l
 have A:=zr 0 n
 replace d:1<=a.length/\a.length<=10:=d
 replace f:b.length >= 128\/a.length=1:=f
 refine Mz rfl ?_
 refine WL.do rfl (IM (k:=a.length) (m:=b.length) (yf) n rfl rfl (ER Tryz.underlying9 rfl) rfl e6 (s:=r8 (a++b)) f7 (r4).symm ?_)
 intro o p J r
 have B:r8 (a++b)=a.length+b.length:=by simp only [o1,s0,F2]
 refine An rfl (rt (rs ?_))
 have t:=r.pf []
 obtain rfl:=zj hr zq1
 exact⟨o,p,rfl,t,g1,g1⟩
def bX (b:dR) (c:Nat):dR:=
 bnd (sj c) λ a=>dR.mk (E2 (b.xb.ls++a))
theorem dX (w D g) (b:dR) (c d p) (r:dR) (H:Own w D w [blk g [.slice c b.xb.ls.length d] 159,row c b.xb.ls.length d (q3 eB b.xb.ls) 5 1]) (O:b.xb.ls.length<=9000000000/\p<=18446744073709551615) (hr:bX b p=r):
    Calls v8 79 #[vP g 0,vU p] w (d9 λ v w'=> ∃ e f,v= .tuple #[]/\Own w D w' [blk g [.slice e r.xb.ls.length f] 159,row e r.xb.ls.length f (q3 eB r.xb.ls) 5 1]/\(r.xb.ls.length<=b.xb.ls.length+10)):=by
 unfold bX at hr
 have E:=zr 1 H
 refine cb Tryz.func79 ?_
 have h:=H.drew
 refine Ji [7,10] (λ W=> ∃ L',Own w D W ([blk g [.slice c b.xb.ls.length d] 159,row c b.xb.ls.length d (q3 eB b.xb.ls) 5 1]++L')) e7 e7 IC ⟨_,h⟩ ?_
 revert h
 generalize World.drew w=P
 intro h
 refine IP (v:=vP g 0) 0 rfl e7 (λ _=>Iq rfl) (qv 1 rfl rfl (qp g 0 2 rfl (qp g 0 3 rfl (ql 4 rfl 0 Tryz.isAgg134 rfl rfl rfl (qv 5 rfl rfl ?_)))))
 obtain⟨a,j⟩:∃ q,sj p=q:=⟨_,rfl⟩
 obtain⟨Q,t,K,u,L⟩:=Ii h
 refine qd 6 rfl (Iz Tryz.call117 rfl (wG _ _ p a t e6 j) ?_)
 rintro _ R ⟨S,T,rfl,x,l,n⟩
 have y:=u _ _ x
 have M:=zr 0 y
 replace l:1<=a.length/\a.length<=10:=l
 replace n:p >= 128\/a.length=1:=n
 have z:=y.pb [0]
 refine⟨.inr ⟨_,z⟩, ?_⟩
 have A:=z.pf [1]
 refine qd 7 rfl (IM (k:=b.xb.ls.length) (m:=a.length) (yf) A rfl rfl (jv O4 (A.rds (i:=2) rfl) (fU xX a)) rfl e6 (s:=r8 (b.xb.ls++a)) f7 (r4).symm ?_)
 intro B C U F
 have N:r8 (b.xb.ls++a)=b.xb.ls.length+a.length:=by simp only [o1,s0,F2]
 refine⟨.inl e7, ?_⟩
 refine IP (v:=vP g 0) 8 rfl e7 (λ _=>yk) (IP (v:=vP g 0) 9 rfl e7 (λ _=>yk) ?_)
 have G:=F.pf [1]
 refine qe 10 rfl (Do.store (vs:= [.slice B (r8 (b.xb.ls++a)) C]) (o:=0) G rfl rfl Tryz.sizeOf134 rfl rfl rfl rfl ?_)
 intro V I
 refine⟨.inl e7, ?_⟩
 refine qn (IA (res0 rfl) ?_)
 have J:=I.pk [0,1]
 obtain rfl:=zj hr zq1
 exact⟨B,C,rfl,J,g1⟩
def iY (b:dR) (c:List UInt8):dR:=
 bnd (vw c) λ a=>dR.mk (E2 (b.xb.ls++a))
theorem lG (w D g) (b:dR) (c d j) (r:dR) (H:Own w D w [blk g [.slice c b.xb.ls.length d] 159,row c b.xb.ls.length d (q3 eB b.xb.ls) 5 1]) (O:b.xb.ls.length<=9000000000/\j.length<=16) (hr:iY b j=r):
    Calls v8 119 #[vP g 0, .string ⟨v9 j⟩] w (d9 λ v w'=> ∃ e f,v= .tuple #[]/\Own w D w' [blk g [.slice e r.xb.ls.length f] 159,row e r.xb.ls.length f (q3 eB r.xb.ls) 5 1]/\(r.xb.ls.length<=b.xb.ls.length+26)):=by
 unfold iY at hr
 have E:=zr 1 H
 refine cb Tryz.func119 ?_
 have h:=H.drew
 refine Ji [7,10] (λ W=> ∃ L',Own w D W ([blk g [.slice c b.xb.ls.length d] 159,row c b.xb.ls.length d (q3 eB b.xb.ls) 5 1]++L')) e7 e7 IC ⟨_,h⟩ ?_
 revert h
 generalize World.drew w=P
 intro h
 refine IP (v:=vP g 0) 0 rfl e7 (λ _=>Iq rfl) (qv 1 rfl rfl (qp g 0 2 rfl (qp g 0 3 rfl (ql 4 rfl 0 Tryz.isAgg134 rfl rfl rfl (qv 5 rfl rfl ?_)))))
 obtain⟨a,l⟩:∃ q,vw j=q:=⟨_,rfl⟩
 obtain⟨Q,t,K,u,L⟩:=Ii h
 refine qd 6 rfl (Iz Tryz.call141 rfl (zM _ _ j a t e6 l) ?_)
 rintro _ R ⟨S,T,rfl,x,n,p⟩
 have y:=u _ _ x
 have M:=zr 0 y
 replace n:a.length<=j.length+10:=n
 replace p:j.length >= 128\/a.length=j.length+1:=p
 have z:=y.pb [0]
 refine⟨.inr ⟨_,z⟩, ?_⟩
 have A:=z.pf [1]
 refine qd 7 rfl (IM (k:=b.xb.ls.length) (m:=a.length) (yf) A rfl rfl (jv O4 (A.rds (i:=2) rfl) (fU xX a)) rfl e6 (s:=r8 (b.xb.ls++a)) f7 (r4).symm ?_)
 intro B C U F
 have N:r8 (b.xb.ls++a)=b.xb.ls.length+a.length:=by simp only [o1,s0,F2]
 refine⟨.inl e7, ?_⟩
 refine IP (v:=vP g 0) 8 rfl e7 (λ _=>yk) (IP (v:=vP g 0) 9 rfl e7 (λ _=>yk) ?_)
 have G:=F.pf [1]
 refine qe 10 rfl (Do.store (vs:= [.slice B (r8 (b.xb.ls++a)) C]) (o:=0) G rfl rfl Tryz.sizeOf134 rfl rfl rfl rfl ?_)
 intro V I
 refine⟨.inl e7, ?_⟩
 refine qn (IA (res0 rfl) ?_)
 have J:=I.pk [0,1]
 obtain rfl:=zj hr zq1
 exact⟨B,C,rfl,J,g1⟩
def pK (d:dR) (c:aY):dR:=
 bnd (iY d c.bF) λ a=>bnd (bX a (D0 (D1.wrap c.eG))) λ b=>b
theorem uz (w D r) (h:dR) (b c) (a:aY) (s:dR) (H:Own w D w [blk r [.slice b h.xb.ls.length c] 159,row b h.xb.ls.length c (q3 eB h.xb.ls) 5 1]) (U:h.xb.ls.length<=8000000000) (V:(a.bF.length<=12)) (hr:pK h a=s):
    Calls v8 81 #[vP r 0, .agg (aY.cells a).toArray] w (d9 λ v w'=> ∃ d f,v= .tuple #[]/\Own w D w' [blk r [.slice d s.xb.ls.length f] 159,row d s.xb.ls.length f (q3 eB s.xb.ls) 5 1]/\(s.xb.ls.length<=h.xb.ls.length+40)):=by
 unfold pK at hr
 have F:=zr 1 H
 refine cb Tryz.func81 ?_
 refine sr ?_
 refine dV (aY.cells a) 89 H ?_
 intro t W u
 refine ns (Mz rfl (Kz (vP t 0) (Lz (.string ⟨v9 a.bF⟩) u 0 C2 ?_)))
 have G:=u.pb [0]
 obtain⟨g,j⟩:∃ q,iY h a.bF=q:=⟨_,rfl⟩
 obtain⟨X,x,N,y,O⟩:=IJ G
 refine cl O6 (lG _ _ r h b c a.bF g x f6 j) ?_
 rintro _ Y ⟨I,J,rfl,z,l⟩
 have o:=y _ _ z
 have P:=zr 1 o
 replace l:g.xb.ls.length<=h.xb.ls.length+26:=l
 refine nt (Ib (Mz rfl (Kz (vP t 1) (Lz (vI a.eG) o 2 C4 ?_))))
 refine WL.do rfl (Iz O7 rfl ?_ (λ _ _ k=>k))
 refine cb O8 ?_
 refine Ib (Mz rfl (Mz rfl ?_))
 have Q:D0 (D1.wrap a.eG)<=18446744073709551615:=mh _
 refine fw (vU (D0 (D1.wrap a.eG))) (Ie (e:=D1.wrap a.eG) yk (fD _)) ?_
 obtain⟨p,m⟩:∃ q,bX g (D0 (D1.wrap a.eG))=q:=⟨_,rfl⟩
 obtain⟨Z,A,R,B,S⟩:=IJ o
 refine cl O9 (dX _ _ r g I J (D0 (D1.wrap a.eG)) p A f6 m) ?_
 rintro _ aa ⟨K,L,rfl,C,n⟩
 have E:=B _ _ C
 have T:=zr 1 E
 replace n:p.xb.ls.length<=g.xb.ls.length+10:=n
 refine C6 (IA (res0 rfl) (C6 (IA (res0 rfl) ?_)))
 have M:=E.pk [0,1]
 obtain rfl:=zj hr zq2
 exact⟨K,L,rfl,M,g1⟩
def mi (d:dR) (c:aI):dR:=
 bnd (iY d c.bY) λ a=>bnd (iY a c.aT) λ b=>b
theorem qO (w D m) (j:dR) (c d) (a:aI) (u:dR) (H:Own w D w [blk m [.slice c j.xb.ls.length d] 159,row c j.xb.ls.length d (q3 eB j.xb.ls) 5 1]) (X:j.xb.ls.length<=8000000000) (Y:(a.bY.length<=12/\a.aT.length<=16)) (hr:mi j a=u):
    Calls v8 145 #[vP m 0, .agg (aI.cells a).toArray] w (d9 λ v w'=> ∃ e f,v= .tuple #[]/\Own w D w' [blk m [.slice e u.xb.ls.length f] 159,row e u.xb.ls.length f (q3 eB u.xb.ls) 5 1]/\(u.xb.ls.length<=j.xb.ls.length+60)):=by
 unfold mi at hr
 have K:=zr 1 H
 refine cb Tryz.func145 ?_
 refine sr ?_
 refine dV (aI.cells a) 153 H ?_
 intro x Z s
 refine nt (Ib (Mz rfl (Kz (.func (.func 119) #[vP m 0] #[]) (Kz (vP x 0) (Lz (.string ⟨v9 a.bY⟩) s 0 C2 (Kz (vP x 1) (Lz (.string ⟨v9 a.aT⟩) s 0 C2 ?_)))))))
 refine lg [.string ⟨v9 a.bY⟩, .string ⟨v9 a.aT⟩] 9 1 2 s ?_
 intro b aa g
 replace g:=IL (y:=row b 2 2 (q3 eS ([a.bY,a.aT])) 9 1) rfl g
 refine WL.do rfl (Iz Tryz.call161 rfl ?_ (λ _ _ k=>k))
 refine cb Tryz.func161 ?_
 refine sr (Mz rfl (Kz (vI 2) (Mn rfl (bo (Jw 200 (sr (Kz (.bool true) (nt (Ic (jt (sk (Ic (bo (sr ?_))))))))))))))
 have z:([a.bY,a.aT]:List (List UInt8))[0]? =some a.bY:=rfl
 refine fw (.pointer (some ⟨ab b,ao b+0 *1,none⟩)) (Ij (Ew) rfl rfl ((g.rds (i:=0) rfl).addr (i:=0) e6) e6) (fw (.string ⟨v9 a.bY⟩) (Io rfl (bZ.one C2 (((g.rds (i:=0) rfl).elem Ac z f4).at_ (k:=0) rfl))) (An rfl (Ib (Mz rfl (Mz rfl ?_)))))
 have L:=g.pb [0,1]
 obtain⟨h,n⟩:∃ q,iY j a.bY=q:=⟨_,rfl⟩
 obtain⟨ae,A,R,B,S⟩:=IJ L
 refine WL.do rfl (IK O6 rfl rfl (lG _ _ m j c d a.bY h A f6 n) ?_)
 rintro _ af ⟨M,N,rfl,C,o⟩
 have l:=B _ _ C
 have T:=zr 1 l
 replace o:h.xb.ls.length<=j.xb.ls.length+26:=o
 refine C6 (bN (Ig (Ib (Kz (vI 1) (Mz rfl (C6 (I8 [(8,vI 1),(7,vI 2),(6, .slice b 2 2),(0, .func (.func 119) #[vP m 0] #[])] ⟨rfl,rfl,rfl,rfl,trivial⟩ (sr (Kz (.bool true) (nt (Ic (jt (sk (Ic (bo (sr ?_))))))))))))))))
 have E:([a.bY,a.aT]:List (List UInt8))[1]? =some a.aT:=rfl
 refine fw (.pointer (some ⟨ab b,ao b+1 *1,none⟩)) (Ij (Ew) rfl rfl ((l.rds (i:=2) rfl).addr (i:=1) e6) e6) (fw (.string ⟨v9 a.aT⟩) (Io rfl (bZ.one C2 (((l.rds (i:=2) rfl).elem Ac E f4).at_ (k:=0) rfl))) (An rfl (Ib (Mz rfl (Mz rfl ?_)))))
 obtain⟨t,p⟩:∃ q,iY h a.aT=q:=⟨_,rfl⟩
 obtain⟨ag,F,U,G,V⟩:=IJ l
 refine WL.do rfl (IK O6 rfl rfl (lG _ _ m h M N a.aT t F f6 p) ?_)
 rintro _ ai ⟨O,P,rfl,I,r⟩
 have J:=G _ _ I
 have W:=zr 1 J
 replace r:t.xb.ls.length<=h.xb.ls.length+26:=r
 refine C6 (bN (Ig (Ib (Kz (vI 2) (Mz rfl (C6 (I8 [(8,vI 2),(7,vI 2),(6, .slice b 2 2),(0, .func (.func 119) #[vP m 0] #[])] ⟨rfl,rfl,rfl,rfl,trivial⟩ (sr (Kz (.bool false) (nt (Ic (jf (C7 (Il (Il (IB (IA (res0 rfl) (C6 (IA (res0 rfl) ?_)))))))))))))))))))
 have Q:=J.pk [0,1]
 obtain rfl:=zj hr zq2
 exact⟨O,P,rfl,Q,g1⟩
def jD:List aI->List UInt8->(List UInt8)
  | [],a=>a
  | c::d,a=>bnd (mi (dR.mk (E2 a)) c) λ b=>jD d b.xb.ls
def jE:List aI->List UInt8->(List UInt8)
  | [],a=>a
  | c::d,a=>bnd (mi (dR.mk (E2 a)) c) λ b=>jE d b.xb.ls
def o8 (h:dR) (a:aQ):dR:=
 if a.eF=true then bnd (bX h 1) λ e=>bnd (iY e a.aT) λ f=>bnd (bX f a.ak.ls.length) λ g=>bnd (jD a.ak.ls g.xb.ls) λ sLrtbbbL=>dR.mk (E2 sLrtbbbL) else bnd (bX h 0) λ b=>bnd (iY b a.aT) λ c=>bnd (bX c a.ak.ls.length) λ d=>bnd (jE a.ak.ls d.xb.ls) λ sLrfbbbL=>dR.mk (E2 sLrfbbbL)
theorem uj (w D n) (E:dR) (A B) (a:aQ) (c ai f) (r0:dR) (H:Own w D w [blk n [.slice A E.xb.ls.length B] 159,row A E.xb.ls.length B (q3 eB E.xb.ls) 5 1]) (aH:ai=a.ak.ls.length) (h:Ro w D λ w'=>bE w' 2 c a.ak.ls.length (q3 aI.cells a.ak.ls)) (dx:a.ak.ls.length<=f/\a.ak.ls.length<=9223372036854775807) (fV:E.xb.ls.length<=7000000000) (ag:(a.aT.length<=16/\a.ak.ls.length<=4/\∀ q ∈ a.ak.ls,q.bY.length<=12/\q.aT.length<=16)) (hr:o8 E a=r0):
    Calls v8 124 #[vP n 0, .agg #[.bool a.eF, .string ⟨v9 a.aT⟩, .slice c ai f]] w (d9 λ v w'=> ∃ F G,v= .tuple #[]/\Own w D w' [blk n [.slice F r0.xb.ls.length G] 159,row F r0.xb.ls.length G (q3 eB r0.xb.ls) 5 1]/\(r0.xb.ls.length<=E.xb.ls.length+300)):=by
 unfold o8 at hr
 subst aH
 have dz:=zr 1 H
 have eO:=ag.1
 have eP:=ag.2.1
 refine cb Tryz.func124 ?_
 refine sr ?_
 refine dV [.bool a.eF, .string ⟨v9 a.aT⟩, .slice c a.ak.ls.length f] 149 H ?_
 intro x fZ aJ
 refine ns (An rfl (Ic (sr (Kz (vP x 0) (Lz (.bool a.eF) aJ 0 Tryz.isAgg4 (nt ?_))))))
 rcases Li (a.eF) with I | I
 refine jT I (Ib (Ar rfl (Mz rfl (Mz rfl ?_))))
 refine WL.do rfl (Iz O7 rfl ?_ (λ _ _ k=>k))
 refine cb O8 ?_
 refine Ib (Mz rfl (Mz rfl (fw (.int .u64 1) (Ie (e:=D1.wrap 1) yk (IntWalk.u64_in _ e6)) ?_)))
 have dA:=aJ.pb [0]
 obtain⟨J,aj⟩:∃ q,bX E 1=q:=⟨_,rfl⟩
 obtain⟨gp,bz,eQ,bA,eT⟩:=IJ dA
 refine cl O9 (dX _ _ n E A B 1 J bz f6 aj) ?_
 rintro _ gq ⟨dB,dC,rfl,bB,ak⟩
 have aK:=bA _ _ bB
 have eU:=zr 1 aK
 replace ak:J.xb.ls.length<=E.xb.ls.length+10:=ak
 refine C6 (IA (res0 rfl) (ns (Mz rfl (Kz (vP x 1) (Lz (.string ⟨v9 a.aT⟩) aK 2 C2 ?_)))))
 obtain⟨K,au⟩:∃ q,iY J a.aT=q:=⟨_,rfl⟩
 obtain⟨gu,bC,eX,bD,eY⟩:=IJ aK
 refine cl O6 (lG _ _ n J dB dC a.aT K bC f6 au) ?_
 rintro _ gy ⟨dD,dE,rfl,bF,av⟩
 have aL:=bD _ _ bF
 have eZ:=zr 1 aL
 replace av:K.xb.ls.length<=J.xb.ls.length+26:=av
 refine nt (Ib (Mz rfl (Kz (vP x 2) (Lz (.slice c a.ak.ls.length f) aL 2 Tryz.isAgg147 (Mz rfl (Kz (.func (.func 145) #[vP n 0] #[]) ?_))))))
 refine WL.do rfl (Iz Tryz.call144 rfl ?_ (λ _ _ k=>k))
 refine cb Tryz.func144 ?_
 refine sr (Mz rfl (Mz rfl (Kz (vJ a.ak.ls.length) ?_)))
 refine WL.do rfl (Iz O7 rfl ?_ (λ _ _ k=>k))
 refine cb O8 ?_
 refine Ib (Mz rfl (Mz rfl (fw (vU a.ak.ls.length) (Ie (e:=D1.wrap (a.ak.ls.length:Int)) yk (IntWalk.u64_in _ e6)) ?_)))
 obtain⟨C,ax⟩:∃ q,bX K a.ak.ls.length=q:=⟨_,rfl⟩
 obtain⟨gz,bG,fe,bH,fo⟩:=IJ aL
 refine cl O9 (dX _ _ n K dD dE a.ak.ls.length C bG f6 ax) ?_
 rintro _ gB ⟨dG,dH,rfl,bI,ay⟩
 have bJ:=bH _ _ bI
 have fq:=zr 1 bJ
 replace ay:C.xb.ls.length<=K.xb.ls.length+10:=ay
 refine C6 (IA (res0 rfl) (nt (Ib (Mz rfl (Mz rfl ?_)))))
 refine WL.do rfl (Iz Tryz.call160 rfl ?_ (λ _ _ k=>k))
 refine cb Tryz.func160 ?_
 refine sr (Mz rfl (Kz (vJ a.ak.ls.length) (Mn rfl (bo ?_))))
 have dI:=bJ.pb [1]
 obtain⟨dJ,L⟩:=sQ λ (g:Nat) M (N:Nat) j w'=>Own w D w' [blk n [.slice M j.length N] 159,blk x [.bool a.eF, .string ⟨v9 a.aT⟩, .slice c a.ak.ls.length f] 149,row M j.length N (q3 eB j) 5 1]/\g<=a.ak.ls.length/\(j.length:Int)<=(C.xb.ls.length:Int)+60 *(g:Int)/\jD a.ak.ls C.xb.ls=jD (r3 g a.ak.ls) j
 refine C3 (λ i:Nat × (Option Addr) × Nat × (List UInt8)=> [(8,vJ i.1),(7,vJ a.ak.ls.length),(6, .slice c a.ak.ls.length f),(0, .func (.func 145) #[vP n 0] #[])]) dJ (λ i=>a.ak.ls.length - i.1) (0,dG,dH,C.xb.ls) ⟨rfl,rfl,rfl,rfl,trivial⟩ (L.2 ⟨dI,e6,e6,rfl⟩) ?_
 rintro ⟨g,M,N,j⟩ gD bK
 obtain⟨O,fu,fA,az⟩:=L.1 bK
 refine sr (Kz (.bool (decide ((g:Int) < (a.ak.ls.length:Int)))) (nt (Ic ?_)))
 by_cases bL:(g:Int) < (a.ak.ls.length:Int)
 obtain⟨o,P⟩:=dN (ls:=a.ak.ls) (i:=g) aI.len f4 (O.ro h) e9
 have bM:o.bY.length<=12/\o.aT.length<=16:=ag.2.2 _ (D3 P)
 have bO:=drop_at P
 refine jT (dT bL) (sk (Ic (bo (sr (fw (.pointer (some ⟨ab c,ao c+g *2,none⟩)) (Ij (ko) rfl rfl ((O.ro h).addr (i:=g) e6) e6) (fw (.agg (aI.cells o).toArray) (Io rfl (Iy (cs:=(aI.cells o)) I0 I2 ((O.ro h).elem aI.len P f4))) ?_))))))
 refine dV [.string ⟨v9 []⟩, .string ⟨v9 []⟩] 153 O ?_
 intro gF gG dK
 refine dS (aI.cells o) 0 dK I2 ?_
 intro gH bP
 refine nt (Ib (Mz rfl (La (aI.cells o) bP 0 I0 I2 ?_)))
 have dL:=bP.pb [0,2]
 obtain⟨aM,aA⟩:∃ q,mi (dR.mk (E2 j)) o=q:=⟨_,rfl⟩
 obtain⟨gI,bQ,fC,bR,fD⟩:=IJ dL
 refine WL.do rfl (IK Tryz.call145 rfl rfl (qO _ _ n (dR.mk (E2 j)) M N o aM bQ f6 (by exact bM) aA) ?_)
 rintro _ fE ⟨bS,bT,rfl,aN,Q⟩
 have aB:=bR _ _ aN
 have dM:=zr 1 aB
 replace Q:aM.xb.ls.length<=j.length+60:=Q
 refine C6 (bN (Ig (Ib (fw (vJ (g+1)) (Ie (e:=C5.wrap ((g:Int)+1)) yk f0) (Mz rfl (C6 ?_))))))
 have bU:=aB.pk [0,3,1]
 exact Ir (g+1,bS,bT,aM.xb.ls) ⟨rfl,rfl,rfl,rfl,trivial⟩ (L.2 ⟨bU,e6,e6,et (az) (et (congrArg (λ q=>jD q j) bO) (ah aA))⟩) (by show a.ak.ls.length - (g+1) < a.ak.ls.length - g; omega)
 refine jF (dF bL) (C7 (Il ?_))
 have aO:jD a.ak.ls C.xb.ls=j:=et (az) (et (congrArg (λ q=>jD q j) (fB (ls:=a.ak.ls) (i:=g) e6)) rfl)
 refine Il (IB (IA (res0 rfl) (C6 (IA (res0 rfl) (C6 (IA (res0 rfl) ?_))))))
 have bV:=O.pk [0,2]
 obtain rfl:=zj hr zq5
 exact⟨M,N,rfl,bV,g1⟩
 refine jF I (sk (sr (Mz rfl (Mz rfl ?_))))
 refine WL.do rfl (Iz O7 rfl ?_ (λ _ _ k=>k))
 refine cb O8 ?_
 refine Ib (Mz rfl (Mz rfl (fw (.int .u64 0) (Ie (e:=D1.wrap 0) yk (IntWalk.u64_in _ e6)) ?_)))
 have bW:=aJ.pb [0]
 obtain⟨p,R⟩:∃ q,bX E 0=q:=⟨_,rfl⟩
 obtain⟨fF,aP,dO,aR,dP⟩:=IJ bW
 refine cl O9 (dX _ _ n E A B 0 p aP f6 R) ?_
 rintro _ fG ⟨bY,bZ,rfl,aS,S⟩
 have T:=aR _ _ aS
 have dQ:=zr 1 T
 replace S:p.xb.ls.length<=E.xb.ls.length+10:=S
 refine C6 (IA (res0 rfl) (ns (Mz rfl (Kz (vP x 1) (Lz (.string ⟨v9 a.aT⟩) T 2 C2 ?_)))))
 obtain⟨r,U⟩:∃ q,iY p a.aT=q:=⟨_,rfl⟩
 obtain⟨fH,aT,dU,aU,dW⟩:=IJ T
 refine cl O6 (lG _ _ n p bY bZ a.aT r aT f6 U) ?_
 rintro _ fI ⟨cu,cz,rfl,aV,V⟩
 have W:=aU _ _ aV
 have dY:=zr 1 W
 replace V:r.xb.ls.length<=p.xb.ls.length+26:=V
 refine nt (Ib (Mz rfl (Kz (vP x 2) (Lz (.slice c a.ak.ls.length f) W 2 Tryz.isAgg147 (Mz rfl (Kz (.func (.func 145) #[vP n 0] #[]) ?_))))))
 refine WL.do rfl (Iz Tryz.call144 rfl ?_ (λ _ _ k=>k))
 refine cb Tryz.func144 ?_
 refine sr (Mz rfl (Mz rfl (Kz (vJ a.ak.ls.length) ?_)))
 refine WL.do rfl (Iz O7 rfl ?_ (λ _ _ k=>k))
 refine cb O8 ?_
 refine Ib (Mz rfl (Mz rfl (fw (vU a.ak.ls.length) (Ie (e:=D1.wrap (a.ak.ls.length:Int)) yk (IntWalk.u64_in _ e6)) ?_)))
 obtain⟨m,X⟩:∃ q,bX r a.ak.ls.length=q:=⟨_,rfl⟩
 obtain⟨fJ,aW,dZ,aX,ed⟩:=IJ W
 refine cl O9 (dX _ _ n r cu cz a.ak.ls.length m aW f6 X) ?_
 rintro _ fK ⟨cB,cK,rfl,aY,Y⟩
 have aC:=aX _ _ aY
 have ek:=zr 1 aC
 replace Y:m.xb.ls.length<=r.xb.ls.length+10:=Y
 refine C6 (IA (res0 rfl) (nt (Ib (Mz rfl (Mz rfl ?_)))))
 refine WL.do rfl (Iz Tryz.call160 rfl ?_ (λ _ _ k=>k))
 refine cb Tryz.func160 ?_
 refine sr (Mz rfl (Kz (vJ a.ak.ls.length) (Mn rfl (bo ?_))))
 have cO:=aC.pb [1]
 obtain⟨cZ,y⟩:=sQ λ (b:Nat) s (t:Nat) d w'=>Own w D w' [blk n [.slice s d.length t] 159,blk x [.bool a.eF, .string ⟨v9 a.aT⟩, .slice c a.ak.ls.length f] 149,row s d.length t (q3 eB d) 5 1]/\b<=a.ak.ls.length/\(d.length:Int)<=(m.xb.ls.length:Int)+60 *(b:Int)/\jE a.ak.ls m.xb.ls=jE (r3 b a.ak.ls) d
 refine C3 (λ i:Nat × (Option Addr) × Nat × (List UInt8)=> [(8,vJ i.1),(7,vJ a.ak.ls.length),(6, .slice c a.ak.ls.length f),(0, .func (.func 145) #[vP n 0] #[])]) cZ (λ i=>a.ak.ls.length - i.1) (0,cB,cK,m.xb.ls) ⟨rfl,rfl,rfl,rfl,trivial⟩ (y.2 ⟨cO,e6,e6,rfl⟩) ?_
 rintro ⟨b,s,t,d⟩ fM aZ
 obtain⟨u,eu,eD,Z⟩:=y.1 aZ
 refine sr (Kz (.bool (decide ((b:Int) < (a.ak.ls.length:Int)))) (nt (Ic ?_)))
 by_cases aD:(b:Int) < (a.ak.ls.length:Int)
 obtain⟨l,z⟩:=dN (ls:=a.ak.ls) (i:=b) aI.len f4 (u.ro h) e9
 have bf:l.bY.length<=12/\l.aT.length<=16:=ag.2.2 _ (D3 z)
 have bg:=drop_at z
 refine jT (dT aD) (sk (Ic (bo (sr (fw (.pointer (some ⟨ab c,ao c+b *2,none⟩)) (Ij (ko) rfl rfl ((u.ro h).addr (i:=b) e6) e6) (fw (.agg (aI.cells l).toArray) (Io rfl (Iy (cs:=(aI.cells l)) I0 I2 ((u.ro h).elem aI.len z f4))) ?_))))))
 refine dV [.string ⟨v9 []⟩, .string ⟨v9 []⟩] 153 u ?_
 intro fO fP df
 refine dS (aI.cells l) 0 df I2 ?_
 intro fQ aF
 refine nt (Ib (Mz rfl (La (aI.cells l) aF 0 I0 I2 ?_)))
 have dh:=aF.pb [0,2]
 obtain⟨aa,ae⟩:∃ q,mi (dR.mk (E2 d)) l=q:=⟨_,rfl⟩
 obtain⟨fT,bi,eF,bn,eG⟩:=IJ dh
 refine WL.do rfl (IK Tryz.call145 rfl rfl (qO _ _ n (dR.mk (E2 d)) s t l aa bi f6 (by exact bf) ae) ?_)
 rintro _ fU ⟨di,dm,rfl,bq,af⟩
 have aG:=bn _ _ bq
 have eH:=zr 1 aG
 replace af:aa.xb.ls.length<=d.length+60:=af
 refine C6 (bN (Ig (Ib (fw (vJ (b+1)) (Ie (e:=C5.wrap ((b:Int)+1)) yk f0) (Mz rfl (C6 ?_))))))
 have dn:=aG.pk [0,3,1]
 exact Ir (b+1,di,dm,aa.xb.ls) ⟨rfl,rfl,rfl,rfl,trivial⟩ (y.2 ⟨dn,e6,e6,et (Z) (et (congrArg (λ q=>jE q d) bg) (ah ae))⟩) (by show a.ak.ls.length - (b+1) < a.ak.ls.length - b; omega)
 refine jF (dF aD) (C7 (Il ?_))
 have bu:jE a.ak.ls m.xb.ls=d:=et (Z) (et (congrArg (λ q=>jE q d) (fB (ls:=a.ak.ls) (i:=b) e6)) rfl)
 refine Il (IB (IA (res0 rfl) (C6 (IA (res0 rfl) (C6 (IA (res0 rfl) ?_))))))
 have dw:=u.pk [0,2]
 obtain rfl:=zj hr zq5
 exact⟨s,t,rfl,dw,g1⟩
def jg:List Int->List UInt8->(List UInt8)
  | [],a=>a
  | c::d,a=>bnd (bX (dR.mk (E2 a)) (D0 (D1.wrap c))) λ b=>jg d b.xb.ls
def ou (g:dR) (a:bH):dR:=
 bnd (bX g a.aN) λ b=>bnd (bX b (D0 (D1.wrap a.aK))) λ c=>bnd (bX c a.av) λ d=>bnd (bX d a.aP) λ e=>bnd (bX e a.au.ls.length) λ f=>bnd (jg a.au.ls f.xb.ls) λ sLrbbbbbL=>dR.mk (E2 sLrbbbbbL)
theorem sZ (w D m) (N:dR) (t u) (a:bH) (d R f) (r0:dR) (H:Own w D w [blk m [.slice t N.xb.ls.length u] 159,row t N.xb.ls.length u (q3 eB N.xb.ls) 5 1]) (ag:R=a.au.ls.length) (n:Ro w D λ w'=>bE w' 1 d a.au.ls.length (q3 (eI .i64) a.au.ls)) (bq:a.au.ls.length<=f/\a.au.ls.length<=9223372036854775807) (dD:N.xb.ls.length<=7000000000) (O:(a.aN<=18446744073709551615/\a.av<=18446744073709551615/\a.aP<=18446744073709551615/\a.au.ls.length<=4)) (hr:ou N a=r0):
    Calls v8 83 #[vP m 0, .agg #[vU a.aN,vI a.aK,vU a.av,vU a.aP, .slice d R f]] w (d9 λ v w'=> ∃ x z,v= .tuple #[]/\Own w D w' [blk m [.slice x r0.xb.ls.length z] 159,row x r0.xb.ls.length z (q3 eB r0.xb.ls) 5 1]/\(r0.xb.ls.length<=N.xb.ls.length+100)):=by
 unfold ou at hr
 subst ag
 have bu:=zr 1 H
 have bT:=O.1
 have bU:=O.2.1
 have bV:=O.2.2.1
 have bW:=O.2.2.2
 refine cb Tryz.func83 ?_
 refine sr ?_
 refine dV [vU a.aN,vI a.aK,vU a.av,vU a.aP, .slice d a.au.ls.length f] 60 H ?_
 intro r dE aA
 refine ns (Mz rfl (Kz (vP r 0) (Lz (vU a.aN) aA 0 D4 ?_)))
 have bv:=aA.pb [0]
 obtain⟨A,S⟩:∃ q,bX N a.aN=q:=⟨_,rfl⟩
 obtain⟨dG,aB,bY,aC,cu⟩:=IJ bv
 refine cl O9 (dX _ _ m N t u a.aN A aB f6 S) ?_
 rintro _ dH ⟨bz,bA,rfl,aD,T⟩
 have ai:=aC _ _ aD
 have cz:=zr 1 ai
 replace T:A.xb.ls.length<=N.xb.ls.length+10:=T
 refine ns (Mz rfl (Kz (vP r 1) (Lz (vI a.aK) ai 2 C4 ?_)))
 refine WL.do rfl (Iz O7 rfl ?_ (λ _ _ k=>k))
 refine cb O8 ?_
 refine Ib (Mz rfl (Mz rfl ?_))
 have cB:D0 (D1.wrap a.aK)<=18446744073709551615:=mh _
 refine fw (vU (D0 (D1.wrap a.aK))) (Ie (e:=D1.wrap a.aK) yk (fD _)) ?_
 obtain⟨B,U⟩:∃ q,bX A (D0 (D1.wrap a.aK))=q:=⟨_,rfl⟩
 obtain⟨dI,aF,cK,aG,cO⟩:=IJ ai
 refine cl O9 (dX _ _ m A bz bA (D0 (D1.wrap a.aK)) B aF f6 U) ?_
 rintro _ dJ ⟨bB,bC,rfl,aH,V⟩
 have P:=aG _ _ aH
 have cZ:=zr 1 P
 replace V:B.xb.ls.length<=A.xb.ls.length+10:=V
 refine C6 (IA (res0 rfl) (ns (Mz rfl (Kz (.func (.func 79) #[vP m 0] #[]) (Kz (vP r 2) (Lz (vU a.av) P 2 D4 (Kz (vP r 3) (Lz (vU a.aP) P 2 D4 ?_))))))))
 refine lg [vU a.av,vU a.aP] 28 1 2 P ?_
 intro o dK C
 replace C:=IL (y:=row o 2 2 (q3 (eN .u64) ([a.av,a.aP])) 28 1) rfl C
 refine WL.do rfl (Iz Tryz.call78 rfl ?_ (λ _ _ k=>k))
 refine cb Tryz.func78 ?_
 refine sr (Mz rfl (Kz (vI 2) (Mn rfl (bo (Jw 200 (sr (Kz (.bool true) (nt (Ic (jt (sk (Ic (bo (sr ?_))))))))))))))
 have aI:([a.av,a.aP]:List Nat)[0]? =some a.av:=rfl
 refine fw (.pointer (some ⟨ab o,ao o+0 *1,none⟩)) (Ij (uY) rfl rfl ((C.rds (i:=0) rfl).addr (i:=0) e6) e6) (fw (vU a.av) (Io rfl (bZ.one D4 (((C.rds (i:=0) rfl).elem qw aI f4).at_ (k:=0) rfl))) (An rfl (Ib (Mz rfl (Mz rfl ?_)))))
 have bD:=C.pb [0,3]
 obtain⟨E,W⟩:∃ q,bX B a.av=q:=⟨_,rfl⟩
 obtain⟨dL,aJ,df,aK,dh⟩:=IJ bD
 refine WL.do rfl (IK O9 rfl rfl (dX _ _ m B bB bC a.av E aJ f6 W) ?_)
 rintro _ dM ⟨bF,bG,rfl,aL,X⟩
 have Q:=aK _ _ aL
 have di:=zr 1 Q
 replace X:E.xb.ls.length<=B.xb.ls.length+10:=X
 refine C6 (bN (Ig (Ib (Kz (vI 1) (Mz rfl (C6 (I8 [(8,vI 1),(7,vI 2),(6, .slice o 2 2),(0, .func (.func 79) #[vP m 0] #[])] ⟨rfl,rfl,rfl,rfl,trivial⟩ (sr (Kz (.bool true) (nt (Ic (jt (sk (Ic (bo (sr ?_))))))))))))))))
 have aM:([a.av,a.aP]:List Nat)[1]? =some a.aP:=rfl
 refine fw (.pointer (some ⟨ab o,ao o+1 *1,none⟩)) (Ij (uY) rfl rfl ((Q.rds (i:=2) rfl).addr (i:=1) e6) e6) (fw (vU a.aP) (Io rfl (bZ.one D4 (((Q.rds (i:=2) rfl).elem qw aM f4).at_ (k:=0) rfl))) (An rfl (Ib (Mz rfl (Mz rfl ?_)))))
 obtain⟨F,Y⟩:∃ q,bX E a.aP=q:=⟨_,rfl⟩
 obtain⟨dO,aN,dm,aO,dn⟩:=IJ Q
 refine WL.do rfl (IK O9 rfl rfl (dX _ _ m E bF bG a.aP F aN f6 Y) ?_)
 rintro _ dP ⟨bI,bJ,rfl,aP,Z⟩
 have aQ:=aO _ _ aP
 have dw:=zr 1 aQ
 replace Z:F.xb.ls.length<=E.xb.ls.length+10:=Z
 refine C6 (bN (Ig (Ib (Kz (vI 2) (Mz rfl (C6 (I8 [(8,vI 2),(7,vI 2),(6, .slice o 2 2),(0, .func (.func 79) #[vP m 0] #[])] ⟨rfl,rfl,rfl,rfl,trivial⟩ (sr (Kz (.bool false) (nt (Ic (jf (C7 (Il (Il (IB (IA (res0 rfl) (nt ?_))))))))))))))))))
 have aR:=aQ.pk [0,1,3]
 refine Ib (Mz rfl (Kz (vP r 4) (Lz (.slice d a.au.ls.length f) aR 2 Tryz.isAgg58 (Mz rfl (Kz (.func (.func 77) #[vP m 0] #[]) ?_)))))
 refine WL.do rfl (Iz Tryz.call121 rfl ?_ (λ _ _ k=>k))
 refine cb Tryz.func121 ?_
 refine sr (Mz rfl (Mz rfl (Kz (vJ a.au.ls.length) ?_)))
 refine WL.do rfl (Iz O7 rfl ?_ (λ _ _ k=>k))
 refine cb O8 ?_
 refine Ib (Mz rfl (Mz rfl (fw (vU a.au.ls.length) (Ie (e:=D1.wrap (a.au.ls.length:Int)) yk (IntWalk.u64_in _ e6)) ?_)))
 obtain⟨s,aa⟩:∃ q,bX F a.au.ls.length=q:=⟨_,rfl⟩
 obtain⟨dQ,aS,dx,aT,dz⟩:=IJ aR
 refine cl O9 (dX _ _ m F bI bJ a.au.ls.length s aS f6 aa) ?_
 rintro _ dS ⟨bK,aU,rfl,aV,G⟩
 have aW:=aT _ _ aV
 have bL:=zr 1 aW
 replace G:s.xb.ls.length<=F.xb.ls.length+10:=G
 refine C6 (IA (res0 rfl) (nt (Ib (Mz rfl (Mz rfl ?_)))))
 refine WL.do rfl (Iz Tryz.call142 rfl ?_ (λ _ _ k=>k))
 refine cb Tryz.func142 ?_
 refine sr (Mz rfl (Kz (vJ a.au.ls.length) (Mn rfl (bo ?_))))
 have aX:=aW.pb [1]
 obtain⟨aY,p⟩:=sQ λ (b:Nat) h (j:Nat) c w'=>Own w D w' [blk m [.slice h c.length j] 159,blk r [vU a.aN,vI a.aK,vU a.av,vU a.aP, .slice d a.au.ls.length f] 60,row h c.length j (q3 eB c) 5 1]/\b<=a.au.ls.length/\(c.length:Int)<=(s.xb.ls.length:Int)+10 *(b:Int)/\jg a.au.ls s.xb.ls=jg (r3 b a.au.ls) c
 refine C3 (λ i:Nat × (Option Addr) × Nat × (List UInt8)=> [(8,vJ i.1),(7,vJ a.au.ls.length),(6, .slice d a.au.ls.length f),(0, .func (.func 77) #[vP m 0] #[])]) aY (λ i=>a.au.ls.length - i.1) (0,bK,aU,s.xb.ls) ⟨rfl,rfl,rfl,rfl,trivial⟩ (p.2 ⟨aX,e6,e6,rfl⟩) ?_
 rintro ⟨b,h,j,c⟩ dA aj
 obtain⟨l,bM,bO,I⟩:=p.1 aj
 refine sr (Kz (.bool (decide ((b:Int) < (a.au.ls.length:Int)))) (nt (Ic ?_)))
 by_cases ae:(b:Int) < (a.au.ls.length:Int)
 obtain⟨g,J⟩:=dN (ls:=a.au.ls) (i:=b) jd f4 (l.ro n) e9
 have ak:=drop_at J
 refine jT (dT ae) (sk (Ic (bo (sr (fw (.pointer (some ⟨ab d,ao d+b *1,none⟩)) (Ij (om) rfl rfl ((l.ro n).addr (i:=b) e6) e6) (fw (vI g) (Io rfl (bZ.one C4 (((l.ro n).elem jd J f4).at_ (k:=0) rfl))) (An rfl (Ib (Mz rfl (Mz rfl ?_))))))))))
 refine WL.do rfl (IK O7 rfl rfl ?_ (λ _ _ k=>k))
 refine cb O8 ?_
 refine Ib (Mz rfl (Mz rfl ?_))
 have bP:D0 (D1.wrap g)<=18446744073709551615:=mh _
 refine fw (vU (D0 (D1.wrap g))) (Ie (e:=D1.wrap g) yk (fD _)) ?_
 have aZ:=l.pb [1]
 obtain⟨K,L⟩:∃ q,bX (dR.mk (E2 c)) (D0 (D1.wrap g))=q:=⟨_,rfl⟩
 obtain⟨dB,au,bQ,av,bR⟩:=IJ aZ
 refine cl O9 (dX _ _ m (dR.mk (E2 c)) h j (D0 (D1.wrap g)) K au f6 L) ?_
 rintro _ dC ⟨bf,bg,rfl,ax,M⟩
 have af:=av _ _ ax
 have bS:=zr 1 af
 replace M:K.xb.ls.length<=c.length+10:=M
 refine C6 (IA (res0 rfl) (C6 (bN (Ig (Ib (fw (vJ (b+1)) (Ie (e:=C5.wrap ((b:Int)+1)) yk f0) (Mz rfl (C6 ?_))))))))
 have bi:=af.pb [1]
 exact Ir (b+1,bf,bg,K.xb.ls) ⟨rfl,rfl,rfl,rfl,trivial⟩ (p.2 ⟨bi,e6,e6,et (I) (et (congrArg (λ q=>jg q c) ak) (ah L))⟩) (by show a.au.ls.length - (b+1) < a.au.ls.length - b; omega)
 refine jF (dF ae) (C7 (Il ?_))
 have ay:jg a.au.ls s.xb.ls=c:=et (I) (et (congrArg (λ q=>jg q c) (fB (ls:=a.au.ls) (i:=b) e6)) rfl)
 refine Il (IB (IA (res0 rfl) (C6 (IA (res0 rfl) (C6 (IA (res0 rfl) ?_))))))
 have bn:=l.pk [0,2]
 obtain rfl:=zj hr zq6
 exact⟨h,j,rfl,bn,g1⟩
def jY:List aQ->List UInt8->(List UInt8)
  | [],b=>b
  | a::d,b=>bnd (o8 (dR.mk (E2 b)) (aQ.mk a.eF a.aT (E2 a.ak.ls))) λ c=>jY d c.xb.ls
def pY (f:dR) (a:eD):dR:=
 bnd (bX f (D0 (D1.wrap a.aK))) λ b=>bnd (bX b a.av) λ c=>bnd (bX c a.aP) λ d=>bnd (bX d a.ai.ls.length) λ e=>bnd (jY a.ai.ls e.xb.ls) λ sLrbbbbL=>dR.mk (E2 sLrbbbbL)
theorem uO (w D l) (U:dR) (s t) (a:eD) (f Y h p) (r0:dR) (H:Own w D w [blk l [.slice s U.xb.ls.length t] 159,row s U.xb.ls.length t (q3 eB U.xb.ls) 5 1]) (u:List.map ae.abs p=a.ai.ls) (aA:Y=a.ai.ls.length) (m:Ro w D λ w'=>bE w' 3 f a.ai.ls.length (q3 ae.cells p)) (bH:a.ai.ls.length<=h/\a.ai.ls.length<=9223372036854775807) (B:∀ x ∈ p,Ro w D (λ w'=>bE w' 2 x.ak.A x.ak.ls.length (q3 aI.cells x.ak.ls))/\(x.ak.ls.length<=x.ak.c/\x.ak.ls.length<=9223372036854775807)) (dL:U.xb.ls.length<=6000000000) (V:(a.av<=18446744073709551615/\a.aP<=18446744073709551615/\a.ai.ls.length<=24/\∀ z ∈ a.ai.ls,z.aT.length<=16/\z.ak.ls.length<=4/\∀ q ∈ z.ak.ls,q.bY.length<=12/\q.aT.length<=16)) (hr:pY U a=r0):
    Calls v8 85 #[vP l 0, .agg #[vI a.aK,vU a.av,vU a.aP, .slice f Y h]] w (d9 λ v w'=> ∃ C E,v= .tuple #[]/\Own w D w' [blk l [.slice C r0.xb.ls.length E] 159,row C r0.xb.ls.length E (q3 eB r0.xb.ls) 5 1]/\(r0.xb.ls.length<=U.xb.ls.length+8000)):=by
 unfold pY at hr
 subst aA
 have bG:=aB u
 have bI:=zr 1 H
 have cK:=V.1
 have cO:=V.2.1
 have cZ:=V.2.2.1
 refine cb Tryz.func85 ?_
 refine sr ?_
 refine dV [vI a.aK,vU a.av,vU a.aP, .slice f a.ai.ls.length h] 56 H ?_
 intro F dM aM
 refine ns (Mz rfl (Kz (vP F 0) (Lz (vI a.aK) aM 0 C4 ?_)))
 refine WL.do rfl (Iz O7 rfl ?_ (λ _ _ k=>k))
 refine cb O8 ?_
 refine Ib (Mz rfl (Mz rfl ?_))
 have df:D0 (D1.wrap a.aK)<=18446744073709551615:=mh _
 refine fw (vU (D0 (D1.wrap a.aK))) (Ie (e:=D1.wrap a.aK) yk (fD _)) ?_
 have bJ:=aM.pb [0]
 obtain⟨G,Z⟩:∃ q,bX U (D0 (D1.wrap a.aK))=q:=⟨_,rfl⟩
 obtain⟨dO,aN,dh,aO,di⟩:=IJ bJ
 refine cl O9 (dX _ _ l U s t (D0 (D1.wrap a.aK)) G aN f6 Z) ?_
 rintro _ dP ⟨bK,bL,rfl,aP,aa⟩
 have W:=aO _ _ aP
 have dm:=zr 1 W
 replace aa:G.xb.ls.length<=U.xb.ls.length+10:=aa
 refine C6 (IA (res0 rfl) (ns (Mz rfl (Kz (.func (.func 79) #[vP l 0] #[]) (Kz (vP F 1) (Lz (vU a.av) W 2 D4 (Kz (vP F 2) (Lz (vU a.aP) W 2 D4 ?_))))))))
 refine lg [vU a.av,vU a.aP] 28 1 2 W ?_
 intro n dQ I
 replace I:=IL (y:=row n 2 2 (q3 (eN .u64) ([a.av,a.aP])) 28 1) rfl I
 refine WL.do rfl (Iz Tryz.call78 rfl ?_ (λ _ _ k=>k))
 refine cb Tryz.func78 ?_
 refine sr (Mz rfl (Kz (vI 2) (Mn rfl (bo (Jw 200 (sr (Kz (.bool true) (nt (Ic (jt (sk (Ic (bo (sr ?_))))))))))))))
 have aR:([a.av,a.aP]:List Nat)[0]? =some a.av:=rfl
 refine fw (.pointer (some ⟨ab n,ao n+0 *1,none⟩)) (Ij (uY) rfl rfl ((I.rds (i:=0) rfl).addr (i:=0) e6) e6) (fw (vU a.av) (Io rfl (bZ.one D4 (((I.rds (i:=0) rfl).elem qw aR f4).at_ (k:=0) rfl))) (An rfl (Ib (Mz rfl (Mz rfl ?_)))))
 have bM:=I.pb [0,3]
 obtain⟨J,af⟩:∃ q,bX G a.av=q:=⟨_,rfl⟩
 obtain⟨dU,aS,dn,aU,dw⟩:=IJ bM
 refine WL.do rfl (IK O9 rfl rfl (dX _ _ l G bK bL a.av J aS f6 af) ?_)
 rintro _ dW ⟨bO,bP,rfl,aV,ag⟩
 have X:=aU _ _ aV
 have dx:=zr 1 X
 replace ag:J.xb.ls.length<=G.xb.ls.length+10:=ag
 refine C6 (bN (Ig (Ib (Kz (vI 1) (Mz rfl (C6 (I8 [(8,vI 1),(7,vI 2),(6, .slice n 2 2),(0, .func (.func 79) #[vP l 0] #[])] ⟨rfl,rfl,rfl,rfl,trivial⟩ (sr (Kz (.bool true) (nt (Ic (jt (sk (Ic (bo (sr ?_))))))))))))))))
 have aW:([a.av,a.aP]:List Nat)[1]? =some a.aP:=rfl
 refine fw (.pointer (some ⟨ab n,ao n+1 *1,none⟩)) (Ij (uY) rfl rfl ((X.rds (i:=2) rfl).addr (i:=1) e6) e6) (fw (vU a.aP) (Io rfl (bZ.one D4 (((X.rds (i:=2) rfl).elem qw aW f4).at_ (k:=0) rfl))) (An rfl (Ib (Mz rfl (Mz rfl ?_)))))
 obtain⟨K,ai⟩:∃ q,bX J a.aP=q:=⟨_,rfl⟩
 obtain⟨dY,aX,dz,aY,dA⟩:=IJ X
 refine WL.do rfl (IK O9 rfl rfl (dX _ _ l J bO bP a.aP K aX f6 ai) ?_)
 rintro _ dZ ⟨bQ,bR,rfl,aZ,aj⟩
 have bf:=aY _ _ aZ
 have dB:=zr 1 bf
 replace aj:K.xb.ls.length<=J.xb.ls.length+10:=aj
 refine C6 (bN (Ig (Ib (Kz (vI 2) (Mz rfl (C6 (I8 [(8,vI 2),(7,vI 2),(6, .slice n 2 2),(0, .func (.func 79) #[vP l 0] #[])] ⟨rfl,rfl,rfl,rfl,trivial⟩ (sr (Kz (.bool false) (nt (Ic (jf (C7 (Il (Il (IB (IA (res0 rfl) (nt ?_))))))))))))))))))
 have bg:=bf.pk [0,1,3]
 refine Ib (Mz rfl (Kz (vP F 3) (Lz (.slice f a.ai.ls.length h) bg 2 Tryz.isAgg40 (Mz rfl (Kz (.func (.func 124) #[vP l 0] #[]) ?_)))))
 refine WL.do rfl (Iz Tryz.call123 rfl ?_ (λ _ _ k=>k))
 refine cb Tryz.func123 ?_
 refine sr (Mz rfl (Mz rfl (Kz (vJ a.ai.ls.length) ?_)))
 refine WL.do rfl (Iz O7 rfl ?_ (λ _ _ k=>k))
 refine cb O8 ?_
 refine Ib (Mz rfl (Mz rfl (fw (vU a.ai.ls.length) (Ie (e:=D1.wrap (a.ai.ls.length:Int)) yk (IntWalk.u64_in _ e6)) ?_)))
 obtain⟨r,au⟩:∃ q,bX K a.ai.ls.length=q:=⟨_,rfl⟩
 obtain⟨ed,bi,dC,bn,dD⟩:=IJ bg
 refine cl O9 (dX _ _ l K bQ bR a.ai.ls.length r bi f6 au) ?_
 rintro _ ek ⟨bS,bT,rfl,bq,av⟩
 have bu:=bn _ _ bq
 have dE:=zr 1 bu
 replace av:r.xb.ls.length<=K.xb.ls.length+10:=av
 refine C6 (IA (res0 rfl) (nt (Ib (Mz rfl (Mz rfl ?_)))))
 refine WL.do rfl (Iz Tryz.call143 rfl ?_ (λ _ _ k=>k))
 refine cb Tryz.func143 ?_
 refine sr (Mz rfl (Kz (vJ a.ai.ls.length) (Mn rfl (bo ?_))))
 have bU:=bu.pb [1]
 obtain⟨bV,L⟩:=sQ λ (d:Nat) M (N:Nat) g w'=>Own w D w' [blk l [.slice M g.length N] 159,blk F [vI a.aK,vU a.av,vU a.aP, .slice f a.ai.ls.length h] 56,row M g.length N (q3 eB g) 5 1]/\d<=a.ai.ls.length/\(g.length:Int)<=(r.xb.ls.length:Int)+300 *(d:Int)/\jY a.ai.ls r.xb.ls=jY (r3 d a.ai.ls) g
 refine C3 (λ i:Nat × (Option Addr) × Nat × (List UInt8)=> [(8,vJ i.1),(7,vJ a.ai.ls.length),(6, .slice f a.ai.ls.length h),(0, .func (.func 124) #[vP l 0] #[])]) bV (λ i=>a.ai.ls.length - i.1) (0,bS,bT,r.xb.ls) ⟨rfl,rfl,rfl,rfl,trivial⟩ (L.2 ⟨bU,e6,e6,rfl⟩) ?_
 rintro ⟨d,M,N,g⟩ eu bv
 obtain⟨O,bW,bY,P⟩:=L.1 bv
 refine sr (Kz (.bool (decide ((d:Int) < (a.ai.ls.length:Int)))) (nt (Ic ?_)))
 by_cases ax:(d:Int) < (a.ai.ls.length:Int)
 obtain⟨b,j⟩:=dN (ls:=p) (i:=d) ae.len f4 (O.ro m) e9
 have Q:=fF u j
 have cu:=(B _ (D3 j)).2
 have o:r8 (ae.abs b).aT<=16/\r8 (ae.abs b).ak.ls<=4/\∀ q ∈ (ae.abs b).ak.ls,q.bY.length<=12/\q.aT.length<=16:=V.2.2.2 _ (D3 Q)
 have hz108p0:b.aT.length<=16:=by have q9:=o.1; first | exact q9 | (simp only [ae.abs,s3] at q9; exact q9)
 have hz108p1:b.ak.ls.length<=4:=by have q9:=o.2.1; first | exact q9 | (simp only [ae.abs,s3] at q9; exact q9)
 have aD:=drop_at Q
 refine jT (dT ax) (sk (Ic (bo (sr (fw (.pointer (some ⟨ab f,ao f+d *3,none⟩)) (Ij (sI) rfl rfl ((O.ro m).addr (i:=d) e6) e6) (fw (.agg (ae.cells b).toArray) (Io rfl (Iy (cs:=(ae.cells b)) Tryz.isAgg149 E6 ((O.ro m).elem ae.len j f4))) ?_))))))
 refine dV [.bool false, .string ⟨v9 []⟩, .slice none 0 0] 149 O ?_
 intro dG dH bz
 refine dS (ae.cells b) 0 bz E6 ?_
 intro dI ay
 refine nt (Ib (Mz rfl (La (ae.cells b) ay 0 Tryz.isAgg149 E6 ?_)))
 have bA:=ay.pb [0,2]
 obtain⟨R,S⟩:∃ q,o8 (dR.mk (E2 g)) (aQ.mk b.eF b.aT (E2 b.ak.ls))=q:=⟨_,rfl⟩
 obtain⟨dJ,aF,aG,aH,cz⟩:=IJ bA
 refine WL.do rfl (IK Tryz.call124 rfl rfl (uj _ _ l (dR.mk (E2 g)) M N (aQ.mk b.eF b.aT (E2 b.ak.ls)) b.ak.A b.ak.ls.length b.ak.c R aF rfl (aG _ (B _ (D3 j)).1) e6 f6 (by exact o) S) ?_)
 rintro _ dK ⟨bB,bC,rfl,aJ,T⟩
 have az:=aH _ _ aJ
 have cB:=zr 1 az
 replace T:R.xb.ls.length<=g.length+300:=T
 refine C6 (bN (Ig (Ib (fw (vJ (d+1)) (Ie (e:=C5.wrap ((d:Int)+1)) yk f0) (Mz rfl (C6 ?_))))))
 have bD:=az.pk [0,3,1]
 exact Ir (d+1,bB,bC,R.xb.ls) ⟨rfl,rfl,rfl,rfl,trivial⟩ (L.2 ⟨bD,e6,e6,et (P) (et (congrArg (λ q=>jY q g) aD) (ah S))⟩) (by show a.ai.ls.length - (d+1) < a.ai.ls.length - d; omega)
 refine jF (dF ax) (C7 (Il ?_))
 have aK:jY a.ai.ls r.xb.ls=g:=et (P) (et (congrArg (λ q=>jY q g) (fB (ls:=a.ai.ls) (i:=d) e6)) rfl)
 refine Il (IB (IA (res0 rfl) (C6 (IA (res0 rfl) (C6 (IA (res0 rfl) ?_))))))
 have bF:=O.pk [0,2]
 obtain rfl:=zj hr zq5
 exact⟨M,N,rfl,bF,g1⟩
end
open List renaming map->s5
open _root_.Go.Proofs.Tryz renaming sizeOf56->P2,sizeOf60->P1,sizeOf89->P0
section
open Go.RowKit
def jZ (e:cZ):List aY->List UInt8->(List UInt8)
  | [],a=>a
  | c::d,a=>bnd (pK (dR.mk (E2 a)) c) λ b=>jZ e d b.xb.ls
def j3 (e:cZ):List bH->List UInt8->(List UInt8)
  | [],b=>b
  | a::d,b=>bnd (ou (dR.mk (E2 b)) (bH.mk a.aN a.aK a.av a.aP (E2 a.au.ls))) λ c=>j3 e d c.xb.ls
def j4:List eD->List UInt8->(List UInt8)
  | [],b=>b
  | a::d,b=>bnd (pY (dR.mk (E2 b)) (eD.mk a.aK a.av a.aP (E2 a.ai.ls))) λ c=>j4 d c.xb.ls
def fA (a:cZ):(List UInt8) × Int:=
 bnd (gJ a) λ b=>if b=0 then bnd (bX (dR.mk (E2 ([67]))) (D0 (D1.wrap a.au))) λ g=>bnd (bX g a.av) λ h=>bnd (bX h a.aV) λ i=>bnd (bX i a.aL) λ c=>bnd (bX c a.ag.ls.length) λ d=>bnd (jZ a a.ag.ls d.xb.ls) λ sLrbtbbbbbL=>bnd (bX (dR.mk (E2 sLrbtbbbbbL)) a.aj.ls.length) λ e=>bnd (j3 a a.aj.ls e.xb.ls) λ sLrbtbbbbbLabL=>bnd (bX (dR.mk (E2 sLrbtbbbbbLabL)) a.aF.ls.length) λ f=>bnd (j4 a.aF.ls f.xb.ls) λ sLrbtbbbbbLabLabL=>(sLrbtbbbbbLabLabL,0) else(([]:List UInt8),b)
theorem kJ (w D) (a:cZ) (n bU s o bV t aa p bW u af r0 r1) (H:Own w D w []) (dE:bU=a.ag.ls.length) (U:Ro w D λ w'=>bE w' 2 n a.ag.ls.length (q3 aY.cells a.ag.ls)) (iM:a.ag.ls.length<=s/\a.ag.ls.length<=9223372036854775807) (az:s5 aC.abs aa=a.aj.ls) (dG:bV=a.aj.ls.length) (V:Ro w D λ w'=>bE w' 5 o a.aj.ls.length (q3 aC.cells aa)) (iO:a.aj.ls.length<=t/\a.aj.ls.length<=9223372036854775807) (W:∀ x ∈ aa,Ro w D (λ w'=>bE w' 1 x.au.A x.au.ls.length (q3 (eI .i64) x.au.ls))/\(x.au.ls.length<=x.au.c/\x.au.ls.length<=9223372036854775807)) (aA:s5 aU.abs af=a.aF.ls) (dH:bW=a.aF.ls.length) (X:Ro w D λ w'=>bE w' 4 p a.aF.ls.length (q3 aU.cells af)) (iP:a.aF.ls.length<=u/\a.aF.ls.length<=9223372036854775807) (C:∀ x ∈ af,Ro w D (λ w'=>bE w' 3 x.ai.A x.ai.ls.length (q3 ae.cells x.ai.ls))/\(x.ai.ls.length<=x.ai.c/\x.ai.ls.length<=9223372036854775807)/\(∀ y1 ∈ x.ai.ls,Ro w D (λ w'=>bE w' 2 y1.ak.A y1.ak.ls.length (q3 aI.cells y1.ak.ls))/\(y1.ak.ls.length<=y1.ak.c/\y1.ak.ls.length<=9223372036854775807))) (lm:a.ag.ls.length<=140737488355328/\a.aj.ls.length<=140737488355328/\a.aF.ls.length<=140737488355328) (iQ:FR a) (hr:fA a=(r0,r1)):
    Calls Tryz.prog 54 #[.agg #[vI a.au,vU a.av,vU a.aV,vU a.aL, .slice n bU s, .slice o bV t, .slice p bW u]] w (d9 λ v w'=> ∃ B0 b0,v= .tuple #[.slice B0 r0.length b0,vI r1]/\Own w D w' [row B0 r0.length b0 (q3 eB r0) 5 1]/\(r0.length<=100000)):=by
 unfold fA at hr
 subst dE dG dH
 have iK:=aB az
 have iL:=aB aA
 refine cb Tryz.func54 ?_
 refine sr ?_
 refine dV [vI a.au,vU a.av,vU a.aV,vU a.aL, .slice n a.ag.ls.length s, .slice o a.aj.ls.length t, .slice p a.aF.ls.length u] 33 H ?_
 intro I lq fI
 refine Az rfl (An rfl (Ic (sr (La ([vI a.au,vU a.av,vU a.aV,vU a.aL, .slice n a.ag.ls.length s, .slice o a.aj.ls.length t, .slice p a.aF.ls.length u]) fI 0 Tryz.isAgg33 Tryz.sizeOf33 ?_))))
 obtain⟨aL,aJ⟩:∃ q,gJ a=q:=⟨_,rfl⟩
 obtain⟨lu,fJ,L,fK,jP⟩:=Ii fI
 refine cl Tryz.call19 (mV _ _ a n a.ag.ls.length s o a.aj.ls.length t aa p a.aF.ls.length u af aL fJ rfl (L _ U) e6 az rfl (L _ V) e6 (λ x9 h9=>⟨L _ (W x9 h9).1,(W x9 h9).2⟩) aA rfl (L _ X) e6 (λ x9 h9=>⟨L _ (C x9 h9).1,(C x9 h9).2.1,(λ y1 k1=>⟨L _ ((C x9 h9).2.2 y1 k1).1,((C x9 h9).2.2 y1 k1).2⟩)⟩) e8 aJ) ?_
 rintro _ iR ⟨rfl,fM⟩
 have fO:=fK _ _ fM
 refine Ar rfl (Mz rfl (fw (.bool (decide (¬ (aL=0)))) (IG (e:= !(decide (aL=0))) yk decide_not.symm) (nt ?_)))
 by_cases bQ:aL=0
 refine jF (dF (Lh bQ)) (sk (sr ?_))
 have B:=F3 (by rw [aJ]; omega) iQ
 have jR:a.ag.ls.length<=6:=B.1
 have jS:a.aj.ls.length<=8:=B.2.2.1
 have jU:a.aF.ls.length<=4:=B.2.2.2.2.1
 have jV:a.av<=18446744073709551615:=B.2.2.2.2.2.2.1
 have jW:a.aV<=18446744073709551615:=B.2.2.2.2.2.2.2.1
 have jX:a.aL<=18446744073709551615:=B.2.2.2.2.2.2.2.2
 refine lg [.int .u8 67] 5 1 1 fO ?_
 intro bR lv dI
 replace dI:=IL (y:=row bR 1 1 (q3 eB ([67])) 5 1) rfl dI
 refine Kz (.agg #[.slice bR 1 1]) ?_
 refine dV [.slice bR 1 1] 159 dI ?_
 intro f lw fP
 refine Ar rfl (Mz rfl (Kz (vP I 0) (Lz (vI a.au) fP 2 Tryz.isAgg3 ?_)))
 refine WL.do rfl (Iz O7 rfl ?_ (λ _ _ k=>k))
 refine cb O8 ?_
 refine Ib (Mz rfl (Mz rfl ?_))
 have jY:D0 (D1.wrap a.au)<=18446744073709551615:=mh _
 refine fw (vU (D0 (D1.wrap a.au))) (Ie (e:=D1.wrap a.au) yk (fD _)) ?_
 obtain⟨aM,bY⟩:∃ q,bX (dR.mk (E2 ([67]))) (D0 (D1.wrap a.au))=q:=⟨_,rfl⟩
 obtain⟨lC,fQ,j5,fT,j6⟩:=IJ fP
 refine cl O9 (dX _ _ f (dR.mk (E2 ([67]))) bR 1 (D0 (D1.wrap a.au)) aM fQ f6 bY) ?_
 rintro _ lD ⟨iT,iU,rfl,fU,cu⟩
 have aO:=fT _ _ fU
 have kg:=zr 1 aO
 replace cu:aM.xb.ls.length<=1+10:=cu
 refine C6 (IA (res0 rfl) (ns (Mz rfl (Kz (.func (.func 79) #[vP f 0] #[]) (Kz (vP I 1) (Lz (vU a.av) aO 2 D4 (Kz (vP I 2) (Lz (vU a.aV) aO 2 D4 (Kz (vP I 3) (Lz (vU a.aL) aO 2 D4 ?_))))))))))
 refine lg [vU a.av,vU a.aV,vU a.aL] 28 1 3 aO ?_
 intro E lF aQ
 replace aQ:=IL (y:=row E 3 3 (q3 (eN .u64) ([a.av,a.aV,a.aL])) 28 1) rfl aQ
 refine WL.do rfl (Iz Tryz.call78 rfl ?_ (λ _ _ k=>k))
 refine cb Tryz.func78 ?_
 refine sr (Mz rfl (Kz (vI 3) (Mn rfl (bo (Jw 200 (sr (Kz (.bool true) (nt (Ic (jt (sk (Ic (bo (sr ?_))))))))))))))
 have fV:([a.av,a.aV,a.aL]:List Nat)[0]? =some a.av:=rfl
 refine fw (.pointer (some ⟨ab E,ao E+0 *1,none⟩)) (Ij (uY) rfl rfl ((aQ.rds (i:=0) rfl).addr (i:=0) e6) e6) (fw (vU a.av) (Io rfl (bZ.one D4 (((aQ.rds (i:=0) rfl).elem qw fV f4).at_ (k:=0) rfl))) (An rfl (Ib (Mz rfl (Mz rfl ?_)))))
 have iV:=aQ.pb [0,3]
 obtain⟨aR,cz⟩:∃ q,bX aM a.av=q:=⟨_,rfl⟩
 obtain⟨lG,fZ,ko,gm,kr⟩:=IJ iV
 refine WL.do rfl (IK O9 rfl rfl (dX _ _ f aM iT iU a.av aR fZ f6 cz) ?_)
 rintro _ lH ⟨iW,iX,rfl,gp,cB⟩
 have bS:=gm _ _ gp
 have ku:=zr 1 bS
 replace cB:aR.xb.ls.length<=aM.xb.ls.length+10:=cB
 refine C6 (bN (Ig (Ib (Kz (vI 1) (Mz rfl (C6 (I8 [(8,vI 1),(7,vI 3),(6, .slice E 3 3),(0, .func (.func 79) #[vP f 0] #[])] ⟨rfl,rfl,rfl,rfl,trivial⟩ (sr (Kz (.bool true) (nt (Ic (jt (sk (Ic (bo (sr ?_))))))))))))))))
 have gq:([a.av,a.aV,a.aL]:List Nat)[1]? =some a.aV:=rfl
 refine fw (.pointer (some ⟨ab E,ao E+1 *1,none⟩)) (Ij (uY) rfl rfl ((bS.rds (i:=2) rfl).addr (i:=1) e6) e6) (fw (vU a.aV) (Io rfl (bZ.one D4 (((bS.rds (i:=2) rfl).elem qw gq f4).at_ (k:=0) rfl))) (An rfl (Ib (Mz rfl (Mz rfl ?_)))))
 obtain⟨aS,cK⟩:∃ q,bX aR a.aV=q:=⟨_,rfl⟩
 obtain⟨lI,gu,kv,gy,kw⟩:=IJ bS
 refine WL.do rfl (IK O9 rfl rfl (dX _ _ f aR iW iX a.aV aS gu f6 cK) ?_)
 rintro _ lJ ⟨iY,iZ,rfl,gz,cO⟩
 have bT:=gy _ _ gz
 have ky:=zr 1 bT
 replace cO:aS.xb.ls.length<=aR.xb.ls.length+10:=cO
 refine C6 (bN (Ig (Ib (Kz (vI 2) (Mz rfl (C6 (I8 [(8,vI 2),(7,vI 3),(6, .slice E 3 3),(0, .func (.func 79) #[vP f 0] #[])] ⟨rfl,rfl,rfl,rfl,trivial⟩ (sr (Kz (.bool true) (nt (Ic (jt (sk (Ic (bo (sr ?_))))))))))))))))
 have gB:([a.av,a.aV,a.aL]:List Nat)[2]? =some a.aL:=rfl
 refine fw (.pointer (some ⟨ab E,ao E+2 *1,none⟩)) (Ij (uY) rfl rfl ((bT.rds (i:=2) rfl).addr (i:=2) e6) e6) (fw (vU a.aL) (Io rfl (bZ.one D4 (((bT.rds (i:=2) rfl).elem qw gB f4).at_ (k:=0) rfl))) (An rfl (Ib (Mz rfl (Mz rfl ?_)))))
 obtain⟨ag,aT⟩:∃ q,bX aS a.aL=q:=⟨_,rfl⟩
 obtain⟨lK,gD,ja,dJ,jb⟩:=IJ bT
 refine WL.do rfl (IK O9 rfl rfl (dX _ _ f aS iY iZ a.aL ag gD f6 aT) ?_)
 rintro _ kz ⟨gF,gG,rfl,dK,aV⟩
 have aW:=dJ _ _ dK
 have jc:=zr 1 aW
 replace aV:ag.xb.ls.length<=aS.xb.ls.length+10:=aV
 refine C6 (bN (Ig (Ib (Kz (vI 3) (Mz rfl (C6 (I8 [(8,vI 3),(7,vI 3),(6, .slice E 3 3),(0, .func (.func 79) #[vP f 0] #[])] ⟨rfl,rfl,rfl,rfl,trivial⟩ (sr (Kz (.bool false) (nt (Ic (jf (C7 (Il (Il (IB (IA (res0 rfl) (ns (Mz rfl (Kz (vP I 4) (Lz (.slice n a.ag.ls.length s) aW 3 Tryz.isAgg29 (Mz rfl (Kz (.func (.func 81) #[vP f 0] #[]) ?_)))))))))))))))))))))))
 refine WL.do rfl (Iz Tryz.call80 rfl ?_ (λ _ _ k=>k))
 refine cb Tryz.func80 ?_
 refine sr (Mz rfl (Mz rfl (Kz (vJ a.ag.ls.length) ?_)))
 refine WL.do rfl (Iz O7 rfl ?_ (λ _ _ k=>k))
 refine cb O8 ?_
 refine Ib (Mz rfl (Mz rfl (fw (vU a.ag.ls.length) (Ie (e:=D1.wrap (a.ag.ls.length:Int)) yk (IntWalk.u64_in _ e6)) ?_)))
 obtain⟨M,aX⟩:∃ q,bX ag a.ag.ls.length=q:=⟨_,rfl⟩
 obtain⟨kC,dL,jd,dM,je⟩:=IJ aW
 refine cl O9 (dX _ _ f ag gF gG a.ag.ls.length M dL f6 aX) ?_
 rintro _ kD ⟨gH,gI,rfl,dO,aZ⟩
 have df:=dM _ _ dO
 have jg:=zr 1 df
 replace aZ:M.xb.ls.length<=ag.xb.ls.length+10:=aZ
 refine C6 (IA (res0 rfl) (nt (Ib (Mz rfl (Mz rfl ?_)))))
 refine WL.do rfl (Iz Tryz.call118 rfl ?_ (λ _ _ k=>k))
 refine cb Tryz.func118 ?_
 refine sr (Mz rfl (Kz (vJ a.ag.ls.length) (Mn rfl (bo ?_))))
 have gK:=df.pb [1]
 obtain⟨gL,aD⟩:=sQ λ (g:Nat) aj (ak:Nat) l w'=>Own w D w' [blk f [.slice aj l.length ak] 159,row E 3 3 (q3 (eN .u64) ([a.av,a.aV,a.aL])) 28 1,blk I [vI a.au,vU a.av,vU a.aV,vU a.aL, .slice n a.ag.ls.length s, .slice o a.aj.ls.length t, .slice p a.aF.ls.length u] 33,row aj l.length ak (q3 eB l) 5 1]/\g<=a.ag.ls.length/\(l.length:Int)<=(M.xb.ls.length:Int)+40 *(g:Int)/\jZ a a.ag.ls M.xb.ls=jZ a (r3 g a.ag.ls) l
 refine Wp.loop (λ i:Nat × (Option Addr) × Nat × (List UInt8)=> [(8,vJ i.1),(7,vJ a.ag.ls.length),(6, .slice n a.ag.ls.length s),(0, .func (.func 81) #[vP f 0] #[])]) gL (λ i=>a.ag.ls.length - i.1) (0,gH,gI,M.xb.ls) ⟨rfl,rfl,rfl,rfl,trivial⟩ (aD.2 ⟨gK,e6,e6,rfl⟩) ?_
 rintro ⟨g,aj,ak,l⟩ kE dP
 obtain⟨N,jh,ji,bf⟩:=aD.1 dP
 refine sr (Kz (.bool (decide ((g:Int) < (a.ag.ls.length:Int)))) (nt (Ic ?_)))
 by_cases dh:(g:Int) < (a.ag.ls.length:Int)
 obtain⟨J,aF⟩:=dN (ls:=a.ag.ls) (i:=g) aY.len f4 (N.ro U) e9
 have dQ:J.bF.length<=12:=B.2.1 _ (D3 aF)
 have dU:=drop_at aF
 refine jT (dT dh) (sk (Ic (bo (sr (fw (.pointer (some ⟨ab n,ao n+g *2,none⟩)) (Ij (qY) rfl rfl ((N.ro U).addr (i:=g) e6) e6) (fw (.agg (aY.cells J).toArray) (Io rfl (Iy (cs:=(aY.cells J)) Tryz.isAgg89 P0 ((N.ro U).elem aY.len aF f4))) ?_))))))
 refine dV [.string ⟨List.toArray []⟩,vI 0] 89 N ?_
 intro kF kG gM
 refine dS (aY.cells J) 0 gM P0 ?_
 intro kH di
 refine nt (Ib (Mz rfl (La (aY.cells J) di 0 Tryz.isAgg89 P0 ?_)))
 have gN:=di.pf [1,4]
 obtain⟨bg,bi⟩:∃ q,pK (dR.mk (E2 l)) J=q:=⟨_,rfl⟩
 obtain⟨kI,dW,jk,dY,jl⟩:=IJ gN
 refine WL.do rfl (IK Tryz.call81 rfl rfl (uz _ _ f (dR.mk (E2 l)) aj ak J bg dW f6 (by exact dQ) bi) ?_)
 rintro _ kK ⟨gP,gQ,rfl,dZ,bn⟩
 have dm:=dY _ _ dZ
 have jm:=zr 1 dm
 replace bn:bg.xb.ls.length<=l.length+40:=bn
 refine C6 (bN (Ig (Ib (fw (vJ (g+1)) (Ie (e:=C5.wrap ((g:Int)+1)) yk f0) (Mz rfl (C6 ?_))))))
 have gT:=dm.px [] [2] [1]
 exact Ir (g+1,gP,gQ,bg.xb.ls) ⟨rfl,rfl,rfl,rfl,trivial⟩ (aD.2 ⟨gT,e6,e6,et (bf) (et (congrArg (λ q=>jZ a q l) dU) (ah bi))⟩) (by show a.ag.ls.length - (g+1) < a.ag.ls.length - g; omega)
 refine jF (dF dh) (C7 (Il ?_))
 have ed:jZ a a.ag.ls M.xb.ls=l:=et (bf) (et (congrArg (λ q=>jZ a q l) (fB (ls:=a.ag.ls) (i:=g) e6)) rfl)
 refine Il (IB (IA (res0 rfl) (C6 (IA (res0 rfl) (ns (Mz rfl (Kz (vP I 5) (Lz (.slice o a.aj.ls.length t) N 2 Tryz.isAgg30 (Mz rfl (Kz (.func (.func 83) #[vP f 0] #[]) ?_))))))))))
 refine WL.do rfl (Iz Tryz.call82 rfl ?_ (λ _ _ k=>k))
 refine cb Tryz.func82 ?_
 refine sr (Mz rfl (Mz rfl (Kz (vJ a.aj.ls.length) ?_)))
 refine WL.do rfl (Iz O7 rfl ?_ (λ _ _ k=>k))
 refine cb O8 ?_
 refine Ib (Mz rfl (Mz rfl (fw (vU a.aj.ls.length) (Ie (e:=D1.wrap (a.aj.ls.length:Int)) yk (IntWalk.u64_in _ e6)) ?_)))
 have gU:=N.pb [1,2]
 obtain⟨O,bq⟩:∃ q,bX (dR.mk (E2 l)) a.aj.ls.length=q:=⟨_,rfl⟩
 obtain⟨kL,ek,jo,eu,jq⟩:=IJ gU
 refine cl O9 (dX _ _ f (dR.mk (E2 l)) aj ak a.aj.ls.length O ek f6 bq) ?_
 rintro _ kM ⟨gV,gW,rfl,eF,bu⟩
 have dn:=eu _ _ eF
 have jr:=zr 1 dn
 replace bu:O.xb.ls.length<=l.length+10:=bu
 refine C6 (IA (res0 rfl) (nt (Ib (Mz rfl (Mz rfl ?_)))))
 refine WL.do rfl (Iz Tryz.call120 rfl ?_ (λ _ _ k=>k))
 refine cb Tryz.func120 ?_
 refine sr (Mz rfl (Kz (vJ a.aj.ls.length) (Mn rfl (bo ?_))))
 have gX:=dn.pb [1]
 obtain⟨gY,aG⟩:=sQ λ (h:Nat) ax (ay:Nat) m w'=>Own w D w' [blk f [.slice ax m.length ay] 159,row E 3 3 (q3 (eN .u64) ([a.av,a.aV,a.aL])) 28 1,blk I [vI a.au,vU a.av,vU a.aV,vU a.aL, .slice n a.ag.ls.length s, .slice o a.aj.ls.length t, .slice p a.aF.ls.length u] 33,row ax m.length ay (q3 eB m) 5 1]/\h<=a.aj.ls.length/\(m.length:Int)<=(O.xb.ls.length:Int)+100 *(h:Int)/\j3 a a.aj.ls O.xb.ls=j3 a (r3 h a.aj.ls) m
 refine Wp.loop (λ i:Nat × (Option Addr) × Nat × (List UInt8)=> [(8,vJ i.1),(7,vJ a.aj.ls.length),(6, .slice o a.aj.ls.length t),(0, .func (.func 83) #[vP f 0] #[])]) gY (λ i=>a.aj.ls.length - i.1) (0,gV,gW,O.xb.ls) ⟨rfl,rfl,rfl,rfl,trivial⟩ (aG.2 ⟨gX,e6,e6,rfl⟩) ?_
 rintro ⟨h,ax,ay,m⟩ kN eG
 obtain⟨P,jv,jw,bv⟩:=aG.1 eG
 refine sr (Kz (.bool (decide ((h:Int) < (a.aj.ls.length:Int)))) (nt (Ic ?_)))
 by_cases dw:(h:Int) < (a.aj.ls.length:Int)
 obtain⟨d,Y⟩:=dN (ls:=aa) (i:=h) aC.len f4 (P.ro V) e9
 have bz:=fF az Y
 have jy:=(W _ (D3 Y)).2
 have K:(aC.abs d).aN<=18446744073709551615/\(aC.abs d).av<=18446744073709551615/\(aC.abs d).aP<=18446744073709551615/\r8 (aC.abs d).au.ls<=4:=B.2.2.2.1 _ (D3 bz)
 have hz201p0:d.aN<=18446744073709551615:=by have F:=K.1; first | exact F | (simp only [aC.abs,s3] at F; exact F)
 have hz201p1:d.av<=18446744073709551615:=by have F:=K.2.1; first | exact F | (simp only [aC.abs,s3] at F; exact F)
 have hz201p2:d.aP<=18446744073709551615:=by have F:=K.2.2.1; first | exact F | (simp only [aC.abs,s3] at F; exact F)
 have hz201p3:d.au.ls.length<=4:=by have F:=K.2.2.2; first | exact F | (simp only [aC.abs,s3] at F; exact F)
 have eH:=drop_at bz
 refine jT (dT dw) (sk (Ic (bo (sr (fw (.pointer (some ⟨ab o,ao o+h *5,none⟩)) (Ij (kW) rfl rfl ((P.ro V).addr (i:=h) e6) e6) (fw (.agg (aC.cells d).toArray) (Io rfl (Iy (cs:=(aC.cells d)) Tryz.isAgg60 P1 ((P.ro V).elem aC.len Y f4))) ?_))))))
 refine dV [.int .u64 0,vI 0, .int .u64 0, .int .u64 0, .slice none 0 0] 60 P ?_
 intro kP kQ gZ
 refine dS (aC.cells d) 0 gZ P1 ?_
 intro kR dx
 refine nt (Ib (Mz rfl (La (aC.cells d) dx 0 Tryz.isAgg60 P1 ?_)))
 have ib:=dx.pf [1,4]
 obtain⟨bA,bB⟩:∃ q,ou (dR.mk (E2 m)) (bH.mk d.aN d.aK d.av d.aP (E2 d.au.ls))=q:=⟨_,rfl⟩
 obtain⟨kS,eO,eP,eQ,jA⟩:=IJ ib
 refine WL.do rfl (IK Tryz.call83 rfl rfl (sZ _ _ f (dR.mk (E2 m)) ax ay (bH.mk d.aN d.aK d.av d.aP (E2 d.au.ls)) d.au.A d.au.ls.length d.au.c bA eO rfl (eP _ (W _ (D3 Y)).1) e6 f6 (by exact K) bB) ?_)
 rintro _ kT ⟨ig,ik,rfl,eT,bC⟩
 have dz:=eQ _ _ eT
 have jB:=zr 1 dz
 replace bC:bA.xb.ls.length<=m.length+100:=bC
 refine C6 (bN (Ig (Ib (fw (vJ (h+1)) (Ie (e:=C5.wrap ((h:Int)+1)) yk f0) (Mz rfl (C6 ?_))))))
 have il:=dz.px [] [2] [1]
 exact Ir (h+1,ig,ik,bA.xb.ls) ⟨rfl,rfl,rfl,rfl,trivial⟩ (aG.2 ⟨il,e6,e6,et (bv) (et (congrArg (λ q=>j3 a q m) eH) (ah bB))⟩) (by show a.aj.ls.length - (h+1) < a.aj.ls.length - h; omega)
 refine jF (dF dw) (C7 (Il ?_))
 have eU:j3 a a.aj.ls O.xb.ls=m:=et (bv) (et (congrArg (λ q=>j3 a q m) (fB (ls:=a.aj.ls) (i:=h) e6)) rfl)
 refine Il (IB (IA (res0 rfl) (C6 (IA (res0 rfl) (ns (Mz rfl (Kz (vP I 6) (Lz (.slice p a.aF.ls.length u) P 2 Tryz.isAgg31 (Mz rfl (Kz (.func (.func 85) #[vP f 0] #[]) ?_))))))))))
 refine WL.do rfl (Iz Tryz.call84 rfl ?_ (λ _ _ k=>k))
 refine cb Tryz.func84 ?_
 refine sr (Mz rfl (Mz rfl (Kz (vJ a.aF.ls.length) ?_)))
 refine WL.do rfl (Iz O7 rfl ?_ (λ _ _ k=>k))
 refine cb O8 ?_
 refine Ib (Mz rfl (Mz rfl (fw (vU a.aF.ls.length) (Ie (e:=D1.wrap (a.aF.ls.length:Int)) yk (IntWalk.u64_in _ e6)) ?_)))
 have iq:=P.pb [1,2]
 obtain⟨Q,bD⟩:∃ q,bX (dR.mk (E2 m)) a.aF.ls.length=q:=⟨_,rfl⟩
 obtain⟨kU,eX,jC,eY,jD⟩:=IJ iq
 refine cl O9 (dX _ _ f (dR.mk (E2 m)) ax ay a.aF.ls.length Q eX f6 bD) ?_
 rintro _ kV ⟨iw,iy,rfl,fe,bF⟩
 have dA:=eY _ _ fe
 have jE:=zr 1 dA
 replace bF:Q.xb.ls.length<=m.length+10:=bF
 refine C6 (IA (res0 rfl) (nt (Ib (Mz rfl (Mz rfl ?_)))))
 refine WL.do rfl (Iz Tryz.call122 rfl ?_ (λ _ _ k=>k))
 refine cb Tryz.func122 ?_
 refine sr (Mz rfl (Kz (vJ a.aF.ls.length) (Mn rfl (bo ?_))))
 have iA:=dA.pb [1]
 obtain⟨iB,aH⟩:=sQ λ (j:Nat) R (S:Nat) r w'=>Own w D w' [blk f [.slice R r.length S] 159,row E 3 3 (q3 (eN .u64) ([a.av,a.aV,a.aL])) 28 1,blk I [vI a.au,vU a.av,vU a.aV,vU a.aL, .slice n a.ag.ls.length s, .slice o a.aj.ls.length t, .slice p a.aF.ls.length u] 33,row R r.length S (q3 eB r) 5 1]/\j<=a.aF.ls.length/\(r.length:Int)<=(Q.xb.ls.length:Int)+8000 *(j:Int)/\j4 a.aF.ls Q.xb.ls=j4 (r3 j a.aF.ls) r
 refine Wp.loop (λ i:Nat × (Option Addr) × Nat × (List UInt8)=> [(8,vJ i.1),(7,vJ a.aF.ls.length),(6, .slice p a.aF.ls.length u),(0, .func (.func 85) #[vP f 0] #[])]) iB (λ i=>a.aF.ls.length - i.1) (0,iw,iy,Q.xb.ls) ⟨rfl,rfl,rfl,rfl,trivial⟩ (aH.2 ⟨iA,e6,e6,rfl⟩) ?_
 rintro ⟨j,R,S,r⟩ kX fo
 obtain⟨T,jG,jH,bG⟩:=aH.1 fo
 refine sr (Kz (.bool (decide ((j:Int) < (a.aF.ls.length:Int)))) (nt (Ic ?_)))
 by_cases dB:(j:Int) < (a.aF.ls.length:Int)
 obtain⟨b,G⟩:=dN (ls:=af) (i:=j) aU.len f4 (T.ro X) e9
 have bI:=fF aA G
 have jI:=(C _ (D3 G)).2.1
 have jJ:r8 (s5 ae.abs b.ai.ls)=b.ai.ls.length:=s3 ..
 have Z:(aU.abs b).av<=18446744073709551615/\(aU.abs b).aP<=18446744073709551615/\r8 (aU.abs b).ai.ls<=24/\∀ z ∈ (aU.abs b).ai.ls,z.aT.length<=16/\z.ak.ls.length<=4/\∀ q ∈ z.ak.ls,q.bY.length<=12/\q.aT.length<=16:=B.2.2.2.2.2.1 _ (D3 bI)
 have hz260p0:b.av<=18446744073709551615:=by have F:=Z.1; first | exact F | (simp only [aU.abs,s3] at F; exact F)
 have hz260p1:b.aP<=18446744073709551615:=by have F:=Z.2.1; first | exact F | (simp only [aU.abs,s3] at F; exact F)
 have hz260p2:b.ai.ls.length<=24:=by have F:=Z.2.2.1; first | exact F | (simp only [aU.abs,s3] at F; exact F)
 have fq:=drop_at bI
 refine jT (dT dB) (sk (Ic (bo (sr (fw (.pointer (some ⟨ab p,ao p+j *4,none⟩)) (Ij (l6) rfl rfl ((T.ro X).addr (i:=j) e6) e6) (fw (.agg (aU.cells b).toArray) (Io rfl (Iy (cs:=(aU.cells b)) Tryz.isAgg56 P2 ((T.ro X).elem aU.len G f4))) ?_))))))
 refine dV [vI 0, .int .u64 0, .int .u64 0, .slice none 0 0] 56 T ?_
 intro kY kZ iC
 refine dS (aU.cells b) 0 iC P2 ?_
 intro lc dC
 refine nt (Ib (Mz rfl (La (aU.cells b) dC 0 Tryz.isAgg56 P2 ?_)))
 have iD:=dC.pf [1,4]
 obtain⟨bJ,bK⟩:∃ q,pY (dR.mk (E2 r)) (eD.mk b.aK b.av b.aP (E2 (s5 ae.abs b.ai.ls)))=q:=⟨_,rfl⟩
 obtain⟨lh,fu,bL,fC,jK⟩:=IJ iD
 refine WL.do rfl (IK Tryz.call85 rfl rfl (uO _ _ f (dR.mk (E2 r)) R S (eD.mk b.aK b.av b.aP (E2 (s5 ae.abs b.ai.ls))) b.ai.A b.ai.ls.length b.ai.c b.ai.ls bJ fu (rfl:s5 ae.abs b.ai.ls=s5 ae.abs b.ai.ls) f1 (λ w9 h9=>qg (aB (rfl:s5 ae.abs b.ai.ls=s5 ae.abs b.ai.ls)) ((bL _ (C _ (D3 G)).1) w9 h9)) e6 (λ x9 h9=>⟨bL _ ((C _ (D3 G)).2.2 x9 h9).1,((C _ (D3 G)).2.2 x9 h9).2⟩) f6 (by exact Z) bK) ?_)
 rintro _ ll ⟨iE,iF,rfl,fE,bM⟩
 have dD:=fC _ _ fE
 have jL:=zr 1 dD
 replace bM:bJ.xb.ls.length<=r.length+8000:=bM
 refine C6 (bN (Ig (Ib (fw (vJ (j+1)) (Ie (e:=C5.wrap ((j:Int)+1)) yk f0) (Mz rfl (C6 ?_))))))
 have iG:=dD.px [] [2] [1]
 exact Ir (j+1,iE,iF,bJ.xb.ls) ⟨rfl,rfl,rfl,rfl,trivial⟩ (aH.2 ⟨iG,e6,e6,et (bG) (et (congrArg (λ q=>j4 q r) fq) (ah bK))⟩) (by show a.aF.ls.length - (j+1) < a.aF.ls.length - j; omega)
 refine jF (dF dB) (C7 (Il ?_))
 have fG:j4 a.aF.ls Q.xb.ls=r:=et (bG) (et (congrArg (λ q=>j4 q r) (fB (ls:=a.aF.ls) (i:=j) e6)) rfl)
 refine Il (IB (IA (res0 rfl) (C6 (IA (res0 rfl) (ns (Mz rfl (Kz (vP f 0) (Kz (vP f 0) (Lz (.slice R r.length S) T 0 Tryz.isAgg134 (Az rfl (An rfl (rt (Fin.res (lW rfl rfl rfl) ?_)))))))))))))
 have iH:=T.pk [3]
 obtain⟨rfl,rfl⟩:=ic (zj hr zq12)
 exact⟨R,S,rfl,iH,(by first | omega | exact Lg _)⟩
 refine jT (dT bQ) (sr (Mz rfl (Az rfl (An rfl (rt (tR (Fin.res (lW rfl rfl rfl) ?_)))))))
 have iI:Own w D iR [row none 0 0 (q3 eB []) 5 1,blk I [vI a.au,vU a.av,vU a.aV,vU a.aL, .slice n a.ag.ls.length s, .slice o a.aj.ls.length t, .slice p a.aF.ls.length u] 33]:=fO.free (eZ 5 1)
 have iJ:=iI.pk [0]
 obtain⟨rfl,rfl⟩:=ic (zj hr zq2)
 exact⟨none,0,rfl,iJ,(by first | omega | exact Lg _)⟩
end
open List renaming getD->C0,not_mem_nil->y6
open _root_.Go.Proofs.Tryz renaming call65->P6,call89->P4,func89->P5,isAgg24->P3,sizeOf81->P7
section
open Go.RowKit
def fT (a:aA):Nat:=
 D0 (D1.wrap (((D0 (D1.wrap (((eU a.aa.av 32:Nat):Int)+(a.bP:Int))):Nat):Int)+1))
theorem qP (w D x) (a:aA) (b c d f g h i j k l n o p q r s t u z) (H:Own w D w [mK x a b a.aa.ag.ls.length c d f g h i j k l n o p q r s t u]) (hr:fT a=z):
    Calls v8 126 #[vP x 0] w (d9 λ v w'=>v=vU z/\Own w D w' [mK x a b a.aa.ag.ls.length c d f g h i j k l n o p q r s t u]/\(z<=18446744073709551615)):=by
 refine cb Tryz.func126 ?_
 refine sr (An rfl (Ic ?_))
 have y:=H.drew
 refine Ji [] (λ W=> ∃ L',Own w D W ([mK x a b a.aa.ag.ls.length c d f g h i j k l n o p q r s t u]++L')) e7 e7 (Iu IC) ⟨_,y⟩ ?_
 revert y
 generalize World.drew w=C
 intro y
 refine qv 0 rfl rfl (qp x 0 1 rfl (qp x 0 2 rfl (qp x 1 3 rfl (ql 4 rfl 0 D4 rfl rfl rfl ?_))))
 have B:eU a.aa.av 32<=18446744073709551615:=nZ _ _
 refine qt (v:=vU (eU a.aa.av 32)) 5 rfl (λ _ _=>Ie (Jv (m:=32) rfl rfl) (fD _)) (qv 6 rfl rfl (qp x 0 7 rfl (qp x 7 8 rfl (ql 9 rfl 0 D4 rfl rfl rfl (qt (v:= .int .u64 ((D0 (D1.wrap (((eU a.aa.av 32:Nat):Int)+(a.bP:Int))):Nat):Int)) 10 rfl (λ _ _=>Ie (e:=D1.wrap (((eU a.aa.av 32:Nat):Int)+(a.bP:Int))) yk (fD _)) (qt (v:= .int .u64 ((D0 (D1.wrap (((D0 (D1.wrap (((eU a.aa.av 32:Nat):Int)+(a.bP:Int))):Nat):Int)+1)):Nat):Int)) 11 rfl (λ _ _=>Ie (e:=D1.wrap (((D0 (D1.wrap (((eU a.aa.av 32:Nat):Int)+(a.bP:Int))):Nat):Int)+1)) yk (fD _)) (qa 12 rfl rfl (qn (Ig (rt (rs ?_)))))))))))
 have A:=y.pf []
 obtain rfl:_=D0 (D1.wrap (((D0 (D1.wrap (((eU a.aa.av 32:Nat):Int)+(a.bP:Int))):Nat):Int)+1)):=zj hr rfl
 exact⟨rfl,A,(by first | exact mh _ | omega)⟩
def il (b:aA):Nat:=
 bnd (fT b) λ a=>bnd (if(b.ay.ls.length:Int) > 0 then bnd (C0 b.ay.ls 0 default) λ c=>min a c.aR else a) λ sJrbJ=>if(b.aa.aj.ls.length:Int) > 0 then bnd (C0 b.aa.aj.ls 0 default) λ d=>min sJrbJ d.aN else sJrbJ
theorem o9 (w D p) (d:aA) (y z a f B C E b g F G I J K L M N O P Q r0) (H:Own w D w [mK p d y d.aa.ag.ls.length z a f C E b g G I J K L M N O P Q]) (R:s5 aC.abs B=d.aa.aj.ls) (r:Ro w D λ w'=>bE w' 5 a d.aa.aj.ls.length (q3 aC.cells B)) (aF:d.aa.aj.ls.length<=f/\d.aa.aj.ls.length<=9223372036854775807) (af:∀ x ∈ B,Ro w D (λ w'=>bE w' 1 x.au.A x.au.ls.length (q3 (eI .i64) x.au.ls))/\(x.au.ls.length<=x.au.c/\x.au.ls.length<=9223372036854775807)) (S:s5 bB.abs F=d.ay.ls) (s:Ro w D λ w'=>bE w' 9 b d.ay.ls.length (q3 bB.cells F)) (aG:d.ay.ls.length<=g/\d.ay.ls.length<=9223372036854775807) (m:∀ x ∈ F,Ro w D (λ w'=>bE w' 6 x.bV.A x.bV.ls.length (q3 bi.cells x.bV.ls))/\(x.bV.ls.length<=x.bV.c/\x.bV.ls.length<=9223372036854775807)/\Ro w D (λ w'=>bE w' 3 x.aG.A x.aG.ls.length (q3 bG.cells x.aG.ls))/\(x.aG.ls.length<=x.aG.c/\x.aG.ls.length<=9223372036854775807)/\(∀ j ∈ x.aG.ls,Ro w D (λ w'=>bE w' 6 j.aH.A j.aH.ls.length (q3 bi.cells j.aH.ls))/\(j.aH.ls.length<=j.aH.c/\j.aH.ls.length<=9223372036854775807)/\Ro w D (λ w'=>bE w' 1 j.aJ.A j.aJ.ls.length (q3 (eI .i64) j.aJ.ls))/\(j.aJ.ls.length<=j.aJ.c/\j.aJ.ls.length<=9223372036854775807))/\Ro w D (λ w'=>bE w' 1 x.bD.A x.bD.ls.length (q3 eL x.bD.ls))/\(x.bD.ls.length<=x.bD.c/\x.bD.ls.length<=9223372036854775807)/\Ro w D (λ w'=>bE w' 1 x.af.A x.af.ls.length (q3 (IX (β:=ae)) x.af.ls))/\(x.af.ls.length<=x.af.c/\x.af.ls.length<=9223372036854775807)/\(∀ j ∈ x.af.ls,Ro w D (λ w'=>bE w' 3 j.A j.ls.length (q3 ae.cells j.ls))/\(j.ls.length<=j.c/\j.ls.length<=9223372036854775807)/\(∀ y2 ∈ j.ls,Ro w D (λ w'=>bE w' 2 y2.ak.A y2.ak.ls.length (q3 aI.cells y2.ak.ls))/\(y2.ak.ls.length<=y2.ak.c/\y2.ak.ls.length<=9223372036854775807)))) (aY:d.aa.ag.ls.length<=1000/\d.aa.aj.ls.length<=1000/\d.aa.aF.ls.length<=1000/\d.ay.ls.length<=1000) (hr:il d=r0):
    Calls v8 108 #[vP p 0] w (d9 λ v w'=>v=vU r0/\Own w D w' [mK p d y d.aa.ag.ls.length z a f C E b g G I J K L M N O P Q]):=by
 unfold il at hr
 have az:=aB R
 have aD:=aB S
 refine cb Tryz.func108 ?_
 refine sr (Ar rfl (Mz rfl ?_))
 obtain⟨h,T⟩:∃ q,fT d=q:=⟨_,rfl⟩
 obtain⟨aZ,ai,aO,aj,aP⟩:=II H
 refine cl Tryz.call126 (qP _ _ p d y z a f C E b g G I J K L M N O P Q h ai T) ?_
 rintro _ bf ⟨rfl,ak,Z⟩
 have t:=aj _ _ ak
 replace Z:h<=18446744073709551615:=Z
 refine An rfl (Ic (sr (Mz rfl (Kz (vP p 0) (Kz (vP p 8) (Lz (.slice b d.ay.ls.length g) t 0 Tryz.isAgg79 (Kz (vJ d.ay.ls.length) (Kz (.bool (decide ((d.ay.ls.length:Int) > 0))) (nt ?_)))))))))
 obtain⟨aH,U⟩:=nQ λ (n:Nat) w'=>Own w D w' [mK p d y d.aa.ag.ls.length z a f C E b g G I J K L M N O P Q]/\n<=h/\(if(d.ay.ls.length:Int) > 0 then bnd (C0 d.ay.ls 0 default) λ au=>min h au.aR else h)=n
 refine IZ (λ i:Nat=> [(3,vU i),(2, .int .u64 0),(0,vP p 0)]) aH ?_ ?_
 by_cases X:(d.ay.ls.length:Int) > 0
 refine jT (dT X) (Ib (Mz rfl (Mz rfl (Kz (vP p 0) (Kz (vP p 8) (Lz (.slice b d.ay.ls.length g) t 0 Tryz.isAgg79 ?_))))))
 obtain⟨o,l⟩:=dN (ls:=F) (i:=0) bB.len f4 (t.ro s) e9
 have av:=fF S l
 have aQ:=(m _ (D3 l)).2.1
 have aR:=(m _ (D3 l)).2.2.2.1
 have aS:r8 (s5 bG.abs o.aG.ls)=o.aG.ls.length:=s3 ..
 have aT:=(m _ (D3 l)).2.2.2.2.2.2.1
 have aU:=(m _ (D3 l)).2.2.2.2.2.2.2.2.1
 have aV:r8 (s5 bO.abs o.af.ls)=o.af.ls.length:=s3 ..
 refine fw (.pointer (some ⟨ab b,ao b+0 *9,none⟩)) (Ij (qh) rfl rfl ((t.ro s).addr (i:=0) e6) e6) (Kz (.pointer (some ⟨ab b,ao b+0 *9,none⟩)) (fw (vU o.aR) (Io rfl (bZ.one D4 (((t.ro s).elem bB.len l f4).at_ (k:=0) rfl))) (fw (vU (min h o.aR)) (Ie (e:=if(o.aR:Int) < (h:Int) then(o.aR:Int) else(h:Int)) yk e6) (Az rfl (C6 ?_)))))
 have aJ:=t.pf []
 exact IQ (min h o.aR) ⟨rfl,rfl,rfl,trivial⟩ (U.2 ⟨aJ,e6,et (ip X) (ah (bJ av))⟩)
 refine jF (dF X) (IE ?_)
 have aK:=t.pf []
 exact IQ h ⟨rfl,rfl,rfl,trivial⟩ (U.2 ⟨aK,e6,iN X⟩)
 rintro n bg ax
 obtain⟨u,aW,aa⟩:=U.1 ax
 refine Ic (sr (Mz rfl (Kz (vP p 0) (Kz (vP p 0) (Kz (vP p 5) (Lz (.slice a d.aa.aj.ls.length f) u 0 Tryz.isAgg30 (Kz (vJ d.aa.aj.ls.length) (Kz (.bool (decide ((d.aa.aj.ls.length:Int) > 0))) (nt ?_)))))))))
 by_cases Y:(d.aa.aj.ls.length:Int) > 0
 refine jT (dT Y) (Ib (Mz rfl (Mz rfl (Kz (vP p 0) (Kz (vP p 0) (Kz (vP p 5) (Lz (.slice a d.aa.aj.ls.length f) u 0 Tryz.isAgg30 ?_)))))))
 obtain⟨V,W⟩:=dN (ls:=B) (i:=0) aC.len f4 (u.ro r) e9
 have ay:=fF R W
 have aX:=(af _ (D3 W)).2
 refine fw (.pointer (some ⟨ab a,ao a+0 *5,none⟩)) (Ij (kW) rfl rfl ((u.ro r).addr (i:=0) e6) e6) (Kz (.pointer (some ⟨ab a,ao a+0 *5,none⟩)) (fw (vU V.aN) (Io rfl (bZ.one D4 (((u.ro r).elem aC.len W f4).at_ (k:=0) rfl))) (fw (vU (min n V.aN)) (Ie (e:=if(V.aN:Int) < (n:Int) then(V.aN:Int) else(n:Int)) yk e6) (Ar rfl (Mz rfl (An rfl (rt (rs ?_))))))))
 have aL:=u.pf []
 obtain rfl:=zj hr zq4
 exact⟨rfl,aL⟩
 refine jF (dF Y) (sk (sr (Mz rfl (An rfl (rt (rs ?_))))))
 have aM:=u.pf []
 obtain rfl:=zj hr zq3
 exact⟨rfl,aM⟩
def dW (f:bI) (d:Int) (p2:bL) (a:aA):List eD->Unit ⊕ bI
  | []=>Sum.inl ()
  | b::c=>if b.aK=d then if(b.av:Int)=(p2.av:Int) then if(b.aP:Int)=(p2.aP:Int) then bnd (dw f (bL.mk 2 0 (C5.wrap (10+d)) 0 1 0 p2.aP a.aa.av 0 0 0 0 0 0 0 false (bC.mk [] []) (E2 []) (E2 b.ai.ls) (E2 []))) λ e=>Sum.inr (e) else dW f d p2 a c else dW f d p2 a c else dW f d p2 a c
def kZ (c:bI) (d:Int) (p2:bL) (a:aA):bI:=
 lp (dW c d p2 a a.aa.aF.ls) λ _=>bnd (dw c (bL.mk 2 0 (C5.wrap (10+d)) 0 2 0 p2.aP a.aa.av 0 0 0 0 0 0 0 false (bC.mk [] []) (E2 []) (E2 []) (E2 []))) λ b=>b
theorem uA (w D g0) (J:bI) (K L F I) (p2:bL) (au aQ av ax aR ay aF az aS aC d) (a:aA) (N O P Q g h o R S p r T s t U u y V z B W C E X) (r0:bI) (H:Own w D w [blk g0 [.pointer (some ⟨d,0,none⟩), .slice K J.aX.ls.length L] 98,row K J.aX.ls.length L (q3 bf.cells F) 42 21,sepL (q3 bf.own F),mK d a N a.aa.ag.ls.length O P Q g h R S p r s t u y z B C E]) (ag:s5 bf.abs F=J.aX.ls) (bu:aQ=p2.aH.ls.length) (dL:Ro w D λ w'=>bE w' 6 au p2.aH.ls.length (q3 bi.cells p2.aH.ls)) (dO:p2.aH.ls.length<=av/\p2.aH.ls.length<=9223372036854775807) (bv:s5 ae.abs aF=p2.ai.ls) (bz:aR=p2.ai.ls.length) (dP:Ro w D λ w'=>bE w' 3 ax p2.ai.ls.length (q3 ae.cells aF)) (dQ:p2.ai.ls.length<=ay/\p2.ai.ls.length<=9223372036854775807) (dR:∀ x ∈ aF,Ro w D (λ w'=>bE w' 2 x.ak.A x.ak.ls.length (q3 aI.cells x.ak.ls))/\(x.ak.ls.length<=x.ak.c/\x.ak.ls.length<=9223372036854775807)) (bA:aS=p2.ag.ls.length) (dU:Ro w D λ w'=>bE w' 2 az p2.ag.ls.length (q3 aY.cells p2.ag.ls)) (dX:p2.ag.ls.length<=aC/\p2.ag.ls.length<=9223372036854775807) (Y:s5 aU.abs o=a.aa.aF.ls) (G:Ro w D λ w'=>bE w' 4 g a.aa.aF.ls.length (q3 aU.cells o)) (bS:a.aa.aF.ls.length<=h/\a.aa.aF.ls.length<=9223372036854775807) (m:∀ x ∈ o,Ro w D (λ w'=>bE w' 3 x.ai.A x.ai.ls.length (q3 ae.cells x.ai.ls))/\(x.ai.ls.length<=x.ai.c/\x.ai.ls.length<=9223372036854775807)/\(∀ y1 ∈ x.ai.ls,Ro w D (λ w'=>bE w' 2 y1.ak.A y1.ak.ls.length (q3 aI.cells y1.ak.ls))/\(y1.ak.ls.length<=y1.ak.c/\y1.ak.ls.length<=9223372036854775807))) (aG:s5 ae.abs T=a.bK.af.ls) (bT:Ro w D λ w'=>bE w' 3 p a.bK.af.ls.length (q3 ae.cells T)) (bU:a.bK.af.ls.length<=r/\a.bK.af.ls.length<=9223372036854775807) (bV:∀ x ∈ T,Ro w D (λ w'=>bE w' 2 x.ak.A x.ak.ls.length (q3 aI.cells x.ak.ls))/\(x.ak.ls.length<=x.ak.c/\x.ak.ls.length<=9223372036854775807)) (aH:s5 ae.abs U=a.bA.af.ls) (bW:Ro w D λ w'=>bE w' 3 s a.bA.af.ls.length (q3 ae.cells U)) (bX:a.bA.af.ls.length<=t/\a.bA.af.ls.length<=9223372036854775807) (bY:∀ x ∈ U,Ro w D (λ w'=>bE w' 2 x.ak.A x.ak.ls.length (q3 aI.cells x.ak.ls))/\(x.ak.ls.length<=x.ak.c/\x.ak.ls.length<=9223372036854775807)) (aJ:s5 ae.abs V=a.bz.af.ls) (bZ:Ro w D λ w'=>bE w' 3 u a.bz.af.ls.length (q3 ae.cells V)) (cu:a.bz.af.ls.length<=y/\a.bz.af.ls.length<=9223372036854775807) (cz:∀ x ∈ V,Ro w D (λ w'=>bE w' 2 x.ak.A x.ak.ls.length (q3 aI.cells x.ak.ls))/\(x.ak.ls.length<=x.ak.c/\x.ak.ls.length<=9223372036854775807)) (aK:s5 ae.abs W=a.bv.af.ls) (cB:Ro w D λ w'=>bE w' 3 z a.bv.af.ls.length (q3 ae.cells W)) (cK:a.bv.af.ls.length<=B/\a.bv.af.ls.length<=9223372036854775807) (cO:∀ x ∈ W,Ro w D (λ w'=>bE w' 2 x.ak.A x.ak.ls.length (q3 aI.cells x.ak.ls))/\(x.ak.ls.length<=x.ak.c/\x.ak.ls.length<=9223372036854775807)) (aL:s5 ae.abs X=a.bq.af.ls) (cZ:Ro w D λ w'=>bE w' 3 C a.bq.af.ls.length (q3 ae.cells X)) (df:a.bq.af.ls.length<=E/\a.bq.af.ls.length<=9223372036854775807) (dh:∀ x ∈ X,Ro w D (λ w'=>bE w' 2 x.ak.A x.ak.ls.length (q3 aI.cells x.ak.ls))/\(x.ak.ls.length<=x.ak.c/\x.ak.ls.length<=9223372036854775807)) (fK:a.aa.ag.ls.length<=1000/\a.aa.aj.ls.length<=1000/\a.aa.aF.ls.length<=1000/\a.ay.ls.length<=1000/\J.aX.ls.length<=100000) (fM:Mk a) (hr:kZ J I p2 a=r0):
    Calls v8 86 #[vP g0 0,vI I, .agg (gU p2.aD p2.aJ p2.fI p2.aK p2.dz p2.eH p2.aP p2.av p2.aN p2.dY p2.aV p2.aL p2.dL p2.cu p2.xN p2.cz p2.bU.bF p2.bU.bT au aQ av ax aR ay az aS aC).toArray] w (d9 λ v w'=> ∃ aM aN ai,v= .tuple #[]/\Own w D w' [blk g0 [vP d 0, .slice aM r0.aX.ls.length aN] 98,row aM r0.aX.ls.length aN (q3 bf.cells ai) 42 21,sepL (q3 bf.own ai),mK d a N a.aa.ag.ls.length O P Q g h R S p r s t u y z B C E]/\(s5 bf.abs ai=r0.aX.ls)):=by
 subst bu bz bA
 have dJ:=aB ag
 have dK:=aB bv
 have bH:=aB Y
 have bJ:=aB aG
 have bK:=aB aH
 have bM:=aB aJ
 have bO:=aB aK
 have bP:=aB aL
 have dY:=zr 1 H
 refine cb Tryz.func86 ?_
 refine sr ?_
 refine dV (iH p2 au av ax ay az aC) 42 H ?_
 intro aj fO bB
 refine nt (Ic (sr (Mz rfl (Kz (vP g0 0) (Kz (vP g0 0) (Lz (vP d 0) bB 1 P3 (Kz (vP d 0) (Kz (vP d 0) (Kz (vP d 6) (Lz (.slice g a.aa.aF.ls.length h) bB 4 Tryz.isAgg31 (Kz (vJ a.aa.aF.ls.length) (Mn rfl (bo ?_)))))))))))))
 have dZ:=bB.pf []
 obtain⟨ed,Z⟩:=nQ λ (f:Nat) w'=>Own w D w' [blk aj (iH p2 au av ax ay az aC) 42,blk g0 [vP d 0, .slice K J.aX.ls.length L] 98,row K J.aX.ls.length L (q3 bf.cells F) 42 21,sepL (q3 bf.own F),mK d a N a.aa.ag.ls.length O P Q g h R S p r s t u y z B C E]/\f<=a.aa.aF.ls.length/\dW J I p2 a a.aa.aF.ls=dW J I p2 a (List.drop f a.aa.aF.ls)
 refine Wp.loop (λ i:Nat=> [(17,vJ i),(16,vJ a.aa.aF.ls.length),(15, .slice g a.aa.aF.ls.length h),(5,vP aj 0),(0,vP g0 0),(1,vI I)]) ed (λ i=>a.aa.aF.ls.length - i) 0 ⟨rfl,rfl,rfl,rfl,rfl,rfl,trivial⟩ (Z.2 ⟨dZ,e6,rfl⟩) ?_
 rintro f fP di
 obtain⟨aa,eZ,af⟩:=Z.1 di
 refine sr (Kz (.bool (decide ((f:Int) < (a.aa.aF.ls.length:Int)))) (nt (Ic ?_)))
 by_cases dm:(f:Int) < (a.aa.aF.ls.length:Int)
 obtain⟨b,M⟩:=dN (ls:=o) (i:=f) aU.len f4 (aa.ro G) e9
 have aT:=fF Y M
 have fe:=(m _ (D3 M)).2.1
 have fo:r8 (s5 ae.abs b.ai.ls)=b.ai.ls.length:=s3 ..
 have dn:nI (s5 ae.abs b.ai.ls):=EW f5 aT
 have fq:b.ai.ls.length<=1000:=by have q9:=dn.1; rw [s3] at q9; exact q9
 have aD:=drop_at aT
 refine jT (dT dm) (sk (Ic (bo (sr (fw (.pointer (some ⟨ab g,ao g+f *4,none⟩)) (Ij (l6) rfl rfl ((aa.ro G).addr (i:=f) e6) e6) (fw (.agg (aU.cells b).toArray) (Io rfl (Iy (cs:=(aU.cells b)) Tryz.isAgg56 Tryz.sizeOf56 ((aa.ro G).elem aU.len M f4))) ?_))))))
 refine dV [vI 0, .int .u64 0, .int .u64 0, .slice none 0 0] 56 aa ?_
 intro aO fQ ek
 refine dS (aU.cells b) 0 ek Tryz.sizeOf56 ?_
 intro fT n
 refine ns (Kz (vP aO 0) (Lz (vI b.aK) n 0 Tryz.isAgg3 (Mz rfl (Kz (.bool (decide (b.aK=I))) (Mz rfl ?_)))))
 by_cases j:b.aK=I
 refine Gz (vP aO 1) (dT j) (Gl (vU b.av) (dT j) n 0 D4 (Gz (vP aj 7) (dT j) (Gl (vU p2.av) (dT j) n 1 D4 (Gz (.bool (decide ((b.av:Int)=(p2.av:Int)))) (dT j) (fw (.bool (decide ((b.av:Int)=(p2.av:Int)))) (Iw rfl (dT j) rfl) (Mz rfl ?_))))))
 by_cases l:(b.av:Int)=(p2.av:Int)
 refine Gz (vP aO 2) (dT l) (Gl (vU b.aP) (dT l) n 0 D4 (Gz (vP aj 6) (dT l) (Gl (vU p2.aP) (dT l) n 1 D4 (Gz (.bool (decide ((b.aP:Int)=(p2.aP:Int)))) (dT l) (fw (.bool (decide ((b.aP:Int)=(p2.aP:Int)))) (Iw rfl (dT l) rfl) (nt ?_))))))
 by_cases aP:(b.aP:Int)=(p2.aP:Int)
 refine jT (dT aP) (sr (Mz rfl (Mz rfl (Kz (vP aj 6) (Lz (vU p2.aP) n 1 D4 (Kz (vP aO 3) (Lz (.slice b.ai.A b.ai.ls.length b.ai.c) n 0 Tryz.isAgg40 ?_)))))))
 refine WL.do rfl (Iz P4 rfl ?_ (λ _ _ k=>k))
 refine cb P5 ?_
 refine Ib (Mz rfl (Mz rfl (Kz (vI (C5.wrap (10+I))) (Mz rfl (Mz rfl (Kz (vP g0 0) (Kz (vP g0 0) (Lz (vP d 0) n 2 P3 (Kz (vP d 0) (Kz (vP d 0) (Kz (vP d 1) (Lz (vU a.aa.av) n 5 D4 (Mz rfl (Mz rfl (Kz (.agg (gU 2 0 (C5.wrap (10+I)) 0 1 0 p2.aP a.aa.av 0 0 0 0 0 0 0 false [] [] none 0 0 b.ai.A b.ai.ls.length b.ai.c none 0 0).toArray) ?_)))))))))))))))
 have eu:=n.pb [0,1,5]
 obtain⟨bD,aV⟩:∃ q,dw J (bL.mk 2 0 (C5.wrap (10+I)) 0 1 0 p2.aP a.aa.av 0 0 0 0 0 0 0 false (bC.mk [] []) (E2 []) (E2 (s5 ae.abs b.ai.ls)) (E2 []))=q:=⟨_,rfl⟩
 obtain⟨fU,dx,aW,dz,fA⟩:=IU eu
 refine cl P6 (gp _ _ g0 J K L F d (bL.mk 2 0 (C5.wrap (10+I)) 0 1 0 p2.aP a.aa.av 0 0 0 0 0 0 0 false (bC.mk [] []) (E2 []) (E2 (s5 ae.abs b.ai.ls)) (E2 [])) none 0 0 b.ai.A b.ai.ls.length b.ai.c b.ai.ls none 0 0 bD dx ag rfl (λ _ _=>bE.nil _ _ _) f2 (rfl:s5 ae.abs b.ai.ls=s5 ae.abs b.ai.ls) f1 (λ w9 h9=>qg (aB (rfl:s5 ae.abs b.ai.ls=s5 ae.abs b.ai.ls)) ((aW _ (m _ (D3 M)).1) w9 h9)) e6 (λ x9 h9=>⟨aW _ ((m _ (D3 M)).2.2 x9 h9).1,((m _ (D3 M)).2.2 x9 h9).2⟩) rfl (λ _ _=>bE.nil _ _ _) f2 e8 (by first | assumption | exact dM f5 | exact λ x hx=>absurd hx y6 | exact dM (Mk.mU f5).1 | exact dM (Mk.lT f5).1 | exact dM (Mk.nu f5).1 | exact dM (Mk.ny f5).1 | exact dM (Mk.nz f5).1) aV) ?_
 rintro _ fZ ⟨eB,eD,eF,rfl,dA,aX,aZ⟩
 have dB:=dz _ _ dA
 have fD:=aB aX
 have fE:=zr 1 dB
 replace aZ:bD.aX.ls.length=J.aX.ls.length+1:=aZ
 refine C6 (IA (res0 rfl) (nt (rt (bR (tR (tR (bR (tR (Fin.res (res0 rfl) ?_)))))))))
 have eG:=dB.pk [0,1,2,5]
 obtain rfl:_=bD:=zj hr (jm (et (af) (et (congrArg (λ q=>dW J I p2 a q) aD) (et (ip j) (et (ip l) (et (ip aP) (ah aV)))))))
 exact⟨eB,eD,eF,rfl,eG,aX⟩
 refine jF (dF aP) (IE (bN (Ig (Ib (fw (vJ (f+1)) (Ie (e:=C5.wrap ((f:Int)+1)) yk f0) (Mz rfl (C6 ?_)))))))
 have eH:=n.px [] [0] []
 exact Ir (f+1) ⟨rfl,rfl,rfl,rfl,rfl,rfl,trivial⟩ (Z.2 ⟨eH,e6,et (af) (et (congrArg (λ q=>dW J I p2 a q) aD) (et (ip j) (et (ip l) (iN aP))))⟩) (by show a.aa.aF.ls.length - (f+1) < a.aa.aF.ls.length - f; omega)
 refine Sz (dF l) (Sz (dF l) (Sz (dF l) (Sz (dF l) (Sz (dF l) (fw (.bool false) (Ih rfl (dF l) rfl) (nt (jf (IE (bN (Ig (Ib (fw (vJ (f+1)) (Ie (e:=C5.wrap ((f:Int)+1)) yk f0) (Mz rfl (C6 ?_))))))))))))))
 have eO:=n.px [] [0] []
 exact Ir (f+1) ⟨rfl,rfl,rfl,rfl,rfl,rfl,trivial⟩ (Z.2 ⟨eO,e6,et (af) (et (congrArg (λ q=>dW J I p2 a q) aD) (et (ip j) (iN l)))⟩) (by show a.aa.aF.ls.length - (f+1) < a.aa.aF.ls.length - f; omega)
 refine Sz (dF j) (Sz (dF j) (Sz (dF j) (Sz (dF j) (Sz (dF j) (fw (.bool false) (Ih rfl (dF j) rfl) (Mz rfl (Sz rfl (Sz rfl (Sz rfl (Sz rfl (Sz rfl (fw (.bool false) (Ih rfl rfl rfl) (nt (jf (IE (bN (Ig (Ib (fw (vJ (f+1)) (Ie (e:=C5.wrap ((f:Int)+1)) yk f0) (Mz rfl (C6 ?_)))))))))))))))))))))
 have eP:=n.px [] [0] []
 exact Ir (f+1) ⟨rfl,rfl,rfl,rfl,rfl,rfl,trivial⟩ (Z.2 ⟨eP,e6,et (af) (et (congrArg (λ q=>dW J I p2 a q) aD) (iN j))⟩) (by show a.aa.aF.ls.length - (f+1) < a.aa.aF.ls.length - f; omega)
 refine jF (dF dm) (Wp.exit (Il ?_))
 have dC:dW J I p2 a a.aa.aF.ls=Sum.inl ():=et (af) (et (congrArg (λ q=>dW J I p2 a q) (fB (ls:=a.aa.aF.ls) (i:=f) e6)) rfl)
 refine Il (IB (Ig (Ib (Mz rfl (Mz rfl (Kz (vP aj 6) (Lz (vU p2.aP) aa 0 D4 ?_)))))))
 refine WL.do rfl (Iz P4 rfl ?_ (λ _ _ k=>k))
 refine cb P5 ?_
 refine Ib (Mz rfl (Mz rfl (Kz (vI (C5.wrap (10+I))) (Mz rfl (Mz rfl (Kz (vP g0 0) (Kz (vP g0 0) (Lz (vP d 0) aa 1 P3 (Kz (vP d 0) (Kz (vP d 0) (Kz (vP d 1) (Lz (vU a.aa.av) aa 4 D4 (Mz rfl (Mz rfl (Kz (.agg (gU 2 0 (C5.wrap (10+I)) 0 2 0 p2.aP a.aa.av 0 0 0 0 0 0 0 false [] [] none 0 0 none 0 0 none 0 0).toArray) ?_)))))))))))))))
 have eQ:=aa.pb [0,4]
 obtain⟨bF,bg⟩:∃ q,dw J (bL.mk 2 0 (C5.wrap (10+I)) 0 2 0 p2.aP a.aa.av 0 0 0 0 0 0 0 false (bC.mk [] []) (E2 []) (E2 []) (E2 []))=q:=⟨_,rfl⟩
 obtain⟨gm,dD,fG,dE,fH⟩:=IU eQ
 refine cl P6 (gp _ _ g0 J K L F d (bL.mk 2 0 (C5.wrap (10+I)) 0 2 0 p2.aP a.aa.av 0 0 0 0 0 0 0 false (bC.mk [] []) (E2 []) (E2 []) (E2 [])) none 0 0 none 0 0 [] none 0 0 bF dD ag rfl (λ _ _=>bE.nil _ _ _) f2 rfl rfl (λ _ _=>bE.nil _ _ _) f2 (λ _ h9=>absurd h9 y6) rfl (λ _ _=>bE.nil _ _ _) f2 e8 (by first | assumption | exact dM f5 | exact λ x hx=>absurd hx y6 | exact dM (Mk.mU f5).1 | exact dM (Mk.lT f5).1 | exact dM (Mk.nu f5).1 | exact dM (Mk.ny f5).1 | exact dM (Mk.nz f5).1) bg) ?_
 rintro _ gq ⟨eT,eU,eX,rfl,dG,bn,bq⟩
 have dH:=dE _ _ dG
 have fI:=aB bn
 have fJ:=zr 1 dH
 replace bq:bF.aX.ls.length=J.aX.ls.length+1:=bq
 refine C6 (IA (res0 rfl) (C6 (IA (res0 rfl) ?_)))
 have eY:=dH.px [] [3] []
 obtain rfl:_=bF:=zj hr (et (nT dC) (ah bg))
 exact⟨eT,eU,eX,rfl,eY,bn⟩
def dC (j:bI) (d:Int) (p2:Nat) (c:Int) (f:List aQ) (a:aA):bI × aA:=
 bnd (jh f) λ b=>if((D0 d:Nat):Int)=1 then bnd (dw j (bL.mk 2 0 (10+d) 0 c 0 p2 a.aa.av 0 0 0 0 0 0 0 false (bC.mk [] []) (E2 []) (E2 f) (E2 []))) λ g=>(g,aA.mk a.aa a.bP (E2 a.ay.ls) a.bK (df.mk true p2 c (E2 b)) a.bz a.bv a.bq a.dP a.dH a.dI a.dG a.dJ) else if((D0 d:Nat):Int)=2 then bnd (dw j (bL.mk 2 0 (10+d) 0 c 0 p2 a.aa.av 0 0 0 0 0 0 0 false (bC.mk [] []) (E2 []) (E2 f) (E2 []))) λ h=>(h,aA.mk a.aa a.bP (E2 a.ay.ls) a.bK a.bA (df.mk true p2 c (E2 b)) a.bv a.bq a.dP a.dH a.dI a.dG a.dJ) else if((D0 d:Nat):Int)=3 then bnd (dw j (bL.mk 2 0 (10+d) 0 c 0 p2 a.aa.av 0 0 0 0 0 0 0 false (bC.mk [] []) (E2 []) (E2 f) (E2 []))) λ i=>(i,aA.mk a.aa a.bP (E2 a.ay.ls) a.bK a.bA a.bz (df.mk true p2 c (E2 b)) a.bq a.dP a.dH a.dI a.dG a.dJ) else bnd (dw j (bL.mk 2 0 (10+d) 0 c 0 p2 a.aa.av 0 0 0 0 0 0 0 false (bC.mk [] []) (E2 []) (E2 f) (E2 []))) λ e=>(e,aA.mk a.aa a.bP (E2 a.ay.ls) a.bK a.bA a.bz a.bv (df.mk true p2 c (E2 b)) a.dP a.dH a.dI a.dG a.dJ)
theorem kr (w D V) (U:bI) (Q R L s p2 M A4 n4 c4 d4 h b) (a:aA) (aj ak au av ax ay az aC j l f t u m y z n B C p E F r) (r0:bI) (d:aA) (H:Own w D w [blk V [.pointer (some ⟨b,0,none⟩), .slice Q U.aX.ls.length R] 98,row Q U.aX.ls.length R (q3 bf.cells L) 42 21,sepL (q3 bf.own L),mK b a aj a.aa.ag.ls.length ak au av ax ay az aC j l t u y z B C E F,row j a.bK.af.ls.length l (q3 ae.cells f) 149 3,sepL (q3 ae.own f),row t a.bA.af.ls.length u (q3 ae.cells m) 149 3,sepL (q3 ae.own m),row y a.bz.af.ls.length z (q3 ae.cells n) 149 3,sepL (q3 ae.own n),row B a.bv.af.ls.length C (q3 ae.cells p) 149 3,sepL (q3 ae.own p),row E a.bq.af.ls.length F (q3 ae.cells r) 149 3,sepL (q3 ae.own r)]) (N:s5 bf.abs L=U.aX.ls) (aH:s5 ae.abs d4=h) (aK:Ro w D λ w'=>bE w' 3 A4 n4 (q3 ae.cells d4)) (O:∀ x ∈ d4,Ro w D (λ w'=>bE w' 2 x.ak.A x.ak.ls.length (q3 aI.cells x.ak.ls))/\(x.ak.ls.length<=x.ak.c/\x.ak.ls.length<=9223372036854775807)) (eH:n4=h.length) (gB:h.length *48<=211106232532992) (gD:h.length<=c4) (g:s5 ae.abs f=a.bK.af.ls) (G:s5 ae.abs m=a.bA.af.ls) (I:s5 ae.abs n=a.bz.af.ls) (J:s5 ae.abs p=a.bv.af.ls) (K:s5 ae.abs r=a.bq.af.ls) (gF:U.aX.ls.length<=100000) (gG:1<=s/\s<=4) (gH:h.length<=1000) (gI:nI h) (hr:dC U s p2 M h a=(r0,d)):
    Calls v8 106 #[vP V 0,vI s,vU p2,vI M, .slice A4 n4 c4] w (d9 λ v w'=> ∃ aL aM Y aN aO Z aP aR aa aS aT af aU aV ag aW aX ai,v= .tuple #[]/\Own w D w' [blk V [vP b 0, .slice aL r0.aX.ls.length aM] 98,row aL r0.aX.ls.length aM (q3 bf.cells Y) 42 21,sepL (q3 bf.own Y),blk b [vI d.aa.au,vU d.aa.av,vU d.aa.aV,vU d.aa.aL, .slice aj a.aa.ag.ls.length ak, .slice au a.aa.aj.ls.length av, .slice ax a.aa.aF.ls.length ay,vU d.bP, .slice az a.ay.ls.length aC, .bool d.bK.cO,vU d.bK.aS,vI d.bK.dA, .slice aN d.bK.af.ls.length aO, .bool d.bA.cO,vU d.bA.aS,vI d.bA.dA, .slice aP d.bA.af.ls.length aR, .bool d.bz.cO,vU d.bz.aS,vI d.bz.dA, .slice aS d.bz.af.ls.length aT, .bool d.bv.cO,vU d.bv.aS,vI d.bv.dA, .slice aU d.bv.af.ls.length aV, .bool d.bq.cO,vU d.bq.aS,vI d.bq.dA, .slice aW d.bq.af.ls.length aX,vU d.dP,vU d.dH,vU d.dI,vU d.dG,vU d.dJ, .pointer none] 86,row aN d.bK.af.ls.length aO (q3 ae.cells Z) 149 3,sepL (q3 ae.own Z),row aP d.bA.af.ls.length aR (q3 ae.cells aa) 149 3,sepL (q3 ae.own aa),row aS d.bz.af.ls.length aT (q3 ae.cells af) 149 3,sepL (q3 ae.own af),row aU d.bv.af.ls.length aV (q3 ae.cells ag) 149 3,sepL (q3 ae.own ag),row aW d.bq.af.ls.length aX (q3 ae.cells ai) 149 3,sepL (q3 ae.own ai)]/\(s5 bf.abs Y=r0.aX.ls)/\(s5 ae.abs Z=d.bK.af.ls)/\(s5 ae.abs aa=d.bA.af.ls)/\(s5 ae.abs af=d.bz.af.ls)/\(s5 ae.abs ag=d.bv.af.ls)/\(s5 ae.abs ai=d.bq.af.ls)/\(r0.aX.ls.length=U.aX.ls.length+1)):=by
 unfold dC at hr
 subst eH
 have fK:=aB aH
 have eF:=aB N
 have cO:=aB g
 have cZ:=aB G
 have dh:=aB I
 have di:=aB J
 have dm:=aB K
 have eO:=zr 1 H
 have dx:=zr 4 H
 have dz:=zr 6 H
 have dA:=zr 8 H
 have dB:=zr 10 H
 have dD:=zr 12 H
 refine cb Tryz.func106 ?_
 refine Ic ?_
 have eP:=H.pb [3]
 refine pU 13 [] (Iu IC) eP ?_
 intro gJ eQ
 refine qv 0 rfl rfl (qp V 0 1 rfl (qp V 0 2 rfl (ql 3 rfl 0 P3 rfl rfl rfl (qt (v:=vJ (D0 s)) 4 rfl (λ _ _=>Ie (e:=s) (Iq rfl) e6) (qv 5 rfl rfl (qv 6 rfl rfl (qv 7 rfl rfl (qp b 0 10 rfl (qp b 9 11 rfl ?_)))))))))
 obtain⟨P,W⟩:∃ q,jh h=q:=⟨_,rfl⟩
 obtain⟨gK,dE,bH,dF,fM⟩:=Ii eQ
 refine qd 8 rfl (Iz Tryz.call48 rfl (mD _ _ A4 h.length c4 d4 h P dE aH (bH _ aK) (λ x9 h9=>⟨bH _ (O x9 h9).1,(O x9 h9).2⟩) rfl e6 (by first | assumption | exact dM f5 | (intro x hx; exact absurd hx y6)) W) ?_)
 rintro _ gL ⟨S,T,bz,rfl,dG,X⟩
 have dH:=dF _ _ dG
 have fO:=aB X
 have fP:=zr 0 dH
 have aY:=dH.pb [0,1,15]
 refine⟨.inr ⟨_,aY⟩, ?_⟩
 refine qk (.agg #[.bool true,vU p2,vI M, .slice S P.length T]) 9 rfl ?_
 by_cases bA:((D0 s:Nat):Int)=1
 refine qt (v:=vP b 13) 12 rfl (λ _ _=>by(try unfold vJ); rw [show ((D0 s:Nat):Int)=1 from by omega]; exact yk) ?_
 have eT:=aY.pf [15]
 refine qe 13 rfl (Do.store (vs:= [.bool true,vU p2,vI M, .slice S P.length T]) (o:=13) eT rfl rfl P7 rfl rfl rfl rfl ?_)
 intro gM eU
 have bB:=eU.pb [0,14,15]
 refine⟨.inr ⟨_,bB⟩, ?_⟩
 refine qn (Ig (Ib (Mz rfl (Mz rfl (Mz rfl (Mz rfl (Mz rfl ?_)))))))
 refine WL.do rfl (Iz P4 rfl ?_ (λ _ _ k=>k))
 refine cb P5 ?_
 refine Ib (Mz rfl (Mz rfl (fw (vI (10+s)) (Ie (e:=C5.wrap (10+s)) yk g2) (Mz rfl (Mz rfl (Kz (vP V 0) (Kz (vP V 0) (Lz (vP b 0) bB 0 P3 (Kz (vP b 0) (Kz (vP b 0) (Kz (vP b 1) (Lz (vU a.aa.av) bB 13 D4 (Mz rfl (Mz rfl (Kz (.agg (gU 2 0 (10+s) 0 M 0 p2 a.aa.av 0 0 0 0 0 0 0 false [] [] none 0 0 A4 h.length c4 none 0 0).toArray) ?_)))))))))))))))
 obtain⟨bW,bJ⟩:∃ q,dw U (bL.mk 2 0 (10+s) 0 M 0 p2 a.aa.av 0 0 0 0 0 0 0 false (bC.mk [] []) (E2 []) (E2 h) (E2 []))=q:=⟨_,rfl⟩
 obtain⟨gN,dI,bK,dJ,fQ⟩:=IU bB
 refine cl P6 (gp _ _ V U Q R L b (bL.mk 2 0 (10+s) 0 M 0 p2 a.aa.av 0 0 0 0 0 0 0 false (bC.mk [] []) (E2 []) (E2 h) (E2 [])) none 0 0 A4 h.length c4 d4 none 0 0 bW dI N rfl (λ _ _=>bE.nil _ _ _) f2 aH rfl (bK _ aK) e6 (λ x9 h9=>⟨bK _ (O x9 h9).1,(O x9 h9).2⟩) rfl (λ _ _=>bE.nil _ _ _) f2 e8 (by first | assumption | exact dM f5 | exact λ x hx=>absurd hx y6 | exact dM (Mk.mU f5).1 | exact dM (Mk.lT f5).1 | exact dM (Mk.nu f5).1 | exact dM (Mk.ny f5).1 | exact dM (Mk.nz f5).1) bJ) ?_
 rintro _ gP ⟨eX,eY,eZ,rfl,dK,bM,bN⟩
 have dL:=dJ _ _ dK
 have fT:=aB bM
 have fU:=zr 1 dL
 replace bN:bW.aX.ls.length=U.aX.ls.length+1:=bN
 refine C6 (IA (res0 rfl) (C6 (IA (res0 rfl) ?_)))
 have fe:=dL.px [0,1,2,13,3,4,14,15] [5,6] []
 obtain⟨rfl,rfl⟩:=ic (zj hr zq3)
 exact⟨eX,eY,eZ,j,l,f,S,T,bz,y,z,n,B,C,p,E,F,r,rfl,fe,bM,g,X,I,J,K,i1⟩
 by_cases bX:((D0 s:Nat):Int)=2
 refine qt (v:=vP b 17) 12 rfl (λ _ _=>by(try unfold vJ); rw [show ((D0 s:Nat):Int)=2 from by omega]; exact yk) ?_
 have fo:=aY.pf [15]
 refine qe 13 rfl (Do.store (vs:= [.bool true,vU p2,vI M, .slice S P.length T]) (o:=17) fo rfl rfl P7 rfl rfl rfl rfl ?_)
 intro gQ fq
 have bD:=fq.pb [0,14,15]
 refine⟨.inr ⟨_,bD⟩, ?_⟩
 refine qn (Ig (Ib (Mz rfl (Mz rfl (Mz rfl (Mz rfl (Mz rfl ?_)))))))
 refine WL.do rfl (Iz P4 rfl ?_ (λ _ _ k=>k))
 refine cb P5 ?_
 refine Ib (Mz rfl (Mz rfl (fw (vI (10+s)) (Ie (e:=C5.wrap (10+s)) yk g2) (Mz rfl (Mz rfl (Kz (vP V 0) (Kz (vP V 0) (Lz (vP b 0) bD 0 P3 (Kz (vP b 0) (Kz (vP b 0) (Kz (vP b 1) (Lz (vU a.aa.av) bD 13 D4 (Mz rfl (Mz rfl (Kz (.agg (gU 2 0 (10+s) 0 M 0 p2 a.aa.av 0 0 0 0 0 0 0 false [] [] none 0 0 A4 h.length c4 none 0 0).toArray) ?_)))))))))))))))
 obtain⟨bY,bO⟩:∃ q,dw U (bL.mk 2 0 (10+s) 0 M 0 p2 a.aa.av 0 0 0 0 0 0 0 false (bC.mk [] []) (E2 []) (E2 h) (E2 []))=q:=⟨_,rfl⟩
 obtain⟨gT,dN,bP,dO,fV⟩:=IU bD
 refine cl P6 (gp _ _ V U Q R L b (bL.mk 2 0 (10+s) 0 M 0 p2 a.aa.av 0 0 0 0 0 0 0 false (bC.mk [] []) (E2 []) (E2 h) (E2 [])) none 0 0 A4 h.length c4 d4 none 0 0 bY dN N rfl (λ _ _=>bE.nil _ _ _) f2 aH rfl (bP _ aK) e6 (λ x9 h9=>⟨bP _ (O x9 h9).1,(O x9 h9).2⟩) rfl (λ _ _=>bE.nil _ _ _) f2 e8 (by first | assumption | exact dM f5 | exact λ x hx=>absurd hx y6 | exact dM (Mk.mU f5).1 | exact dM (Mk.lT f5).1 | exact dM (Mk.nu f5).1 | exact dM (Mk.ny f5).1 | exact dM (Mk.nz f5).1) bO) ?_
 rintro _ gV ⟨fu,fA,fB,rfl,dP,bQ,bR⟩
 have dQ:=dO _ _ dP
 have fZ:=aB bQ
 have gm:=zr 1 dQ
 replace bR:bY.aX.ls.length=U.aX.ls.length+1:=bR
 refine C6 (IA (res0 rfl) (C6 (IA (res0 rfl) ?_)))
 have fC:=dQ.px [0,1,2,13] [7,8] [9,10,11,12]
 obtain⟨rfl,rfl⟩:=ic (zj hr zq4)
 exact⟨fu,fA,fB,j,l,f,t,u,m,S,T,bz,B,C,p,E,F,r,rfl,fC,bQ,g,G,X,J,K,i1⟩
 by_cases dR:((D0 s:Nat):Int)=3
 refine qt (v:=vP b 21) 12 rfl (λ _ _=>by(try unfold vJ); rw [show ((D0 s:Nat):Int)=3 from by omega]; exact yk) ?_
 have fD:=aY.pf [15]
 refine qe 13 rfl (Do.store (vs:= [.bool true,vU p2,vI M, .slice S P.length T]) (o:=21) fD rfl rfl P7 rfl rfl rfl rfl ?_)
 intro gW fE
 have bF:=fE.pb [0,14,15]
 refine⟨.inr ⟨_,bF⟩, ?_⟩
 refine qn (Ig (Ib (Mz rfl (Mz rfl (Mz rfl (Mz rfl (Mz rfl ?_)))))))
 refine WL.do rfl (Iz P4 rfl ?_ (λ _ _ k=>k))
 refine cb P5 ?_
 refine Ib (Mz rfl (Mz rfl (fw (vI (10+s)) (Ie (e:=C5.wrap (10+s)) yk g2) (Mz rfl (Mz rfl (Kz (vP V 0) (Kz (vP V 0) (Lz (vP b 0) bF 0 P3 (Kz (vP b 0) (Kz (vP b 0) (Kz (vP b 1) (Lz (vU a.aa.av) bF 13 D4 (Mz rfl (Mz rfl (Kz (.agg (gU 2 0 (10+s) 0 M 0 p2 a.aa.av 0 0 0 0 0 0 0 false [] [] none 0 0 A4 h.length c4 none 0 0).toArray) ?_)))))))))))))))
 obtain⟨bZ,bS⟩:∃ q,dw U (bL.mk 2 0 (10+s) 0 M 0 p2 a.aa.av 0 0 0 0 0 0 0 false (bC.mk [] []) (E2 []) (E2 h) (E2 []))=q:=⟨_,rfl⟩
 obtain⟨gX,dS,bT,dU,gq⟩:=IU bF
 refine cl P6 (gp _ _ V U Q R L b (bL.mk 2 0 (10+s) 0 M 0 p2 a.aa.av 0 0 0 0 0 0 0 false (bC.mk [] []) (E2 []) (E2 h) (E2 [])) none 0 0 A4 h.length c4 d4 none 0 0 bZ dS N rfl (λ _ _=>bE.nil _ _ _) f2 aH rfl (bT _ aK) e6 (λ x9 h9=>⟨bT _ (O x9 h9).1,(O x9 h9).2⟩) rfl (λ _ _=>bE.nil _ _ _) f2 e8 (by first | assumption | exact dM f5 | exact λ x hx=>absurd hx y6 | exact dM (Mk.mU f5).1 | exact dM (Mk.lT f5).1 | exact dM (Mk.nu f5).1 | exact dM (Mk.ny f5).1 | exact dM (Mk.nz f5).1) bS) ?_
 rintro _ gY ⟨dV,dW,dX,rfl,cu,aZ,bg⟩
 have bU:=dU _ _ cu
 have fF:=aB aZ
 have fG:=zr 1 bU
 replace bg:bZ.aX.ls.length=U.aX.ls.length+1:=bg
 refine C6 (IA (res0 rfl) (C6 (IA (res0 rfl) ?_)))
 have dY:=bU.px [0,1,2,13] [9,10] [11,12]
 obtain⟨rfl,rfl⟩:=ic (zj hr zq5)
 exact⟨dV,dW,dX,j,l,f,t,u,m,y,z,n,S,T,bz,E,F,r,rfl,dY,aZ,g,G,I,X,K,i1⟩
 refine qt (v:=vP b 25) 12 rfl (λ _ _=>by(try unfold vJ); rw [show ((D0 s:Nat):Int)=4 from by omega]; exact yk) ?_
 have dZ:=aY.pf [15]
 refine qe 13 rfl (Do.store (vs:= [.bool true,vU p2,vI M, .slice S P.length T]) (o:=25) dZ rfl rfl P7 rfl rfl rfl rfl ?_)
 intro gu ed
 have aG:=ed.pb [0,14,15]
 refine⟨.inr ⟨_,aG⟩, ?_⟩
 refine qn (Ig (Ib (Mz rfl (Mz rfl (Mz rfl (Mz rfl (Mz rfl ?_)))))))
 refine WL.do rfl (Iz P4 rfl ?_ (λ _ _ k=>k))
 refine cb P5 ?_
 refine Ib (Mz rfl (Mz rfl (fw (vI (10+s)) (Ie (e:=C5.wrap (10+s)) yk g2) (Mz rfl (Mz rfl (Kz (vP V 0) (Kz (vP V 0) (Lz (vP b 0) aG 0 P3 (Kz (vP b 0) (Kz (vP b 0) (Kz (vP b 1) (Lz (vU a.aa.av) aG 13 D4 (Mz rfl (Mz rfl (Kz (.agg (gU 2 0 (10+s) 0 M 0 p2 a.aa.av 0 0 0 0 0 0 0 false [] [] none 0 0 A4 h.length c4 none 0 0).toArray) ?_)))))))))))))))
 obtain⟨bi,bn⟩:∃ q,dw U (bL.mk 2 0 (10+s) 0 M 0 p2 a.aa.av 0 0 0 0 0 0 0 false (bC.mk [] []) (E2 []) (E2 h) (E2 []))=q:=⟨_,rfl⟩
 obtain⟨gy,cz,bq,cB,fH⟩:=IU aG
 refine cl P6 (gp _ _ V U Q R L b (bL.mk 2 0 (10+s) 0 M 0 p2 a.aa.av 0 0 0 0 0 0 0 false (bC.mk [] []) (E2 []) (E2 h) (E2 [])) none 0 0 A4 h.length c4 d4 none 0 0 bi cz N rfl (λ _ _=>bE.nil _ _ _) f2 aH rfl (bq _ aK) e6 (λ x9 h9=>⟨bq _ (O x9 h9).1,(O x9 h9).2⟩) rfl (λ _ _=>bE.nil _ _ _) f2 e8 (by first | assumption | exact dM f5 | exact λ x hx=>absurd hx y6 | exact dM (Mk.mU f5).1 | exact dM (Mk.lT f5).1 | exact dM (Mk.nu f5).1 | exact dM (Mk.ny f5).1 | exact dM (Mk.nz f5).1) bn) ?_
 rintro _ gz ⟨ek,eu,eB,rfl,cK,bu,bv⟩
 have bV:=cB _ _ cK
 have fI:=aB bu
 have fJ:=zr 1 bV
 replace bv:bi.aX.ls.length=U.aX.ls.length+1:=bv
 refine C6 (IA (res0 rfl) (C6 (IA (res0 rfl) ?_)))
 have eD:=bV.px [0,1,2,13] [11,12] []
 obtain⟨rfl,rfl⟩:=ic (zj hr zq5)
 exact⟨ek,eu,eB,j,l,f,t,u,m,y,z,n,B,C,p,S,T,bz,rfl,eD,bu,g,G,I,J,X,i1⟩
def ik (e:Nat) (f:Bool):List Int->List bL->(List bL)
  | [],a=>a
  | c::d,a=>bnd (dw (bI.mk (E2 a)) (bL.mk 5 0 c 0 0 0 0 0 e 0 0 0 0 0 0 f (bC.mk [] []) (E2 []) (E2 []) (E2 []))) λ b=>ik e f d b.aX.ls
def dZ (a:bI) (b:Nat) (c:List Int) (d:Bool):bI:=
 bnd (ik b d c a.aX.ls) λ sLrL=>bI.mk (E2 sLrL)
theorem kV (w D J) (A:bI) (m n f g j M X c2 c l) (V:bI) (H:Own w D w [blk J [.pointer (some ⟨g,0,none⟩), .slice m A.aX.ls.length n] 98,row m A.aX.ls.length n (q3 bf.cells f) 42 21,sepL (q3 bf.own f)]) (o:s5 bf.abs f=A.aX.ls) (K:Ro w D λ w'=>bE w' 1 M X (q3 (eI .i64) c)) (Y:X=c.length) (aF:c.length *8<=211106232532992) (aG:A.aX.ls.length+c.length<=1000000) (hr:dZ A j c l=V):
    Calls v8 27 #[vP J 0,vU j, .slice M X c2, .bool l] w (d9 λ v w'=> ∃ p r d,v= .tuple #[]/\Own w D w' [blk J [vP g 0, .slice p V.aX.ls.length r] 98,row p V.aX.ls.length r (q3 bf.cells d) 42 21,sepL (q3 bf.own d)]/\(s5 bf.abs d=V.aX.ls)):=by
 unfold dZ at hr
 subst Y
 have W:=aB o
 have Z:=zr 1 H
 refine cb Tryz.func27 ?_
 refine sr (Mz rfl (Kz (vJ c.length) (Mn rfl (bo ?_))))
 have aa:=H.pf []
 obtain⟨ae,s⟩:=Au λ (a:Nat) t (u:Nat) h b w'=>Own w D w' [blk J [vP g 0, .slice t b.length u] 98,row t b.length u (q3 bf.cells h) 42 21,sepL (q3 bf.own h)]/\s5 bf.abs h=b/\a<=c.length/\b.length=A.aX.ls.length+a/\b.length<=A.aX.ls.length+a/\ik j l c A.aX.ls=ik j l (List.drop a c) b
 refine Wp.loop (λ i:Nat × (Option Addr) × Nat × (List bf) × (List bL)=> [(12,vJ i.1),(11,vJ c.length),(10, .slice M c.length c2),(0,vP J 0),(1,vU j),(3, .bool l)]) ae (λ i=>c.length - i.1) (0,m,n,f,A.aX.ls) ⟨rfl,rfl,rfl,rfl,rfl,rfl,trivial⟩ (s.2 ⟨aa,by exact o,e6,e6,e6,rfl⟩) ?_
 rintro ⟨a,t,u,h,b⟩ aH N
 obtain⟨y,z,au,av,ax,C⟩:=s.1 N
 have ay:=aB z
 refine sr (Kz (.bool (decide ((a:Int) < (c.length:Int)))) (nt (Ic ?_)))
 by_cases O:(a:Int) < (c.length:Int)
 obtain⟨B,E⟩:=dN (ls:=c) (i:=a) jd f4 (y.ro K) e9
 have P:=drop_at E
 refine jT (dT O) (sk (Ic (bo (sr (fw (.pointer (some ⟨ab M,ao M+a *1,none⟩)) (Ij (om) rfl rfl ((y.ro K).addr (i:=a) e6) e6) (fw (vI B) (Io rfl (bZ.one Tryz.isAgg3 (((y.ro K).elem jd E f4).at_ (k:=0) rfl))) (An rfl (Ib (Mz rfl (Mz rfl (Mz rfl (Mz rfl (Kz (.agg (gU 5 0 B 0 0 0 0 0 j 0 0 0 0 0 0 l [] [] none 0 0 none 0 0 none 0 0).toArray) ?_)))))))))))))
 obtain⟨L,F⟩:∃ q,dw (bI.mk (E2 b)) (bL.mk 5 0 B 0 0 0 0 0 j 0 0 0 0 0 0 l (bC.mk [] []) (E2 []) (E2 []) (E2 []))=q:=⟨_,rfl⟩
 obtain⟨aI,Q,az,R,aA⟩:=IU y
 refine cl P6 (gp _ _ J (bI.mk (E2 b)) t u h g (bL.mk 5 0 B 0 0 0 0 0 j 0 0 0 0 0 0 l (bC.mk [] []) (E2 []) (E2 []) (E2 [])) none 0 0 none 0 0 [] none 0 0 L Q z rfl (λ _ _=>bE.nil _ _ _) f2 rfl rfl (λ _ _=>bE.nil _ _ _) f2 (λ _ h9=>absurd h9 y6) rfl (λ _ _=>bE.nil _ _ _) f2 e8 (by first | assumption | exact dM f5 | exact λ x hx=>absurd hx y6 | exact dM (Mk.mU f5).1 | exact dM (Mk.lT f5).1 | exact dM (Mk.nu f5).1 | exact dM (Mk.ny f5).1 | exact dM (Mk.nz f5).1) F) ?_
 rintro _ aK ⟨af,ag,ai,rfl,S,G,I⟩
 have T:=R _ _ S
 have aC:=aB G
 have aD:=zr 1 T
 replace I:L.aX.ls.length=b.length+1:=I
 refine C6 (bN (Ig (Ib (fw (vJ (a+1)) (Ie (e:=C5.wrap ((a:Int)+1)) yk f0) (Mz rfl (C6 ?_))))))
 have aj:=T.pf []
 exact Ir (a+1,af,ag,ai,L.aX.ls) ⟨rfl,rfl,rfl,rfl,rfl,rfl,trivial⟩ (s.2 ⟨aj,by exact G,e6,e6,e6,et (C) (et (congrArg (λ q=>ik j l q b) P) (ah F))⟩) (by show c.length - (a+1) < c.length - a; omega)
 refine jF (dF O) (Wp.exit (Il ?_))
 have U:ik j l c A.aX.ls=b:=et (C) (et (congrArg (λ q=>ik j l q b) (fB (ls:=c) (i:=a) e6)) rfl)
 refine Il (IB (IA (res0 rfl) ?_))
 have ak:=y.pf []
 obtain rfl:=zj hr zq1
 exact⟨t,u,h,rfl,ak,z⟩
theorem Dr (a:Nat) (b:Bool):∀ (l:List Int) (o:List bL),r8 (ik a b l o)=o.length+l.length
  | [],o=>rfl
  | x::q,o=>by
    simp only [ik,bnd]
    rw [Dr a b q]
    simp only [dw,bnd,List.length_append,List.length_cons,List.length_nil]; omega
theorem yB {a:bI} {c:Nat} {l:List Int} {b:Bool} {r:bI} (h:dZ a c l b=r):r.aX.ls.length=a.aX.ls.length+l.length:=by
 rw [<- h]; exact Dr c b l _
end
open List renaming length_drop->o0,length_replicate->H2,length_set->H1,length_take->m9,mem_flatMap->Q3,set->u2,take->q7
open Sv renaming mk->H0
open _root_.Go.Proofs.Tryz renaming call104->P8,call27->Q2,isAgg107->P9,isAgg30->D2,isAgg79->Q1,sizeOf107->Q0
section
open Go.RowKit
def lu (a:Nat):Bool:=
 false
theorem rC (w D a c) (H:Own w D w []) (hr:lu a=c):
    Calls v8 136 #[vU a] w (d9 λ v w'=>v= .bool c/\Own w D w' []):=by
 refine cb Tryz.func136 ?_
 refine sr (Ar rfl (Mz rfl (Mz rfl (fw (.bool false) (IG (e:= !(decide ((a:Int)=(a:Int)))) yk i8) (An rfl (rt (rs ?_)))))))
 have b:=H.pk []
 obtain rfl:_=false:=zj hr rfl
 exact⟨rfl,b⟩
def gP (c:Nat) (d:Nat):Int:=
 bnd (lu c) λ b=>bnd (lu d) λ a=>if b=true then if a=true then 0 else(-1) else if a=true then 1 else if(c:Int) < (d:Int) then(-1) else if(c:Int) > (d:Int) then 1 else 0
theorem mF (w D i j C) (H:Own w D w []) (hr:gP i j=C):
    Calls v8 104 #[vU i,vU j] w (d9 λ v w'=>v=vI C/\Own w D w' []):=by
 unfold gP at hr
 refine cb Tryz.func104 ?_
 refine sr (Ar rfl (Mz rfl ?_))
 obtain⟨l,a⟩:∃ q,lu i=q:=⟨_,rfl⟩
 obtain⟨J,m,E,n,F⟩:=Ii H
 refine cl Tryz.call136 (rC _ _ i l m a) ?_
 rintro _ K ⟨rfl,o⟩
 have t:=n _ _ o
 refine Ar rfl (Mz rfl ?_)
 obtain⟨k,b⟩:∃ q,lu j=q:=⟨_,rfl⟩
 obtain⟨L,p,G,r,I⟩:=Ii t
 refine cl Tryz.call136 (rC _ _ j k p b) ?_
 rintro _ M ⟨rfl,s⟩
 have e:=r _ _ s
 refine An rfl (Ic (sr (Mn rfl ?_)))
 rcases Li (l) with c | c
 refine jT c (Ic (sr (Mn rfl ?_)))
 rcases Li (k) with f | f
 refine jT f (sr (An rfl (rt (tR (tR (rs ?_))))))
 have u:=e.pk []
 obtain rfl:=zj hr zq4
 exact⟨rfl,u⟩
 refine jF f (sk (sr (An rfl (rt (tR (rs ?_))))))
 have x:=e.pk []
 obtain rfl:=zj hr zq4
 exact⟨rfl,x⟩
 refine jF c (sk (Ic (sr (Mn rfl ?_))))
 rcases Li (k) with d | d
 refine jT d (sr (An rfl (rt (tR (rs ?_)))))
 have y:=e.pk []
 obtain rfl:=zj hr zq4
 exact⟨rfl,y⟩
 refine jF d (sk (Ic (sr (Mz rfl (Mz rfl (Kz (.bool (decide ((i:Int) < (j:Int)))) (nt ?_)))))))
 by_cases g:(i:Int) < (j:Int)
 refine jT (dT g) (sr (An rfl (rt (tR (rs ?_)))))
 have z:=e.pk []
 obtain rfl:=zj hr zq5
 exact⟨rfl,z⟩
 refine jF (dF g) (sk (Ic (sr (Mz rfl (Mz rfl (Kz (.bool (decide ((i:Int) > (j:Int)))) (nt ?_)))))))
 by_cases h:(i:Int) > (j:Int)
 refine jT (dT h) (sr (An rfl (rt (tR (rs ?_)))))
 have A:=e.pk []
 obtain rfl:=zj hr zq6
 exact⟨rfl,A⟩
 refine jF (dF h) (sk (sr (An rfl (rt (rs ?_)))))
 have B:=e.pk []
 obtain rfl:=zj hr zq6
 exact⟨rfl,B⟩
def dB (l0:List bH) (f:Nat):Nat->Nat->Nat->Nat
  | 0,a,b=>default
  | c+1,a,b=>if(a:Int) < (b:Int) then bnd (C0 l0 ((a+b) / 2) default) λ d=>bnd (gP d.aN f) λ e=>if e < 0 then dB l0 f c (((a+b) / 2)+1) b else dB l0 f c a ((a+b) / 2) else a
def bM (l0:List bH) (c:Nat):Int × Bool:=
 bnd (dB l0 c ((l0.length - 0)+1) 0 l0.length) λ sLrL=>if(sLrL:Int) < (l0.length:Int) then bnd (C0 l0 sLrL default) λ a=>bnd (gP a.aN c) λ b=>((sLrL:Int),decide (b=0)) else((sLrL:Int),false)
theorem iJ (w D y Y X d0 l0 n J Z) (H:Own w D w []) (G:s5 aC.abs d0=l0) (h:Ro w D λ w'=>bE w' 5 y Y (q3 aC.cells d0)) (K:∀ x ∈ d0,Ro w D (λ w'=>bE w' 1 x.au.A x.au.ls.length (q3 (eI .i64) x.au.ls))/\(x.au.ls.length<=x.au.c/\x.au.ls.length<=9223372036854775807)) (aa:Y=l0.length) (aL:l0.length *56<=211106232532992) (hr:bM l0 n=(J,Z)):
    Calls v8 132 #[.slice y Y X,vU n, .func (.func 133) #[] #[]] w (d9 λ v w'=>v= .tuple #[vI J, .bool Z]/\Own w D w' []/\(0<=J/\J<=((l0.length:Nat):Int))/\(Bool.toNat Z=0\/J < ((l0.length:Nat):Int))):=by
 unfold bM at hr
 subst aa
 have ay:=aB G
 refine cb Tryz.func132 ?_
 refine sr (Az rfl (Ar rfl (Mz rfl (Kz (vJ l0.length) (Ar rfl (Mz rfl (Az rfl (An rfl (Ic (bo ?_))))))))))
 have ae:=H.pk []
 obtain⟨af,g⟩:=rz λ (a:Nat) (b:Nat) (o:Nat) w'=>Own w D w' []/\a<=b/\b<=l0.length/\b - a < o/\dB l0 n ((l0.length - 0)+1) 0 l0.length=dB l0 n o a b
 refine C3 (λ i:Nat × Nat × Nat=> [(9,vJ i.1),(10,vJ i.2.1),(8,vJ l0.length),(7, .bool false),(6,vI 0),(0, .slice y l0.length X),(1,vU n),(2, .func (.func 133) #[] #[])]) af (λ i=>i.2.2) (0,l0.length,(l0.length - 0)+1) ⟨rfl,rfl,rfl,rfl,rfl,rfl,rfl,rfl,trivial⟩ (g.2 ⟨ae,e6,e6,e6,rfl⟩) ?_
 rintro ⟨a,b,o⟩ aM L
 obtain⟨f,az,aA,aD,p⟩:=g.1 L
 obtain⟨j,M⟩:∃ q,o=q+1:=⟨o - 1,e6⟩
 subst M
 refine Ic (sr (Mz rfl (Mz rfl (Kz (.bool (decide ((a:Int) < (b:Int)))) (nt ?_)))))
 by_cases r:(a:Int) < (b:Int)
 refine jT (dT r) (sk (bo (sr (Mz rfl (Mz rfl (fw (vJ (a+b)) (Ie (e:=C5.wrap ((a:Int)+(b:Int))) yk f0) (fw (vU (a+b)) (Ie (e:=IntKind.u64.wrap ((a+b:Nat):Int)) yk (IntWalk.u64_in _ e6)) (fw (vU ((a+b) / 2)) (Ie (e:=Int.fdiv ((a+b:Nat):Int) 2) yk (nV _ 1 _ f4)) (fw (vJ ((a+b) / 2)) (Ie (e:=C5.wrap (((a+b) / 2:Nat):Int)) yk (Lf _ e6)) (Ar rfl (Mz rfl (Mz rfl (Mz rfl ?_)))))))))))))
 obtain⟨l,s⟩:=dN (ls:=d0) (i:=(a+b) / 2) aC.len f4 (f.ro h) e9
 have C:=fF G s
 have aF:=(K _ (D3 s)).2
 refine fw (.pointer (some ⟨ab y,ao y+((a+b) / 2) *5,none⟩)) (Ij (kW) rfl rfl ((f.ro h).addr (i:=(a+b) / 2) e6) e6) (fw (.agg (aC.cells l).toArray) (Io rfl (Iy (cs:=(aC.cells l)) Tryz.isAgg60 Tryz.sizeOf60 ((f.ro h).elem aC.len s f4))) (Mz rfl ?_))
 refine WL.do rfl (IK Tryz.call133 rfl rfl ?_ (λ _ _ k=>k))
 refine cb Tryz.func133 ?_
 refine sr ?_
 refine dV (aC.cells l) 60 f ?_
 intro ag aN N
 refine Ar rfl (Kz (vP ag 0) (Lz (vU l.aN) N 0 D4 (Mz rfl ?_)))
 obtain⟨I,t⟩:∃ q,gP l.aN n=q:=⟨_,rfl⟩
 obtain⟨aO,O,aG,P,aH⟩:=Ii N
 refine cl P8 (mF _ _ l.aN n I O t) ?_
 rintro _ aP ⟨rfl,Q⟩
 have R:=P _ _ Q
 refine An rfl (rt (rs (Kz (.bool (decide (I < 0))) (nt ?_))))
 by_cases z:I < 0
 refine jT (dT z) (Ib (Mz rfl (fw (vI ((((a+b) / 2)+1:Nat):Int)) (Ie (e:=C5.wrap ((((a+b) / 2:Nat):Int)+1)) yk f0) (Az rfl (C6 (bN ?_))))))
 have ai:=R.pk []
 exact Ir (((a+b) / 2)+1,b,j) ⟨rfl,rfl,rfl,rfl,rfl,rfl,rfl,rfl,trivial⟩ (g.2 ⟨ai,e6,e6,e6,et (p) (et (ip r) (et (ah (bJ C)) (et (ah t) (ip z))))⟩) (by show j < j+1; omega)
 refine jF (dF z) (Ib (Mz rfl (Az rfl (C6 (bN ?_)))))
 have aj:=R.pk []
 exact Ir (a,(a+b) / 2,j) ⟨rfl,rfl,rfl,rfl,rfl,rfl,rfl,rfl,trivial⟩ (g.2 ⟨aj,e6,e6,e6,et (p) (et (ip r) (et (ah (bJ C)) (et (ah t) (iN z))))⟩) (by show j < j+1; omega)
 refine jF (dF r) (C7 (Il ?_))
 have E:dB l0 n ((l0.length - 0)+1) 0 l0.length=a:=et (p) (iN r)
 refine Il (IB (Ig (sr (Mz rfl (Mz rfl (Mz rfl (Kz (.bool (decide ((a:Int) < (l0.length:Int)))) (Mz rfl ?_))))))))
 by_cases d:(a:Int) < (l0.length:Int)
 refine gw (.func (.func 133) #[] #[]) (dT d) (Iq rfl) (gw (.slice y l0.length X) (dT d) (Iq rfl) (gw (vJ a) (dT d) (Iq rfl) ?_))
 obtain⟨m,u⟩:=dN (ls:=d0) (i:=a) aC.len f4 (f.ro h) e9
 have S:=fF G u
 have aI:=(K _ (D3 u)).2
 refine gw (.pointer (some ⟨ab y,ao y+a *5,none⟩)) (dT d) (Ij (kW) rfl rfl ((f.ro h).addr (i:=a) e6) e6) (gw (.agg (aC.cells m).toArray) (dT d) (Io rfl (Iy (cs:=(aC.cells m)) Tryz.isAgg60 Tryz.sizeOf60 ((f.ro h).elem aC.len u f4))) (gw (vU n) (dT d) (Iq rfl) ?_))
 refine Jm rfl rfl (dT d) rfl (IK Tryz.call133 rfl rfl ?_ (λ _ _ k=>k))
 refine cb Tryz.func133 ?_
 refine sr ?_
 refine dV (aC.cells m) 60 f ?_
 intro ak aQ T
 refine Ar rfl (Kz (vP ak 0) (Lz (vU m.aN) T 0 D4 (Mz rfl ?_)))
 obtain⟨B,F⟩:∃ q,gP m.aN n=q:=⟨_,rfl⟩
 obtain⟨aR,U,aJ,V,aK⟩:=Ii T
 refine cl P8 (mF _ _ m.aN n B U F) ?_
 rintro _ aS ⟨rfl,W⟩
 have au:=V _ _ W
 refine An rfl (rt (rs (Gz (.bool (decide (B=0))) (dT d) (fw (.bool (decide (B=0))) (Iw rfl (dT d) rfl) (Az rfl (An rfl (rt (Fin.res (lW rfl rfl rfl) ?_))))))))
 have av:=au.pk []
 obtain⟨rfl,rfl⟩:=ic (zj hr (show _=(((a:Nat):Int),decide (B=0)) from et (ah E) (et (ip d) (et (ah (bJ S)) (ah F)))))
 exact⟨rfl,av,e6,i7⟩
 refine Sz (dF d) (Sz (dF d) (Sz (dF d) (Sz (dF d) (Sz (dF d) (Sz (dF d) (Sz (dF d) (Sz (dF d) (fw (.bool false) (Ih rfl (dF d) rfl) (Az rfl (An rfl (rt (Fin.res (lW rfl rfl rfl) ?_))))))))))))
 have ax:=f.pk []
 obtain⟨rfl,rfl⟩:=ic (zj hr zq2)
 exact⟨rfl,ax,e6,i7⟩
def eP (l0:List dK) (f:Nat):Nat->Nat->Nat->Nat
  | 0,a,b=>default
  | c+1,a,b=>if(a:Int) < (b:Int) then bnd (C0 l0 ((a+b) / 2) default) λ d=>bnd (gP d.aR f) λ e=>if e < 0 then eP l0 f c (((a+b) / 2)+1) b else eP l0 f c a ((a+b) / 2) else a
def bW (l0:List dK) (c:Nat):Int × Bool:=
 bnd (eP l0 c ((l0.length - 0)+1) 0 l0.length) λ sLrL=>if(sLrL:Int) < (l0.length:Int) then bnd (C0 l0 sLrL default) λ a=>bnd (gP a.aR c) λ b=>((sLrL:Int),decide (b=0)) else((sLrL:Int),false)
theorem jb (w D B n0 Z d0 l0 s M r1) (H:Own w D w []) (J:s5 bB.abs d0=l0) (p:Ro w D λ w'=>bE w' 9 B n0 (q3 bB.cells d0)) (n:∀ x ∈ d0,Ro w D (λ w'=>bE w' 6 x.bV.A x.bV.ls.length (q3 bi.cells x.bV.ls))/\(x.bV.ls.length<=x.bV.c/\x.bV.ls.length<=9223372036854775807)/\Ro w D (λ w'=>bE w' 3 x.aG.A x.aG.ls.length (q3 bG.cells x.aG.ls))/\(x.aG.ls.length<=x.aG.c/\x.aG.ls.length<=9223372036854775807)/\(∀ h ∈ x.aG.ls,Ro w D (λ w'=>bE w' 6 h.aH.A h.aH.ls.length (q3 bi.cells h.aH.ls))/\(h.aH.ls.length<=h.aH.c/\h.aH.ls.length<=9223372036854775807)/\Ro w D (λ w'=>bE w' 1 h.aJ.A h.aJ.ls.length (q3 (eI .i64) h.aJ.ls))/\(h.aJ.ls.length<=h.aJ.c/\h.aJ.ls.length<=9223372036854775807))/\Ro w D (λ w'=>bE w' 1 x.bD.A x.bD.ls.length (q3 eL x.bD.ls))/\(x.bD.ls.length<=x.bD.c/\x.bD.ls.length<=9223372036854775807)/\Ro w D (λ w'=>bE w' 1 x.af.A x.af.ls.length (q3 (IX (β:=ae)) x.af.ls))/\(x.af.ls.length<=x.af.c/\x.af.ls.length<=9223372036854775807)/\(∀ h ∈ x.af.ls,Ro w D (λ w'=>bE w' 3 h.A h.ls.length (q3 ae.cells h.ls))/\(h.ls.length<=h.c/\h.ls.length<=9223372036854775807)/\(∀ L ∈ h.ls,Ro w D (λ w'=>bE w' 2 L.ak.A L.ak.ls.length (q3 aI.cells L.ak.ls))/\(L.ak.ls.length<=L.ak.c/\L.ak.ls.length<=9223372036854775807)))) (ag:n0=l0.length) (aY:l0.length *136<=211106232532992) (hr:bW l0 s=(M,r1)):
    Calls v8 102 #[.slice B n0 Z,vU s, .func (.func 103) #[] #[]] w (d9 λ v w'=>v= .tuple #[vI M, .bool r1]/\Own w D w' []/\(0<=M/\M<=((l0.length:Nat):Int))/\(Bool.toNat r1=0\/M < ((l0.length:Nat):Int))):=by
 unfold bW at hr
 subst ag
 have aC:=aB J
 refine cb Tryz.func102 ?_
 refine sr (Az rfl (Ar rfl (Mz rfl (Kz (vJ l0.length) (Ar rfl (Mz rfl (Az rfl (An rfl (Ic (bo ?_))))))))))
 have ai:=H.pk []
 obtain⟨aj,o⟩:=rz λ (a:Nat) (b:Nat) (t:Nat) w'=>Own w D w' []/\a<=b/\b<=l0.length/\b - a < t/\eP l0 s ((l0.length - 0)+1) 0 l0.length=eP l0 s t a b
 refine C3 (λ i:Nat × Nat × Nat=> [(9,vJ i.1),(10,vJ i.2.1),(8,vJ l0.length),(7, .bool false),(6,vI 0),(0, .slice B l0.length Z),(1,vU s),(2, .func (.func 103) #[] #[])]) aj (λ i=>i.2.2) (0,l0.length,(l0.length - 0)+1) ⟨rfl,rfl,rfl,rfl,rfl,rfl,rfl,rfl,trivial⟩ (o.2 ⟨ai,e6,e6,e6,rfl⟩) ?_
 rintro ⟨a,b,t⟩ aZ N
 obtain⟨m,aD,aF,aG,u⟩:=o.1 N
 obtain⟨r,O⟩:∃ q,t=q+1:=⟨t - 1,e6⟩
 subst O
 refine Ic (sr (Mz rfl (Mz rfl (Kz (.bool (decide ((a:Int) < (b:Int)))) (nt ?_)))))
 by_cases y:(a:Int) < (b:Int)
 refine jT (dT y) (sk (bo (sr (Mz rfl (Mz rfl (fw (vJ (a+b)) (Ie (e:=C5.wrap ((a:Int)+(b:Int))) yk f0) (fw (vU (a+b)) (Ie (e:=IntKind.u64.wrap ((a+b:Nat):Int)) yk (IntWalk.u64_in _ e6)) (fw (vU ((a+b) / 2)) (Ie (e:=Int.fdiv ((a+b:Nat):Int) 2) yk (nV _ 1 _ f4)) (fw (vJ ((a+b) / 2)) (Ie (e:=C5.wrap (((a+b) / 2:Nat):Int)) yk (Lf _ e6)) (Ar rfl (Mz rfl (Mz rfl (Mz rfl ?_)))))))))))))
 obtain⟨f,j⟩:=dN (ls:=d0) (i:=(a+b) / 2) bB.len f4 (m.ro p) e9
 have F:=fF J j
 have aH:=(n _ (D3 j)).2.1
 have aJ:=(n _ (D3 j)).2.2.2.1
 have aK:r8 (s5 bG.abs f.aG.ls)=f.aG.ls.length:=s3 ..
 have aL:=(n _ (D3 j)).2.2.2.2.2.2.1
 have aM:=(n _ (D3 j)).2.2.2.2.2.2.2.2.1
 have aN:r8 (s5 bO.abs f.af.ls)=f.af.ls.length:=s3 ..
 refine fw (.pointer (some ⟨ab B,ao B+((a+b) / 2) *9,none⟩)) (Ij (qh) rfl rfl ((m.ro p).addr (i:=(a+b) / 2) e6) e6) (fw (.agg (bB.cells f).toArray) (Io rfl (Iy (cs:=(bB.cells f)) P9 Q0 ((m.ro p).elem bB.len j f4))) (Mz rfl ?_))
 refine WL.do rfl (IK Tryz.call103 rfl rfl ?_ (λ _ _ k=>k))
 refine cb Tryz.func103 ?_
 refine sr ?_
 refine dV (bB.cells f) 107 m ?_
 intro ak bf P
 refine Ar rfl (Kz (vP ak 0) (Lz (vU f.aR) P 0 D4 (Mz rfl ?_)))
 obtain⟨K,z⟩:∃ q,gP f.aR s=q:=⟨_,rfl⟩
 obtain⟨bg,Q,aO,R,aP⟩:=Ii P
 refine cl P8 (mF _ _ f.aR s K Q z) ?_
 rintro _ bn ⟨rfl,S⟩
 have T:=R _ _ S
 refine An rfl (rt (rs (Kz (.bool (decide (K < 0))) (nt ?_))))
 by_cases C:K < 0
 refine jT (dT C) (Ib (Mz rfl (fw (vI ((((a+b) / 2)+1:Nat):Int)) (Ie (e:=C5.wrap ((((a+b) / 2:Nat):Int)+1)) yk f0) (Az rfl (C6 (bN ?_))))))
 have au:=T.pk []
 exact Ir (((a+b) / 2)+1,b,r) ⟨rfl,rfl,rfl,rfl,rfl,rfl,rfl,rfl,trivial⟩ (o.2 ⟨au,e6,e6,e6,et (u) (et (ip y) (et (ah (bJ F)) (et (ah z) (ip C))))⟩) (by show r < r+1; omega)
 refine jF (dF C) (Ib (Mz rfl (Az rfl (C6 (bN ?_)))))
 have av:=T.pk []
 exact Ir (a,(a+b) / 2,r) ⟨rfl,rfl,rfl,rfl,rfl,rfl,rfl,rfl,trivial⟩ (o.2 ⟨av,e6,e6,e6,et (u) (et (ip y) (et (ah (bJ F)) (et (ah z) (iN C))))⟩) (by show r < r+1; omega)
 refine jF (dF y) (C7 (Il ?_))
 have G:eP l0 s ((l0.length - 0)+1) 0 l0.length=a:=et (u) (iN y)
 refine Il (IB (Ig (sr (Mz rfl (Mz rfl (Mz rfl (Kz (.bool (decide ((a:Int) < (l0.length:Int)))) (Mz rfl ?_))))))))
 by_cases d:(a:Int) < (l0.length:Int)
 refine gw (.func (.func 103) #[] #[]) (dT d) (Iq rfl) (gw (.slice B l0.length Z) (dT d) (Iq rfl) (gw (vJ a) (dT d) (Iq rfl) ?_))
 obtain⟨g,l⟩:=dN (ls:=d0) (i:=a) bB.len f4 (m.ro p) e9
 have U:=fF J l
 have aQ:=(n _ (D3 l)).2.1
 have aR:=(n _ (D3 l)).2.2.2.1
 have aS:r8 (s5 bG.abs g.aG.ls)=g.aG.ls.length:=s3 ..
 have aT:=(n _ (D3 l)).2.2.2.2.2.2.1
 have aU:=(n _ (D3 l)).2.2.2.2.2.2.2.2.1
 have aV:r8 (s5 bO.abs g.af.ls)=g.af.ls.length:=s3 ..
 refine gw (.pointer (some ⟨ab B,ao B+a *9,none⟩)) (dT d) (Ij (qh) rfl rfl ((m.ro p).addr (i:=a) e6) e6) (gw (.agg (bB.cells g).toArray) (dT d) (Io rfl (Iy (cs:=(bB.cells g)) P9 Q0 ((m.ro p).elem bB.len l f4))) (gw (vU s) (dT d) (Iq rfl) ?_))
 refine Jm rfl rfl (dT d) rfl (IK Tryz.call103 rfl rfl ?_ (λ _ _ k=>k))
 refine cb Tryz.func103 ?_
 refine sr ?_
 refine dV (bB.cells g) 107 m ?_
 intro ax bq V
 refine Ar rfl (Kz (vP ax 0) (Lz (vU g.aR) V 0 D4 (Mz rfl ?_)))
 obtain⟨E,I⟩:∃ q,gP g.aR s=q:=⟨_,rfl⟩
 obtain⟨bu,W,aW,X,aX⟩:=Ii V
 refine cl P8 (mF _ _ g.aR s E W I) ?_
 rintro _ bv ⟨rfl,Y⟩
 have ay:=X _ _ Y
 refine An rfl (rt (rs (Gz (.bool (decide (E=0))) (dT d) (fw (.bool (decide (E=0))) (Iw rfl (dT d) rfl) (Az rfl (An rfl (rt (Fin.res (lW rfl rfl rfl) ?_))))))))
 have az:=ay.pk []
 obtain⟨rfl,rfl⟩:=ic (zj hr (show _=(((a:Nat):Int),decide (E=0)) from et (ah G) (et (ip d) (et (ah (bJ U)) (ah I)))))
 exact⟨rfl,az,e6,i7⟩
 refine Sz (dF d) (Sz (dF d) (Sz (dF d) (Sz (dF d) (Sz (dF d) (Sz (dF d) (Sz (dF d) (Sz (dF d) (fw (.bool false) (Ih rfl (dF d) rfl) (Az rfl (An rfl (rt (Fin.res (lW rfl rfl rfl) ?_))))))))))))
 have aA:=m.pk []
 obtain⟨rfl,rfl⟩:=ic (zj hr zq2)
 exact⟨rfl,aA,e6,i7⟩
def lH (g:bI) (c:bL) (b:aA):bI:=
 bnd (bM b.aa.aj.ls c.aN) λ a=>bnd (bW b.ay.ls c.aN) λ d=>if a.2=true then bnd (dZ g c.aN ([c.aJ]) a.2) λ e=>e else if d.2=true then g else bnd (dZ g c.aN ([c.aJ]) a.2) λ f=>f
theorem xg (w D g0) (p0:bI) (C E t) (d:bL) (ak aP au av aQ ax ay az aR aD e) (b:aA) (M N g h o O P j l p Q R S T U V W X Y Z) (r0:bI) (H:Own w D w [blk g0 [.pointer (some ⟨e,0,none⟩), .slice C p0.aX.ls.length E] 98,row C p0.aX.ls.length E (q3 bf.cells t) 42 21,sepL (q3 bf.own t),mK e b M b.aa.ag.ls.length N g h O P j l Q R S T U V W X Y Z]) (u:s5 bf.abs t=p0.aX.ls) (bq:aP=d.aH.ls.length) (dz:Ro w D λ w'=>bE w' 6 ak d.aH.ls.length (q3 bi.cells d.aH.ls)) (dA:d.aH.ls.length<=au/\d.aH.ls.length<=9223372036854775807) (bu:s5 ae.abs ay=d.ai.ls) (bv:aQ=d.ai.ls.length) (dB:Ro w D λ w'=>bE w' 3 av d.ai.ls.length (q3 ae.cells ay)) (dC:d.ai.ls.length<=ax/\d.ai.ls.length<=9223372036854775807) (dD:∀ x ∈ ay,Ro w D (λ w'=>bE w' 2 x.ak.A x.ak.ls.length (q3 aI.cells x.ak.ls))/\(x.ak.ls.length<=x.ak.c/\x.ak.ls.length<=9223372036854775807)) (bz:aR=d.ag.ls.length) (dE:Ro w D λ w'=>bE w' 2 az d.ag.ls.length (q3 aY.cells d.ag.ls)) (dF:d.ag.ls.length<=aD/\d.ag.ls.length<=9223372036854775807) (F:s5 aC.abs o=b.aa.aj.ls) (aF:Ro w D λ w'=>bE w' 5 g b.aa.aj.ls.length (q3 aC.cells o)) (bH:b.aa.aj.ls.length<=h/\b.aa.aj.ls.length<=9223372036854775807) (G:∀ x ∈ o,Ro w D (λ w'=>bE w' 1 x.au.A x.au.ls.length (q3 (eI .i64) x.au.ls))/\(x.au.ls.length<=x.au.c/\x.au.ls.length<=9223372036854775807)) (I:s5 bB.abs p=b.ay.ls) (aG:Ro w D λ w'=>bE w' 9 j b.ay.ls.length (q3 bB.cells p)) (bJ:b.ay.ls.length<=l/\b.ay.ls.length<=9223372036854775807) (a:∀ x ∈ p,Ro w D (λ w'=>bE w' 6 x.bV.A x.bV.ls.length (q3 bi.cells x.bV.ls))/\(x.bV.ls.length<=x.bV.c/\x.bV.ls.length<=9223372036854775807)/\Ro w D (λ w'=>bE w' 3 x.aG.A x.aG.ls.length (q3 bG.cells x.aG.ls))/\(x.aG.ls.length<=x.aG.c/\x.aG.ls.length<=9223372036854775807)/\(∀ f ∈ x.aG.ls,Ro w D (λ w'=>bE w' 6 f.aH.A f.aH.ls.length (q3 bi.cells f.aH.ls))/\(f.aH.ls.length<=f.aH.c/\f.aH.ls.length<=9223372036854775807)/\Ro w D (λ w'=>bE w' 1 f.aJ.A f.aJ.ls.length (q3 (eI .i64) f.aJ.ls))/\(f.aJ.ls.length<=f.aJ.c/\f.aJ.ls.length<=9223372036854775807))/\Ro w D (λ w'=>bE w' 1 x.bD.A x.bD.ls.length (q3 eL x.bD.ls))/\(x.bD.ls.length<=x.bD.c/\x.bD.ls.length<=9223372036854775807)/\Ro w D (λ w'=>bE w' 1 x.af.A x.af.ls.length (q3 (IX (β:=ae)) x.af.ls))/\(x.af.ls.length<=x.af.c/\x.af.ls.length<=9223372036854775807)/\(∀ f ∈ x.af.ls,Ro w D (λ w'=>bE w' 3 f.A f.ls.length (q3 ae.cells f.ls))/\(f.ls.length<=f.c/\f.ls.length<=9223372036854775807)/\(∀ y2 ∈ f.ls,Ro w D (λ w'=>bE w' 2 y2.ak.A y2.ak.ls.length (q3 aI.cells y2.ak.ls))/\(y2.ak.ls.length<=y2.ak.c/\y2.ak.ls.length<=9223372036854775807)))) (eD:b.aa.ag.ls.length<=1000/\b.aa.aj.ls.length<=1000/\b.aa.aF.ls.length<=1000/\b.ay.ls.length<=1000/\p0.aX.ls.length<=100000) (hr:lH p0 d b=r0):
    Calls v8 59 #[vP g0 0, .agg (gU d.aD d.aJ d.fI d.aK d.dz d.eH d.aP d.av d.aN d.dY d.aV d.aL d.dL d.cu d.xN d.cz d.bU.bF d.bU.bT ak aP au av aQ ax az aR aD).toArray] w (d9 λ v w'=> ∃ aH aJ K,v= .tuple #[]/\Own w D w' [blk g0 [vP e 0, .slice aH r0.aX.ls.length aJ] 98,row aH r0.aX.ls.length aJ (q3 bf.cells K) 42 21,sepL (q3 bf.own K),mK e b M b.aa.ag.ls.length N g h O P j l Q R S T U V W X Y Z]/\(s5 bf.abs K=r0.aX.ls)):=by
 unfold lH at hr
 subst bq bv bz
 have dw:=aB u
 have dx:=aB bu
 have bD:=aB F
 have bF:=aB I
 have dG:=zr 1 H
 refine cb Tryz.func59 ?_
 refine sr ?_
 refine dV (iH d ak au av ax az aD) 42 H ?_
 intro ag eF dH
 refine nt (Ic ?_)
 refine vX [] (Iu IC) dH ?_
 intro eG bK
 refine qv 0 rfl rfl (qp g0 0 1 rfl (qp g0 0 2 rfl (ql 3 rfl 1 P3 rfl rfl rfl (qp ag 8 4 rfl (ql 5 rfl 0 D4 rfl rfl rfl ?_)))))
 refine GX.do 6 rfl e7 (Iz Tryz.call95 rfl ?_ (λ _ _ k=>k))
 refine cb Tryz.func95 ?_
 refine sr (Az rfl (Ar rfl (Mz rfl (Kz (vP e 0) (Kz (vP e 0) (Kz (vP e 5) (Lz (.slice g b.aa.aj.ls.length h) bK 4 D2 (Mz rfl ?_))))))))
 obtain⟨⟨ai,r⟩,aa⟩:∃ q:Int × Bool,bM b.aa.aj.ls d.aN=q:=⟨_,rfl⟩
 obtain⟨eH,bN,aS,bO,dU⟩:=Ii bK
 refine cl Tryz.call132 (iJ _ _ g b.aa.aj.ls.length h o b.aa.aj.ls d.aN ai r bN F (aS _ aF) (λ z B=>⟨aS _ (G z B).1,(G z B).2⟩) rfl e6 aa) ?_
 rintro _ eO ⟨rfl,bP,aT,aU⟩
 have bQ:=bO _ _ bP
 replace aT:0<=ai/\ai<=(b.aa.aj.ls.length:Int):=aT
 replace aU:Bool.toNat r=0\/ai < (b.aa.aj.ls.length:Int):=aU
 refine Kz (vI ai) (Kz (.bool r) (Az rfl (An rfl (rt (Fin.res (lW rfl rfl rfl) ?_)))))
 refine⟨.inr ⟨_,bQ⟩, ?_⟩
 refine qv 7 rfl rfl (qk (vI ai) 8 rfl (qk (.bool r) 9 rfl (qa 10 rfl rfl (qa 11 rfl rfl (qn (Ig (Ic ?_)))))))
 refine vX [] (Iu IC) bQ ?_
 intro eP bR
 refine qv 0 rfl rfl (qp g0 0 1 rfl (qp g0 0 2 rfl (ql 3 rfl 1 P3 rfl rfl rfl (qp ag 8 4 rfl (ql 5 rfl 0 D4 rfl rfl rfl ?_)))))
 refine GX.do 6 rfl e7 (Iz Tryz.call62 rfl ?_ (λ _ _ k=>k))
 refine cb Tryz.func62 ?_
 refine sr (Az rfl (Ar rfl (Mz rfl (Kz (vP e 0) (Kz (vP e 8) (Lz (.slice j b.ay.ls.length l) bR 4 Q1 (Mz rfl ?_)))))))
 obtain⟨⟨aj,s⟩,af⟩:∃ q:Int × Bool,bW b.ay.ls d.aN=q:=⟨_,rfl⟩
 obtain⟨eQ,bS,m,bT,dW⟩:=Ii bR
 refine cl Tryz.call102 (jb _ _ j b.ay.ls.length l p b.ay.ls d.aN aj s bS I (m _ aG) (λ z B=>⟨m _ (a z B).1,(a z B).2.1,m _ (a z B).2.2.1,(a z B).2.2.2.1,(λ f k1=>⟨m _ ((a z B).2.2.2.2.1 f k1).1,((a z B).2.2.2.2.1 f k1).2.1,m _ ((a z B).2.2.2.2.1 f k1).2.2.1,((a z B).2.2.2.2.1 f k1).2.2.2⟩),m _ (a z B).2.2.2.2.2.1,(a z B).2.2.2.2.2.2.1,m _ (a z B).2.2.2.2.2.2.2.1,(a z B).2.2.2.2.2.2.2.2.1,(λ f k1=>⟨m _ ((a z B).2.2.2.2.2.2.2.2.2 f k1).1,((a z B).2.2.2.2.2.2.2.2.2 f k1).2.1,(λ y2 k2=>⟨m _ (((a z B).2.2.2.2.2.2.2.2.2 f k1).2.2 y2 k2).1,(((a z B).2.2.2.2.2.2.2.2.2 f k1).2.2 y2 k2).2⟩)⟩)⟩) rfl e6 af) ?_
 rintro _ eT ⟨rfl,bU,aV,aW⟩
 have J:=bT _ _ bU
 replace aV:0<=aj/\aj<=(b.ay.ls.length:Int):=aV
 replace aW:Bool.toNat s=0\/aj < (b.ay.ls.length:Int):=aW
 refine Kz (vI aj) (Kz (.bool s) (Az rfl (An rfl (rt (Fin.res (lW rfl rfl rfl) ?_)))))
 refine⟨.inr ⟨_,J⟩, ?_⟩
 refine qv 7 rfl rfl (qk (vI aj) 8 rfl (qk (.bool s) 9 rfl (qa 10 rfl rfl (qa 11 rfl rfl (qn (Ig (sr (Mz rfl (Mz rfl ?_)))))))))
 rcases Li (r) with n | n
 have h54t:Bool.toNat r=1:=by rw [n]; rfl
 refine Sz n (Sz n (fw (.bool true) (Iw rfl n rfl) (nt (jt (Ib (Mz rfl (Kz (vP ag 8) (Lz (vU d.aN) J 0 D4 (Kz (vP ag 1) (Lz (vI d.aJ) J 0 C4 ?_))))))))))
 refine lg [vI d.aJ] 3 1 1 J ?_
 intro bV eU bA
 replace bA:=IL (y:=row bV 1 1 (q3 (eI .i64) ([d.aJ])) 3 1) rfl bA
 refine Mz rfl ?_
 have dI:=bA.pb [0,1,5]
 obtain⟨bX,aX⟩:∃ q,dZ p0 d.aN ([d.aJ]) r=q:=⟨_,rfl⟩
 obtain⟨eX,bY,dX,bZ,cu⟩:=IU dI
 refine cl Q2 (kV _ _ g0 p0 C E t e d.aN bV 1 1 ([d.aJ]) r bX bY u (cu _ 0 _ rfl aO) rfl i8 g7 aX) ?_
 rintro _ eY ⟨dJ,dK,dL,rfl,cz,aZ⟩
 have cB:=bZ _ _ cz
 have dY:=aB aZ
 have ed:=zr 1 cB
 refine C6 (IA (res0 rfl) ?_)
 have dM:=cB.pk [0,1,2,5]
 obtain rfl:=zj hr zq4
 exact⟨dJ,dK,dL,rfl,dM,aZ⟩
 have h54t:Bool.toNat r=0:=by rw [n]; rfl
 refine I1 (v:= .bool s) rfl rfl n rfl (Iq rfl) (Gz (.bool (!s)) n (fw (.bool (!s)) (Ih rfl n rfl) (nt ?_)))
 rcases Li (s) with L | L
 have h76t:Bool.toNat s=1:=by rw [L]; rfl
 refine jF (cn L) (IE (IA (res0 rfl) ?_))
 have dN:=J.px [] [0] []
 obtain rfl:=zj hr zq4
 exact⟨C,E,t,rfl,dN,u⟩
 have h76t:Bool.toNat s=0:=by rw [L]; rfl
 refine jT (cn L) (Ib (Mz rfl (Kz (vP ag 8) (Lz (vU d.aN) J 0 D4 (Kz (vP ag 1) (Lz (vI d.aJ) J 0 C4 ?_))))))
 refine lg [vI d.aJ] 3 1 1 J ?_
 intro cK eZ bC
 replace bC:=IL (y:=row cK 1 1 (q3 (eI .i64) ([d.aJ])) 3 1) rfl bC
 refine Mz rfl ?_
 have dO:=bC.pb [0,1,5]
 obtain⟨cO,bg⟩:∃ q,dZ p0 d.aN ([d.aJ]) r=q:=⟨_,rfl⟩
 obtain⟨fe,cZ,ek,df,dh⟩:=IU dO
 refine cl Q2 (kV _ _ g0 p0 C E t e d.aN cK 1 1 ([d.aJ]) r cO cZ u (dh _ 0 _ rfl aO) rfl i8 g7 bg) ?_
 rintro _ fo ⟨dP,dQ,dR,rfl,di,bn⟩
 have dm:=df _ _ di
 have eu:=aB bn
 have eB:=zr 1 dm
 refine C6 (IA (res0 rfl) ?_)
 have dS:=dm.pk [0,1,2,5]
 obtain rfl:=zj hr zq5
 exact⟨dP,dQ,dR,rfl,dS,bn⟩
def iI (a:bL):List Int->Nat->Unit ⊕ Int
  | [],b=>Sum.inl ()
  | c::d,b=>if c=a.aJ then Sum.inr (b:Int) else iI a d (b+1)
def nL (l0:List Int) (a:bL):Int:=
 lp (iI a l0 0) λ _=>(-1)
theorem su (w D C R S l0 m) (a:bL) (d f g h n j l Q) (H:Own w D w [blk m (iH a d f g h j l) 42]) (z:Ro w D λ w'=>bE w' 1 C R (q3 (eI .i64) l0)) (T:R=l0.length) (aa:l0.length<=9223372036854775807) (F:Ro w D λ w'=>bE w' 6 d a.aH.ls.length (q3 bi.cells a.aH.ls)) (G:a.aH.ls.length<=f/\a.aH.ls.length<=9223372036854775807) (p:s5 ae.abs n=a.ai.ls) (I:Ro w D λ w'=>bE w' 3 g a.ai.ls.length (q3 ae.cells n)) (J:a.ai.ls.length<=h/\a.ai.ls.length<=9223372036854775807) (K:∀ x ∈ n,Ro w D (λ w'=>bE w' 2 x.ak.A x.ak.ls.length (q3 aI.cells x.ak.ls))/\(x.ak.ls.length<=x.ak.c/\x.ak.ls.length<=9223372036854775807)) (L:Ro w D λ w'=>bE w' 2 j a.ag.ls.length (q3 aY.cells a.ag.ls)) (M:a.ag.ls.length<=l/\a.ag.ls.length<=9223372036854775807) (hr:nL l0 a=Q):
    Calls v8 134 #[.slice C R S, .func (.func 97) #[] #[vP m 0]] w (d9 λ v w'=>v=vI Q/\Own w D w' [blk m (iH a d f g h j l) 42]/\(-1<=Q/\Q < ((l0.length:Nat):Int))):=by
 subst T
 have E:=aB p
 refine cb Tryz.func134 ?_
 refine sr (An rfl (Ic (sr (Mz rfl (Kz (vJ l0.length) (Mn rfl (bo ?_)))))))
 have U:=H.pf []
 obtain⟨V,r⟩:=nQ λ (b:Nat) w'=>Own w D w' [blk m (iH a d f g h j l) 42]/\b<=l0.length/\iI a l0 0=iI a (r3 b l0) b
 refine C3 (λ i:Nat=> [(4,vI 0),(8,vJ i),(7,vJ l0.length),(0, .slice C l0.length S),(1, .func (.func 97) #[] #[vP m 0])]) V (λ i=>l0.length - i) 0 ⟨rfl,rfl,rfl,rfl,rfl,trivial⟩ (r.2 ⟨U,e6,rfl⟩) ?_
 rintro b af N
 obtain⟨o,Z,s⟩:=r.1 N
 refine sr (Kz (.bool (decide ((b:Int) < (l0.length:Int)))) (nt (Ic ?_)))
 by_cases O:(b:Int) < (l0.length:Int)
 obtain⟨B,u⟩:=dN (ls:=l0) (i:=b) jd f4 (o.ro z) e9
 have y:=drop_at u
 refine jT (dT O) (sk (Ic (bo (sr (Mz rfl (Ar rfl (Mz rfl (Mz rfl (Mz rfl (fw (.pointer (some ⟨ab C,ao C+b *1,none⟩)) (Ij (om) rfl rfl ((o.ro z).addr (i:=b) e6) e6) (fw (vI B) (Io rfl (bZ.one C4 (((o.ro z).elem jd u f4).at_ (k:=0) rfl))) ?_)))))))))))
 refine WL.do rfl (IK Tryz.call97 rfl rfl ?_ (λ _ _ k=>k))
 refine cb Tryz.func97 ?_
 refine sr (Ar rfl (Mz rfl (Kz (vP m 1) (Lz (vI a.aJ) o 0 C4 (Kz (.bool (decide (B=a.aJ))) (An rfl (rt (rs (nt ?_)))))))))
 by_cases t:B=a.aJ
 refine jT (dT t) (sr (Mz rfl (An rfl (rt (bR (tR (tR (bR (tR (rs ?_))))))))))
 have W:=o.pf []
 obtain rfl:_=(b:Int):=zj hr (jm (et (s) (et (congrArg (λ q=>iI a q b) y) (ip t))))
 exact⟨rfl,W,e6⟩
 refine jF (dF t) (IE (bN (Ig (Ib (fw (vJ (b+1)) (Ie (e:=C5.wrap ((b:Int)+1)) yk f0) (Mz rfl (C6 ?_)))))))
 have X:=o.pf []
 exact Ir (b+1) ⟨rfl,rfl,rfl,rfl,rfl,trivial⟩ (r.2 ⟨X,e6,et (s) (et (congrArg (λ q=>iI a q b) y) (iN t))⟩) (by show l0.length - (b+1) < l0.length - b; omega)
 refine jF (dF O) (C7 (Il ?_))
 have P:iI a l0 0=Sum.inl ():=et (s) (et (congrArg (λ q=>iI a q b) (fB (ls:=l0) (i:=b) e6)) rfl)
 refine Il (IB (Ig (sr (An rfl (rt (rs ?_))))))
 have Y:=o.pf []
 obtain rfl:_=(-1):=zj hr (nT P)
 exact⟨rfl,Y,e6⟩
def iF (l0:List Int) (a:bL):Nat->Int->Int->List Int->Int × (List Int)
  | 0,b,c,d=>default
  | f+1,b,c,d=>if c < (l0.length:Int) then bnd (C0 d (D0 c) default) λ e=>if e=a.aJ then iF l0 a f b (c+1) d else iF l0 a f (b+1) (c+1) (u2 d (D0 b) e) else(b,d)
def iP (l0:List Int) (b:bL):(List Int):=
 bnd (nL l0 b) λ a=>if a=(-1) then l0 else bnd (iF l0 b ((D0 ((l0.length:Int) - (a+1)))+1) a (a+1) l0) λ sLrbfL=>(q7 (D0 sLrbfL.1) sLrbfL.2)
theorem rP (w D u n0 G l0 p) (a:bL) (h d j f s l g X) (H:Own w D w [row u n0 G (q3 (eI .i64) l0) 3 1,blk p (iH a h d j f l g) 42]) (aC:n0=l0.length) (bz:l0.length *8<=211106232532992) (J:Ro w D λ w'=>bE w' 6 h a.aH.ls.length (q3 bi.cells a.aH.ls)) (Y:a.aH.ls.length<=d/\a.aH.ls.length<=9223372036854775807) (z:s5 ae.abs s=a.ai.ls) (K:Ro w D λ w'=>bE w' 3 j a.ai.ls.length (q3 ae.cells s)) (Z:a.ai.ls.length<=f/\a.ai.ls.length<=9223372036854775807) (B:∀ x ∈ s,Ro w D (λ w'=>bE w' 2 x.ak.A x.ak.ls.length (q3 aI.cells x.ak.ls))/\(x.ak.ls.length<=x.ak.c/\x.ak.ls.length<=9223372036854775807)) (L:Ro w D λ w'=>bE w' 2 l a.ag.ls.length (q3 aY.cells a.ag.ls)) (aa:a.ag.ls.length<=g/\a.ag.ls.length<=9223372036854775807) (bA:l0.length<=1000000) (hr:iP l0 a=X):
    Calls v8 96 #[.slice u n0 G, .func (.func 97) #[] #[vP p 0]] w (d9 λ v w'=> ∃ B0 b0,v= .slice B0 X.length b0/\Own w D w' [row B0 X.length b0 (q3 (eI .i64) X) 3 1,blk p (iH a h d j f l g) 42]/\(X.length<=l0.length)):=by
 unfold iP at hr
 subst aC
 have W:=aB z
 have bB:=zr 0 H
 refine cb Tryz.func96 ?_
 refine sr (Ar rfl (Mz rfl (Mz rfl ?_)))
 have aD:=H.pb [0]
 obtain⟨n,M⟩:∃ q,nL l0 a=q:=⟨_,rfl⟩
 obtain⟨bC,af,E,ag,ai⟩:=II aD
 refine cl Tryz.call134 (su _ _ u l0.length G l0 p a h d j f s l g n af (ai _ 0 _ rfl aO) rfl e6 (E _ J) e6 z (E _ K) e6 (λ x9 h9=>⟨E _ (B x9 h9).1,(B x9 h9).2⟩) (E _ L) e6 M) ?_
 rintro _ bD ⟨rfl,aj,U⟩
 have ak:=ag _ _ aj
 replace U: -1<=n/\n < (l0.length:Int):=U
 refine An rfl (Ic (sr (Mz rfl (Kz (.bool (decide (n=(-1)))) (nt ?_)))))
 by_cases S:n=(-1)
 refine jT (dT S) (sr (Mz rfl (An rfl (rt (tR (rs ?_))))))
 have aF:=ak.pb [0]
 obtain rfl:=zj hr zq2
 exact⟨u,G,rfl,aF,j7⟩
 refine jF (dF S) (sk (Ic (sr (Mz rfl (fw (vI (n+1)) (Ie (e:=C5.wrap (n+1)) yk g2) (An rfl (bo ?_)))))))
 have aG:=ak.pf []
 obtain⟨aH,F⟩:=sQ λ (b:Int) (m:Int) r (N:Nat) w'=>Own w D w' [blk p (iH a h d j f l g) 42,row u l0.length G (q3 (eI .i64) r) 3 1]/\r.length=l0.length/\(0<=b/\b<=m/\m<=(l0.length:Int))/\D0 ((l0.length:Int) - m) < N/\iF l0 a ((D0 ((l0.length:Int) - (n+1)))+1) n (n+1) l0=iF l0 a N b m r
 refine C3 (λ i:Int × Int × (List Int) × Nat=> [(5,vI i.1),(6,vI i.2.1),(4, .slice none 0 0),(0, .slice u l0.length G),(1, .func (.func 97) #[] #[vP p 0])]) aH (λ i=>i.2.2.2) (n,n+1,l0,(D0 ((l0.length:Int) - (n+1)))+1) ⟨rfl,rfl,rfl,rfl,rfl,trivial⟩ (F.2 ⟨aG,by first | omega | (simp only [H1] <;> omega) | (simp only [H2]),e6,e6,rfl⟩) ?_
 rintro ⟨b,m,r,N⟩ bF au
 obtain⟨t,aZ,bf,bg,O⟩:=F.1 au
 obtain⟨I,av⟩:∃ q,N=q+1:=⟨N - 1,e6⟩
 subst av
 refine Ic (sr (Mz rfl (Mz rfl (Kz (vJ l0.length) (Kz (.bool (decide (m < (l0.length:Int)))) (nt ?_))))))
 by_cases P:m < (l0.length:Int)
 refine jT (dT P) (sk (Ic (bo (sr (Mz rfl (fw (vJ (D0 m)) (Ie (e:=m) (Iq rfl) e6) ?_))))))
 obtain⟨C,Q⟩:=dN (ls:=r) (i:=D0 m) jd f4 (t.rds (i:=1) rfl) e9
 refine fw (.pointer (some ⟨ab u,ao u+(D0 m) *1,none⟩)) (Ij (om) rfl rfl ((t.rds (i:=1) rfl).addr (i:=D0 m) e6) e6) (fw (vI C) (Io rfl (bZ.one C4 (((t.rds (i:=1) rfl).elem jd Q f4).at_ (k:=0) rfl))) (Ar rfl (Mz rfl (Mz rfl ?_))))
 refine WL.do rfl (IK Tryz.call97 rfl rfl ?_ (λ _ _ k=>k))
 refine cb Tryz.func97 ?_
 refine sr (Ar rfl (Mz rfl (Kz (vP p 1) (Lz (vI a.aJ) t 0 C4 (Kz (.bool (decide (C=a.aJ))) (An rfl (rt (rs (fw (.bool (decide (¬ (C=a.aJ)))) (IG (e:= !(decide (C=a.aJ))) yk decide_not.symm) (nt ?_))))))))))
 by_cases T:C=a.aJ
 refine jF (dF (Lh T)) (IE (bN (Ig (Ib (Mz rfl (fw (vI (m+1)) (Ie (e:=C5.wrap (m+1)) yk g2) (Az rfl (C6 ?_))))))))
 have aJ:=t.pf []
 exact Ir (b,m+1,r,I) ⟨rfl,rfl,rfl,rfl,rfl,trivial⟩ (F.2 ⟨aJ,by first | omega | (simp only [H1] <;> omega) | (simp only [H2]),e6,e6,Eq.trans (O) (Eq.trans (if_pos P) (Eq.trans (ah (bJ Q)) (if_pos T)))⟩) (by show I < I+1; omega)
 refine jT (dT T) (sr (Mz rfl (fw (vJ (D0 b)) (Ie (e:=b) (Iq rfl) e6) (Mz rfl ?_))))
 obtain⟨bG,V⟩:=dN (ls:=r) (i:=D0 b) jd f4 (t.rds (i:=1) rfl) e9
 refine fw (.pointer (some ⟨ab u,ao u+(D0 b) *1,none⟩)) (Ij (om) rfl rfl ((t.rds (i:=1) rfl).addr (i:=D0 b) e6) e6) ?_
 have aK:=t.pb [0]
 refine Jb (Do.storeRow (vs:= [vI C]) (o:=(D0 b) *1+0) (q:=ao u+(D0 b) *1) aK rfl e6 rfl Tryz.sizeOf3 rfl rfl (Le rfl) (je jd V (Le rfl)) (jV (y:=C) jd rfl (Le rfl) V) ?_)
 intro bH aL
 refine nt (Ib (Mz rfl (fw (vI (b+1)) (Ie (e:=C5.wrap (b+1)) yk g2) (Az rfl (C6 (bN (Ig (Ib (Mz rfl (fw (vI (m+1)) (Ie (e:=C5.wrap (m+1)) yk g2) (Az rfl (C6 ?_))))))))))))
 have aM:=aL.pb [0]
 exact Ir (b+1,m+1,(u2 r (D0 b) C),I) ⟨rfl,rfl,rfl,rfl,rfl,trivial⟩ (F.2 ⟨aM,by first | omega | (simp only [H1] <;> omega) | (simp only [H2]),e6,e6,Eq.trans (O) (Eq.trans (if_pos P) (Eq.trans (ah (bJ Q)) (if_neg T)))⟩) (by show I < I+1; omega)
 refine jF (dF P) (C7 (Il ?_))
 have ax:iF l0 a ((D0 ((l0.length:Int) - (n+1)))+1) n (n+1) l0=(b,r):=et (O) (iN P)
 refine Il (IB (Ig (sr (Mz rfl (fw (vJ (D0 b)) (Ie (e:=b) (Iq rfl) e6) (fw (.slice (jS u (D0 b) 1 G) (l0.length - (D0 b)) (G - (D0 b))) (IV (om) rfl rfl e6) ?_))))))
 have aN:=t.pb [0]
 obtain⟨bn,aP,ay⟩:=aN.rowFull
 refine Jb (JK (z0:=(vI 0)) (lo:=D0 b) (nd:=(l0.length - (D0 b))) e7 rfl (om) ay rfl (λ _=>lq ((ay.rds (i:=0) rfl).isSome e6) e6) e6 ?_)
 intro az bq bu aQ
 refine ns (Mz rfl (fw (vJ (D0 b)) (Ie (e:=b) (Iq rfl) e6) (fw (.slice u (D0 b) G) (Jc (om) rfl rfl e6) (An rfl (rt (rs ?_))))))
 have aR:Own w D az [row u (D0 b) G (q3 (eI .i64) (q7 (D0 b) r)) 3 1,blk p (iH a h d j f l g) 42]:=aQ.rowPart e6 (Ea jd e6)
 have bv:r8 (q7 (D0 b) r)=D0 b:=by rw [m9]; omega
 have R:D0 b=r8 (q7 (D0 b) r):=by first | omega | (simp only [H1]; done) | (simp only [H1,o1,s0,F2,m9,o0,H2]; omega)
 have aS:Own w D az [row u (r8 (q7 (D0 b) r)) G (q3 (eI .i64) (q7 (D0 b) r)) 3 1,blk p (iH a h d j f l g) 42]:=by rw [<- R]; exact aR
 have aT:=aS.pf []
 obtain rfl:=zj hr zq3
 exact⟨u,G,(by first | rfl | (rw [<- R]; done) | (rw [<- R]; rfl)),aT,j7⟩
def mf (f:bI) (g:bL) (a:aA):bI × aA:=
 bnd (bM a.aa.aj.ls g.aN) λ c=>if c.2=true then bnd (C0 a.aa.aj.ls (D0 c.1) default) λ b=>bnd (iP b.au.ls g) λ d=>bnd (C0 (u2 a.aa.aj.ls (D0 c.1) (bH.mk b.aN b.aK b.av b.aP (E2 d))) (D0 c.1) default) λ e=>if(e.au.ls.length:Int)=0 then(f,aA.mk (cZ.mk a.aa.au a.aa.av a.aa.aV a.aa.aL (E2 a.aa.ag.ls) (E2 (q7 (D0 c.1) (u2 a.aa.aj.ls (D0 c.1) (bH.mk b.aN b.aK b.av b.aP (E2 d)))++r3 ((D0 c.1)+1) (u2 a.aa.aj.ls (D0 c.1) (bH.mk b.aN b.aK b.av b.aP (E2 d))))) (E2 a.aa.aF.ls)) a.bP (E2 a.ay.ls) a.bK a.bA a.bz a.bv a.bq a.dP a.dH a.dI a.dG a.dJ) else(f,aA.mk (cZ.mk a.aa.au a.aa.av a.aa.aV a.aa.aL (E2 a.aa.ag.ls) (E2 (u2 a.aa.aj.ls (D0 c.1) (bH.mk b.aN b.aK b.av b.aP (E2 d)))) (E2 a.aa.aF.ls)) a.bP (E2 a.ay.ls) a.bK a.bA a.bz a.bv a.bq a.dP a.dH a.dI a.dG a.dJ) else(f,a)
theorem xh (w D g0) (p0:bI) (u z t) (p:bL) (au aX Y av bg Z ay az bn aa l) (a:aA) (C E g n h F G I J K L M N O P Q R S T) (r0:bI) (B:aA) (H:Own w D w [blk g0 [.pointer (some ⟨l,0,none⟩), .slice u p0.aX.ls.length z] 98,row u p0.aX.ls.length z (q3 bf.cells t) 42 21,sepL (q3 bf.own t),mK l a C a.aa.ag.ls.length E g n F G I J K L M N O P Q R S T,row g a.aa.aj.ls.length n (q3 aC.cells h) 60 5,sepL (q3 aC.own h)]) (W:s5 bf.abs t=p0.aX.ls) (bB:aX=p.aH.ls.length) (bC:Ro w D λ w'=>bE w' 6 au p.aH.ls.length (q3 bi.cells p.aH.ls)) (dD:p.aH.ls.length<=Y/\p.aH.ls.length<=9223372036854775807) (aK:s5 ae.abs ay=p.ai.ls) (bD:bg=p.ai.ls.length) (bF:Ro w D λ w'=>bE w' 3 av p.ai.ls.length (q3 ae.cells ay)) (dE:p.ai.ls.length<=Z/\p.ai.ls.length<=9223372036854775807) (aL:∀ x ∈ ay,Ro w D (λ w'=>bE w' 2 x.ak.A x.ak.ls.length (q3 aI.cells x.ak.ls))/\(x.ak.ls.length<=x.ak.c/\x.ak.ls.length<=9223372036854775807)) (bG:bn=p.ag.ls.length) (bK:Ro w D λ w'=>bE w' 2 az p.ag.ls.length (q3 aY.cells p.ag.ls)) (dG:p.ag.ls.length<=aa/\p.ag.ls.length<=9223372036854775807) (m:s5 aC.abs h=a.aa.aj.ls) (eZ:a.aa.ag.ls.length<=1000/\a.aa.aj.ls.length<=1000/\a.aa.aF.ls.length<=1000/\a.ay.ls.length<=1000/\p0.aX.ls.length<=100000) (fe:Dk a.aa.aj.ls) (hr:mf p0 p a=(r0,B)):
    Calls v8 58 #[vP g0 0, .agg (gU p.aD p.aJ p.fI p.aK p.dz p.eH p.aP p.av p.aN p.dY p.aV p.aL p.dL p.cu p.xN p.cz p.bU.bF p.bU.bT au aX Y av bg Z az bn aa).toArray] w (d9 λ v w'=> ∃ aM aN ai aP aQ aj,v= .tuple #[]/\Own w D w' [blk g0 [vP l 0, .slice aM r0.aX.ls.length aN] 98,row aM r0.aX.ls.length aN (q3 bf.cells ai) 42 21,sepL (q3 bf.own ai),blk l [vI B.aa.au,vU B.aa.av,vU B.aa.aV,vU B.aa.aL, .slice C a.aa.ag.ls.length E, .slice aP B.aa.aj.ls.length aQ, .slice F a.aa.aF.ls.length G,vU B.bP, .slice I a.ay.ls.length J, .bool B.bK.cO,vU B.bK.aS,vI B.bK.dA, .slice K a.bK.af.ls.length L, .bool B.bA.cO,vU B.bA.aS,vI B.bA.dA, .slice M a.bA.af.ls.length N, .bool B.bz.cO,vU B.bz.aS,vI B.bz.dA, .slice O a.bz.af.ls.length P, .bool B.bv.cO,vU B.bv.aS,vI B.bv.dA, .slice Q a.bv.af.ls.length R, .bool B.bq.cO,vU B.bq.aS,vI B.bq.dA, .slice S a.bq.af.ls.length T,vU B.dP,vU B.dH,vU B.dI,vU B.dG,vU B.dJ, .pointer none] 86,row aP B.aa.aj.ls.length aQ (q3 aC.cells aj) 60 5,sepL (q3 aC.own aj)]/\(s5 bf.abs ai=r0.aX.ls)/\(s5 aC.abs aj=B.aa.aj.ls)):=by
 unfold mf at hr
 subst bB bD bG
 have dB:=aB W
 have dC:=aB aK
 have bP:=aB m
 have dH:=zr 1 H
 have bQ:=zr 4 H
 refine cb Tryz.func58 ?_
 refine sr ?_
 refine dV (iH p au Y av Z az aa) 42 H ?_
 intro bN fo dI
 refine nt (Ic ?_)
 refine vX [] (Iu IC) dI ?_
 intro fq bO
 refine qv 0 rfl rfl (qp g0 0 1 rfl (qp g0 0 2 rfl (ql 3 rfl 1 P3 rfl rfl rfl (qp bN 8 4 rfl (ql 5 rfl 0 D4 rfl rfl rfl ?_)))))
 refine GX.do 6 rfl e7 (Iz Tryz.call95 rfl ?_ (λ _ _ k=>k))
 refine cb Tryz.func95 ?_
 refine sr (Az rfl (Ar rfl (Mz rfl (Kz (vP l 0) (Kz (vP l 0) (Kz (vP l 5) (Lz (.slice g a.aa.aj.ls.length n) bO 4 D2 (Mz rfl ?_))))))))
 obtain⟨⟨d,af⟩,aD⟩:∃ q:Int × Bool,bM a.aa.aj.ls p.aN=q:=⟨_,rfl⟩
 obtain⟨fu,bR,ek,bS,bq⟩:=Ii bO
 refine cl Tryz.call132 (iJ _ _ g a.aa.aj.ls.length n h a.aa.aj.ls p.aN d af bR m (bq _ 5 _ rfl aO) (λ x9 h9=>⟨bq _ 6 _ rfl (ax (Q3.2 ⟨x9,h9,b1⟩) aO),aZ (φ:=λ _=>_) bO (i:=6) rfl (ax (Q3.2 ⟨x9,h9,b1⟩) aW)⟩) rfl e6 aD) ?_
 rintro _ dJ ⟨rfl,bV,bu,bv⟩
 have X:=bS _ _ bV
 replace bu:0<=d/\d<=(a.aa.aj.ls.length:Int):=bu
 replace bv:Bool.toNat af=0\/d < (a.aa.aj.ls.length:Int):=bv
 refine Kz (vI d) (Kz (.bool af) (Az rfl (An rfl (rt (Fin.res (lW rfl rfl rfl) ?_)))))
 refine⟨.inr ⟨_,X⟩, ?_⟩
 refine qv 7 rfl rfl (qk (vI d) 8 rfl (qk (.bool af) 9 rfl (qa 10 rfl rfl (qa 11 rfl rfl (qn (Ig (Ic (sr (Mz rfl (Kz (.bool (!af)) (nt ?_)))))))))))
 rcases Li (af) with ag | ag
 have h39t:Bool.toNat af=1:=by rw [ag]; rfl
 refine jF (cn ag) (sk (sr (Mz rfl (Kz (vP g0 0) (Kz (vP g0 0) (Lz (vP l 0) X 1 P3 (Kz (vP l 0) (Kz (vP l 0) (Kz (vP l 5) (Lz (.slice g a.aa.aj.ls.length n) X 4 D2 (fw (vJ (D0 d)) (Ie (e:=d) (Iq rfl) e6) ?_)))))))))))
 obtain⟨b,U⟩:=dN (ls:=h) (i:=D0 d) aC.len f4 (X.rds (i:=5) rfl) e9
 have aR:=fF m U
 have eu:b.au.ls.length<=b.au.c/\b.au.ls.length<=9223372036854775807:=aZ X (i:=6) rfl (φ:=λ _=>_) (ax (Q3.2 ⟨b,D3 U,b1⟩) aW)
 have eB:b.au.ls.length<=1000:=ED f5 aR
 refine fw (.pointer (some ⟨ab g,ao g+(D0 d) *5,none⟩)) (Ij (kW) rfl rfl ((X.rds (i:=5) rfl).addr (i:=D0 d) e6) e6) (Ar rfl (Mz rfl (Mz rfl (Kz (.pointer (some ⟨ab g,ao g+(D0 d) *5,none⟩)) (Kz (.pointer (some ⟨ab g,ao g+(D0 d) *5+4,none⟩)) (fw (.slice b.au.A b.au.ls.length b.au.c) (Io rfl (bZ.one Tryz.isAgg58 (((X.rds (i:=5) rfl).elem aC.len U f4).at_ (k:=4) rfl))) (Kz (.func (.func 97) #[] #[vP bN 0]) ?_)))))))
 have dK:=X.pf [6]
 have bW:Own w D dJ (row b.au.A b.au.ls.length b.au.c (q3 (eI .i64) b.au.ls) 3 1::sepL (q3 aC.own (q7 (D0 d) h)++q3 aC.own (r3 (D0 d+1) h))::_):=Jd (f:=aC.own) (i:=D0 d) U dK
 have eD:=zr 0 bW
 have dL:=bW.pf [0,2]
 obtain⟨j,aS⟩:∃ q,iP b.au.ls p=q:=⟨_,rfl⟩
 obtain⟨fA,bX,aF,bY,eF⟩:=IJ dL
 refine cl Tryz.call96 (rP _ _ b.au.A b.au.ls.length b.au.c b.au.ls bN p au Y av Z ay az aa j bX rfl e6 (aF _ bC) e6 aK (aF _ bF) e6 (λ x9 h9=>⟨aF _ (aL x9 h9).1,(aL x9 h9).2⟩) (aF _ bK) e6 e6 aS) ?_
 rintro _ dM ⟨r,s,rfl,cu,bz⟩
 have cz:=bY _ _ cu
 have eG:=zr 0 cz
 replace bz:j.length<=b.au.ls.length:=bz
 refine Kz (.pointer (some ⟨ab g,ao g+(D0 d) *5,none⟩)) (Kz (.pointer (some ⟨ab g,ao g+(D0 d) *5+4,none⟩)) ?_)
 have dO:=cz.pf [0,2]
 have dP:Own w D dM (sepL (q3 aC.own (u2 h (D0 d) (aC.mk b.aN b.aK b.av b.aP (H0 r s j))))::_):=I7 (f:=aC.own) (y:=(aC.mk b.aN b.aK b.av b.aP (H0 r s j))) U dO
 have dQ:=dP.pf [6]
 refine Jb (Do.storeRow (vs:= [.slice r j.length s]) (o:=(D0 d) *5+4) (q:=ao g+(D0 d) *5+4) dQ rfl e6 rfl Tryz.sizeOf58 rfl rfl (Le rfl) (je aC.len U (Le rfl)) (jV (y:=(aC.mk b.aN b.aK b.av b.aP (H0 r s j))) aC.len rfl (Le rfl) U) ?_)
 intro cB dR
 have eH:r8 (u2 h (D0 d) (aC.mk b.aN b.aK b.av b.aP (H0 r s j)))=r8 (u2 a.aa.aj.ls (D0 d) (bH.mk b.aN b.aK b.av b.aP (E2 j))):=aB (iW m rfl)
 have eO:r8 (u2 a.aa.aj.ls (D0 d) (bH.mk b.aN b.aK b.av b.aP (E2 j)))=a.aa.aj.ls.length:=H1
 refine nt (Ic ?_)
 have aT:=dR.px [] [2] []
 refine Ib (Mz rfl (Kz (.pointer (some ⟨ab g,ao g+(D0 d) *5,none⟩)) (Kz (.pointer (some ⟨ab g,ao g+(D0 d) *5+4,none⟩)) ?_)))
 obtain⟨V,aG⟩:=dN (ls:=(u2 h (D0 d) (aC.mk b.aN b.aK b.av b.aP (H0 r s j)))) (i:=D0 d) aC.len f4 (aT.rds (i:=0) rfl) e9
 have bA:=fF (iW m rfl) aG
 have eP:V.au.ls.length<=V.au.c/\V.au.ls.length<=9223372036854775807:=aZ aT (i:=1) rfl (φ:=λ _=>_) (ax (Q3.2 ⟨V,D3 aG,b1⟩) aW)
 refine fw (.slice V.au.A V.au.ls.length V.au.c) (Io rfl (bZ.one Tryz.isAgg58 (((aT.rds (i:=0) rfl).elem aC.len aG f4).at_ (k:=4) rfl))) (Kz (vJ V.au.ls.length) (Kz (.bool (decide ((V.au.ls.length:Int)=0))) (nt ?_)))
 by_cases aV:(V.au.ls.length:Int)=0
 refine jT (dT aV) ?_
 have aU:a.aa.aj.ls.length=r8 (u2 a.aa.aj.ls (D0 d) (bH.mk b.aN b.aK b.av b.aP (E2 j))):=by first | omega | (simp only [H1]; done) | (simp only [H1,o1,s0,F2,m9,o0,H2]; omega)
 have dS:Own w D cB [row g (r8 (u2 a.aa.aj.ls (D0 d) (bH.mk b.aN b.aK b.av b.aP (E2 j)))) n (q3 aC.cells (u2 h (D0 d) (aC.mk b.aN b.aK b.av b.aP (H0 r s j)))) 60 5,sepL (q3 aC.own (u2 h (D0 d) (aC.mk b.aN b.aK b.av b.aP (H0 r s j)))),blk g0 [vP l 0, .slice u p0.aX.ls.length z] 98,row u p0.aX.ls.length z (q3 bf.cells t) 42 21,sepL (q3 bf.own t),blk l [vI a.aa.au,vU a.aa.av,vU a.aa.aV,vU a.aa.aL, .slice C a.aa.ag.ls.length E, .slice g (r8 (u2 a.aa.aj.ls (D0 d) (bH.mk b.aN b.aK b.av b.aP (E2 j)))) n, .slice F a.aa.aF.ls.length G,vU a.bP, .slice I a.ay.ls.length J, .bool a.bK.cO,vU a.bK.aS,vI a.bK.dA, .slice K a.bK.af.ls.length L, .bool a.bA.cO,vU a.bA.aS,vI a.bA.dA, .slice M a.bA.af.ls.length N, .bool a.bz.cO,vU a.bz.aS,vI a.bz.dA, .slice O a.bz.af.ls.length P, .bool a.bv.cO,vU a.bv.aS,vI a.bv.dA, .slice Q a.bv.af.ls.length R, .bool a.bq.cO,vU a.bq.aS,vI a.bq.dA, .slice S a.bq.af.ls.length T,vU a.dP,vU a.dH,vU a.dI,vU a.dG,vU a.dJ, .pointer none] 86]:=by rw [<- aU]; exact aT
 have dU:=dS.pf [2,5]
 refine qy [19] IC dU ?_
 intro fB dW
 refine qv 0 rfl rfl (qp g0 0 1 rfl (qp g0 0 2 rfl (ql 3 rfl 0 P3 rfl rfl rfl (qv 4 rfl rfl (qp g0 0 5 rfl (qp g0 0 6 rfl (ql 7 rfl 0 P3 rfl rfl rfl (qp l 0 8 rfl (qp l 0 9 rfl (qp l 5 10 rfl (ql 11 rfl 1 D2 rfl rfl rfl (qv 12 rfl rfl (qv 13 rfl rfl (qt (v:=vI (d+1)) 14 rfl (λ _ _=>Ie (e:=C5.wrap (d+1)) yk g2) ?_))))))))))))))
 have dX:=dW.pf [2,3]
 obtain⟨fC,cK,eQ,cO,eT⟩:=IJ dX
 refine qd 15 rfl (Iz Tryz.call98 rfl (wh _ _ g (r8 (u2 a.aa.aj.ls (D0 d) (bH.mk b.aN b.aK b.av b.aP (E2 j)))) n (u2 h (D0 d) (aC.mk b.aN b.aK b.av b.aP (H0 r s j))) (u2 a.aa.aj.ls (D0 d) (bH.mk b.aN b.aK b.av b.aP (E2 j))) d (d+1) (D0 d) V cK e6 (iW m rfl) e6 e6 e6 aG) ?_)
 rintro _ fD ⟨df,dh,rfl,di⟩
 have dm:=cO _ _ di
 have eU:r8 (q7 (D0 d) (u2 h (D0 d) (aC.mk b.aN b.aK b.av b.aP (H0 r s j)))++r3 ((D0 d)+1) (u2 h (D0 d) (aC.mk b.aN b.aK b.av b.aP (H0 r s j))))=r8 (q7 (D0 d) (u2 a.aa.aj.ls (D0 d) (bH.mk b.aN b.aK b.av b.aP (E2 j)))++r3 ((D0 d)+1) (u2 a.aa.aj.ls (D0 d) (bH.mk b.aN b.aK b.av b.aP (E2 j)))):=by exact aB (qc (iW m rfl))
 have eX:r8 (q7 (D0 d) (u2 a.aa.aj.ls (D0 d) (bH.mk b.aN b.aK b.av b.aP (E2 j)))++r3 ((D0 d)+1) (u2 a.aa.aj.ls (D0 d) (bH.mk b.aN b.aK b.av b.aP (E2 j))))+1=r8 (u2 a.aa.aj.ls (D0 d) (bH.mk b.aN b.aK b.av b.aP (E2 j))):=by simp only [o1,m9,o0]; omega
 have eY:=zr 2 dm
 have dn:=dm.pf [3,4]
 refine⟨.inr ⟨_,dn⟩, ?_⟩
 refine qp l 0 16 rfl (qp l 0 17 rfl (qp l 5 18 rfl ?_))
 have dY:=dn.pf [1]
 refine qe 19 rfl (Do.store (vs:= [.slice df (r8 (q7 (D0 d) (u2 a.aa.aj.ls (D0 d) (bH.mk b.aN b.aK b.av b.aP (E2 j)))++r3 ((D0 d)+1) (u2 a.aa.aj.ls (D0 d) (bH.mk b.aN b.aK b.av b.aP (E2 j))))) dh]) (o:=5) dY rfl rfl Tryz.sizeOf30 rfl rfl rfl rfl ?_)
 intro fE dZ
 refine⟨.inl e7, ?_⟩
 refine qn (IA (res0 rfl) ?_)
 have ed:=dZ.px [] [4] [0,2,3]
 obtain⟨rfl,rfl⟩:=ic (zj hr (show _=(p0,aA.mk (cZ.mk a.aa.au a.aa.av a.aa.aV a.aa.aL (E2 a.aa.ag.ls) (E2 (q7 (D0 d) (u2 a.aa.aj.ls (D0 d) (bH.mk b.aN b.aK b.av b.aP (E2 j)))++r3 ((D0 d)+1) (u2 a.aa.aj.ls (D0 d) (bH.mk b.aN b.aK b.av b.aP (E2 j))))) (E2 a.aa.aF.ls)) a.bP (E2 a.ay.ls) a.bK a.bA a.bz a.bv a.bq a.dP a.dH a.dI a.dG a.dJ) from et (ah aD) (et (ip ag) (et (ah (bJ aR)) (et (ah aS) (et (ah (bJ bA)) (ip aV)))))))
 exact⟨u,z,t,df,dh,(q7 (D0 d) (u2 h (D0 d) (aC.mk b.aN b.aK b.av b.aP (H0 r s j)))++r3 ((D0 d)+1) (u2 h (D0 d) (aC.mk b.aN b.aK b.av b.aP (H0 r s j)))),(by first | rfl | (rw [<- aU]; done) | (rw [<- aU]; rfl)),ed,W,(qc (iW m rfl))⟩
 refine jF (dF aV) (IE (IA (res0 rfl) ?_))
 have ak:a.aa.aj.ls.length=r8 (u2 a.aa.aj.ls (D0 d) (bH.mk b.aN b.aK b.av b.aP (E2 j))):=by first | omega | (simp only [H1]; done) | (simp only [H1,o1,s0,F2,m9,o0,H2]; omega)
 have dw:Own w D cB [row g (r8 (u2 a.aa.aj.ls (D0 d) (bH.mk b.aN b.aK b.av b.aP (E2 j)))) n (q3 aC.cells (u2 h (D0 d) (aC.mk b.aN b.aK b.av b.aP (H0 r s j)))) 60 5,sepL (q3 aC.own (u2 h (D0 d) (aC.mk b.aN b.aK b.av b.aP (H0 r s j)))),blk g0 [vP l 0, .slice u p0.aX.ls.length z] 98,row u p0.aX.ls.length z (q3 bf.cells t) 42 21,sepL (q3 bf.own t),blk l [vI a.aa.au,vU a.aa.av,vU a.aa.aV,vU a.aa.aL, .slice C a.aa.ag.ls.length E, .slice g (r8 (u2 a.aa.aj.ls (D0 d) (bH.mk b.aN b.aK b.av b.aP (E2 j)))) n, .slice F a.aa.aF.ls.length G,vU a.bP, .slice I a.ay.ls.length J, .bool a.bK.cO,vU a.bK.aS,vI a.bK.dA, .slice K a.bK.af.ls.length L, .bool a.bA.cO,vU a.bA.aS,vI a.bA.dA, .slice M a.bA.af.ls.length N, .bool a.bz.cO,vU a.bz.aS,vI a.bz.dA, .slice O a.bz.af.ls.length P, .bool a.bv.cO,vU a.bv.aS,vI a.bv.dA, .slice Q a.bv.af.ls.length R, .bool a.bq.cO,vU a.bq.aS,vI a.bq.dA, .slice S a.bq.af.ls.length T,vU a.dP,vU a.dH,vU a.dI,vU a.dG,vU a.dJ, .pointer none] 86]:=by rw [<- ak]; exact aT
 have dx:=dw.pb [0,1]
 obtain⟨rfl,rfl⟩:=ic (zj hr (show _=(p0,aA.mk (cZ.mk a.aa.au a.aa.av a.aa.aV a.aa.aL (E2 a.aa.ag.ls) (E2 (u2 a.aa.aj.ls (D0 d) (bH.mk b.aN b.aK b.av b.aP (E2 j)))) (E2 a.aa.aF.ls)) a.bP (E2 a.ay.ls) a.bK a.bA a.bz a.bv a.bq a.dP a.dH a.dI a.dG a.dJ) from et (ah aD) (et (ip ag) (et (ah (bJ aR)) (et (ah aS) (et (ah (bJ bA)) (iN aV)))))))
 exact⟨u,z,t,g,n,(u2 h (D0 d) (aC.mk b.aN b.aK b.av b.aP (H0 r s j))),(by first | rfl | (rw [<- ak]; done) | (rw [<- ak]; rfl)),dx,W,(iW m rfl)⟩
 have h39t:Bool.toNat af=0:=by rw [ag]; rfl
 refine jT (cn ag) (rt (tR (Fin.res (res0 rfl) ?_)))
 have dz:=X.px [] [0] []
 obtain⟨rfl,rfl⟩:=ic (zj hr zq2)
 exact⟨u,z,t,g,n,h,rfl,dz,W,m⟩
def gu:List gF->List Int->(List Int)
  | [],a=>a
  | b::c,a=>gu c (a++ [b.eG])
def jM (a:dK):(List Int):=
 bnd (gu a.aG.ls []) λ sLrL=>sLrL
theorem rD (w D L) (a:dK) (j l f g u n o p r B W) (H:Own w D w [blk L (Cz a j l f g n o p r) 107]) (Z:Ro w D λ w'=>bE w' 6 j a.bV.ls.length (q3 bi.cells a.bV.ls)) (aa:a.bV.ls.length<=l/\a.bV.ls.length<=9223372036854775807) (C:s5 bG.abs u=a.aG.ls) (t:Ro w D λ w'=>bE w' 3 f a.aG.ls.length (q3 bG.cells u)) (af:a.aG.ls.length<=g/\a.aG.ls.length<=9223372036854775807) (E:∀ x ∈ u,Ro w D (λ w'=>bE w' 6 x.aH.A x.aH.ls.length (q3 bi.cells x.aH.ls))/\(x.aH.ls.length<=x.aH.c/\x.aH.ls.length<=9223372036854775807)/\Ro w D (λ w'=>bE w' 1 x.aJ.A x.aJ.ls.length (q3 (eI .i64) x.aJ.ls))/\(x.aJ.ls.length<=x.aJ.c/\x.aJ.ls.length<=9223372036854775807)) (ag:Ro w D λ w'=>bE w' 1 n a.bD.ls.length (q3 eL a.bD.ls)) (ai:a.bD.ls.length<=o/\a.bD.ls.length<=9223372036854775807) (M:s5 bO.abs B=a.af.ls) (aj:Ro w D λ w'=>bE w' 1 p a.af.ls.length (q3 (IX (β:=ae)) B)) (ak:a.af.ls.length<=r/\a.af.ls.length<=9223372036854775807) (au:∀ x ∈ B,Ro w D (λ w'=>bE w' 3 x.A x.ls.length (q3 ae.cells x.ls))/\(x.ls.length<=x.c/\x.ls.length<=9223372036854775807)/\(∀ O ∈ x.ls,Ro w D (λ w'=>bE w' 2 O.ak.A O.ak.ls.length (q3 aI.cells O.ak.ls))/\(O.ak.ls.length<=O.ak.c/\O.ak.ls.length<=9223372036854775807))) (aS:a.aG.ls.length<=1000) (hr:jM a=W):
    Calls v8 107 #[vP L 0] w (d9 λ v w'=> ∃ B0 b0,v= .slice B0 W.length b0/\Own w D w' [row B0 W.length b0 (q3 (eI .i64) W) 3 1,blk L (Cz a j l f g n o p r) 107]):=by
 unfold jM at hr
 have X:=aB C
 have Y:=aB M
 refine cb Tryz.func107 ?_
 refine sr (Ar rfl (An rfl (Ic (sr (Mz rfl (Kz (vP L 0) (Kz (vP L 5) (Lz (.slice f a.aG.ls.length g) H 0 Tryz.isAgg103 (Kz (vJ a.aG.ls.length) (Mn rfl (bo ?_)))))))))))
 have av:Own w D w [row none 0 0 (q3 (eI .i64) []) 3 1,blk L (Cz a j l f g n o p r) 107]:=H.free (eZ 3 1)
 have ax:=av.pb [0]
 obtain⟨ay,F⟩:=sQ λ I (J:Nat) d (b:Nat) w'=>Own w D w' [blk L (Cz a j l f g n o p r) 107,row I d.length J (q3 (eI .i64) d) 3 1]/\b<=a.aG.ls.length/\d.length=b/\d.length<=b/\gu a.aG.ls []=gu (r3 b a.aG.ls) d
 refine C3 (λ i:(Option Addr) × Nat × (List Int) × Nat=> [(3, .slice i.1 i.2.2.1.length i.2.1),(11,vJ i.2.2.2),(10,vJ a.aG.ls.length),(9, .slice f a.aG.ls.length g),(2, .slice none 0 0)]) ay (λ i=>a.aG.ls.length - i.2.2.2) (none,0, [],0) ⟨rfl,rfl,rfl,rfl,rfl,trivial⟩ (F.2 ⟨ax,(show 0<=a.aG.ls.length/\0=0/\0<=0/\gu a.aG.ls []=gu (r3 0 a.aG.ls) [] from ⟨e6,e6,e6,rfl⟩)⟩) ?_
 rintro ⟨I,J,d,b⟩ aT P
 obtain⟨G,aM,aN,aO,K⟩:=F.1 P
 refine sr (Kz (.bool (decide ((b:Int) < (a.aG.ls.length:Int)))) (nt (Ic ?_)))
 by_cases Q:(b:Int) < (a.aG.ls.length:Int)
 obtain⟨h,z⟩:=dN (ls:=u) (i:=b) bG.len f4 (G.ro t) e9
 have R:=fF C z
 have aP:=(E _ (D3 z)).2.1
 have aQ:=(E _ (D3 z)).2.2.2
 have S:=drop_at R
 refine jT (dT Q) (sk (Ic (bo (sr (fw (.pointer (some ⟨ab f,ao f+b *3,none⟩)) (Ij (um) rfl rfl ((G.ro t).addr (i:=b) e6) e6) (fw (.agg (bG.cells h).toArray) (Io rfl (Iy (cs:=(bG.cells h)) Tryz.isAgg172 Tryz.sizeOf172 ((G.ro t).elem bG.len z f4))) ?_))))))
 refine dV [vI 0, .slice none 0 0, .slice none 0 0] 172 G ?_
 intro az aU aA
 refine dS (bG.cells h) 0 aA Tryz.sizeOf172 ?_
 intro aV T
 refine nt (Ib (Mz rfl (Kz (vP az 0) (Lz (vI h.eG) T 0 C4 ?_))))
 refine lg [vI h.eG] 3 1 1 T ?_
 intro aC aW N
 replace N:=IL (y:=row aC 1 1 (q3 (eI .i64) ([h.eG])) 3 1) rfl N
 have U:=N.pf [3]
 refine WL.do rfl (IM (k:=d.length) (m:=1) (om) U rfl rfl (jv Tryz.underlying58 (U.rds (i:=1) rfl) (fU vO ([h.eG]))) rfl e6 (s:=r8 (d++ [h.eG])) f7 (List.flatMap_append).symm ?_)
 intro aD aF aX aG
 have aR:r8 (d++ [h.eG])=d.length+1:=by simp only [o1,s0,F2]
 refine Az rfl (C6 (bN (Ig (Ib (fw (vJ (b+1)) (Ie (e:=C5.wrap ((b:Int)+1)) yk f0) (Mz rfl (C6 ?_)))))))
 have aH:=aG.pk [3,0]
 exact Ir (aD,aF,(d++ [h.eG]),b+1) ⟨rfl,rfl,rfl,rfl,rfl,trivial⟩ (F.2 ⟨aH,e6,e6,e6,et (K) (et (congrArg (λ q=>gu q d) S) rfl)⟩) (by show a.aG.ls.length - (b+1) < a.aG.ls.length - b; omega)
 refine jF (dF Q) (C7 (Il ?_))
 have V:gu a.aG.ls []=d:=et (K) (et (congrArg (λ q=>gu q d) (fB (ls:=a.aG.ls) (i:=b) e6)) rfl)
 refine Il (IB (Ig (sr (Mz rfl (An rfl (rt (rs ?_)))))))
 have aJ:=G.pb [0]
 obtain rfl:=zj hr zq1
 exact⟨I,J,rfl,aJ⟩
theorem Bb:∀ (l:List gF) (o:List Int),r8 (gu l o)=o.length+l.length
  | [],o=>rfl
  | x::q,o=>by
    simp only [gu]
    rw [Bb q]
    simp only [o1,s0,F2]; omega
theorem yC {x:dK} {r:List Int} (h:jM x=r):r.length=x.aG.ls.length:=by
 rw [<- h]; exact(Bb x.aG.ls []).trans (Nat.zero_add _)
def fq (g:bI) (f:Int) (a:aA):bI × aA:=
 bnd (C0 a.ay.ls (D0 f) default) λ c=>bnd (dC g c.aM c.aS 2 [] (aA.mk a.aa a.bP (E2 (q7 (D0 f) a.ay.ls++r3 ((D0 f)+1) a.ay.ls)) a.bK a.bA a.bz a.bv a.bq a.dP a.dH a.dI a.dG a.dJ)) λ b=>bnd (jM (dK.mk c.aR c.aM c.aS c.dh (E2 c.bV.ls) (E2 c.aG.ls) (E2 c.bD.ls) (E2 c.af.ls) c.eO)) λ d=>bnd (dZ b.1 c.aR d false) λ e=>(e,aA.mk (cZ.mk b.2.aa.au b.2.aa.av b.2.aa.aV b.2.aa.aL (E2 a.aa.ag.ls) (E2 a.aa.aj.ls) (E2 a.aa.aF.ls)) b.2.bP (E2 (q7 (D0 f) a.ay.ls++r3 ((D0 f)+1) a.ay.ls)) b.2.bK b.2.bA b.2.bz b.2.bv b.2.bq b.2.dP b.2.dH b.2.dI b.2.dG b.2.dJ)
theorem nP (w D g0) (p0:bI) (aF aG aC m g) (a:aA) (z B C E F G k p d I J r K L s M N t O P u Q R x) (r0:bI) (f:aA) (H:Own w D w [blk g0 [.pointer (some ⟨g,0,none⟩), .slice aF p0.aX.ls.length aG] 98,row aF p0.aX.ls.length aG (q3 bf.cells aC) 42 21,sepL (q3 bf.own aC),mK g a z a.aa.ag.ls.length B C E F G k p I J K L M N O P Q R,row k a.ay.ls.length p (q3 bB.cells d) 107 9,sepL (q3 bB.own d),row I a.bK.af.ls.length J (q3 ae.cells r) 149 3,sepL (q3 ae.own r),row K a.bA.af.ls.length L (q3 ae.cells s) 149 3,sepL (q3 ae.own s),row M a.bz.af.ls.length N (q3 ae.cells t) 149 3,sepL (q3 ae.own t),row O a.bv.af.ls.length P (q3 ae.cells u) 149 3,sepL (q3 ae.own u),row Q a.bq.af.ls.length R (q3 ae.cells x) 149 3,sepL (q3 ae.own x)]) (aH:s5 bf.abs aC=p0.aX.ls) (h:s5 bB.abs d=a.ay.ls) (S:s5 ae.abs r=a.bK.af.ls) (T:s5 ae.abs s=a.bA.af.ls) (U:s5 ae.abs t=a.bz.af.ls) (V:s5 ae.abs u=a.bv.af.ls) (W:s5 ae.abs x=a.bq.af.ls) (iU:a.aa.ag.ls.length<=1000/\a.aa.aj.ls.length<=1000/\a.aa.aF.ls.length<=1000/\a.ay.ls.length<=1000/\p0.aX.ls.length<=100000) (iV:Ak a.ay.ls) (iW:0<=m/\m < ((a.ay.ls.length:Nat):Int)) (hr:fq p0 m a=(r0,f)):
    Calls v8 63 #[vP g0 0,vI m] w (d9 λ v w'=> ∃ aI aJ Z aK aL aa aM aN af aP aQ ag aR aS ai aT aU aj aV aX ak,v= .tuple #[]/\Own w D w' [blk g0 [vP g 0, .slice aI r0.aX.ls.length aJ] 98,row aI r0.aX.ls.length aJ (q3 bf.cells Z) 42 21,sepL (q3 bf.own Z),blk g [vI f.aa.au,vU f.aa.av,vU f.aa.aV,vU f.aa.aL, .slice z a.aa.ag.ls.length B, .slice C a.aa.aj.ls.length E, .slice F a.aa.aF.ls.length G,vU f.bP, .slice aK f.ay.ls.length aL, .bool f.bK.cO,vU f.bK.aS,vI f.bK.dA, .slice aM f.bK.af.ls.length aN, .bool f.bA.cO,vU f.bA.aS,vI f.bA.dA, .slice aP f.bA.af.ls.length aQ, .bool f.bz.cO,vU f.bz.aS,vI f.bz.dA, .slice aR f.bz.af.ls.length aS, .bool f.bv.cO,vU f.bv.aS,vI f.bv.dA, .slice aT f.bv.af.ls.length aU, .bool f.bq.cO,vU f.bq.aS,vI f.bq.dA, .slice aV f.bq.af.ls.length aX,vU f.dP,vU f.dH,vU f.dI,vU f.dG,vU f.dJ, .pointer none] 86,row aK f.ay.ls.length aL (q3 bB.cells aa) 107 9,sepL (q3 bB.own aa),row aM f.bK.af.ls.length aN (q3 ae.cells af) 149 3,sepL (q3 ae.own af),row aP f.bA.af.ls.length aQ (q3 ae.cells ag) 149 3,sepL (q3 ae.own ag),row aR f.bz.af.ls.length aS (q3 ae.cells ai) 149 3,sepL (q3 ae.own ai),row aT f.bv.af.ls.length aU (q3 ae.cells aj) 149 3,sepL (q3 ae.own aj),row aV f.bq.af.ls.length aX (q3 ae.cells ak) 149 3,sepL (q3 ae.own ak)]/\(s5 bf.abs Z=r0.aX.ls)/\(s5 bB.abs aa=f.ay.ls)/\(s5 ae.abs af=f.bK.af.ls)/\(s5 ae.abs ag=f.bA.af.ls)/\(s5 ae.abs ai=f.bz.af.ls)/\(s5 ae.abs aj=f.bv.af.ls)/\(s5 ae.abs ak=f.bq.af.ls)):=by
 unfold fq at hr
 have fe:=aB aH
 have df:=aB h
 have dh:=aB S
 have di:=aB T
 have dm:=aB U
 have dn:=aB V
 have dw:=aB W
 have fo:=zr 1 H
 have dx:=zr 4 H
 have dz:=zr 6 H
 have dA:=zr 8 H
 have dB:=zr 10 H
 have dD:=zr 12 H
 have dE:=zr 14 H
 refine cb Tryz.func63 ?_
 refine sr (Mz rfl (Kz (vP g0 0) (Kz (vP g0 0) (Lz (vP g 0) H 0 P3 (Kz (vP g 0) (Kz (vP g 8) (Lz (.slice k a.ay.ls.length p) H 3 Q1 (fw (vJ (D0 m)) (Ie (e:=m) (Iq rfl) e6) ?_))))))))
 obtain⟨b,y⟩:=dN (ls:=d) (i:=D0 m) bB.len f4 (H.rds (i:=4) rfl) e9
 have bM:=fF h y
 have gY:b.bV.ls.length<=b.bV.c/\b.bV.ls.length<=9223372036854775807:=aZ H (i:=5) rfl (φ:=λ _=>_) (ax (Q3.2 ⟨b,D3 y,b1⟩) aW)
 have gZ:b.aG.ls.length<=b.aG.c/\b.aG.ls.length<=9223372036854775807:=aZ H (i:=5) rfl (φ:=λ _=>_) (ax (Q3.2 ⟨b,D3 y, .tail _ b1⟩) aW)
 have ib:b.bD.ls.length<=b.bD.c/\b.bD.ls.length<=9223372036854775807:=aZ H (i:=5) rfl (φ:=λ _=>_) (ax (Q3.2 ⟨b,D3 y, .tail _ b2⟩) aW)
 have ig:b.af.ls.length<=b.af.c/\b.af.ls.length<=9223372036854775807:=aZ H (i:=5) rfl (φ:=λ _=>_) (ax (Q3.2 ⟨b,D3 y, .tail _ b3⟩) aW)
 have X:Tok (bB.abs b):=yz f8 bM
 have ik:1<=b.aM/\b.aM<=4:=X.uh
 have il:b.bD.ls.length=b.aG.ls.length:=by have q9:=X.yes; simp only [bB.abs,s3] at q9; exact q9
 have iq:b.af.ls.length=b.aG.ls.length:=by have q9:=X.res; simp only [bB.abs,s3] at q9; exact q9
 have iw:b.aG.ls.length<=5:=by have q9:=X.len; simp only [bB.abs,s3] at q9; exact q9
 have iy:b.bV.ls.length<=24:=X.ops.1
 refine fw (.pointer (some ⟨ab k,ao k+(D0 m) *9,none⟩)) (Ij (qh) rfl rfl ((H.rds (i:=4) rfl).addr (i:=D0 m) e6) e6) (fw (.agg (bB.cells b).toArray) (Io rfl (Iy (cs:=(bB.cells b)) P9 Q0 ((H.rds (i:=4) rfl).elem bB.len y f4))) ?_)
 refine dV (rJ 0 0 0 0 none 0 0 none 0 0 none 0 0 none 0 0 0) 107 H ?_
 intro bF iX fu
 refine dS (bB.cells b) 0 fu Q0 ?_
 intro iY fA
 refine nt (Ic ?_)
 have fB:=fA.pf [1,4]
 refine qy [17] (Iu IC) fB ?_
 intro iZ fC
 refine qv 0 rfl rfl (qp g0 0 1 rfl (qp g0 0 2 rfl (ql 3 rfl 0 P3 rfl rfl rfl (qv 4 rfl rfl (qp g0 0 5 rfl (qp g0 0 6 rfl (ql 7 rfl 0 P3 rfl rfl rfl (qp g 0 8 rfl (qp g 8 9 rfl (ql 10 rfl 1 Q1 rfl rfl rfl (qv 11 rfl rfl (qv 12 rfl rfl (qt (v:=vI (m+1)) 13 rfl (λ _ _=>Ie (e:=C5.wrap (m+1)) yk g2) ?_)))))))))))))
 have fD:=fC.pf [5,6]
 obtain⟨ja,dF,iA,dG,iB⟩:=IJ fD
 refine qd 14 rfl (Iz Tryz.call105 rfl (vH _ _ k a.ay.ls.length p d a.ay.ls m (m+1) (D0 m) b dF e6 h e6 e6 e6 y) ?_)
 rintro _ jb ⟨bV,bW,rfl,dH⟩
 have aY:=dG _ _ dH
 have iC:r8 (q7 (D0 m) d++r3 ((D0 m)+1) d)=r8 (q7 (D0 m) a.ay.ls++r3 ((D0 m)+1) a.ay.ls):=by exact aB (qc h)
 have iD:r8 (q7 (D0 m) a.ay.ls++r3 ((D0 m)+1) a.ay.ls)+1=a.ay.ls.length:=by simp only [o1,m9,o0]; omega
 have iE:b.aG.ls.length=r8 (s5 bG.abs b.aG.ls):=by exact(s3 _).symm
 have iF:b.af.ls.length=r8 (s5 bO.abs b.af.ls):=by exact(s3 _).symm
 have iG:=zr 2 aY
 have iH:=zr 3 aY
 have iI:=zr 4 aY
 have iJ:=zr 5 aY
 have dI:=aY.pf [8,9]
 refine⟨.inr ⟨_,dI⟩, ?_⟩
 refine qp g 0 15 rfl (qp g 8 16 rfl ?_)
 have fE:=dI.pf [1]
 refine qe 17 rfl (Do.store (vs:= [.slice bV (r8 (q7 (D0 m) a.ay.ls++r3 ((D0 m)+1) a.ay.ls)) bW]) (o:=8) fE rfl rfl Tryz.sizeOf79 rfl rfl rfl rfl ?_)
 intro jc bX
 refine⟨.inl e7, ?_⟩
 refine qn (Ig (sr (Mz rfl (Kz (vP bF 1) (Lz (vI b.aM) bX 10 C4 (Kz (vP bF 2) (Lz (vU b.aS) bX 10 D4 ?_)))))))
 have fG:=bX.px [1,11,12] [] [2,3,4,5,6,7,8,9,10]
 obtain⟨⟨bH,l⟩,bN⟩:∃ q:bI × aA,dC p0 b.aM b.aS 2 [] (aA.mk a.aa a.bP (E2 (q7 (D0 m) a.ay.ls++r3 ((D0 m)+1) a.ay.ls)) a.bK a.bA a.bz a.bv a.bq a.dP a.dH a.dI a.dG a.dJ)=q:=⟨_,rfl⟩
 obtain⟨jd,dJ,iK,dL,iL⟩:=Ja fG
 refine cl Tryz.call106 (kr _ _ g0 p0 aF aG aC b.aM b.aS 2 none 0 0 [] [] g (aA.mk a.aa a.bP (E2 (q7 (D0 m) a.ay.ls++r3 ((D0 m)+1) a.ay.ls)) a.bK a.bA a.bz a.bv a.bq a.dP a.dH a.dI a.dG a.dJ) z B C E F G bV bW I J r K L s M N t O P u Q R x bH l dJ aH rfl (λ _ _=>bE.nil _ _ _) (λ _ h9=>absurd h9 List.not_mem_nil) rfl i8 g6 S T U V W e8 g3 g3 i2 bN) ?_
 rintro _ je ⟨fH,fI,fJ,fK,fM,fO,fP,fQ,dM,fT,fU,dO,fV,fZ,dP,gm,gp,dQ,rfl,dR,bP,bi,bn,bq,bu,bv,bz⟩
 have au:=dL _ _ dR
 have gq:=aB bP
 have gu:=aB bi
 have gy:=aB bn
 have gz:=aB bq
 have gB:=aB bu
 have gD:=aB bv
 have gF:=zr 1 au
 have gG:=zr 4 au
 have gH:=zr 6 au
 have gI:=zr 8 au
 have gJ:=zr 10 au
 have gK:=zr 12 au
 replace bz:bH.aX.ls.length=p0.aX.ls.length+1:=bz
 refine nt ?_
 have av:b.aG.ls.length=r8 (s5 bG.abs b.aG.ls):=by first | omega | (simp only [H1]; done) | (simp only [H1,o1,s0,F2,m9,o0,H2]; omega)
 have dU:=au.pf [17]
 have dW:=I4 av dU
 have dX:=dW.pf [22]
 have dY:=Jh 5 av dX
 have ed:=dY.pb [1,19,20,21,22,0]
 have ay:b.af.ls.length=r8 (s5 bO.abs b.af.ls):=by first | omega | (simp only [H1]; done) | (simp only [H1,o1,s0,F2,m9,o0,H2]; omega)
 have ek:=ed.pf [19]
 have eu:=I4 ay ek
 have eB:=eu.pf [22]
 have eD:=Jh 7 ay eB
 have eF:=eD.pb [1,21,22,0]
 have eG:=eF.pf [0,3]
 refine qy [4] IC eG ?_
 intro iM eH
 refine qv 0 rfl rfl (qp bF 0 1 rfl ?_)
 have bQ:=eH.pf [0,1,22]
 refine BP bQ (ql 2 rfl 2 D4 rfl rfl rfl ?_)
 have n:=bQ.pf [2]
 have gL:=zr 17 n
 have gM:=zr 18 n
 have gN:=zr 19 n
 have gP:=zr 20 n
 obtain⟨Y,az⟩:∃ q,jM (dK.mk b.aR b.aM b.aS b.dh (E2 b.bV.ls) (E2 (s5 bG.abs b.aG.ls)) (E2 b.bD.ls) (E2 (s5 bO.abs b.af.ls)) b.eO)=q:=⟨_,rfl⟩
 obtain⟨iN,bY,gQ,bZ,j⟩:=II n
 refine qd 3 rfl (Iz Tryz.call107 rfl (rD _ _ bF (dK.mk b.aR b.aM b.aS b.dh (E2 b.bV.ls) (E2 (s5 bG.abs b.aG.ls)) (E2 b.bD.ls) (E2 (s5 bO.abs b.af.ls)) b.eO) b.bV.A b.bV.c b.aG.A b.aG.c b.aG.ls b.bD.A b.bD.c b.af.A b.af.c b.af.ls Y bY (j _ 16 _ rfl aO) e6 (rfl:s5 bG.abs b.aG.ls=s5 bG.abs b.aG.ls) (j _ 17 _ rfl aO) e6 (λ x9 h9=>⟨j _ 20 _ rfl (ax (Q3.2 ⟨x9,h9,b1⟩) aO),aZ (φ:=λ _=>_) n (i:=21) rfl (ax (Q3.2 ⟨x9,h9,b1⟩) aW),j _ 20 _ rfl (ax (Q3.2 ⟨x9,h9, .tail _ b1⟩) aO),aZ (φ:=λ _=>_) n (i:=21) rfl (ax (Q3.2 ⟨x9,h9, .tail _ b1⟩) aW)⟩) (j _ 18 _ rfl aO) e6 (rfl:s5 bO.abs b.af.ls=s5 bO.abs b.af.ls) (j _ 19 _ rfl aO) e6 (λ x9 h9=>⟨j _ 21 _ rfl (ax (Q3.2 ⟨x9,h9,b1⟩) aO),aZ (φ:=λ _=>_) n (i:=22) rfl (ax (Q3.2 ⟨x9,h9,b1⟩) aW),(λ y1 k1=>⟨j _ 21 _ rfl (ax (Q3.2 ⟨x9,h9, .tail _ b1⟩) (ax (Q3.2 ⟨y1,k1,b1⟩) aO)),aZ (φ:=λ _=>_) n (i:=22) rfl (ax (Q3.2 ⟨x9,h9, .tail _ b1⟩) (ax (Q3.2 ⟨y1,k1,b1⟩) aW))⟩)⟩) e8 az) ?_)
 rintro _ iQ ⟨eO,eP,rfl,cu⟩
 have bR:=bZ _ _ cu
 have gT:=zr 0 bR
 have gU:Y.length<=5:=by have q9:=yC az; simp only [s3] at q9; omega
 have bS:=bR.pf [2,3,1]
 refine⟨.inr ⟨_,bS⟩, ?_⟩
 have eQ:=bS.pf [0,4,5]
 obtain⟨bT,bA⟩:∃ q,dZ bH b.aR Y false=q:=⟨_,rfl⟩
 obtain⟨iR,cz,gV,cB,cK⟩:=IU eQ
 refine qd 4 rfl (Iz Q2 rfl (kV _ _ g0 bH fH fI fJ g b.aR eO Y.length eP Y false bT cz bP (cK _ 2 _ rfl aO) rfl e6 g7 bA) ?_)
 rintro _ iT ⟨eT,eU,eX,rfl,cO,bC⟩
 have bU:=cB _ _ cO
 have gW:=aB bC
 have gX:=zr 1 bU
 refine⟨.inl e7, ?_⟩
 refine qn (IA (res0 rfl) ?_)
 have eY:=bU.px [0,1,2,3,16,17] [4,5,18,19,20,21,22,23] []
 obtain⟨rfl,rfl⟩:=ic (zj hr (show _=(bT,aA.mk (cZ.mk l.aa.au l.aa.av l.aa.aV l.aa.aL (E2 a.aa.ag.ls) (E2 a.aa.aj.ls) (E2 a.aa.aF.ls)) l.bP (E2 (q7 (D0 m) a.ay.ls++r3 ((D0 m)+1) a.ay.ls)) l.bK l.bA l.bz l.bv l.bq l.dP l.dH l.dI l.dG l.dJ) from et (ah (bJ bM)) (et (ah bN) (et (ah az) (ah bA)))))
 exact⟨eT,eU,eX,bV,bW,(q7 (D0 m) d++r3 ((D0 m)+1) d),fK,fM,fO,fP,fQ,dM,fT,fU,dO,fV,fZ,dP,gm,gp,dQ,(by(first | rw [<- av] | skip); (first | rw [<- ay] | skip); first | done | rfl),eY,bC,(qc h),bi,bn,bq,bu,bv⟩
end
open List renaming cons->Q5,mem_append_right->v2
open _root_.Go.Proofs.Tryz renaming isAgg31->H3,isAgg56->Q4
section
open Go.RowKit
def cmp_isNaN_int (a:Int):Bool:=
 false
theorem tX (w D a c) (H:Own w D w []) (hr:cmp_isNaN_int a=c):
    Calls v8 169 #[vI a] w (d9 λ v w'=>v= .bool c/\Own w D w' []):=by
 refine cb Tryz.func169 ?_
 refine sr (Ar rfl (Mz rfl (Mz rfl (fw (.bool false) (IG (e:= !(decide (a=a))) yk i8) (An rfl (rt (rs ?_)))))))
 have b:=H.pk []
 obtain rfl:_=false:=zj hr rfl
 exact⟨rfl,b⟩
def cmp_Compare_int (c:Int) (d:Int):Int:=
 bnd (cmp_isNaN_int c) λ b=>bnd (cmp_isNaN_int d) λ a=>if b=true then if a=true then 0 else(-1) else if a=true then 1 else if c < d then(-1) else if c > d then 1 else 0
theorem sw (w D i j C) (H:Own w D w []) (hr:cmp_Compare_int i j=C):
    Calls v8 154 #[vI i,vI j] w (d9 λ v w'=>v=vI C/\Own w D w' []):=by
 unfold cmp_Compare_int at hr
 refine cb Tryz.func154 ?_
 refine sr (Ar rfl (Mz rfl ?_))
 obtain⟨l,a⟩:∃ q,cmp_isNaN_int i=q:=⟨_,rfl⟩
 obtain⟨J,m,E,n,F⟩:=Ii H
 refine cl Tryz.call169 (tX _ _ i l m a) ?_
 rintro _ K ⟨rfl,o⟩
 have t:=n _ _ o
 refine Ar rfl (Mz rfl ?_)
 obtain⟨k,b⟩:∃ q,cmp_isNaN_int j=q:=⟨_,rfl⟩
 obtain⟨L,p,G,r,I⟩:=Ii t
 refine cl Tryz.call169 (tX _ _ j k p b) ?_
 rintro _ M ⟨rfl,s⟩
 have e:=r _ _ s
 refine An rfl (Ic (sr (Mn rfl ?_)))
 rcases Li (l) with c | c
 refine jT c (Ic (sr (Mn rfl ?_)))
 rcases Li (k) with f | f
 refine jT f (sr (An rfl (rt (tR (tR (rs ?_))))))
 have u:=e.pk []
 obtain rfl:=zj hr zq4
 exact⟨rfl,u⟩
 refine jF f (sk (sr (An rfl (rt (tR (rs ?_))))))
 have x:=e.pk []
 obtain rfl:=zj hr zq4
 exact⟨rfl,x⟩
 refine jF c (sk (Ic (sr (Mn rfl ?_))))
 rcases Li (k) with d | d
 refine jT d (sr (An rfl (rt (tR (rs ?_)))))
 have y:=e.pk []
 obtain rfl:=zj hr zq4
 exact⟨rfl,y⟩
 refine jF d (sk (Ic (sr (Mz rfl (Mz rfl (Kz (.bool (decide (i < j))) (nt ?_)))))))
 by_cases g:i < j
 refine jT (dT g) (sr (An rfl (rt (tR (rs ?_)))))
 have z:=e.pk []
 obtain rfl:=zj hr zq5
 exact⟨rfl,z⟩
 refine jF (dF g) (sk (Ic (sr (Mz rfl (Mz rfl (Kz (.bool (decide (i > j))) (nt ?_)))))))
 by_cases h:i > j
 refine jT (dT h) (sr (An rfl (rt (tR (rs ?_)))))
 have A:=e.pk []
 obtain rfl:=zj hr zq6
 exact⟨rfl,A⟩
 refine jF (dF h) (sk (sr (An rfl (rt (rs ?_)))))
 have B:=e.pk []
 obtain rfl:=zj hr zq6
 exact⟨rfl,B⟩
def fu (l0:List eD) (f:Int):Nat->Nat->Nat->Nat
  | 0,a,b=>default
  | c+1,a,b=>if(a:Int) < (b:Int) then bnd (C0 l0 ((a+b) / 2) default) λ d=>bnd (cmp_Compare_int d.aK f) λ e=>if e < 0 then fu l0 f c (((a+b) / 2)+1) b else fu l0 f c a ((a+b) / 2) else a
def fH (l0:List eD) (c:Int):Int × Bool:=
 bnd (fu l0 c ((l0.length - 0)+1) 0 l0.length) λ sLrL=>if(sLrL:Int) < (l0.length:Int) then bnd (C0 l0 sLrL default) λ a=>bnd (cmp_Compare_int a.aK c) λ b=>((sLrL:Int),decide (b=0)) else((sLrL:Int),false)
theorem nM (w D y Z Y d0 l0 n K r1) (H:Own w D w []) (G:s5 aU.abs d0=l0) (l:Ro w D λ w'=>bE w' 4 y Z (q3 aU.cells d0)) (L:∀ x ∈ d0,Ro w D (λ w'=>bE w' 3 x.ai.A x.ai.ls.length (q3 ae.cells x.ai.ls))/\(x.ai.ls.length<=x.ai.c/\x.ai.ls.length<=9223372036854775807)/\(∀ J ∈ x.ai.ls,Ro w D (λ w'=>bE w' 2 J.ak.A J.ak.ls.length (q3 aI.cells J.ak.ls))/\(J.ak.ls.length<=J.ak.c/\J.ak.ls.length<=9223372036854775807))) (af:Z=l0.length) (aP:l0.length *48<=211106232532992) (hr:fH l0 n=(K,r1)):
    Calls v8 152 #[.slice y Z Y,vI n, .func (.func 153) #[] #[]] w (d9 λ v w'=>v= .tuple #[vI K, .bool r1]/\Own w D w' []/\(0<=K/\K<=((l0.length:Nat):Int))/\(Bool.toNat r1=0\/K < ((l0.length:Nat):Int))):=by
 unfold fH at hr
 subst af
 have aA:=aB G
 refine cb Tryz.func152 ?_
 refine sr (Az rfl (Ar rfl (Mz rfl (Kz (vJ l0.length) (Ar rfl (Mz rfl (Az rfl (An rfl (Ic (bo ?_))))))))))
 have ag:=H.pk []
 obtain⟨ai,j⟩:=rz λ (a:Nat) (b:Nat) (o:Nat) w'=>Own w D w' []/\a<=b/\b<=l0.length/\b - a < o/\fu l0 n ((l0.length - 0)+1) 0 l0.length=fu l0 n o a b
 refine Wp.loop (λ i:Nat × Nat × Nat=> [(9,vJ i.1),(10,vJ i.2.1),(8,vJ l0.length),(7, .bool false),(6,vI 0),(0, .slice y l0.length Y),(1,vI n),(2, .func (.func 153) #[] #[])]) ai (λ i=>i.2.2) (0,l0.length,(l0.length - 0)+1) ⟨rfl,rfl,rfl,rfl,rfl,rfl,rfl,rfl,trivial⟩ (j.2 ⟨ag,e6,e6,e6,rfl⟩) ?_
 rintro ⟨a,b,o⟩ aQ M
 obtain⟨f,aC,aD,aF,p⟩:=j.1 M
 obtain⟨m,N⟩:∃ q,o=q+1:=⟨o - 1,e6⟩
 subst N
 refine Ic (sr (Mz rfl (Mz rfl (Kz (.bool (decide ((a:Int) < (b:Int)))) (nt ?_)))))
 by_cases r:(a:Int) < (b:Int)
 refine jT (dT r) (sk (bo (sr (Mz rfl (Mz rfl (fw (vJ (a+b)) (Ie (e:=C5.wrap ((a:Int)+(b:Int))) yk f0) (fw (vU (a+b)) (Ie (e:=IntKind.u64.wrap ((a+b:Nat):Int)) yk (IntWalk.u64_in _ e6)) (fw (vU ((a+b) / 2)) (Ie (e:=Int.fdiv ((a+b:Nat):Int) 2) yk (nV _ 1 _ f4)) (fw (vJ ((a+b) / 2)) (Ie (e:=C5.wrap (((a+b) / 2:Nat):Int)) yk (Lf _ e6)) (Ar rfl (Mz rfl (Mz rfl (Mz rfl ?_)))))))))))))
 obtain⟨g,s⟩:=dN (ls:=d0) (i:=(a+b) / 2) aU.len f4 (f.ro l) e9
 have C:=fF G s
 have aG:=(L _ (D3 s)).2.1
 have aH:r8 (s5 ae.abs g.ai.ls)=g.ai.ls.length:=s3 ..
 refine fw (.pointer (some ⟨ab y,ao y+((a+b) / 2) *4,none⟩)) (Ij (l6) rfl rfl ((f.ro l).addr (i:=(a+b) / 2) e6) e6) (fw (.agg (aU.cells g).toArray) (Io rfl (Iy (cs:=(aU.cells g)) Q4 P2 ((f.ro l).elem aU.len s f4))) (Mz rfl ?_))
 refine WL.do rfl (IK Tryz.call153 rfl rfl ?_ (λ _ _ k=>k))
 refine cb Tryz.func153 ?_
 refine sr ?_
 refine dV (aU.cells g) 56 f ?_
 intro aj aR O
 refine Ar rfl (Kz (vP aj 0) (Lz (vI g.aK) O 0 C4 (Mz rfl ?_)))
 obtain⟨I,t⟩:∃ q,cmp_Compare_int g.aK n=q:=⟨_,rfl⟩
 obtain⟨aS,P,aJ,Q,aK⟩:=Ii O
 refine cl Tryz.call154 (sw _ _ g.aK n I P t) ?_
 rintro _ aT ⟨rfl,R⟩
 have S:=Q _ _ R
 refine An rfl (rt (rs (Kz (.bool (decide (I < 0))) (nt ?_))))
 by_cases z:I < 0
 refine jT (dT z) (Ib (Mz rfl (fw (vI ((((a+b) / 2)+1:Nat):Int)) (Ie (e:=C5.wrap ((((a+b) / 2:Nat):Int)+1)) yk f0) (Az rfl (WL.nil (bN ?_))))))
 have ak:=S.pk []
 exact Ir (((a+b) / 2)+1,b,m) ⟨rfl,rfl,rfl,rfl,rfl,rfl,rfl,rfl,trivial⟩ (j.2 ⟨ak,e6,e6,e6,et (p) (et (ip r) (et (ah (bJ C)) (et (ah t) (ip z))))⟩) (by show m < m+1; omega)
 refine jF (dF z) (Ib (Mz rfl (Az rfl (WL.nil (bN ?_)))))
 have au:=S.pk []
 exact Ir (a,(a+b) / 2,m) ⟨rfl,rfl,rfl,rfl,rfl,rfl,rfl,rfl,trivial⟩ (j.2 ⟨au,e6,e6,e6,et (p) (et (ip r) (et (ah (bJ C)) (et (ah t) (iN z))))⟩) (by show m < m+1; omega)
 refine jF (dF r) (Wp.exit (Il ?_))
 have E:fu l0 n ((l0.length - 0)+1) 0 l0.length=a:=et (p) (iN r)
 refine Il (IB (Ig (sr (Mz rfl (Mz rfl (Mz rfl (Kz (.bool (decide ((a:Int) < (l0.length:Int)))) (Mz rfl ?_))))))))
 by_cases d:(a:Int) < (l0.length:Int)
 refine gw (.func (.func 153) #[] #[]) (dT d) (Iq rfl) (gw (.slice y l0.length Y) (dT d) (Iq rfl) (gw (vJ a) (dT d) (Iq rfl) ?_))
 obtain⟨h,u⟩:=dN (ls:=d0) (i:=a) aU.len f4 (f.ro l) e9
 have T:=fF G u
 have aL:=(L _ (D3 u)).2.1
 have aM:r8 (s5 ae.abs h.ai.ls)=h.ai.ls.length:=s3 ..
 refine gw (.pointer (some ⟨ab y,ao y+a *4,none⟩)) (dT d) (Ij (l6) rfl rfl ((f.ro l).addr (i:=a) e6) e6) (gw (.agg (aU.cells h).toArray) (dT d) (Io rfl (Iy (cs:=(aU.cells h)) Q4 P2 ((f.ro l).elem aU.len u f4))) (gw (vI n) (dT d) (Iq rfl) ?_))
 refine Jm rfl rfl (dT d) rfl (IK Tryz.call153 rfl rfl ?_ (λ _ _ k=>k))
 refine cb Tryz.func153 ?_
 refine sr ?_
 refine dV (aU.cells h) 56 f ?_
 intro av aV U
 refine Ar rfl (Kz (vP av 0) (Lz (vI h.aK) U 0 C4 (Mz rfl ?_)))
 obtain⟨B,F⟩:∃ q,cmp_Compare_int h.aK n=q:=⟨_,rfl⟩
 obtain⟨aW,V,aN,W,aO⟩:=Ii U
 refine cl Tryz.call154 (sw _ _ h.aK n B V F) ?_
 rintro _ aX ⟨rfl,X⟩
 have ax:=W _ _ X
 refine An rfl (rt (rs (Gz (.bool (decide (B=0))) (dT d) (fw (.bool (decide (B=0))) (Iw rfl (dT d) rfl) (Az rfl (An rfl (rt (Fin.res (lW rfl rfl rfl) ?_))))))))
 have ay:=ax.pk []
 obtain⟨rfl,rfl⟩:=ic (zj hr (show _=(((a:Nat):Int),decide (B=0)) from et (ah E) (et (ip d) (et (ah (bJ T)) (ah F)))))
 exact⟨rfl,ay,e6,i7⟩
 refine Sz (dF d) (Sz (dF d) (Sz (dF d) (Sz (dF d) (Sz (dF d) (Sz (dF d) (Sz (dF d) (Sz (dF d) (fw (.bool false) (Ih rfl (dF d) rfl) (Az rfl (An rfl (rt (Fin.res (lW rfl rfl rfl) ?_))))))))))))
 have az:=f.pk []
 obtain⟨rfl,rfl⟩:=ic (zj hr zq2)
 exact⟨rfl,az,e6,i7⟩
def jQ (m:bI) (j:Int) (a:aA):bI × aA:=
 bnd (C0 a.ay.ls (D0 j) default) λ b=>bnd (lM b.bV.ls b.aG.ls b.af.ls) λ i=>if i.2=0 then bnd (jM (dK.mk b.aR b.aM b.aS b.dh (E2 b.bV.ls) (E2 b.aG.ls) (E2 b.bD.ls) (E2 b.af.ls) b.eO)) λ h=>bnd (bM a.aa.aj.ls b.aR) λ f=>bnd (fH a.aa.aF.ls b.aM) λ g=>if g.2=true then bnd (dC m b.aM b.aS 1 i.1 (aA.mk (cZ.mk a.aa.au a.aa.av a.aa.aV a.aa.aL (E2 a.aa.ag.ls) (E2 (q7 (D0 f.1) a.aa.aj.ls++((bH.mk b.aR b.aM a.aa.av b.aS (E2 h))::r3 (D0 f.1) a.aa.aj.ls))) (E2 (u2 a.aa.aF.ls (D0 g.1) (eD.mk b.aM a.aa.av b.aS (E2 i.1))))) a.bP (E2 (q7 (D0 j) a.ay.ls++r3 ((D0 j)+1) a.ay.ls)) a.bK a.bA a.bz a.bv a.bq a.dP a.dH a.dI a.dG a.dJ)) λ d=>bnd (dZ d.1 b.aR h true) λ k=>(k,aA.mk (cZ.mk d.2.aa.au d.2.aa.av d.2.aa.aV d.2.aa.aL (E2 a.aa.ag.ls) (E2 (q7 (D0 f.1) a.aa.aj.ls++((bH.mk b.aR b.aM a.aa.av b.aS (E2 h))::r3 (D0 f.1) a.aa.aj.ls))) (E2 (u2 a.aa.aF.ls (D0 g.1) (eD.mk b.aM a.aa.av b.aS (E2 i.1))))) d.2.bP (E2 (q7 (D0 j) a.ay.ls++r3 ((D0 j)+1) a.ay.ls)) d.2.bK d.2.bA d.2.bz d.2.bv d.2.bq d.2.dP d.2.dH d.2.dI d.2.dG d.2.dJ) else bnd (dC m b.aM b.aS 1 i.1 (aA.mk (cZ.mk a.aa.au a.aa.av a.aa.aV a.aa.aL (E2 a.aa.ag.ls) (E2 (q7 (D0 f.1) a.aa.aj.ls++((bH.mk b.aR b.aM a.aa.av b.aS (E2 h))::r3 (D0 f.1) a.aa.aj.ls))) (E2 (q7 (D0 g.1) a.aa.aF.ls++((eD.mk b.aM a.aa.av b.aS (E2 i.1))::r3 (D0 g.1) a.aa.aF.ls)))) a.bP (E2 (q7 (D0 j) a.ay.ls++r3 ((D0 j)+1) a.ay.ls)) a.bK a.bA a.bz a.bv a.bq a.dP a.dH a.dI a.dG a.dJ)) λ e=>bnd (dZ e.1 b.aR h true) λ l=>(l,aA.mk (cZ.mk e.2.aa.au e.2.aa.av e.2.aa.aV e.2.aa.aL (E2 a.aa.ag.ls) (E2 (q7 (D0 f.1) a.aa.aj.ls++((bH.mk b.aR b.aM a.aa.av b.aS (E2 h))::r3 (D0 f.1) a.aa.aj.ls))) (E2 (q7 (D0 g.1) a.aa.aF.ls++((eD.mk b.aM a.aa.av b.aS (E2 i.1))::r3 (D0 g.1) a.aa.aF.ls)))) e.2.bP (E2 (q7 (D0 j) a.ay.ls++r3 ((D0 j)+1) a.ay.ls)) e.2.bK e.2.bA e.2.bz e.2.bv e.2.bq e.2.dP e.2.dH e.2.dI e.2.dG e.2.dJ) else bnd (fq m j a) λ c=>(c.1,aA.mk (cZ.mk c.2.aa.au c.2.aa.av c.2.aa.aV c.2.aa.aL (E2 a.aa.ag.ls) (E2 a.aa.aj.ls) (E2 a.aa.aF.ls)) c.2.bP (E2 c.2.ay.ls) c.2.bK c.2.bA c.2.bz c.2.bv c.2.bq c.2.dP c.2.dH c.2.dI c.2.dG c.2.dJ)
theorem vz (w D Z) (p0:bI) (bK bL bz O d) (a:aA) (aa af U V p B P l W aM r aN aP ag aR aS ai aT aV aj aX aY ak bg bn au) (r0:bI) (r1:aA) (H:Own w D w (blk Z [.pointer (some ⟨d,0,none⟩), .slice bK p0.aX.ls.length bL] 98::row bK p0.aX.ls.length bL (q3 bf.cells bz) 42 21::sepL (q3 bf.own bz)::mX d a aa a.aa.ag.ls.length af U V p B P l W aM r aN aP ag aR aS ai aT aV aj aX aY ak bg bn au [])) (bC:s5 bf.abs bz=p0.aX.ls) (G:s5 aC.abs p=a.aa.aj.ls) (s:s5 aU.abs l=a.aa.aF.ls) (I:s5 bB.abs r=a.ay.ls) (av:s5 ae.abs ag=a.bK.af.ls) (ay:s5 ae.abs ai=a.bA.af.ls) (az:s5 ae.abs aj=a.bz.af.ls) (aD:s5 ae.abs ak=a.bv.af.ls) (aF:s5 ae.abs au=a.bq.af.ls) (uP:a.aa.ag.ls.length<=1000/\a.aa.aj.ls.length<=1000/\a.aa.aF.ls.length<=1000/\a.ay.ls.length<=1000/\p0.aX.ls.length<=100000) (uQ:Ak a.ay.ls) (uR:0<=O/\O < ((a.ay.ls.length:Nat):Int)) (hr:jQ p0 O a=(r0,r1)):
    Calls v8 94 #[vP Z 0,vI O] w (d9 λ v w'=> ∃ cO df bT ib ig dh ik il di iq iw dm iy iA dn iB iC dw iD iE dx iF iG dz iH iI dA,v= .tuple #[]/\Own w D w' (blk Z [vP d 0, .slice cO r0.aX.ls.length df] 98::row cO r0.aX.ls.length df (q3 bf.cells bT) 42 21::sepL (q3 bf.own bT)::mX d r1 aa a.aa.ag.ls.length af ib ig dh ik il di iq iw dm iy iA dn iB iC dw iD iE dx iF iG dz iH iI dA [])/\(s5 bf.abs bT=r0.aX.ls)/\(s5 aC.abs dh=r1.aa.aj.ls)/\(s5 aU.abs di=r1.aa.aF.ls)/\(s5 bB.abs dm=r1.ay.ls)/\(s5 ae.abs dn=r1.bK.af.ls)/\(s5 ae.abs dw=r1.bA.af.ls)/\(s5 ae.abs dx=r1.bz.af.ls)/\(s5 ae.abs dz=r1.bv.af.ls)/\(s5 ae.abs dA=r1.bq.af.ls)):=by
 unfold jQ at hr
 have oG:=aB bC
 have jD:=aB G
 have jE:=aB s
 have jG:=aB I
 have jH:=aB av
 have jI:=aB ay
 have jJ:=aB az
 have jK:=aB aD
 have jL:=aB aF
 have oH:=zr 1 H
 have jO:=zr 4 H
 have jP:=zr 6 H
 have jR:=zr 8 H
 have jS:=zr 10 H
 have jU:=zr 12 H
 have jW:=zr 14 H
 have jX:=zr 16 H
 have jY:=zr 18 H
 refine cb Tryz.func94 ?_
 refine sr (Mz rfl (Kz (vP Z 0) (Kz (vP Z 0) (Lz (vP d 0) H 0 P3 (Kz (vP d 0) (Kz (vP d 8) (Lz (.slice W a.ay.ls.length aM) H 3 Tryz.isAgg79 (fw (vJ (D0 O)) (Ie (e:=O) (Iq rfl) e6) ?_))))))))
 obtain⟨b,u⟩:=dN (ls:=r) (i:=D0 O) bB.len f4 (H.rds (i:=8) rfl) e9
 have bY:=fF I u
 have rU:b.bV.ls.length<=b.bV.c/\b.bV.ls.length<=9223372036854775807:=aZ H (i:=9) rfl (φ:=λ _=>_) (ax (Q3.2 ⟨b,D3 u,b1⟩) aW)
 have rV:b.aG.ls.length<=b.aG.c/\b.aG.ls.length<=9223372036854775807:=aZ H (i:=9) rfl (φ:=λ _=>_) (ax (Q3.2 ⟨b,D3 u, .tail _ b1⟩) aW)
 have rW:b.bD.ls.length<=b.bD.c/\b.bD.ls.length<=9223372036854775807:=aZ H (i:=9) rfl (φ:=λ _=>_) (ax (Q3.2 ⟨b,D3 u, .tail _ b2⟩) aW)
 have rX:b.af.ls.length<=b.af.c/\b.af.ls.length<=9223372036854775807:=aZ H (i:=9) rfl (φ:=λ _=>_) (ax (Q3.2 ⟨b,D3 u, .tail _ b3⟩) aW)
 have R:Tok (bB.abs b):=yz f8 bY
 have rY:1<=b.aM/\b.aM<=4:=R.uh
 have rZ:b.bD.ls.length=b.aG.ls.length:=by have q9:=R.yes; simp only [bB.abs,s3] at q9; exact q9
 have r9:b.af.ls.length=b.aG.ls.length:=by have q9:=R.res; simp only [bB.abs,s3] at q9; exact q9
 have si:b.aG.ls.length<=5:=by have q9:=R.len; simp only [bB.abs,s3] at q9; exact q9
 have sj:b.bV.ls.length<=24:=R.ops.1
 have su:tt (s5 bO.abs b.af.ls)<=100000000:=F4 R
 refine fw (.pointer (some ⟨ab W,ao W+(D0 O) *9,none⟩)) (Ij (qh) rfl rfl ((H.rds (i:=8) rfl).addr (i:=D0 O) e6) e6) (fw (.agg (bB.cells b).toArray) (Io rfl (Iy (cs:=(bB.cells b)) Tryz.isAgg107 Tryz.sizeOf107 ((H.rds (i:=8) rfl).elem bB.len u f4))) ?_)
 refine dV (rJ 0 0 0 0 none 0 0 none 0 0 none 0 0 none 0 0 0) 107 H ?_
 intro X uS oI
 refine dS (bB.cells b) 0 oI Tryz.sizeOf107 ?_
 intro uT oJ
 refine ns (Kz (vP X 4) ?_)
 have oK:=oJ.pf [10]
 have aL:=JV (f:=bB.own) (i:=D0 O) (row b.bV.A b.bV.ls.length b.bV.c (q3 bi.cells b.bV.ls) 72 6) (row b.aG.A b.aG.ls.length b.aG.c (q3 bG.cells b.aG.ls) 172 3) (row b.bD.A b.bD.ls.length b.bD.c (q3 eL b.bD.ls) 4 1) (row b.af.A b.af.ls.length b.af.c (q3 (IX (β:=ae)) b.af.ls) 40 1) (sepL (q3 bG.own b.aG.ls)) (sepL (q3 bO.own b.af.ls)) rfl u oK
 have sw:=zr 0 aL
 have sD:=zr 1 aL
 have sF:b.aG.ls.length=r8 (s5 bG.abs b.aG.ls):=aB (rfl:s5 bG.abs b.aG.ls=s5 bG.abs b.aG.ls)
 have sG:=zr 2 aL
 have sH:=zr 3 aL
 have sI:b.af.ls.length=r8 (s5 bO.abs b.af.ls):=aB (rfl:s5 bO.abs b.af.ls=s5 bO.abs b.af.ls)
 refine Lz (.slice b.bV.A b.bV.ls.length b.bV.c) aL 7 Tryz.isAgg39 (Kz (vP X 5) (Lz (.slice b.aG.A b.aG.ls.length b.aG.c) aL 7 Tryz.isAgg103 (Kz (vP X 7) (Lz (.slice b.af.A b.af.ls.length b.af.c) aL 7 Tryz.isAgg105 ?_))))
 have sJ:b.aG.ls.length=r8 (s5 bG.abs b.aG.ls):=f1
 have sK:b.af.ls.length=r8 (s5 bO.abs b.af.ls):=f1
 obtain⟨⟨n,dB⟩,bN⟩:∃ q:(List aQ) × Int,lM b.bV.ls (s5 bG.abs b.aG.ls) (s5 bO.abs b.af.ls)=q:=⟨_,rfl⟩
 obtain⟨uU,jZ,sM,j3,bq⟩:=Ii aL
 refine cl Tryz.call129 (yj _ _ b.bV.A b.bV.ls.length b.bV.c b.bV.ls b.aG.A b.aG.ls.length b.aG.c b.aG.ls (s5 bG.abs b.aG.ls) b.af.A b.af.ls.length b.af.c b.af.ls (s5 bO.abs b.af.ls) n dB jZ (bq _ 0 _ rfl aO) rfl e6 (rfl:s5 bG.abs b.aG.ls=s5 bG.abs b.aG.ls) (bq _ 1 _ rfl aO) (λ Y Q=>⟨bq _ 4 _ rfl (ax (Q3.2 ⟨Y,Q,b1⟩) aO),aZ (φ:=λ _=>_) aL (i:=4) rfl (ax (Q3.2 ⟨Y,Q,b1⟩) aW),bq _ 4 _ rfl (ax (Q3.2 ⟨Y,Q, .tail _ b1⟩) aO),aZ (φ:=λ _=>_) aL (i:=4) rfl (ax (Q3.2 ⟨Y,Q, .tail _ b1⟩) aW)⟩) f1 g4 (rfl:s5 bO.abs b.af.ls=s5 bO.abs b.af.ls) (bq _ 3 _ rfl aO) (λ Y Q=>⟨bq _ 5 _ rfl (ax (Q3.2 ⟨Y,Q,b1⟩) aO),aZ (φ:=λ _=>_) aL (i:=5) rfl (ax (Q3.2 ⟨Y,Q,b1⟩) aW),(λ y1 k1=>⟨bq _ 5 _ rfl (ax (Q3.2 ⟨Y,Q, .tail _ b1⟩) (ax (Q3.2 ⟨y1,k1,b1⟩) aO)),aZ (φ:=λ _=>_) aL (i:=5) rfl (ax (Q3.2 ⟨Y,Q, .tail _ b1⟩) (ax (Q3.2 ⟨y1,k1,b1⟩) aW))⟩)⟩) f1 g4 (by first | assumption | omega) bN) ?_
 rintro _ uV ⟨J,K,aG,rfl,j4,N⟩
 have iK:=j3 _ _ j4
 have sN:=aB N
 have sO:=zr 0 iK
 have j5:nI n:=yA bN R.ops.1 R.ops.2 R.Cs
 have sP:n.length<=1000:=j5.1
 refine Mz rfl (Kz (.slice J n.length K) (Kz (vI dB) (Az rfl (An rfl (Ic (sr (Mz rfl (fw (.bool (decide (¬ (dB=0)))) (IG (e:= !(decide (dB=0))) yk decide_not.symm) (nt ?_)))))))))
 by_cases dD:dB=0
 refine jF (dF (Lh dD)) (sk (Ic ?_))
 have oL:=iK.pf [10,13]
 refine qy [17] (Iu IC) oL ?_
 intro uW oM
 have oN:=oM.pf [4,5,6,7,8,9,10]
 have dE:=rH (f:=bB.own) u oN
 have sQ:b.bV.ls.length<=b.bV.c/\b.bV.ls.length<=9223372036854775807:=aZ dE (i:=0) rfl (φ:=λ _=>_) (ax (Q3.2 ⟨b,D3 u,b1⟩) aW)
 have sS:b.aG.ls.length<=b.aG.c/\b.aG.ls.length<=9223372036854775807:=aZ dE (i:=0) rfl (φ:=λ _=>_) (ax (Q3.2 ⟨b,D3 u, .tail _ b1⟩) aW)
 have sU:b.bD.ls.length<=b.bD.c/\b.bD.ls.length<=9223372036854775807:=aZ dE (i:=0) rfl (φ:=λ _=>_) (ax (Q3.2 ⟨b,D3 u, .tail _ b2⟩) aW)
 have sV:b.af.ls.length<=b.af.c/\b.af.ls.length<=9223372036854775807:=aZ dE (i:=0) rfl (φ:=λ _=>_) (ax (Q3.2 ⟨b,D3 u, .tail _ b3⟩) aW)
 refine qv 0 rfl rfl (qp Z 0 1 rfl (qp Z 0 2 rfl (ql 3 rfl 0 P3 rfl rfl rfl (qv 4 rfl rfl (qp Z 0 5 rfl (qp Z 0 6 rfl (ql 7 rfl 0 P3 rfl rfl rfl (qp d 0 8 rfl (qp d 8 9 rfl (ql 10 rfl 1 Tryz.isAgg79 rfl rfl rfl (qv 11 rfl rfl (qv 12 rfl rfl (qt (v:=vI (O+1)) 13 rfl (λ _ _=>Ie (e:=C5.wrap (O+1)) yk g2) ?_)))))))))))))
 have oO:=dE.pf [12]
 obtain⟨uX,j6,sW,kg,sZ⟩:=IJ oO
 refine qd 14 rfl (Iz Tryz.call105 rfl (vH _ _ W a.ay.ls.length aM r a.ay.ls O (O+1) (D0 O) b j6 e6 I e6 e6 e6 u) ?_)
 rintro _ uY ⟨dG,dH,rfl,ko⟩
 have dI:=kg _ _ ko
 have tq:r8 (q7 (D0 O) r++r3 ((D0 O)+1) r)=r8 (q7 (D0 O) a.ay.ls++r3 ((D0 O)+1) a.ay.ls):=by exact aB (qc I)
 have tu:r8 (q7 (D0 O) a.ay.ls++r3 ((D0 O)+1) a.ay.ls)+1=a.ay.ls.length:=by simp only [o1,m9,o0]; omega
 have tC:b.aG.ls.length=r8 (s5 bG.abs b.aG.ls):=by exact(s3 _).symm
 have tF:b.af.ls.length=r8 (s5 bO.abs b.af.ls):=by exact(s3 _).symm
 have tH:=zr 2 dI
 have tJ:=zr 3 dI
 have tK:=zr 4 dI
 have tL:=zr 5 dI
 have ku:=dI.pf [8,9]
 refine⟨.inr ⟨_,ku⟩, ?_⟩
 refine qp d 0 15 rfl (qp d 8 16 rfl ?_)
 have oP:=ku.pf [1]
 refine qe 17 rfl (Do.store (vs:= [.slice dG (r8 (q7 (D0 O) a.ay.ls++r3 ((D0 O)+1) a.ay.ls)) dH]) (o:=8) oP rfl rfl Tryz.sizeOf79 rfl rfl rfl rfl ?_)
 intro tN kv
 refine⟨.inl e7, ?_⟩
 refine qn (Ig (Ic ?_))
 have bD:b.aG.ls.length=r8 (s5 bG.abs b.aG.ls):=by first | omega | (simp only [H1]; done) | (simp only [H1,o1,s0,F2,m9,o0,H2]; omega)
 have kw:=kv.pf [5]
 have ky:=I4 bD kw
 have kz:=ky.pf [12]
 have kC:=Jh 5 bD kz
 have kD:=kC.pf [2,3,4,5,6,1,7,8,9,10,11,12]
 have bE:b.af.ls.length=r8 (s5 bO.abs b.af.ls):=by first | omega | (simp only [H1]; done) | (simp only [H1,o1,s0,F2,m9,o0,H2]; omega)
 have kE:=kD.pf [7]
 have kF:=I4 bE kE
 have kG:=kF.pf [12]
 have kH:=Jh 7 bE kG
 have kI:=kH.pf [2,3,4,5,6,7,8,1,9,10,11,12]
 refine qy [] (Iu IC) kI ?_
 intro tO kJ
 refine qp X 0 0 rfl ?_
 have gz:=kJ.pf [0,1,12]
 refine BP gz (ql 1 rfl 2 D4 rfl rfl rfl (qp X 1 2 rfl (ql 3 rfl 2 C4 rfl rfl rfl (qv 4 rfl rfl (qp Z 0 5 rfl (qp Z 0 6 rfl (ql 7 rfl 1 P3 rfl rfl rfl (qp d 0 8 rfl (qp d 0 9 rfl (qp d 1 10 rfl (ql 11 rfl 0 D4 rfl rfl rfl (qp X 2 12 rfl (ql 13 rfl 2 D4 rfl rfl rfl ?_)))))))))))))
 obtain⟨h,bF⟩:∃ q,jM (dK.mk b.aR b.aM b.aS b.dh (E2 b.bV.ls) (E2 (s5 bG.abs b.aG.ls)) (E2 b.bD.ls) (E2 (s5 bO.abs b.af.ls)) b.eO)=q:=⟨_,rfl⟩
 have oQ:h.length<=5:=by have q9:=yC bF; simp only [s3] at q9; omega
 refine Eu ⟨14,_,_,_,_,_,Option Addr × Nat,λ g9=> .slice g9.1 h.length g9.2,λ _=>True,λ g9=> [row g9.1 h.length g9.2 (q3 (eI .i64) h) 3 1]⟩ ⟨16,_,_,_,_,_,Nat,λ g9=>vP g9 0,λ _=>True,λ g9=> [blk g9 [.int .u64 0,vI 0, .int .u64 0, .int .u64 0, .slice none 0 0] 60]⟩ 15 3 gz ⟨⟨rfl,rfl,rfl, ?_⟩,⟨rfl,rfl,rfl, ?_⟩,trivial⟩ rfl ?_
 intro tQ L' kK
 refine(IY (cs:= [.int .u64 0,vI 0, .int .u64 0, .int .u64 0, .slice none 0 0]) (t:=60) kK rfl rfl (λ _=>by kernel_rfl) ?_)
 intro bP tT kL
 exact⟨bP,rfl,trivial,kL⟩
 intro tV L' kM
 have aH:=kM.pf [3]
 have oU:=zr 6 aH
 have oV:=zr 7 aH
 have oW:=zr 8 aH
 have oZ:=zr 9 aH
 obtain⟨tX,iL,o5,iM,S⟩:=II aH
 refine(Iz Tryz.call107 rfl (rD _ _ X (dK.mk b.aR b.aM b.aS b.dh (E2 b.bV.ls) (E2 (s5 bG.abs b.aG.ls)) (E2 b.bD.ls) (E2 (s5 bO.abs b.af.ls)) b.eO) b.bV.A b.bV.c b.aG.A b.aG.c b.aG.ls b.bD.A b.bD.c b.af.A b.af.c b.af.ls h iL (S _ 5 _ rfl aO) e6 (rfl:s5 bG.abs b.aG.ls=s5 bG.abs b.aG.ls) (S _ 6 _ rfl aO) e6 (λ Y Q=>⟨S _ 9 _ rfl (ax (Q3.2 ⟨Y,Q,b1⟩) aO),aZ (φ:=λ _=>_) aH (i:=10) rfl (ax (Q3.2 ⟨Y,Q,b1⟩) aW),S _ 9 _ rfl (ax (Q3.2 ⟨Y,Q, .tail _ b1⟩) aO),aZ (φ:=λ _=>_) aH (i:=10) rfl (ax (Q3.2 ⟨Y,Q, .tail _ b1⟩) aW)⟩) (S _ 7 _ rfl aO) e6 (rfl:s5 bO.abs b.af.ls=s5 bO.abs b.af.ls) (S _ 8 _ rfl aO) e6 (λ Y Q=>⟨S _ 10 _ rfl (ax (Q3.2 ⟨Y,Q,b1⟩) aO),aZ (φ:=λ _=>_) aH (i:=11) rfl (ax (Q3.2 ⟨Y,Q,b1⟩) aW),(λ y1 k1=>⟨S _ 10 _ rfl (ax (Q3.2 ⟨Y,Q, .tail _ b1⟩) (ax (Q3.2 ⟨y1,k1,b1⟩) aO)),aZ (φ:=λ _=>_) aH (i:=11) rfl (ax (Q3.2 ⟨Y,Q, .tail _ b1⟩) (ax (Q3.2 ⟨y1,k1,b1⟩) aW))⟩)⟩) e8 bF) ?_)
 rintro _ tY ⟨L,M,rfl,iO⟩
 have kN:=iM _ _ iO
 have kP:=kN.pf [0,2,3,4]
 exact⟨(L,M),rfl,trivial,kP⟩
 rintro ⟨L,M⟩ _
 refine⟨.agg #[vU b.aR,vI b.aM,vU a.aa.av,vU b.aS, .slice L h.length M],λ _=>yk, ?_⟩
 rintro bP _
 intro kQ kR
 have gB:Own w D kQ (blk bP [.int .u64 0,vI 0, .int .u64 0, .int .u64 0, .slice none 0 0] 60::row L h.length M (q3 (eI .i64) h) 3 1::_):=kR.flat.pf []
 have o6:=zr 1 gB
 have kS:=gB.pf [2,3,4]
 have kT:=kS.pf [3]
 refine qe 17 rfl (Do.store (vs:= [vU b.aR,vI b.aM,vU a.aa.av,vU b.aS, .slice L h.length M]) (o:=0) kT rfl rfl Tryz.sizeOf60 rfl rfl rfl rfl ?_)
 intro tZ kU
 have gD:=kU.pf [1,2,3]
 refine⟨.inr ⟨_,gD⟩, ?_⟩
 refine qn (Ig (Ic ?_))
 have kW:=gD.pf [1,2,3,4,7,8,9,10,11,12,13,14,15,16]
 refine pU 14 [] (Iu IC) kW ?_
 intro uf dJ
 refine qv 0 rfl rfl (qp Z 0 1 rfl (qp Z 0 2 rfl (ql 3 rfl 0 P3 rfl rfl rfl (qp X 0 4 rfl (ql 5 rfl 1 D4 rfl rfl rfl ?_)))))
 refine GX.do 6 rfl e7 (Iz Tryz.call95 rfl ?_ (λ _ _ k=>k))
 refine cb Tryz.func95 ?_
 refine sr (Az rfl (Ar rfl (Mz rfl (Kz (vP d 0) (Kz (vP d 0) (Kz (vP d 5) (Lz (.slice U a.aa.aj.ls.length V) dJ 14 Tryz.isAgg30 (Mz rfl ?_))))))))
 obtain⟨⟨j,bZ⟩,bU⟩:∃ q:Int × Bool,bM a.aa.aj.ls b.aR=q:=⟨_,rfl⟩
 obtain⟨ug,iP,o8,iQ,dL⟩:=Ii dJ
 refine cl Tryz.call132 (iJ _ _ U a.aa.aj.ls.length V p a.aa.aj.ls b.aR j bZ iP G (dL _ 17 _ rfl aO) (λ Y Q=>⟨dL _ 18 _ rfl (ax (Q3.2 ⟨Y,Q,b1⟩) aO),aZ (φ:=λ _=>_) dJ (i:=18) rfl (ax (Q3.2 ⟨Y,Q,b1⟩) aW)⟩) rfl e6 bU) ?_
 rintro _ uh ⟨rfl,iR,dM,dO⟩
 have gF:=iQ _ _ iR
 replace dM:0<=j/\j<=(a.aa.aj.ls.length:Int):=dM
 replace dO:Bool.toNat bZ=0\/j < (a.aa.aj.ls.length:Int):=dO
 refine Kz (vI j) (Kz (.bool bZ) (Az rfl (An rfl (rt (Fin.res (lW rfl rfl rfl) ?_)))))
 refine⟨.inr ⟨_,gF⟩, ?_⟩
 refine qv 7 rfl rfl (qk (vI j) 8 rfl (qk (.bool bZ) 9 rfl (qa 10 rfl rfl (qa 11 rfl rfl (qn (Ig (Ic ?_)))))))
 have kX:=gF.pf [0,14]
 refine qy [19] (Iu IC) kX ?_
 intro ui kY
 refine qv 0 rfl rfl (qp Z 0 1 rfl (qp Z 0 2 rfl (ql 3 rfl 0 P3 rfl rfl rfl (qv 4 rfl rfl (qp Z 0 5 rfl (qp Z 0 6 rfl (ql 7 rfl 0 P3 rfl rfl rfl (qp d 0 8 rfl (qp d 0 9 rfl (qp d 5 10 rfl (ql 11 rfl 1 Tryz.isAgg30 rfl rfl rfl (qv 12 rfl rfl ?_))))))))))))
 have gG:=kY.pf [0,1,3]
 refine BP gG (qb 13 rfl 2 Tryz.isAgg60 Tryz.sizeOf60 rfl rfl rfl ?_)
 refine qd 14 rfl (JM (cs:= [vU b.aR,vI b.aM,vU a.aa.av,vU b.aS, .slice L h.length M]) (t:=60) (sz:=5) (m:=1) gG rfl rfl (λ _=>by kernel_rfl) rfl ?_)
 intro gH uj dP
 replace dP:=IL (y:=qV gH 1 (q3 aC.cells ([(aC.mk b.aR b.aM a.aa.av b.aS (H0 L M h))])) 60 5) rfl dP
 have gI:=dP.pf [1,2,3]
 refine⟨.inr ⟨_,gI⟩, ?_⟩
 have kZ:=gI.pf [18,3,19,5]
 obtain⟨uk,iT,o9,iU,pg⟩:=I5 kZ
 refine qd 15 rfl (Iz Tryz.call130 rfl (wo _ _ U a.aa.aj.ls.length V p a.aa.aj.ls j (D0 j) gH (aC.mk b.aR b.aM a.aa.av b.aS (H0 L M h)) (bH.mk b.aR b.aM a.aa.av b.aS (E2 h)) iT e6 G rfl e6 e6 e6) ?_)
 rintro _ ul ⟨bQ,bR,rfl,iV⟩
 have lc:=iU _ _ iV
 have pq:r8 (q7 (D0 j) p++((aC.mk b.aR b.aM a.aa.av b.aS (H0 L M h))::r3 (D0 j) p))=r8 (q7 (D0 j) a.aa.aj.ls++((bH.mk b.aR b.aM a.aa.av b.aS (E2 h))::r3 (D0 j) a.aa.aj.ls)):=by exact aB (rO (z:=(bH.mk b.aR b.aM a.aa.av b.aS (E2 h))) G rfl)
 have pu:r8 (q7 (D0 j) a.aa.aj.ls++((bH.mk b.aR b.aM a.aa.av b.aS (E2 h))::r3 (D0 j) a.aa.aj.ls))=a.aa.aj.ls.length+1:=by simp only [o1,m9,s0,o0]; omega
 have gJ:=lc.pf [2,3,4]
 refine⟨.inr ⟨_,gJ⟩, ?_⟩
 refine qp d 0 16 rfl (qp d 0 17 rfl (qp d 5 18 rfl ?_))
 have lg:=gJ.pf [1]
 refine qe 19 rfl (Do.store (vs:= [.slice bQ (r8 (q7 (D0 j) a.aa.aj.ls++((bH.mk b.aR b.aM a.aa.av b.aS (E2 h))::r3 (D0 j) a.aa.aj.ls))) bR]) (o:=5) lg rfl rfl Tryz.sizeOf30 rfl rfl rfl rfl ?_)
 intro um lh
 refine⟨.inl e7, ?_⟩
 refine qn (Ig (Ic ?_))
 refine qy [15] (Iu IC) lh ?_
 intro uo ll
 refine qv 0 rfl rfl (qp X 1 1 rfl ?_)
 have gK:=ll.pf [0,1,5]
 refine BP gK (ql 2 rfl 2 C4 rfl rfl rfl (qv 3 rfl rfl (qp Z 0 4 rfl (qp Z 0 5 rfl (ql 6 rfl 1 P3 rfl rfl rfl (qp d 0 7 rfl (qp d 0 8 rfl (qp d 1 9 rfl (ql 10 rfl 0 D4 rfl rfl rfl (qp X 2 11 rfl (ql 12 rfl 2 D4 rfl rfl rfl (qv 13 rfl rfl (qk (.agg #[vI b.aM,vU a.aa.av,vU b.aS, .slice J n.length K]) 14 rfl ?_)))))))))))))
 refine GX.do 15 rfl e7 (Iz Tryz.call131 rfl ?_ (λ _ _ k=>k))
 refine cb Tryz.func131 ?_
 refine sr ?_
 refine dV [vI b.aM,vU a.aa.av,vU b.aS, .slice J n.length K] 56 gK ?_
 intro lm uq lq
 refine nt (Ic ?_)
 refine pU 31 [] (Iu IC) lq ?_
 intro ut dQ
 refine qv 0 rfl rfl (qp Z 0 1 rfl (qp Z 0 2 rfl (ql 3 rfl 2 P3 rfl rfl rfl (qp d 0 4 rfl (qp d 0 5 rfl (qp d 6 6 rfl (ql 7 rfl 1 H3 rfl rfl rfl (qp lm 0 8 rfl (ql 9 rfl 0 C4 rfl rfl rfl ?_)))))))))
 obtain⟨⟨g,bA⟩,bV⟩:∃ q:Int × Bool,fH a.aa.aF.ls b.aM=q:=⟨_,rfl⟩
 obtain⟨uu,iX,pz,iY,bW⟩:=Ii dQ
 refine qd 10 rfl (Iz Tryz.call152 rfl (nM _ _ B a.aa.aF.ls.length P l a.aa.aF.ls b.aM g bA iX s (bW _ 19 _ rfl aO) (λ Y Q=>⟨bW _ 20 _ rfl (ax (Q3.2 ⟨Y,Q,b1⟩) aO),aZ (φ:=λ _=>_) dQ (i:=20) rfl (ax (Q3.2 ⟨Y,Q,b1⟩) aW),(λ y1 k1=>⟨bW _ 20 _ rfl (ax (Q3.2 ⟨Y,Q, .tail _ b1⟩) (ax (Q3.2 ⟨y1,k1,b1⟩) aO)),aZ (φ:=λ _=>_) dQ (i:=20) rfl (ax (Q3.2 ⟨Y,Q, .tail _ b1⟩) (ax (Q3.2 ⟨y1,k1,b1⟩) aW))⟩)⟩) rfl e6 bV) ?_)
 rintro _ uw ⟨rfl,iZ,dR,dU⟩
 have dW:=iY _ _ iZ
 replace dR:0<=g/\g<=(a.aa.aF.ls.length:Int):=dR
 replace dU:Bool.toNat bA=0\/g < (a.aa.aF.ls.length:Int):=dU
 refine⟨.inr ⟨_,dW⟩, ?_⟩
 refine qv 11 rfl rfl (qk (vI g) 12 rfl (qk (.bool bA) 13 rfl (qa 14 rfl rfl (qa 15 rfl rfl (qn (Ig (Ic (sr (Mn rfl ?_)))))))))
 rcases Li (bA) with bu | bu
 have h217t:Bool.toNat bA=1:=by rw [bu]; rfl
 refine jT bu (Ic ?_)
 have lu:=dW.pf [1,2]
 refine qy [11] (Iu (Iu IC)) lu ?_
 intro uy gL
 refine qv 0 rfl rfl (qp Z 0 1 rfl (qp Z 0 2 rfl (ql 3 rfl 1 P3 rfl rfl rfl (qp d 0 4 rfl (qp d 0 5 rfl (qp d 6 6 rfl (ql 7 rfl 0 H3 rfl rfl rfl (qt (v:=vJ (D0 g)) 8 rfl (λ _ _=>Ie (e:=g) (Iq rfl) e6) (BP gL (qb 9 rfl 2 Q4 P2 rfl rfl rfl ?_))))))))))
 have gM:=gL.pf [0,1,2,19]
 refine Hr gM ?_
 obtain⟨bv,T⟩:=jN (ls:=l) (i:=D0 g) e9
 have pE:=fF s T
 refine qt (v:= .pointer (some ⟨ab B,ao B+(D0 g) *4,none⟩)) 10 rfl (λ _ ⟨_,H9⟩=>Ij (l6) rfl rfl ((H9.rds (i:=3) rfl).addr (i:=D0 g) e6) e6) ?_
 have lv:=gM.pf [20]
 have lw:=JU (f:=aU.own) (i:=D0 g) (row bv.ai.A bv.ai.ls.length bv.ai.c (q3 ae.cells bv.ai.ls) 149 3) (sepL (q3 ae.own bv.ai.ls)) rfl T lv
 have lC:=lw.px [] [0,1] []
 have lD:=lC.pf [15,16]
 have lF:=I4 (aB N).symm lD
 have lG:=I7 (f:=aU.own) (y:=(aU.mk b.aM a.aa.av b.aS (H0 J K aG))) T lF
 have lH:=lG.pf [4]
 refine qe 11 rfl (Do.storeRow (vs:= [vI b.aM,vU a.aa.av,vU b.aS, .slice J n.length K]) (o:=(D0 g) *4+0) (q:=ao B+(D0 g) *4) lH rfl e6 rfl P2 rfl rfl (Le rfl) (je aU.len T (Le rfl)) (jV (x:=bv) (f:=0) (vs:= [vI b.aM,vU a.aa.av,vU b.aS, .slice J n.length K]) (y:=(aU.mk b.aM a.aa.av b.aS (H0 J K aG))) aU.len (show put (aU.cells bv) 0 ([vI b.aM,vU a.aa.av,vU b.aS, .slice J n.length K]:List Value)=aU.cells (aU.mk b.aM a.aa.av b.aS (H0 J K aG)) from congrArg (λ z9=>([vI b.aM,vU a.aa.av,vU b.aS, .slice J z9 K]:List Value)) (aB N).symm) (Le rfl) T) ?_)
 intro uz lI
 have pF:r8 (u2 l (D0 g) (aU.mk b.aM a.aa.av b.aS (H0 J K aG)))=r8 (u2 a.aa.aF.ls (D0 g) (eD.mk b.aM a.aa.av b.aS (E2 n))):=aB (iW s (congrArg (λ z9=>eD.mk b.aM a.aa.av b.aS (E2 z9)) N))
 have pG:r8 (u2 a.aa.aF.ls (D0 g) (eD.mk b.aM a.aa.av b.aS (E2 n)))=a.aa.aF.ls.length:=H1
 refine⟨.inl e7, ?_⟩
 refine qn (Ig (rt (tR (Fin.res (res0 rfl) ?_))))
 refine⟨.inl e7, ?_⟩
 refine qn (Ig (Ic ?_))
 have dX:=lI.px [] [4] []
 refine Ib (Mz rfl (Kz (vP X 1) (Lz (vI b.aM) dX 4 C4 (Kz (vP X 2) (Lz (vU b.aS) dX 4 D4 (Mz rfl ?_))))))
 have bX:a.aa.aF.ls.length=r8 (u2 a.aa.aF.ls (D0 g) (eD.mk b.aM a.aa.av b.aS (E2 n))):=by first | omega | (simp only [H1]; done) | (simp only [H1,o1,s0,F2,m9,o0,H2]; omega)
 have lJ:=I4 bX dX
 have lK:=lJ.pf [2]
 have lL:=Jh 6 bX lK
 have lN:=lL.pf [1,2]
 have gN:=lN.pf [3,14,15,2,18,19,20,21,22,23,24,25,26,27]
 obtain⟨⟨cu,E⟩,dY⟩:∃ q:bI × aA,dC p0 b.aM b.aS 1 n (aA.mk (cZ.mk a.aa.au a.aa.av a.aa.aV a.aa.aL (E2 a.aa.ag.ls) (E2 (q7 (D0 j) a.aa.aj.ls++((bH.mk b.aR b.aM a.aa.av b.aS (E2 h))::r3 (D0 j) a.aa.aj.ls))) (E2 (u2 a.aa.aF.ls (D0 g) (eD.mk b.aM a.aa.av b.aS (E2 n))))) a.bP (E2 (q7 (D0 O) a.ay.ls++r3 ((D0 O)+1) a.ay.ls)) a.bK a.bA a.bz a.bv a.bq a.dP a.dH a.dI a.dG a.dJ)=q:=⟨_,rfl⟩
 obtain⟨uA,ja,pI,jb,ed⟩:=Ja gN
 refine cl Tryz.call106 (kr _ _ Z p0 bK bL bz b.aM b.aS 1 J n.length K aG n d (aA.mk (cZ.mk a.aa.au a.aa.av a.aa.aV a.aa.aL (E2 a.aa.ag.ls) (E2 (q7 (D0 j) a.aa.aj.ls++((bH.mk b.aR b.aM a.aa.av b.aS (E2 h))::r3 (D0 j) a.aa.aj.ls))) (E2 (u2 a.aa.aF.ls (D0 g) (eD.mk b.aM a.aa.av b.aS (E2 n))))) a.bP (E2 (q7 (D0 O) a.ay.ls++r3 ((D0 O)+1) a.ay.ls)) a.bK a.bA a.bz a.bv a.bq a.dP a.dH a.dI a.dG a.dJ) aa af bQ bR B P dG dH aN aP ag aR aS ai aT aV aj aX aY ak bg bn au cu E ja bC N (ed _ 1 _ rfl (ax (Q3.2 ⟨_,(xB (aU.mk b.aM a.aa.av b.aS (H0 J K aG)) T),b1⟩) (λ w9 Q a9 b9=>qg (aB N) (aO w9 Q a9 b9)))) (λ Y Q=>⟨ed _ 1 _ rfl (ax (Q3.2 ⟨_,(xB (aU.mk b.aM a.aa.av b.aS (H0 J K aG)) T), .tail _ b1⟩) (ax (Q3.2 ⟨Y,Q,b1⟩) aO)),aZ (φ:=λ _=>_) gN (i:=15) rfl (ax (Q3.2 ⟨_,(xB (aU.mk b.aM a.aa.av b.aS (H0 J K aG)) T), .tail _ b1⟩) (ax (Q3.2 ⟨Y,Q,b1⟩) aW))⟩) rfl e6 g6 av ay az aD aF e8 g3 g3 i2 dY) ?_
 rintro _ uB ⟨lQ,lS,lT,lU,lV,lX,lY,lZ,l5,l7,l8,l9,ma,mf,mg,mh,mi,mo,rfl,jc,ek,eu,eB,eF,eG,eH,eO⟩
 have aI:=jb _ _ jc
 have pO:=aB ek
 have pQ:=aB eu
 have pR:=aB eB
 have pV:=aB eF
 have pW:=aB eG
 have pX:=aB eH
 have pY:=zr 1 aI
 have p8:=zr 4 aI
 have p9:=zr 6 aI
 have qf:=zr 8 aI
 have qi:=zr 10 aI
 have qj:=zr 12 aI
 replace eO:cu.aX.ls.length=p0.aX.ls.length+1:=eO
 refine nt (Ib (Mz rfl (Kz (vP X 0) (Lz (vU b.aR) aI 16 D4 (Kz (vP bP 4) (Lz (.slice L h.length M) aI 17 Tryz.isAgg58 ?_))))))
 obtain⟨gP,eP⟩:∃ q,dZ cu b.aR h true=q:=⟨_,rfl⟩
 obtain⟨uC,jd,qm,jf,jg⟩:=IU aI
 refine cl Tryz.call27 (kV _ _ Z cu lQ lS lT d b.aR L h.length M h true gP jd ek (jg _ 16 _ rfl (ax (Q3.2 ⟨_,v2 _ b1,b1⟩) aO)) rfl e6 g7 eP) ?_
 rintro _ uD ⟨mq,mr,mD,rfl,jh,eQ⟩
 have gQ:=jf _ _ jh
 have qo:=aB eQ
 have qw:=zr 1 gQ
 refine WL.nil (IA (res0 rfl) ?_)
 have mF:=gQ.pk [0,1,2,3,18,19,14,15,26,27,4,5,6,7,8,9,10,11,12,13]
 obtain⟨rfl,rfl⟩:=ic (zj hr (show _=(gP,aA.mk (cZ.mk E.aa.au E.aa.av E.aa.aV E.aa.aL (E2 a.aa.ag.ls) (E2 (q7 (D0 j) a.aa.aj.ls++((bH.mk b.aR b.aM a.aa.av b.aS (E2 h))::r3 (D0 j) a.aa.aj.ls))) (E2 (u2 a.aa.aF.ls (D0 g) (eD.mk b.aM a.aa.av b.aS (E2 n))))) E.bP (E2 (q7 (D0 O) a.ay.ls++r3 ((D0 O)+1) a.ay.ls)) E.bK E.bA E.bz E.bv E.bq E.dP E.dH E.dI E.dG E.dJ) from et (ah (bJ bY)) (et (ah bN) (et (ip dD) (et (ah bF) (et (ah bU) (et (ah bV) (et (ip bu) (et (ah dY) (ah eP))))))))))
 exact⟨mq,mr,mD,bQ,bR,(q7 (D0 j) p++((aC.mk b.aR b.aM a.aa.av b.aS (H0 L M h))::r3 (D0 j) p)),B,P,(u2 l (D0 g) (aU.mk b.aM a.aa.av b.aS (H0 J K aG))),dG,dH,(q7 (D0 O) r++r3 ((D0 O)+1) r),lU,lV,lX,lY,lZ,l5,l7,l8,l9,ma,mf,mg,mh,mi,mo,(by(first | rw [<- bD] | skip); (first | rw [<- bE] | skip); (first | rw [<- bX] | skip); first | done | rfl),mF,eQ,(rO (z:=(bH.mk b.aR b.aM a.aa.av b.aS (E2 h))) G rfl),(iW s (congrArg (λ z9=>eD.mk b.aM a.aa.av b.aS (E2 z9)) N)),(qc I),eu,eB,eF,eG,eH⟩
 have h217t:Bool.toNat bA=0:=by rw [bu]; rfl
 refine jF bu (sk ?_)
 have mG:=dW.pf [1,2]
 refine qy [19] IC mG ?_
 intro uE gT
 refine qv 0 rfl rfl (qp Z 0 1 rfl (qp Z 0 2 rfl (ql 3 rfl 1 P3 rfl rfl rfl (qv 4 rfl rfl (qp Z 0 5 rfl (qp Z 0 6 rfl (ql 7 rfl 1 P3 rfl rfl rfl (qp d 0 8 rfl (qp d 0 9 rfl (qp d 6 10 rfl (ql 11 rfl 0 H3 rfl rfl rfl (qv 12 rfl rfl (BP gT (qb 13 rfl 2 Q4 P2 rfl rfl rfl ?_))))))))))))))
 refine qd 14 rfl (JM (cs:= [vI b.aM,vU a.aa.av,vU b.aS, .slice J n.length K]) (t:=56) (sz:=4) (m:=1) gT rfl rfl (λ _=>by kernel_rfl) rfl ?_)
 intro eT uF eU
 replace eU:=IL (y:=qV eT 1 (q3 aU.cells ([(aU.mk b.aM a.aa.av b.aS (H0 J K aG))])) 56 4) (congrArg (λ z9=>qV eT 1 [vI b.aM,vU a.aa.av,vU b.aS, .slice J z9 K] 56 4) (aB N).symm) eU
 have gU:=eU.pf [1,2,3]
 refine⟨.inr ⟨_,gU⟩, ?_⟩
 have mH:=gU.pf [14]
 have mI:=I4 (aB N).symm mH
 have mJ:=mI.pf [20,4,21,0,15]
 obtain⟨uG,ji,qx,jk,qz⟩:=Kq mJ
 refine qd 15 rfl (Iz Tryz.call155 rfl (yR _ _ B a.aa.aF.ls.length P l a.aa.aF.ls g (D0 g) eT (aU.mk b.aM a.aa.av b.aS (H0 J K aG)) (eD.mk b.aM a.aa.av b.aS (E2 n)) ji e6 s (Q5.inj (congrArg (λ z9=> [eD.mk b.aM a.aa.av b.aS (E2 z9)]) N)).1 e6 e6 e6) ?_)
 rintro _ uH ⟨eX,eY,rfl,jl⟩
 have mK:=jk _ _ jl
 have qA:r8 (q7 (D0 g) l++((aU.mk b.aM a.aa.av b.aS (H0 J K aG))::r3 (D0 g) l))=r8 (q7 (D0 g) a.aa.aF.ls++((eD.mk b.aM a.aa.av b.aS (E2 n))::r3 (D0 g) a.aa.aF.ls)):=by exact aB (rO (z:=(eD.mk b.aM a.aa.av b.aS (E2 n))) s (Q5.inj (congrArg (λ z9=> [eD.mk b.aM a.aa.av b.aS (E2 z9)]) N)).1)
 have qB:r8 (q7 (D0 g) a.aa.aF.ls++((eD.mk b.aM a.aa.av b.aS (E2 n))::r3 (D0 g) a.aa.aF.ls))=a.aa.aF.ls.length+1:=by simp only [o1,m9,s0,o0]; omega
 have gV:=mK.pf [2,3,4]
 refine⟨.inr ⟨_,gV⟩, ?_⟩
 refine qp d 0 16 rfl (qp d 0 17 rfl (qp d 6 18 rfl ?_))
 refine qe 19 rfl (Do.store (vs:= [.slice eX (r8 (q7 (D0 g) a.aa.aF.ls++((eD.mk b.aM a.aa.av b.aS (E2 n))::r3 (D0 g) a.aa.aF.ls))) eY]) (o:=6) gV rfl rfl Tryz.sizeOf31 rfl rfl rfl rfl ?_)
 intro uI mM
 refine⟨.inl e7, ?_⟩
 refine qn (IA (res0 rfl) ?_)
 refine⟨.inl e7, ?_⟩
 refine qn (Ig (Ic ?_))
 have eZ:=mM.px [] [2] []
 refine Ib (Mz rfl (Kz (vP X 1) (Lz (vI b.aM) eZ 4 C4 (Kz (vP X 2) (Lz (vU b.aS) eZ 4 D4 (Mz rfl ?_))))))
 have gW:=eZ.pf [1,14,15,0,18,19,20,21,22,23,24,25,26,27]
 obtain⟨⟨cz,F⟩,fe⟩:∃ q:bI × aA,dC p0 b.aM b.aS 1 n (aA.mk (cZ.mk a.aa.au a.aa.av a.aa.aV a.aa.aL (E2 a.aa.ag.ls) (E2 (q7 (D0 j) a.aa.aj.ls++((bH.mk b.aR b.aM a.aa.av b.aS (E2 h))::r3 (D0 j) a.aa.aj.ls))) (E2 (q7 (D0 g) a.aa.aF.ls++((eD.mk b.aM a.aa.av b.aS (E2 n))::r3 (D0 g) a.aa.aF.ls)))) a.bP (E2 (q7 (D0 O) a.ay.ls++r3 ((D0 O)+1) a.ay.ls)) a.bK a.bA a.bz a.bv a.bq a.dP a.dH a.dI a.dG a.dJ)=q:=⟨_,rfl⟩
 obtain⟨uJ,jm,qC,jo,fo⟩:=Ja gW
 refine cl Tryz.call106 (kr _ _ Z p0 bK bL bz b.aM b.aS 1 J n.length K aG n d (aA.mk (cZ.mk a.aa.au a.aa.av a.aa.aV a.aa.aL (E2 a.aa.ag.ls) (E2 (q7 (D0 j) a.aa.aj.ls++((bH.mk b.aR b.aM a.aa.av b.aS (E2 h))::r3 (D0 j) a.aa.aj.ls))) (E2 (q7 (D0 g) a.aa.aF.ls++((eD.mk b.aM a.aa.av b.aS (E2 n))::r3 (D0 g) a.aa.aF.ls)))) a.bP (E2 (q7 (D0 O) a.ay.ls++r3 ((D0 O)+1) a.ay.ls)) a.bK a.bA a.bz a.bv a.bq a.dP a.dH a.dI a.dG a.dJ) aa af bQ bR eX eY dG dH aN aP ag aR aS ai aT aV aj aX aY ak bg bn au cz F jm bC N (fo _ 1 _ rfl (ax (Q3.2 ⟨_,v2 _ b1,b1⟩) (λ w9 Q a9 b9=>qg (aB N) (aO w9 Q a9 b9)))) (λ Y Q=>⟨fo _ 1 _ rfl (ax (Q3.2 ⟨_,v2 _ b1, .tail _ b1⟩) (ax (Q3.2 ⟨Y,Q,b1⟩) aO)),aZ (φ:=λ _=>_) gW (i:=15) rfl (ax (Q3.2 ⟨_,v2 _ b1, .tail _ b1⟩) (ax (Q3.2 ⟨Y,Q,b1⟩) aW))⟩) rfl e6 g6 av ay az aD aF e8 g3 g3 i2 fe) ?_
 rintro _ uK ⟨mO,mP,mQ,mR,mU,mV,mW,mY,mZ,ng,ni,nk,nu,ny,nz,nA,nC,nD,rfl,jq,fu,fA,fB,fC,fD,fE,fG⟩
 have aJ:=jo _ _ jq
 have qD:=aB fu
 have qE:=aB fA
 have qF:=aB fB
 have qG:=aB fC
 have qH:=aB fD
 have qI:=aB fE
 have qJ:=zr 1 aJ
 have qK:=zr 4 aJ
 have qL:=zr 6 aJ
 have qM:=zr 8 aJ
 have qO:=zr 10 aJ
 have qP:=zr 12 aJ
 replace fG:cz.aX.ls.length=p0.aX.ls.length+1:=fG
 refine nt (Ib (Mz rfl (Kz (vP X 0) (Lz (vU b.aR) aJ 16 D4 (Kz (vP bP 4) (Lz (.slice L h.length M) aJ 17 Tryz.isAgg58 ?_))))))
 obtain⟨gX,fI⟩:∃ q,dZ cz b.aR h true=q:=⟨_,rfl⟩
 obtain⟨uL,jr,qQ,jv,jw⟩:=IU aJ
 refine cl Tryz.call27 (kV _ _ Z cz mO mP mQ d b.aR L h.length M h true gX jr fu (jw _ 16 _ rfl (ax (Q3.2 ⟨_,v2 _ b1,b1⟩) aO)) rfl e6 g7 fI) ?_
 rintro _ uM ⟨nE,nG,nH,rfl,jy,fJ⟩
 have gY:=jv _ _ jy
 have qR:=aB fJ
 have qU:=zr 1 gY
 refine WL.nil (IA (res0 rfl) ?_)
 have nK:=gY.pk [0,1,2,3,18,19,14,15,26,27,4,5,6,7,8,9,10,11,12,13]
 obtain⟨rfl,rfl⟩:=ic (zj hr (show _=(gX,aA.mk (cZ.mk F.aa.au F.aa.av F.aa.aV F.aa.aL (E2 a.aa.ag.ls) (E2 (q7 (D0 j) a.aa.aj.ls++((bH.mk b.aR b.aM a.aa.av b.aS (E2 h))::r3 (D0 j) a.aa.aj.ls))) (E2 (q7 (D0 g) a.aa.aF.ls++((eD.mk b.aM a.aa.av b.aS (E2 n))::r3 (D0 g) a.aa.aF.ls)))) F.bP (E2 (q7 (D0 O) a.ay.ls++r3 ((D0 O)+1) a.ay.ls)) F.bK F.bA F.bz F.bv F.bq F.dP F.dH F.dI F.dG F.dJ) from et (ah (bJ bY)) (et (ah bN) (et (ip dD) (et (ah bF) (et (ah bU) (et (ah bV) (et (gm bu) (et (ah fe) (ah fI))))))))))
 exact⟨nE,nG,nH,bQ,bR,(q7 (D0 j) p++((aC.mk b.aR b.aM a.aa.av b.aS (H0 L M h))::r3 (D0 j) p)),eX,eY,(q7 (D0 g) l++((aU.mk b.aM a.aa.av b.aS (H0 J K aG))::r3 (D0 g) l)),dG,dH,(q7 (D0 O) r++r3 ((D0 O)+1) r),mR,mU,mV,mW,mY,mZ,ng,ni,nk,nu,ny,nz,nA,nC,nD,(by(first | rw [<- bD] | skip); (first | rw [<- bE] | skip); first | done | rfl),nK,fJ,(rO (z:=(bH.mk b.aR b.aM a.aa.av b.aS (E2 h))) G rfl),(rO (z:=(eD.mk b.aM a.aa.av b.aS (E2 n))) s (Q5.inj (congrArg (λ z9=> [eD.mk b.aM a.aa.av b.aS (E2 z9)]) N)).1),(qc I),fA,fB,fC,fD,fE⟩
 refine jT (dT dD) (sr ?_)
 have nL:=iK.pf [2,3,4,5,6,7,8]
 have bS:=rH (f:=bB.own) u nL
 have qW:b.bV.ls.length<=b.bV.c/\b.bV.ls.length<=9223372036854775807:=aZ bS (i:=0) rfl (φ:=λ _=>_) (ax (Q3.2 ⟨b,D3 u,b1⟩) aW)
 have qX:b.aG.ls.length<=b.aG.c/\b.aG.ls.length<=9223372036854775807:=aZ bS (i:=0) rfl (φ:=λ _=>_) (ax (Q3.2 ⟨b,D3 u, .tail _ b1⟩) aW)
 have qY:b.bD.ls.length<=b.bD.c/\b.bD.ls.length<=9223372036854775807:=aZ bS (i:=0) rfl (φ:=λ _=>_) (ax (Q3.2 ⟨b,D3 u, .tail _ b2⟩) aW)
 have qZ:b.af.ls.length<=b.af.c/\b.af.ls.length<=9223372036854775807:=aZ bS (i:=0) rfl (φ:=λ _=>_) (ax (Q3.2 ⟨b,D3 u, .tail _ b3⟩) aW)
 refine Mz rfl (Mz rfl ?_)
 have nN:=bS.px [4,5,6,7,12] [] [1,2,3,8,9,10,11]
 obtain⟨⟨gZ,C⟩,fK⟩:∃ q:bI × aA,fq p0 O a=q:=⟨_,rfl⟩
 obtain⟨uN,jA,q8,jB,rf⟩:=Jg nN
 refine cl Tryz.call63 (nP _ _ Z p0 bK bL bz O d a aa af U V B P W aM r aN aP ag aR aS ai aT aV aj aX aY ak bg bn au gZ C jA bC I av ay az aD aF e8 (by first | assumption | exact Mk.act f5 | exact nJ f8 (o7 (x:=bB.abs b) R f5) | exact nJ f8 (qN (x:=bB.abs b) R _)) e8 fK) ?_
 rintro _ uO ⟨nO,nQ,nR,nS,nT,nU,nV,nW,nX,nY,nZ,og,oh,ol,om,oo,oq,ou,ow,oz,oC,rfl,jC,fM,fO,fP,fQ,fT,fU,fV⟩
 have aK:=jB _ _ jC
 have rq:=aB fM
 have ru:=aB fO
 have ry:=aB fP
 have rz:=aB fQ
 have rA:=aB fT
 have rC:=aB fU
 have rE:=aB fV
 have rF:=zr 1 aK
 have rG:=zr 4 aK
 have rM:=zr 6 aK
 have rP:=zr 8 aK
 have rQ:=zr 10 aK
 have rR:=zr 12 aK
 have rT:=zr 14 aK
 refine nt (rt (tR (Fin.res (res0 rfl) ?_)))
 have oD:=aK.px [0,1,2,3,19,20,21,22] [16,17,18] []
 obtain⟨rfl,rfl⟩:=ic (zj hr (show _=(gZ,aA.mk (cZ.mk C.aa.au C.aa.av C.aa.aV C.aa.aL (E2 a.aa.ag.ls) (E2 a.aa.aj.ls) (E2 a.aa.aF.ls)) C.bP (E2 C.ay.ls) C.bK C.bA C.bz C.bv C.bq C.dP C.dH C.dI C.dG C.dJ) from et (ah (bJ bY)) (et (ah bN) (et (iN dD) (ah fK)))))
 exact⟨nO,nQ,nR,U,V,p,B,P,l,nS,nT,nU,nV,nW,nX,nY,nZ,og,oh,ol,om,oo,oq,ou,ow,oz,oC,rfl,oD,fM,G,s,fO,fP,fQ,fT,fU,fV⟩
end
open Sum renaming inl->B9
open _root_.Go.Proofs.Tryz renaming isAgg104->Q6
section
open Go.RowKit
def fE (a:bL):List gF->Nat->Unit ⊕ Int
  | [],b=>B9 ()
  | c::d,b=>if c.eG=a.aJ then Sum.inr (b:Int) else fE a d (b+1)
def gT (l0:List gF) (a:bL):Int:=
 lp (fE a l0 0) λ _=>(-1)
theorem oP (w D E V W d0 l0 m) (a:bL) (d f g h n j l U) (H:Own w D w [blk m (iH a d f g h j l) 42]) (G:s5 bG.abs d0=l0) (C:Ro w D λ w'=>bE w' 3 E V (q3 bG.cells d0)) (I:∀ x ∈ d0,Ro w D (λ w'=>bE w' 6 x.aH.A x.aH.ls.length (q3 bi.cells x.aH.ls))/\(x.aH.ls.length<=x.aH.c/\x.aH.ls.length<=9223372036854775807)/\Ro w D (λ w'=>bE w' 1 x.aJ.A x.aJ.ls.length (q3 (eI .i64) x.aJ.ls))/\(x.aJ.ls.length<=x.aJ.c/\x.aJ.ls.length<=9223372036854775807)) (X:V=l0.length) (ay:l0.length<=9223372036854775807) (J:Ro w D λ w'=>bE w' 6 d a.aH.ls.length (q3 bi.cells a.aH.ls)) (K:a.aH.ls.length<=f/\a.aH.ls.length<=9223372036854775807) (r:s5 ae.abs n=a.ai.ls) (L:Ro w D λ w'=>bE w' 3 g a.ai.ls.length (q3 ae.cells n)) (M:a.ai.ls.length<=h/\a.ai.ls.length<=9223372036854775807) (N:∀ x ∈ n,Ro w D (λ w'=>bE w' 2 x.ak.A x.ak.ls.length (q3 aI.cells x.ak.ls))/\(x.ak.ls.length<=x.ak.c/\x.ak.ls.length<=9223372036854775807)) (O:Ro w D λ w'=>bE w' 2 j a.ag.ls.length (q3 aY.cells a.ag.ls)) (P:a.ag.ls.length<=l/\a.ag.ls.length<=9223372036854775807) (hr:gT l0 a=U):
    Calls v8 91 #[.slice E V W, .func (.func 92) #[] #[vP m 0]] w (d9 λ v w'=>v=vI U/\Own w D w' [blk m (iH a d f g h j l) 42]/\(-1<=U/\U < ((l0.length:Nat):Int))):=by
 subst X
 have ak:=aB G
 have F:=aB r
 refine cb Tryz.func91 ?_
 refine sr (An rfl (Ic (sr (Mz rfl (Kz (vJ l0.length) (Mn rfl (bo ?_)))))))
 have Y:=H.pf []
 obtain⟨Z,s⟩:=nQ λ (b:Nat) w'=>Own w D w' [blk m (iH a d f g h j l) 42]/\b<=l0.length/\fE a l0 0=fE a (List.drop b l0) b
 refine Wp.loop (λ i:Nat=> [(4,vI 0),(8,vJ i),(7,vJ l0.length),(0, .slice E l0.length W),(1, .func (.func 92) #[] #[vP m 0])]) Z (λ i=>l0.length - i) 0 ⟨rfl,rfl,rfl,rfl,rfl,trivial⟩ (s.2 ⟨Y,e6,rfl⟩) ?_
 rintro b az Q
 obtain⟨t,au,u⟩:=s.1 Q
 refine sr (Kz (.bool (decide ((b:Int) < (l0.length:Int)))) (nt (Ic ?_)))
 by_cases R:(b:Int) < (l0.length:Int)
 obtain⟨p,o⟩:=dN (ls:=d0) (i:=b) bG.len f4 (t.ro C) e9
 have S:=fF G o
 have av:=(I _ (D3 o)).2.1
 have ax:=(I _ (D3 o)).2.2.2
 have B:=drop_at S
 refine jT (dT R) (sk (Ic (bo (sr (Mz rfl (Ar rfl (Mz rfl (Mz rfl (Mz rfl (fw (.pointer (some ⟨ab E,ao E+b *3,none⟩)) (Ij (um) rfl rfl ((t.ro C).addr (i:=b) e6) e6) (fw (.agg (bG.cells p).toArray) (Io rfl (Iy (cs:=(bG.cells p)) Tryz.isAgg172 Tryz.sizeOf172 ((t.ro C).elem bG.len o f4))) ?_)))))))))))
 refine WL.do rfl (IK Tryz.call92 rfl rfl ?_ (λ _ _ k=>k))
 refine cb Tryz.func92 ?_
 refine sr ?_
 refine dV (bG.cells p) 172 t ?_
 intro aa aA y
 refine Ar rfl (Kz (vP aa 0) (Lz (vI p.eG) y 0 C4 (Kz (vP m 1) (Lz (vI a.aJ) y 1 C4 (Kz (.bool (decide (p.eG=a.aJ))) (An rfl (rt (rs (nt ?_)))))))))
 by_cases z:p.eG=a.aJ
 refine jT (dT z) (Ic ?_)
 have af:=y.pk [1]
 refine Ib (Mz rfl (An rfl (rt (bR (tR (tR (bR (tR (rs ?_)))))))))
 have ag:=af.pf []
 obtain rfl:_=(b:Int):=zj hr (jm (et (u) (et (congrArg (λ q=>fE a q b) B) (ip z))))
 exact⟨rfl,ag,e6⟩
 refine jF (dF z) (IE (bN (Ig ?_)))
 have ah:=y.pk [1]
 refine Ib (fw (vJ (b+1)) (Ie (e:=IntKind.i64.wrap ((b:Int)+1)) yk f0) (Mz rfl (WL.nil ?_)))
 have ai:=ah.pf []
 exact Ir (b+1) ⟨rfl,rfl,rfl,rfl,rfl,trivial⟩ (s.2 ⟨ai,e6,et (u) (et (congrArg (λ q=>fE a q b) B) (iN z))⟩) (by show l0.length - (b+1) < l0.length - b; omega)
 refine jF (dF R) (Wp.exit (Il ?_))
 have T:fE a l0 0=B9 ():=et (u) (et (congrArg (λ q=>fE a q b) (fB (ls:=l0) (i:=b) e6)) rfl)
 refine Il (IB (Ig (sr (An rfl (rt (rs ?_))))))
 have aj:=t.pf []
 obtain rfl:_=(-1):=zj hr (nT T)
 exact⟨rfl,aj,e6⟩
def iQ (d:Bool):List Bool->Nat->Unit ⊕ Int
  | [],a=>B9 ()
  | b::c,a=>if d=b then Sum.inr (a:Int) else iQ d c (a+1)
def ow (l0:List Bool) (a:Bool):Int:=
 lp (iQ a l0 0) λ _=>(-1)
theorem tq (w D n t u l0 b s) (H:Own w D w []) (m:Ro w D λ w'=>bE w' 1 n t (q3 eL l0)) (x:t=l0.length) (F:l0.length<=9223372036854775807) (hr:ow l0 b=s):
    Calls v8 128 #[.slice n t u, .bool b] w (d9 λ v w'=>v=vI s/\Own w D w' []/\(-1<=s/\s < ((l0.length:Nat):Int))):=by
 subst x
 refine cb Tryz.func128 ?_
 refine sr (An rfl (Ic (sr (Mz rfl (Kz (vJ l0.length) (Mn rfl (bo ?_)))))))
 have y:=H.pk []
 obtain⟨z,d⟩:=nQ λ (a:Nat) w'=>Own w D w' []/\a<=l0.length/\iQ b l0 0=iQ b (List.drop a l0) a
 refine Wp.loop (λ i:Nat=> [(4,vI 0),(8,vJ i),(7,vJ l0.length),(0, .slice n l0.length u),(1, .bool b)]) z (λ i=>l0.length - i) 0 ⟨rfl,rfl,rfl,rfl,rfl,trivial⟩ (d.2 ⟨y,e6,rfl⟩) ?_
 rintro a G o
 obtain⟨c,E,f⟩:=d.1 o
 refine sr (Kz (.bool (decide ((a:Int) < (l0.length:Int)))) (nt (Ic ?_)))
 by_cases p:(a:Int) < (l0.length:Int)
 obtain⟨g,j⟩:=dN (ls:=l0) (i:=a) pq f4 (c.ro m) e9
 have l:=drop_at j
 refine jT (decide_eq_true p) (sk (Ic (bo (sr (Mz rfl (Ar rfl (Mz rfl (Mz rfl (Mz rfl (fw (.pointer (some ⟨ab n,ao n+a *1,none⟩)) (Ij (yc) rfl rfl ((c.ro m).addr (i:=a) e6) e6) (fw (.bool g) (Io rfl (bZ.one Tryz.isAgg4 (((c.ro m).elem pq j f4).at_ (k:=0) rfl))) (fw (.bool (decide (b=g))) (IG (e:=(b==g)) yk (by first | exact Bool.beq_eq_decide_eq _ _ | (by_cases q:b=g <;> simp [q]))) (nt ?_)))))))))))))
 by_cases h:b=g
 refine jT (dT h) (sr (Mz rfl (An rfl (rt (bR (tR (tR (bR (tR (rs ?_))))))))))
 have A:=c.pk []
 obtain rfl:_=(a:Int):=zj hr (jm (et (f) (et (congrArg (λ q=>iQ b q a) l) (ip h))))
 exact⟨rfl,A,e6⟩
 refine jF (dF h) (IE (bN (Ig (Ib (fw (vJ (a+1)) (Ie (e:=IntKind.i64.wrap ((a:Int)+1)) yk f0) (Mz rfl (WL.nil ?_)))))))
 have B:=c.pk []
 exact Ir (a+1) ⟨rfl,rfl,rfl,rfl,rfl,trivial⟩ (d.2 ⟨B,e6,et (f) (et (congrArg (λ q=>iQ b q a) l) (iN h))⟩) (by show l0.length - (a+1) < l0.length - a; omega)
 refine jF (dF p) (Wp.exit (Il ?_))
 have r:iQ b l0 0=B9 ():=et (f) (et (congrArg (λ q=>iQ b q a) (fB (ls:=l0) (i:=a) e6)) rfl)
 refine Il (IB (Ig (sr (An rfl (rt (rs ?_))))))
 have C:=c.pk []
 obtain rfl:_=(-1):=zj hr (nT r)
 exact⟨rfl,C,e6⟩
def mY (l0:List Bool) (b:Bool):Bool:=
 bnd (ow l0 b) λ a=>decide (a >= 0)
theorem rQ (w D i j o l0 h p) (H:Own w D w []) (k:Ro w D λ w'=>bE w' 1 i j (q3 eL l0)) (l:j=l0.length) (s:l0.length<=9223372036854775807) (hr:mY l0 h=p):
    Calls v8 93 #[.slice i j o, .bool h] w (d9 λ v w'=>v= .bool p/\Own w D w' []):=by
 unfold mY at hr
 subst l
 refine cb Tryz.func93 ?_
 refine sr (Ar rfl (Mz rfl (Mz rfl ?_)))
 obtain⟨a,b⟩:∃ q,ow l0 h=q:=⟨_,rfl⟩
 obtain⟨t,d,e,f,r⟩:=Ii H
 refine cl Tryz.call128 (tq _ _ i l0.length o l0 h a d (e _ k) rfl e6 b) ?_
 rintro _ u ⟨rfl,g,c⟩
 have m:=f _ _ g
 replace c: -1<=a/\a < (l0.length:Int):=c
 refine Kz (.bool (decide (a >= 0))) (An rfl (rt (rs ?_)))
 have n:=m.pk []
 obtain rfl:=zj hr zq1
 exact⟨rfl,n⟩
def kg (i:bI) (k:bL) (a:aA):bI × aA:=
 bnd (bW a.ay.ls k.aN) λ g=>if g.2=true then bnd (C0 a.ay.ls (D0 g.1) default) λ e=>bnd (gT e.aG.ls k) λ f=>if f < 0 then(i,a) else bnd (C0 e.bD.ls (D0 f) default) λ l=>if l=true then(i,a) else if k.dz=3 then bnd (C0 e.aG.ls (D0 f) default) λ m=>if(k.ai.ls.length:Int)=(m.aH.ls.length:Int) then bnd (jh k.ai.ls) λ h=>bnd (mY (u2 e.bD.ls (D0 f) true) false) λ j=>if j=true then(i,aA.mk a.aa a.bP (E2 (u2 a.ay.ls (D0 g.1) (dK.mk e.aR e.aM e.aS e.dh (E2 e.bV.ls) (E2 e.aG.ls) (E2 (u2 e.bD.ls (D0 f) true)) (E2 (u2 e.af.ls (D0 f) (E2 h))) e.eO))) a.bK a.bA a.bz a.bv a.bq a.dP a.dH a.dI a.dG a.dJ) else bnd (jQ i g.1 (aA.mk a.aa a.bP (E2 (u2 a.ay.ls (D0 g.1) (dK.mk e.aR e.aM e.aS e.dh (E2 e.bV.ls) (E2 e.aG.ls) (E2 (u2 e.bD.ls (D0 f) true)) (E2 (u2 e.af.ls (D0 f) (E2 h))) e.eO))) a.bK a.bA a.bz a.bv a.bq a.dP a.dH a.dI a.dG a.dJ)) λ b=>(b.1,aA.mk (cZ.mk b.2.aa.au b.2.aa.av b.2.aa.aV b.2.aa.aL (E2 a.aa.ag.ls) (E2 b.2.aa.aj.ls) (E2 b.2.aa.aF.ls)) b.2.bP (E2 b.2.ay.ls) b.2.bK b.2.bA b.2.bz b.2.bv b.2.bq b.2.dP b.2.dH b.2.dI b.2.dG b.2.dJ) else bnd (fq i g.1 a) λ c=>(c.1,aA.mk (cZ.mk c.2.aa.au c.2.aa.av c.2.aa.aV c.2.aa.aL (E2 a.aa.ag.ls) (E2 a.aa.aj.ls) (E2 a.aa.aF.ls)) c.2.bP (E2 c.2.ay.ls) c.2.bK c.2.bA c.2.bz c.2.bv c.2.bq c.2.dP c.2.dH c.2.dI c.2.dG c.2.dJ) else bnd (fq i g.1 a) λ d=>(d.1,aA.mk (cZ.mk d.2.aa.au d.2.aa.av d.2.aa.aV d.2.aa.aL (E2 a.aa.ag.ls) (E2 a.aa.aj.ls) (E2 a.aa.aF.ls)) d.2.bP (E2 d.2.ay.ls) d.2.bK d.2.bA d.2.bz d.2.bv d.2.bq d.2.dP d.2.dH d.2.dI d.2.dG d.2.dJ) else(i,a)
theorem wH (w D g0) (p0:bI) (af ag aa) (W:bL) (df fJ bM bF fK bq bN dh fM bP X) (b:aA) (aG aH r s z t u B d m l K L C M N E O P F Q R G S T I) (r0:bI) (r1:aA) (H:Own w D w (blk g0 [.pointer (some ⟨X,0,none⟩), .slice af p0.aX.ls.length ag] 98::row af p0.aX.ls.length ag (q3 bf.cells aa) 42 21::sepL (q3 bf.own aa)::mX X b aG b.aa.ag.ls.length aH r s z t u B d m l K L C M N E O P F Q R G S T I [])) (aK:s5 bf.abs aa=p0.aX.ls) (gD:fJ=W.aH.ls.length) (gF:Ro w D λ w'=>bE w' 6 df W.aH.ls.length (q3 bi.cells W.aH.ls)) (ng:W.aH.ls.length<=bM/\W.aH.ls.length<=9223372036854775807) (bX:s5 ae.abs bN=W.ai.ls) (gG:fK=W.ai.ls.length) (dz:Ro w D λ w'=>bE w' 3 bF W.ai.ls.length (q3 ae.cells bN)) (ni:W.ai.ls.length<=bq/\W.ai.ls.length<=9223372036854775807) (bH:∀ x ∈ bN,Ro w D (λ w'=>bE w' 2 x.ak.A x.ak.ls.length (q3 aI.cells x.ak.ls))/\(x.ak.ls.length<=x.ak.c/\x.ak.ls.length<=9223372036854775807)) (gH:fM=W.ag.ls.length) (gI:Ro w D λ w'=>bE w' 2 dh W.ag.ls.length (q3 aY.cells W.ag.ls)) (nk:W.ag.ls.length<=bP/\W.ag.ls.length<=9223372036854775807) (ai:s5 aC.abs z=b.aa.aj.ls) (aj:s5 aU.abs B=b.aa.aF.ls) (U:s5 bB.abs l=b.ay.ls) (ak:s5 ae.abs C=b.bK.af.ls) (au:s5 ae.abs E=b.bA.af.ls) (av:s5 ae.abs F=b.bz.af.ls) (ay:s5 ae.abs G=b.bv.af.ls) (az:s5 ae.abs I=b.bq.af.ls) (rE:b.aa.ag.ls.length<=1000/\b.aa.aj.ls.length<=1000/\b.aa.aF.ls.length<=1000/\b.ay.ls.length<=1000/\p0.aX.ls.length<=100000) (rF:Ak b.ay.ls) (rG:W.aH.ls.length<=24/\W.ag.ls.length<=1000/\W.ai.ls.length<=1000/\ky W.aP) (rJ:nI W.ai.ls) (hr:kg p0 W b=(r0,r1)):
    Calls v8 57 #[vP g0 0, .agg (gU W.aD W.aJ W.fI W.aK W.dz W.eH W.aP W.av W.aN W.dY W.aV W.aL W.dL W.cu W.xN W.cz W.bU.bF W.bU.bT df fJ bM bF fK bq dh fM bP).toArray] w (d9 λ v w'=> ∃ dA dB bY gJ gK dC gL gM dD gN gP dE gQ gV dG gW gX dH gY gZ dI ib ig dJ ik il dL,v= .tuple #[]/\Own w D w' (blk g0 [vP X 0, .slice dA r0.aX.ls.length dB] 98::row dA r0.aX.ls.length dB (q3 bf.cells bY) 42 21::sepL (q3 bf.own bY)::mX X r1 aG b.aa.ag.ls.length aH gJ gK dC gL gM dD gN gP dE gQ gV dG gW gX dH gY gZ dI ib ig dJ ik il dL [])/\(s5 bf.abs bY=r0.aX.ls)/\(s5 aC.abs dC=r1.aa.aj.ls)/\(s5 aU.abs dD=r1.aa.aF.ls)/\(s5 bB.abs dE=r1.ay.ls)/\(s5 ae.abs dG=r1.bK.af.ls)/\(s5 ae.abs dH=r1.bA.af.ls)/\(s5 ae.abs dI=r1.bz.af.ls)/\(s5 ae.abs dJ=r1.bv.af.ls)/\(s5 ae.abs dL=r1.bq.af.ls)):=by
 unfold kg at hr
 subst gD gG gH
 have mW:=aB aK
 have mZ:=aB bX
 have iT:=aB ai
 have iU:=aB aj
 have iV:=aB U
 have iX:=aB ak
 have iY:=aB au
 have iZ:=aB av
 have ja:=aB ay
 have jc:=aB az
 have nu:=zr 1 H
 have jd:=zr 4 H
 have jf:=zr 6 H
 have jg:=zr 8 H
 have ji:=zr 10 H
 have jk:=zr 12 H
 have jl:=zr 14 H
 have jm:=zr 16 H
 have jo:=zr 18 H
 refine cb Tryz.func57 ?_
 refine sr ?_
 refine dV (iH W df bM bF bq dh bP) 42 H ?_
 intro dn rM ny
 refine nt (Ic ?_)
 refine vX [] (Iu IC) ny ?_
 intro rO bD
 refine qv 0 rfl rfl (qp g0 0 1 rfl (qp g0 0 2 rfl (ql 3 rfl 1 Tryz.isAgg24 rfl rfl rfl (qp dn 8 4 rfl (ql 5 rfl 0 Tryz.isAgg28 rfl rfl rfl ?_)))))
 refine GX.do 6 rfl e7 (Iz Tryz.call62 rfl ?_ (λ _ _ k=>k))
 refine cb Tryz.func62 ?_
 refine sr (Az rfl (Ar rfl (Mz rfl (Kz (vP X 0) (Kz (vP X 8) (Lz (.slice d b.ay.ls.length m) bD 4 Tryz.isAgg79 (Mz rfl ?_)))))))
 obtain⟨⟨h,bQ⟩,aS⟩:∃ q:Int × Bool,bW b.ay.ls W.aN=q:=⟨_,rfl⟩
 obtain⟨rP,jq,qo,jr,aP⟩:=Ii bD
 refine cl Tryz.call102 (jb _ _ d b.ay.ls.length m l b.ay.ls W.aN h bQ jq U (aP _ 9 _ rfl aO) (λ x9 h9=>⟨aP _ 10 _ rfl (ax (Q3.2 ⟨x9,h9,b1⟩) aO),aZ (φ:=λ _=>_) bD (i:=10) rfl (ax (Q3.2 ⟨x9,h9,b1⟩) aW),aP _ 10 _ rfl (ax (Q3.2 ⟨x9,h9, .tail _ b1⟩) aO),aZ (φ:=λ _=>_) bD (i:=10) rfl (ax (Q3.2 ⟨x9,h9, .tail _ b1⟩) aW),(λ y1 k1=>⟨aP _ 10 _ rfl (ax (Q3.2 ⟨x9,h9, .tail _ b4⟩) (ax (Q3.2 ⟨y1,k1,b1⟩) aO)),aZ (φ:=λ _=>_) bD (i:=10) rfl (ax (Q3.2 ⟨x9,h9, .tail _ b4⟩) (ax (Q3.2 ⟨y1,k1,b1⟩) aW)),aP _ 10 _ rfl (ax (Q3.2 ⟨x9,h9, .tail _ b4⟩) (ax (Q3.2 ⟨y1,k1, .tail _ b1⟩) aO)),aZ (φ:=λ _=>_) bD (i:=10) rfl (ax (Q3.2 ⟨x9,h9, .tail _ b4⟩) (ax (Q3.2 ⟨y1,k1, .tail _ b1⟩) aW))⟩),aP _ 10 _ rfl (ax (Q3.2 ⟨x9,h9, .tail _ b2⟩) aO),aZ (φ:=λ _=>_) bD (i:=10) rfl (ax (Q3.2 ⟨x9,h9, .tail _ b2⟩) aW),aP _ 10 _ rfl (ax (Q3.2 ⟨x9,h9, .tail _ b3⟩) aO),aZ (φ:=λ _=>_) bD (i:=10) rfl (ax (Q3.2 ⟨x9,h9, .tail _ b3⟩) aW),(λ y1 k1=>⟨aP _ 10 _ rfl (ax (Q3.2 ⟨x9,h9, .tail _ b5⟩) (ax (Q3.2 ⟨y1,k1,b1⟩) aO)),aZ (φ:=λ _=>_) bD (i:=10) rfl (ax (Q3.2 ⟨x9,h9, .tail _ b5⟩) (ax (Q3.2 ⟨y1,k1,b1⟩) aW)),(λ y2 k2=>⟨aP _ 10 _ rfl (ax (Q3.2 ⟨x9,h9, .tail _ b5⟩) (ax (Q3.2 ⟨y1,k1, .tail _ b1⟩) (ax (Q3.2 ⟨y2,k2,b1⟩) aO))),aZ (φ:=λ _=>_) bD (i:=10) rfl (ax (Q3.2 ⟨x9,h9, .tail _ b5⟩) (ax (Q3.2 ⟨y1,k1, .tail _ b1⟩) (ax (Q3.2 ⟨y2,k2,b1⟩) aW)))⟩)⟩)⟩) rfl e6 aS) ?_
 rintro _ rR ⟨rfl,jv,fO,fP⟩
 have bu:=jr _ _ jv
 replace fO:0<=h/\h<=(b.ay.ls.length:Int):=fO
 replace fP:Bool.toNat bQ=0\/h < (b.ay.ls.length:Int):=fP
 refine Kz (vI h) (Kz (.bool bQ) (Az rfl (An rfl (rt (Fin.res (lW rfl rfl rfl) ?_)))))
 refine⟨.inr ⟨_,bu⟩, ?_⟩
 refine qv 7 rfl rfl (qk (vI h) 8 rfl (qk (.bool bQ) 9 rfl (qa 10 rfl rfl (qa 11 rfl rfl (qn (Ig (Ic (sr (Mz rfl (Kz (.bool (!bQ)) (nt ?_)))))))))))
 rcases Li (bQ) with bg | bg
 have h39t:Bool.toNat bQ=1:=by rw [bg]; rfl
 refine jF (cn bg) (sk (sr (Mz rfl (Kz (vP g0 0) (Kz (vP g0 0) (Lz (vP X 0) bu 1 Tryz.isAgg24 (Kz (vP X 0) (Kz (vP X 8) (Lz (.slice d b.ay.ls.length m) bu 4 Tryz.isAgg79 (fw (vJ (D0 h)) (Ie (e:=h) (Iq rfl) e6) ?_))))))))))
 obtain⟨a,j⟩:=dN (ls:=l) (i:=D0 h) bB.len f4 (bu.rds (i:=9) rfl) e9
 have bv:=fF U j
 have qx:a.bV.ls.length<=a.bV.c/\a.bV.ls.length<=9223372036854775807:=aZ bu (i:=10) rfl (φ:=λ _=>_) (ax (Q3.2 ⟨a,D3 j,b1⟩) aW)
 have qy:a.aG.ls.length<=a.aG.c/\a.aG.ls.length<=9223372036854775807:=aZ bu (i:=10) rfl (φ:=λ _=>_) (ax (Q3.2 ⟨a,D3 j, .tail _ b1⟩) aW)
 have qz:a.bD.ls.length<=a.bD.c/\a.bD.ls.length<=9223372036854775807:=aZ bu (i:=10) rfl (φ:=λ _=>_) (ax (Q3.2 ⟨a,D3 j, .tail _ b2⟩) aW)
 have qA:a.af.ls.length<=a.af.c/\a.af.ls.length<=9223372036854775807:=aZ bu (i:=10) rfl (φ:=λ _=>_) (ax (Q3.2 ⟨a,D3 j, .tail _ b3⟩) aW)
 have aL:Tok (bB.abs a):=yz f8 bv
 have qB:1<=a.aM/\a.aM<=4:=aL.uh
 have qC:a.bD.ls.length=a.aG.ls.length:=by have q9:=aL.yes; simp only [bB.abs,s3] at q9; exact q9
 have qD:a.af.ls.length=a.aG.ls.length:=by have q9:=aL.res; simp only [bB.abs,s3] at q9; exact q9
 have qE:a.aG.ls.length<=5:=by have q9:=aL.len; simp only [bB.abs,s3] at q9; exact q9
 have qF:a.bV.ls.length<=24:=aL.ops.1
 refine fw (.pointer (some ⟨ab d,ao d+(D0 h) *9,none⟩)) (Ij (qh) rfl rfl ((bu.rds (i:=9) rfl).addr (i:=D0 h) e6) e6) (Ar rfl ?_)
 have nz:=bu.pf [10]
 have dw:=JV (f:=bB.own) (i:=D0 h) (row a.bV.A a.bV.ls.length a.bV.c (q3 bi.cells a.bV.ls) 72 6) (row a.aG.A a.aG.ls.length a.aG.c (q3 bG.cells a.aG.ls) 172 3) (row a.bD.A a.bD.ls.length a.bD.c (q3 eL a.bD.ls) 4 1) (row a.af.A a.af.ls.length a.af.c (q3 (IX (β:=ae)) a.af.ls) 40 1) (sepL (q3 bG.own a.aG.ls)) (sepL (q3 bO.own a.af.ls)) rfl j nz
 have qG:=zr 0 dw
 have qH:=zr 1 dw
 have qI:a.aG.ls.length=r8 (s5 bG.abs a.aG.ls):=aB (rfl:s5 bG.abs a.aG.ls=s5 bG.abs a.aG.ls)
 have qJ:=zr 2 dw
 have qK:=zr 3 dw
 have qL:a.af.ls.length=r8 (s5 bO.abs a.af.ls):=aB (rfl:s5 bO.abs a.af.ls=s5 bO.abs a.af.ls)
 refine Mz rfl (Kz (.pointer (some ⟨ab d,ao d+(D0 h) *9,none⟩)) (Kz (.pointer (some ⟨ab d,ao d+(D0 h) *9+5,none⟩)) (fw (.slice a.aG.A a.aG.ls.length a.aG.c) (Io rfl (bZ.one Tryz.isAgg103 (((dw.rds (i:=16) rfl).elem bB.len j f4).at_ (k:=5) rfl))) (Kz (.func (.func 92) #[] #[vP dn 0]) ?_))))
 have iq:=dw.pf [7]
 have qM:a.aG.ls.length=r8 (s5 bG.abs a.aG.ls):=f1
 obtain⟨g,bz⟩:∃ q,gT (s5 bG.abs a.aG.ls) W=q:=⟨_,rfl⟩
 obtain⟨rT,jw,di,jy,dO⟩:=II iq
 refine cl Tryz.call91 (oP _ _ a.aG.A a.aG.ls.length a.aG.c a.aG.ls (s5 bG.abs a.aG.ls) dn W df bM bF bq bN dh bP g jw (rfl:s5 bG.abs a.aG.ls=s5 bG.abs a.aG.ls) (dO _ 1 _ rfl aO) (λ x9 h9=>⟨dO _ 4 _ rfl (ax (Q3.2 ⟨x9,h9,b1⟩) aO),aZ (φ:=λ _=>_) iq (i:=5) rfl (ax (Q3.2 ⟨x9,h9,b1⟩) aW),dO _ 4 _ rfl (ax (Q3.2 ⟨x9,h9, .tail _ b1⟩) aO),aZ (φ:=λ _=>_) iq (i:=5) rfl (ax (Q3.2 ⟨x9,h9, .tail _ b1⟩) aW)⟩) f1 g4 (di _ gF) e6 bX (di _ dz) e6 (λ x9 h9=>⟨di _ (bH x9 h9).1,(bH x9 h9).2⟩) (di _ gI) e6 bz) ?_
 rintro _ rV ⟨rfl,jA,fT⟩
 have cu:=jy _ _ jA
 replace fT: -1<=g/\g < ((r8 (s5 bG.abs a.aG.ls):Nat):Int):=fT
 refine An rfl (Ic (sr (Mz rfl (Kz (.bool (decide (g < 0))) (Mz rfl ?_)))))
 by_cases aJ:g < 0
 refine Sz (dT aJ) (Sz (dT aJ) (Sz (dT aJ) (Sz (dT aJ) (Sz (dT aJ) (Sz (dT aJ) (Sz (dT aJ) (fw (.bool true) (Iw rfl (dT aJ) rfl) (nt (jt (rt (tR (Fin.res (res0 rfl) ?_))))))))))))
 have nA:=cu.pf [1,2,3,4,5,6,7]
 have dP:=rH (f:=bB.own) j nA
 have qO:a.bV.ls.length<=a.bV.c/\a.bV.ls.length<=9223372036854775807:=aZ dP (i:=0) rfl (φ:=λ _=>_) (ax (Q3.2 ⟨a,D3 j,b1⟩) aW)
 have qP:a.aG.ls.length<=a.aG.c/\a.aG.ls.length<=9223372036854775807:=aZ dP (i:=0) rfl (φ:=λ _=>_) (ax (Q3.2 ⟨a,D3 j, .tail _ b1⟩) aW)
 have qQ:a.bD.ls.length<=a.bD.c/\a.bD.ls.length<=9223372036854775807:=aZ dP (i:=0) rfl (φ:=λ _=>_) (ax (Q3.2 ⟨a,D3 j, .tail _ b2⟩) aW)
 have qR:a.af.ls.length<=a.af.c/\a.af.ls.length<=9223372036854775807:=aZ dP (i:=0) rfl (φ:=λ _=>_) (ax (Q3.2 ⟨a,D3 j, .tail _ b3⟩) aW)
 have nC:=dP.px [2,3,4,5,6,7,8,9,10] [1] []
 obtain⟨rfl,rfl⟩:=ic (zj hr (show _=(p0,b) from et (ah aS) (et (ip bg) (et (ah (bJ bv)) (et (ah bz) (ip aJ))))))
 exact⟨af,ag,aa,r,s,z,t,u,B,d,m,l,K,L,C,M,N,E,O,P,F,Q,R,G,S,T,I,rfl,nC,aK,ai,aj,U,ak,au,av,ay,az⟩
 refine gw (.pointer (some ⟨ab d,ao d+(D0 h) *9,none⟩)) (dF aJ) (Iq rfl) (Gz (.pointer (some ⟨ab d,ao d+(D0 h) *9,none⟩)) (dF aJ) (Gz (.pointer (some ⟨ab d,ao d+(D0 h) *9+6,none⟩)) (dF aJ) (gw (.slice a.bD.A a.bD.ls.length a.bD.c) (dF aJ) (Io rfl (bZ.one Q6 (((cu.rds (i:=16) rfl).elem bB.len j f4).at_ (k:=6) rfl))) (gw (vJ (D0 g)) (dF aJ) (Ie (e:=g) (Iq rfl) e6) ?_))))
 obtain⟨iw,aT⟩:=dN (ls:=a.bD.ls) (i:=D0 g) pq f4 (cu.rds (i:=3) rfl) e9
 refine gw (.pointer (some ⟨ab a.bD.A,ao a.bD.A+(D0 g) *1,none⟩)) (dF aJ) (Ij (yc) rfl rfl ((cu.rds (i:=3) rfl).addr (i:=D0 g) e6) e6) (gw (.bool iw) (dF aJ) (Io rfl (bZ.one Tryz.isAgg4 (((cu.rds (i:=3) rfl).elem pq aT f4).at_ (k:=0) rfl))) (fw (.bool iw) (Ih rfl (dF aJ) rfl) (nt ?_)))
 rcases Li (iw) with bR | bR
 refine jT bR (rt (tR (Fin.res (res0 rfl) ?_)))
 have nD:=cu.pf [1,2,3,4,5,6,7]
 have dQ:=rH (f:=bB.own) j nD
 have qU:a.bV.ls.length<=a.bV.c/\a.bV.ls.length<=9223372036854775807:=aZ dQ (i:=0) rfl (φ:=λ _=>_) (ax (Q3.2 ⟨a,D3 j,b1⟩) aW)
 have qV:a.aG.ls.length<=a.aG.c/\a.aG.ls.length<=9223372036854775807:=aZ dQ (i:=0) rfl (φ:=λ _=>_) (ax (Q3.2 ⟨a,D3 j, .tail _ b1⟩) aW)
 have qW:a.bD.ls.length<=a.bD.c/\a.bD.ls.length<=9223372036854775807:=aZ dQ (i:=0) rfl (φ:=λ _=>_) (ax (Q3.2 ⟨a,D3 j, .tail _ b2⟩) aW)
 have qX:a.af.ls.length<=a.af.c/\a.af.ls.length<=9223372036854775807:=aZ dQ (i:=0) rfl (φ:=λ _=>_) (ax (Q3.2 ⟨a,D3 j, .tail _ b3⟩) aW)
 have nE:=dQ.px [2,3,4,5,6,7,8,9,10] [1] []
 obtain⟨rfl,rfl⟩:=ic (zj hr (show _=(p0,b) from et (ah aS) (et (ip bg) (et (ah (bJ bv)) (et (ah bz) (et (iN aJ) (et (ah (bJ aT)) (ip bR))))))))
 exact⟨af,ag,aa,r,s,z,t,u,B,d,m,l,K,L,C,M,N,E,O,P,F,Q,R,G,S,T,I,rfl,nE,aK,ai,aj,U,ak,au,av,ay,az⟩
 refine jF bR (sk (Ic (Ic ?_)))
 refine pU 27 [] (Iu (Iu IC)) cu ?_
 intro rW iy
 refine qp dn 4 0 rfl (ql 1 rfl 0 C4 rfl rfl rfl (qt (v:= .bool (decide (¬ (W.dz=3)))) 2 rfl (λ _ _=>IG (e:= !(decide (W.dz=3))) yk decide_not.symm) (qv 3 rfl rfl ?_)))
 by_cases V:W.dz=3
 refine Ip (v:=vP dn 19) (rs:= []) 4 rfl rfl rfl (dF (Lh V)) e7 (λ _ _=>yk) (Ip (v:= .slice bF W.ai.ls.length bq) (rs:= []) 5 rfl rfl rfl (dF (Lh V)) e7 (λ _ ⟨_,H9⟩=>Io rfl (bZ.one Tryz.isAgg40 (jR.of (H9.cls (i:=0) rfl) rfl))) (Ip (v:=vJ W.ai.ls.length) (rs:= []) 6 rfl rfl rfl (dF (Lh V)) e7 (λ _ _=>yk) (Ip (v:= .pointer (some ⟨ab d,ao d+(D0 h) *9,none⟩)) (rs:= []) 7 rfl rfl rfl (dF (Lh V)) e7 (λ _ _=>Iq rfl) (Ip (v:= .pointer (some ⟨ab d,ao d+(D0 h) *9,none⟩)) (rs:= []) 8 rfl rfl rfl (dF (Lh V)) e7 (λ _ _=>yk) (Ip (v:= .pointer (some ⟨ab d,ao d+(D0 h) *9+5,none⟩)) (rs:= []) 9 rfl rfl rfl (dF (Lh V)) e7 (λ _ _=>yk) (Ip (v:= .slice a.aG.A a.aG.ls.length a.aG.c) (rs:= []) 10 rfl rfl rfl (dF (Lh V)) e7 (λ _ ⟨_,H9⟩=>Io rfl (bZ.one Tryz.isAgg103 (((H9.rds (i:=16) rfl).elem bB.len j f4).at_ (k:=5) rfl))) (Ip (v:=vJ (D0 g)) (rs:= []) 11 rfl rfl rfl (dF (Lh V)) e7 (λ _ _=>Ie (e:=g) (Iq rfl) e6) ?_)))))))
 obtain⟨bS,fU⟩:=jN (ls:=a.aG.ls) (i:=D0 g) e9
 have dR:=fF (rfl:s5 bG.abs a.aG.ls=s5 bG.abs a.aG.ls) fU
 refine Ip (v:= .pointer (some ⟨ab a.aG.A,ao a.aG.A+(D0 g) *3,none⟩)) (rs:= []) 12 rfl rfl rfl (dF (Lh V)) e7 (λ _ ⟨_,H9⟩=>Ij (um) rfl rfl ((H9.rds (i:=2) rfl).addr (i:=D0 g) e6) e6) (Ip (v:= .pointer (some ⟨ab a.aG.A,ao a.aG.A+(D0 g) *3+1,none⟩)) (rs:= []) 13 rfl rfl rfl (dF (Lh V)) e7 (λ _ _=>yk) (Ip (v:= .slice bS.aH.A bS.aH.ls.length bS.aH.c) (rs:= []) 14 rfl rfl rfl (dF (Lh V)) e7 (λ _ ⟨_,H9⟩=>Io rfl (bZ.one Tryz.isAgg39 (((H9.rds (i:=2) rfl).elem bG.len fU f4).at_ (k:=1) rfl))) (Ip (v:=vJ bS.aH.ls.length) (rs:= []) 15 rfl rfl rfl (dF (Lh V)) e7 (λ _ _=>yk) (Ip (v:= .bool (decide (¬ ((W.ai.ls.length:Int)=(bS.aH.ls.length:Int))))) (rs:= []) 16 rfl rfl rfl (dF (Lh V)) e7 (λ _ _=>IG (e:= !(decide ((W.ai.ls.length:Int)=(bS.aH.ls.length:Int)))) yk decide_not.symm) (qt (v:= .bool (decide (¬ ((W.ai.ls.length:Int)=(bS.aH.ls.length:Int))))) 17 rfl (λ _ _=>Ih rfl (dF (Lh V)) rfl) (qn (Ig ?_)))))))
 by_cases dS:(W.ai.ls.length:Int)=(bS.aH.ls.length:Int)
 refine jF (dF (Lh dS)) (sk (Ic ?_))
 refine pU 27 [14,16] (Iu IC) iy ?_
 intro rX jB
 refine qv 0 rfl rfl (qk (.pointer (some ⟨ab d,ao d+(D0 h) *9,none⟩)) 1 rfl (qk (.pointer (some ⟨ab d,ao d+(D0 h) *9+6,none⟩)) 2 rfl (qt (v:= .slice a.bD.A a.bD.ls.length a.bD.c) 3 rfl (λ _ ⟨_,H9⟩=>Io rfl (bZ.one Q6 (((H9.rds (i:=16) rfl).elem bB.len j f4).at_ (k:=6) rfl))) (qt (v:=vJ (D0 g)) 4 rfl (λ _ _=>Ie (e:=g) (Iq rfl) e6) (qv 5 rfl rfl (qk (.pointer (some ⟨ab d,ao d+(D0 h) *9,none⟩)) 6 rfl (qk (.pointer (some ⟨ab d,ao d+(D0 h) *9+7,none⟩)) 7 rfl (qt (v:= .slice a.af.A a.af.ls.length a.af.c) 8 rfl (λ _ ⟨_,H9⟩=>Io rfl (bZ.one Tryz.isAgg105 (((H9.rds (i:=16) rfl).elem bB.len j f4).at_ (k:=7) rfl))) (IP (v:=vJ (D0 g)) 9 rfl e7 (λ _=>Ie (e:=g) (Iq rfl) e6) (qp dn 19 10 rfl (ql 11 rfl 0 Tryz.isAgg40 rfl rfl rfl ?_)))))))))))
 obtain⟨Y,bK⟩:∃ q,jh W.ai.ls=q:=⟨_,rfl⟩
 obtain⟨qY,iA,dU,iB,nG⟩:=Ii jB
 refine qd 12 rfl (Iz Tryz.call48 rfl (mD _ _ bF W.ai.ls.length bq bN W.ai.ls Y iA bX (dU _ dz) (λ x9 h9=>⟨dU _ (bH x9 h9).1,(bH x9 h9).2⟩) rfl e6 (by first | assumption | exact dM f5 | (intro x hx; exact absurd hx List.not_mem_nil)) bK) ?_)
 rintro _ qZ ⟨n,p,J,rfl,iC,aM⟩
 have fV:=iB _ _ iC
 have nH:=aB aM
 have nK:=zr 0 fV
 have nL:nI Y:=by rw [<- bK]; show nI W.ai.ls; assumption
 have fZ:=fV.pb [0,1]
 refine⟨.inr ⟨_,fZ⟩, ?_⟩
 refine qt (v:= .pointer (some ⟨ab a.bD.A,ao a.bD.A+(D0 g) *1,none⟩)) 13 rfl (λ _ ⟨_,H9⟩=>Ij (yc) rfl rfl ((H9.rds (i:=3) rfl).addr (i:=D0 g) e6) e6) ?_
 have jC:=fZ.pf [3]
 refine qe 14 rfl (Do.storeRow (vs:= [.bool true]) (o:=(D0 g) *1+0) (q:=ao a.bD.A+(D0 g) *1) jC rfl e6 rfl Tryz.sizeOf4 rfl rfl (Le rfl) (je pq aT (Le rfl)) (jV (y:=true) pq rfl (Le rfl) aT) ?_)
 intro q8 gp
 refine⟨.inl e7, ?_⟩
 obtain⟨bA,bC⟩:=jN (ls:=a.af.ls) (i:=D0 g) e9
 have nM:=fF (rfl:s5 bO.abs a.af.ls=s5 bO.abs a.af.ls) bC
 refine IP (v:= .pointer (some ⟨ab a.af.A,ao a.af.A+(D0 g) *1,none⟩)) 15 rfl e7 (λ _=>Ij (wV) rfl rfl ((gp.rds (i:=4) rfl).addr (i:=D0 g) e6) e6) ?_
 have jD:=gp.pf [6]
 have jE:=JU (f:=bO.own) (i:=D0 g) (row bA.A bA.ls.length bA.c (q3 ae.cells bA.ls) 149 3) (sepL (q3 ae.own bA.ls)) rfl bC jD
 have jG:=jE.px [] [0,1] []
 have jH:=jG.pf [27,28]
 have jI:=I4 (aB aM).symm jH
 have jJ:=I7 (f:=bO.own) (y:=(H0 n p J)) bC jI
 have jK:=jJ.pf [5]
 refine qe 16 rfl (Do.storeRow (vs:= [.slice n Y.length p]) (o:=(D0 g) *1+0) (q:=ao a.af.A+(D0 g) *1) jK rfl e6 rfl Tryz.sizeOf40 rfl rfl (Le rfl) (je rU bC (Le rfl)) (jV (x:=bA) (f:=0) (vs:= [.slice n Y.length p]) (y:=(H0 n p J)) rU (show put ((IX (β:=ae)) bA) 0 ([.slice n Y.length p]:List Value)=(IX (β:=ae)) (H0 n p J) from congrArg (λ z9=>([.slice n z9 p]:List Value)) (aB aM).symm) (Le rfl) bC) ?_)
 intro rf jL
 have nN:r8 (u2 a.af.ls (D0 g) (H0 n p J))=r8 (u2 (s5 bO.abs a.af.ls) (D0 g) (E2 Y)):=aB (iW (rfl:s5 bO.abs a.af.ls=s5 bO.abs a.af.ls) (congrArg E2 aM))
 have nO:r8 (u2 (s5 bO.abs a.af.ls) (D0 g) (E2 Y))=r8 (s5 bO.abs a.af.ls):=H1
 refine⟨.inl e7, ?_⟩
 refine qn (Ig (Ic ?_))
 have gq:=jL.px [] [3] []
 refine Ib (Mz rfl (Kz (.pointer (some ⟨ab d,ao d+(D0 h) *9,none⟩)) (Kz (.pointer (some ⟨ab d,ao d+(D0 h) *9+6,none⟩)) (fw (.slice a.bD.A a.bD.ls.length a.bD.c) (Io rfl (bZ.one Q6 (((gq.rds (i:=15) rfl).elem bB.len j f4).at_ (k:=6) rfl))) ?_))))
 have nQ:a.bD.ls.length=r8 (u2 a.bD.ls (D0 g) true):=f1
 obtain⟨dW,cz⟩:∃ q,mY (u2 a.bD.ls (D0 g) true) false=q:=⟨_,rfl⟩
 obtain⟨rq,iD,nR,iE,iF⟩:=Ii gq
 refine cl Tryz.call93 (rQ _ _ a.bD.A a.bD.ls.length a.bD.c (u2 a.bD.ls (D0 g) true) false dW iD (iF _ 2 _ rfl aO) f1 g4 cz) ?_
 rintro _ dm ⟨rfl,iG⟩
 have gu:=iE _ _ iG
 refine Kz (.bool (!dW)) (nt ?_)
 rcases Li (dW) with bT | bT
 refine jF (cn bT) (IE (IA (res0 rfl) ?_))
 have jM:=gu.pf [2]
 have jO:=IL (y:=row a.bD.A (r8 (u2 a.bD.ls (D0 g) true)) a.bD.c (q3 eL (u2 a.bD.ls (D0 g) true)) 4 1) (congrArg (λ z9=>row a.bD.A z9 a.bD.c (q3 eL (u2 a.bD.ls (D0 g) true)) 4 1) (by simp only [H1]:a.bD.ls.length=r8 (u2 a.bD.ls (D0 g) true))) jM
 have jP:=jO.pf [1]
 have jS:=IL (y:=row a.af.A (r8 (u2 a.af.ls (D0 g) (H0 n p J))) a.af.c (q3 (IX (β:=ae)) (u2 a.af.ls (D0 g) (H0 n p J))) 40 1) (congrArg (λ z9=>row a.af.A z9 a.af.c (q3 (IX (β:=ae)) (u2 a.af.ls (D0 g) (H0 n p J))) 40 1) (by simp only [H1]:a.af.ls.length=r8 (u2 a.af.ls (D0 g) (H0 n p J)))) jP
 have jU:=jS.pf [3,4,1,0,5]
 have jW:=I7 (f:=bB.own) (y:=(bB.mk a.aR a.aM a.aS a.dh a.bV a.aG (H0 a.bD.A a.bD.c (u2 a.bD.ls (D0 g) true)) (H0 a.af.A a.af.c (u2 a.af.ls (D0 g) (H0 n p J))) a.eO)) j jU
 have jX:Own w D dm [sepL (q3 bB.own (u2 l (D0 h) (bB.mk a.aR a.aM a.aS a.dh a.bV a.aG (H0 a.bD.A a.bD.c (u2 a.bD.ls (D0 g) true)) (H0 a.af.A a.af.c (u2 a.af.ls (D0 g) (H0 n p J))) a.eO))),blk g0 [vP X 0, .slice af p0.aX.ls.length ag] 98,row af p0.aX.ls.length ag (q3 bf.cells aa) 42 21,sepL (q3 bf.own aa),mK X b aG b.aa.ag.ls.length aH r s t u d m K L M N O P Q R S T,row r b.aa.aj.ls.length s (q3 aC.cells z) 60 5,sepL (q3 aC.own z),row t b.aa.aF.ls.length u (q3 aU.cells B) 56 4,sepL (q3 aU.own B),row d b.ay.ls.length m (q3 bB.cells (u2 l (D0 h) (bB.mk a.aR a.aM a.aS a.dh a.bV a.aG (H0 a.bD.A a.bD.c (u2 a.bD.ls (D0 g) true)) (H0 a.af.A a.af.c (u2 a.af.ls (D0 g) (H0 n p J))) a.eO))) 107 9,row K b.bK.af.ls.length L (q3 ae.cells C) 149 3,sepL (q3 ae.own C),row M b.bA.af.ls.length N (q3 ae.cells E) 149 3,sepL (q3 ae.own E),row O b.bz.af.ls.length P (q3 ae.cells F) 149 3,sepL (q3 ae.own F),row Q b.bv.af.ls.length R (q3 ae.cells G) 149 3,sepL (q3 ae.own G),row S b.bq.af.ls.length T (q3 ae.cells I) 149 3,sepL (q3 ae.own I)]:=by rw [zq (f:=bB.cells) (y:=(bB.mk a.aR a.aM a.aS a.dh a.bV a.aG (H0 a.bD.A a.bD.c (u2 a.bD.ls (D0 g) true)) (H0 a.af.A a.af.c (u2 a.af.ls (D0 g) (H0 n p J))) a.eO)) j (by simp only [bB.cells,H1])]; exact jW
 have nS:r8 (u2 l (D0 h) (bB.mk a.aR a.aM a.aS a.dh a.bV a.aG (H0 a.bD.A a.bD.c (u2 a.bD.ls (D0 g) true)) (H0 a.af.A a.af.c (u2 a.af.ls (D0 g) (H0 n p J))) a.eO))=r8 (u2 b.ay.ls (D0 h) (dK.mk a.aR a.aM a.aS a.dh (E2 a.bV.ls) (E2 (s5 bG.abs a.aG.ls)) (E2 (u2 a.bD.ls (D0 g) true)) (E2 (u2 (s5 bO.abs a.af.ls) (D0 g) (E2 Y))) a.eO)):=aB (iW U (congrArg (λ z0=>(dK.mk a.aR a.aM a.aS a.dh (E2 a.bV.ls) (E2 (s5 bG.abs a.aG.ls)) (E2 (u2 a.bD.ls (D0 g) true)) (E2 z0) a.eO)) (iW (rfl:s5 bO.abs a.af.ls=s5 bO.abs a.af.ls) (congrArg E2 aM))))
 have nT:r8 (u2 b.ay.ls (D0 h) (dK.mk a.aR a.aM a.aS a.dh (E2 a.bV.ls) (E2 (s5 bG.abs a.aG.ls)) (E2 (u2 a.bD.ls (D0 g) true)) (E2 (u2 (s5 bO.abs a.af.ls) (D0 g) (E2 Y))) a.eO))=b.ay.ls.length:=H1
 have cB:b.ay.ls.length=r8 (u2 b.ay.ls (D0 h) (dK.mk a.aR a.aM a.aS a.dh (E2 a.bV.ls) (E2 (s5 bG.abs a.aG.ls)) (E2 (u2 a.bD.ls (D0 g) true)) (E2 (u2 (s5 bO.abs a.af.ls) (D0 g) (E2 Y))) a.eO)):=by first | omega | (simp only [H1]; done) | (simp only [H1,o1,s0,F2,m9,o0,H2]; omega)
 have jY:Own w D dm [sepL (q3 bB.own (u2 l (D0 h) (bB.mk a.aR a.aM a.aS a.dh a.bV a.aG (H0 a.bD.A a.bD.c (u2 a.bD.ls (D0 g) true)) (H0 a.af.A a.af.c (u2 a.af.ls (D0 g) (H0 n p J))) a.eO))),blk g0 [vP X 0, .slice af p0.aX.ls.length ag] 98,row af p0.aX.ls.length ag (q3 bf.cells aa) 42 21,sepL (q3 bf.own aa),blk X [vI b.aa.au,vU b.aa.av,vU b.aa.aV,vU b.aa.aL, .slice aG b.aa.ag.ls.length aH, .slice r b.aa.aj.ls.length s, .slice t b.aa.aF.ls.length u,vU b.bP, .slice d (r8 (u2 b.ay.ls (D0 h) (dK.mk a.aR a.aM a.aS a.dh (E2 a.bV.ls) (E2 (s5 bG.abs a.aG.ls)) (E2 (u2 a.bD.ls (D0 g) true)) (E2 (u2 (s5 bO.abs a.af.ls) (D0 g) (E2 Y))) a.eO))) m, .bool b.bK.cO,vU b.bK.aS,vI b.bK.dA, .slice K b.bK.af.ls.length L, .bool b.bA.cO,vU b.bA.aS,vI b.bA.dA, .slice M b.bA.af.ls.length N, .bool b.bz.cO,vU b.bz.aS,vI b.bz.dA, .slice O b.bz.af.ls.length P, .bool b.bv.cO,vU b.bv.aS,vI b.bv.dA, .slice Q b.bv.af.ls.length R, .bool b.bq.cO,vU b.bq.aS,vI b.bq.dA, .slice S b.bq.af.ls.length T,vU b.dP,vU b.dH,vU b.dI,vU b.dG,vU b.dJ, .pointer none] 86,row r b.aa.aj.ls.length s (q3 aC.cells z) 60 5,sepL (q3 aC.own z),row t b.aa.aF.ls.length u (q3 aU.cells B) 56 4,sepL (q3 aU.own B),row d (r8 (u2 b.ay.ls (D0 h) (dK.mk a.aR a.aM a.aS a.dh (E2 a.bV.ls) (E2 (s5 bG.abs a.aG.ls)) (E2 (u2 a.bD.ls (D0 g) true)) (E2 (u2 (s5 bO.abs a.af.ls) (D0 g) (E2 Y))) a.eO))) m (q3 bB.cells (u2 l (D0 h) (bB.mk a.aR a.aM a.aS a.dh a.bV a.aG (H0 a.bD.A a.bD.c (u2 a.bD.ls (D0 g) true)) (H0 a.af.A a.af.c (u2 a.af.ls (D0 g) (H0 n p J))) a.eO))) 107 9,row K b.bK.af.ls.length L (q3 ae.cells C) 149 3,sepL (q3 ae.own C),row M b.bA.af.ls.length N (q3 ae.cells E) 149 3,sepL (q3 ae.own E),row O b.bz.af.ls.length P (q3 ae.cells F) 149 3,sepL (q3 ae.own F),row Q b.bv.af.ls.length R (q3 ae.cells G) 149 3,sepL (q3 ae.own G),row S b.bq.af.ls.length T (q3 ae.cells I) 149 3,sepL (q3 ae.own I)]:=by rw [<- cB]; exact jX
 have jZ:=jY.pf [1,2,3,4,5,6,7,8,9]
 obtain⟨rfl,rfl⟩:=ic (zj hr (show _=(p0,aA.mk b.aa b.bP (E2 (u2 b.ay.ls (D0 h) (dK.mk a.aR a.aM a.aS a.dh (E2 a.bV.ls) (E2 (s5 bG.abs a.aG.ls)) (E2 (u2 a.bD.ls (D0 g) true)) (E2 (u2 (s5 bO.abs a.af.ls) (D0 g) (E2 Y))) a.eO))) b.bK b.bA b.bz b.bv b.bq b.dP b.dH b.dI b.dG b.dJ) from et (ah aS) (et (ip bg) (et (ah (bJ bv)) (et (ah bz) (et (iN aJ) (et (ah (bJ aT)) (et (gm bR) (et (ip V) (et (ah (bJ dR)) (et (ip dS) (et (ah bK) (et (ah cz) (ip bT))))))))))))))
 exact⟨af,ag,aa,r,s,z,t,u,B,d,m,(u2 l (D0 h) (bB.mk a.aR a.aM a.aS a.dh a.bV a.aG (H0 a.bD.A a.bD.c (u2 a.bD.ls (D0 g) true)) (H0 a.af.A a.af.c (u2 a.af.ls (D0 g) (H0 n p J))) a.eO)),K,L,C,M,N,E,O,P,F,Q,R,G,S,T,I,(by first | rfl | (rw [<- cB]; done) | (rw [<- cB]; rfl)),jZ,aK,ai,aj,(iW U (congrArg (λ z0=>(dK.mk a.aR a.aM a.aS a.dh (E2 a.bV.ls) (E2 (s5 bG.abs a.aG.ls)) (E2 (u2 a.bD.ls (D0 g) true)) (E2 z0) a.eO)) (iW (rfl:s5 bO.abs a.af.ls=s5 bO.abs a.af.ls) (congrArg E2 aM)))),ak,au,av,ay,az⟩
 refine jT (cn bT) (Ib ?_)
 have j3:=gu.pf [2]
 have j4:=IL (y:=row a.bD.A (r8 (u2 a.bD.ls (D0 g) true)) a.bD.c (q3 eL (u2 a.bD.ls (D0 g) true)) 4 1) (congrArg (λ z9=>row a.bD.A z9 a.bD.c (q3 eL (u2 a.bD.ls (D0 g) true)) 4 1) (by simp only [H1]:a.bD.ls.length=r8 (u2 a.bD.ls (D0 g) true))) j3
 have j5:=j4.pf [1]
 have j6:=IL (y:=row a.af.A (r8 (u2 a.af.ls (D0 g) (H0 n p J))) a.af.c (q3 (IX (β:=ae)) (u2 a.af.ls (D0 g) (H0 n p J))) 40 1) (congrArg (λ z9=>row a.af.A z9 a.af.c (q3 (IX (β:=ae)) (u2 a.af.ls (D0 g) (H0 n p J))) 40 1) (by simp only [H1]:a.af.ls.length=r8 (u2 a.af.ls (D0 g) (H0 n p J)))) j5
 have ko:=j6.pf [3,4,1,0,5]
 have kr:=I7 (f:=bB.own) (y:=(bB.mk a.aR a.aM a.aS a.dh a.bV a.aG (H0 a.bD.A a.bD.c (u2 a.bD.ls (D0 g) true)) (H0 a.af.A a.af.c (u2 a.af.ls (D0 g) (H0 n p J))) a.eO)) j ko
 have ku:Own w D dm [sepL (q3 bB.own (u2 l (D0 h) (bB.mk a.aR a.aM a.aS a.dh a.bV a.aG (H0 a.bD.A a.bD.c (u2 a.bD.ls (D0 g) true)) (H0 a.af.A a.af.c (u2 a.af.ls (D0 g) (H0 n p J))) a.eO))),blk g0 [vP X 0, .slice af p0.aX.ls.length ag] 98,row af p0.aX.ls.length ag (q3 bf.cells aa) 42 21,sepL (q3 bf.own aa),mK X b aG b.aa.ag.ls.length aH r s t u d m K L M N O P Q R S T,row r b.aa.aj.ls.length s (q3 aC.cells z) 60 5,sepL (q3 aC.own z),row t b.aa.aF.ls.length u (q3 aU.cells B) 56 4,sepL (q3 aU.own B),row d b.ay.ls.length m (q3 bB.cells (u2 l (D0 h) (bB.mk a.aR a.aM a.aS a.dh a.bV a.aG (H0 a.bD.A a.bD.c (u2 a.bD.ls (D0 g) true)) (H0 a.af.A a.af.c (u2 a.af.ls (D0 g) (H0 n p J))) a.eO))) 107 9,row K b.bK.af.ls.length L (q3 ae.cells C) 149 3,sepL (q3 ae.own C),row M b.bA.af.ls.length N (q3 ae.cells E) 149 3,sepL (q3 ae.own E),row O b.bz.af.ls.length P (q3 ae.cells F) 149 3,sepL (q3 ae.own F),row Q b.bv.af.ls.length R (q3 ae.cells G) 149 3,sepL (q3 ae.own G),row S b.bq.af.ls.length T (q3 ae.cells I) 149 3,sepL (q3 ae.own I)]:=by rw [zq (f:=bB.cells) (y:=(bB.mk a.aR a.aM a.aS a.dh a.bV a.aG (H0 a.bD.A a.bD.c (u2 a.bD.ls (D0 g) true)) (H0 a.af.A a.af.c (u2 a.af.ls (D0 g) (H0 n p J))) a.eO)) j (by simp only [bB.cells,H1])]; exact kr
 have nU:r8 (u2 l (D0 h) (bB.mk a.aR a.aM a.aS a.dh a.bV a.aG (H0 a.bD.A a.bD.c (u2 a.bD.ls (D0 g) true)) (H0 a.af.A a.af.c (u2 a.af.ls (D0 g) (H0 n p J))) a.eO))=r8 (u2 b.ay.ls (D0 h) (dK.mk a.aR a.aM a.aS a.dh (E2 a.bV.ls) (E2 (s5 bG.abs a.aG.ls)) (E2 (u2 a.bD.ls (D0 g) true)) (E2 (u2 (s5 bO.abs a.af.ls) (D0 g) (E2 Y))) a.eO)):=aB (iW U (congrArg (λ z0=>(dK.mk a.aR a.aM a.aS a.dh (E2 a.bV.ls) (E2 (s5 bG.abs a.aG.ls)) (E2 (u2 a.bD.ls (D0 g) true)) (E2 z0) a.eO)) (iW (rfl:s5 bO.abs a.af.ls=s5 bO.abs a.af.ls) (congrArg E2 aM))))
 have nV:r8 (u2 b.ay.ls (D0 h) (dK.mk a.aR a.aM a.aS a.dh (E2 a.bV.ls) (E2 (s5 bG.abs a.aG.ls)) (E2 (u2 a.bD.ls (D0 g) true)) (E2 (u2 (s5 bO.abs a.af.ls) (D0 g) (E2 Y))) a.eO))=b.ay.ls.length:=H1
 refine Mz rfl (Mz rfl ?_)
 have cK:b.ay.ls.length=r8 (u2 b.ay.ls (D0 h) (dK.mk a.aR a.aM a.aS a.dh (E2 a.bV.ls) (E2 (s5 bG.abs a.aG.ls)) (E2 (u2 a.bD.ls (D0 g) true)) (E2 (u2 (s5 bO.abs a.af.ls) (D0 g) (E2 Y))) a.eO)):=by first | omega | (simp only [H1]; done) | (simp only [H1,o1,s0,F2,m9,o0,H2]; omega)
 have kv:Own w D dm [sepL (q3 bB.own (u2 l (D0 h) (bB.mk a.aR a.aM a.aS a.dh a.bV a.aG (H0 a.bD.A a.bD.c (u2 a.bD.ls (D0 g) true)) (H0 a.af.A a.af.c (u2 a.af.ls (D0 g) (H0 n p J))) a.eO))),blk g0 [vP X 0, .slice af p0.aX.ls.length ag] 98,row af p0.aX.ls.length ag (q3 bf.cells aa) 42 21,sepL (q3 bf.own aa),blk X [vI b.aa.au,vU b.aa.av,vU b.aa.aV,vU b.aa.aL, .slice aG b.aa.ag.ls.length aH, .slice r b.aa.aj.ls.length s, .slice t b.aa.aF.ls.length u,vU b.bP, .slice d (r8 (u2 b.ay.ls (D0 h) (dK.mk a.aR a.aM a.aS a.dh (E2 a.bV.ls) (E2 (s5 bG.abs a.aG.ls)) (E2 (u2 a.bD.ls (D0 g) true)) (E2 (u2 (s5 bO.abs a.af.ls) (D0 g) (E2 Y))) a.eO))) m, .bool b.bK.cO,vU b.bK.aS,vI b.bK.dA, .slice K b.bK.af.ls.length L, .bool b.bA.cO,vU b.bA.aS,vI b.bA.dA, .slice M b.bA.af.ls.length N, .bool b.bz.cO,vU b.bz.aS,vI b.bz.dA, .slice O b.bz.af.ls.length P, .bool b.bv.cO,vU b.bv.aS,vI b.bv.dA, .slice Q b.bv.af.ls.length R, .bool b.bq.cO,vU b.bq.aS,vI b.bq.dA, .slice S b.bq.af.ls.length T,vU b.dP,vU b.dH,vU b.dI,vU b.dG,vU b.dJ, .pointer none] 86,row r b.aa.aj.ls.length s (q3 aC.cells z) 60 5,sepL (q3 aC.own z),row t b.aa.aF.ls.length u (q3 aU.cells B) 56 4,sepL (q3 aU.own B),row d (r8 (u2 b.ay.ls (D0 h) (dK.mk a.aR a.aM a.aS a.dh (E2 a.bV.ls) (E2 (s5 bG.abs a.aG.ls)) (E2 (u2 a.bD.ls (D0 g) true)) (E2 (u2 (s5 bO.abs a.af.ls) (D0 g) (E2 Y))) a.eO))) m (q3 bB.cells (u2 l (D0 h) (bB.mk a.aR a.aM a.aS a.dh a.bV a.aG (H0 a.bD.A a.bD.c (u2 a.bD.ls (D0 g) true)) (H0 a.af.A a.af.c (u2 a.af.ls (D0 g) (H0 n p J))) a.eO))) 107 9,row K b.bK.af.ls.length L (q3 ae.cells C) 149 3,sepL (q3 ae.own C),row M b.bA.af.ls.length N (q3 ae.cells E) 149 3,sepL (q3 ae.own E),row O b.bz.af.ls.length P (q3 ae.cells F) 149 3,sepL (q3 ae.own F),row Q b.bv.af.ls.length R (q3 ae.cells G) 149 3,sepL (q3 ae.own G),row S b.bq.af.ls.length T (q3 ae.cells I) 149 3,sepL (q3 ae.own I)]:=by rw [<- cK]; exact ku
 have kw:=kv.pf [1,2,3,4,5,6,7,8,9]
 obtain⟨⟨gy,Z⟩,dX⟩:∃ q:bI × aA,jQ p0 h (aA.mk b.aa b.bP (E2 (u2 b.ay.ls (D0 h) (dK.mk a.aR a.aM a.aS a.dh (E2 a.bV.ls) (E2 (s5 bG.abs a.aG.ls)) (E2 (u2 a.bD.ls (D0 g) true)) (E2 (u2 (s5 bO.abs a.af.ls) (D0 g) (E2 Y))) a.eO))) b.bK b.bA b.bz b.bv b.bq b.dP b.dH b.dI b.dG b.dJ)=q:=⟨_,rfl⟩
 obtain⟨ru,iI,nW,iJ,nX⟩:=JI kw
 refine cl Tryz.call94 (vz _ _ g0 p0 af ag aa h X (aA.mk b.aa b.bP (E2 (u2 b.ay.ls (D0 h) (dK.mk a.aR a.aM a.aS a.dh (E2 a.bV.ls) (E2 (s5 bG.abs a.aG.ls)) (E2 (u2 a.bD.ls (D0 g) true)) (E2 (u2 (s5 bO.abs a.af.ls) (D0 g) (E2 Y))) a.eO))) b.bK b.bA b.bz b.bv b.bq b.dP b.dH b.dI b.dG b.dJ) aG aH r s z t u B d m (u2 l (D0 h) (bB.mk a.aR a.aM a.aS a.dh a.bV a.aG (H0 a.bD.A a.bD.c (u2 a.bD.ls (D0 g) true)) (H0 a.af.A a.af.c (u2 a.af.ls (D0 g) (H0 n p J))) a.eO)) K L C M N E O P F Q R G S T I gy Z iI aK ai aj (iW U (congrArg (λ z0=>(dK.mk a.aR a.aM a.aS a.dh (E2 a.bV.ls) (E2 (s5 bG.abs a.aG.ls)) (E2 (u2 a.bD.ls (D0 g) true)) (E2 z0) a.eO)) (iW (rfl:s5 bO.abs a.af.ls=s5 bO.abs a.af.ls) (congrArg E2 aM)))) ak au av ay az e8 (by first | assumption | exact Mk.act f5 | exact nJ f8 (o7 (x:=bB.abs a) aL f5) | exact nJ f8 (qN (x:=bB.abs a) aL _)) e8 dX) ?_
 rintro _ ry ⟨kz,kC,kD,kE,kF,kG,kH,kI,kJ,kK,kL,kM,kN,kP,kQ,kR,kS,kT,kU,kV,kW,kX,kY,kZ,lc,lg,lh,rfl,iK,dY,dZ,ed,ek,eu,eB,eD,eF,eG⟩
 have aN:=iJ _ _ iK
 have nY:=aB dY
 have nZ:=aB dZ
 have og:=aB ed
 have oh:=aB ek
 have ol:=aB eu
 have om:=aB eB
 have oo:=aB eD
 have oq:=aB eF
 have ou:=aB eG
 have ow:=zr 1 aN
 have oz:=zr 4 aN
 have oC:=zr 6 aN
 have oD:=zr 8 aN
 have oF:=zr 10 aN
 have oG:=zr 12 aN
 have oH:=zr 14 aN
 have oI:=zr 16 aN
 have oJ:=zr 18 aN
 refine WL.nil (IA (res0 rfl) ?_)
 have ll:=aN.pf []
 obtain⟨rfl,rfl⟩:=ic (zj hr (show _=(gy,aA.mk (cZ.mk Z.aa.au Z.aa.av Z.aa.aV Z.aa.aL (E2 b.aa.ag.ls) (E2 Z.aa.aj.ls) (E2 Z.aa.aF.ls)) Z.bP (E2 Z.ay.ls) Z.bK Z.bA Z.bz Z.bv Z.bq Z.dP Z.dH Z.dI Z.dG Z.dJ) from et (ah aS) (et (ip bg) (et (ah (bJ bv)) (et (ah bz) (et (iN aJ) (et (ah (bJ aT)) (et (gm bR) (et (ip V) (et (ah (bJ dR)) (et (ip dS) (et (ah bK) (et (ah cz) (et (gm bT) (ah dX)))))))))))))))
 exact⟨kz,kC,kD,kE,kF,kG,kH,kI,kJ,kK,kL,kM,kN,kP,kQ,kR,kS,kT,kU,kV,kW,kX,kY,kZ,lc,lg,lh,(by first | rfl | (rw [<- cK]; done) | (rw [<- cK]; rfl)),ll,dY,dZ,ed,ek,eu,eB,eD,eF,eG⟩
 refine jT (dT dS) (sr ?_)
 have lm:=iy.pf [1,2,3,4,5,6,7]
 have bU:=rH (f:=bB.own) j lm
 have oK:a.bV.ls.length<=a.bV.c/\a.bV.ls.length<=9223372036854775807:=aZ bU (i:=0) rfl (φ:=λ _=>_) (ax (Q3.2 ⟨a,D3 j,b1⟩) aW)
 have oL:a.aG.ls.length<=a.aG.c/\a.aG.ls.length<=9223372036854775807:=aZ bU (i:=0) rfl (φ:=λ _=>_) (ax (Q3.2 ⟨a,D3 j, .tail _ b1⟩) aW)
 have oM:a.bD.ls.length<=a.bD.c/\a.bD.ls.length<=9223372036854775807:=aZ bU (i:=0) rfl (φ:=λ _=>_) (ax (Q3.2 ⟨a,D3 j, .tail _ b2⟩) aW)
 have oN:a.af.ls.length<=a.af.c/\a.af.ls.length<=9223372036854775807:=aZ bU (i:=0) rfl (φ:=λ _=>_) (ax (Q3.2 ⟨a,D3 j, .tail _ b3⟩) aW)
 refine Mz rfl (Mz rfl ?_)
 have lq:=bU.px [2,3,4,5,10] [] [1,6,7,8,9]
 obtain⟨⟨gz,aD⟩,eH⟩:∃ q:bI × aA,fq p0 h b=q:=⟨_,rfl⟩
 obtain⟨rz,iL,oO,iM,oQ⟩:=Jg lq
 refine cl Tryz.call63 (nP _ _ g0 p0 af ag aa h X b aG aH r s t u d m l K L C M N E O P F Q R G S T I gz aD iL aK U ak au av ay az e8 (by first | assumption | exact Mk.act f5 | exact nJ f8 (o7 (x:=bB.abs a) aL f5) | exact nJ f8 (qN (x:=bB.abs a) aL _)) e8 eH) ?_
 rintro _ rA ⟨lu,lv,lw,lC,lD,lF,lG,lH,lI,lJ,lK,lL,lM,lN,lQ,lS,lT,lU,lV,lX,lY,rfl,iO,eO,eP,eQ,eT,eU,eX,eY⟩
 have aV:=iM _ _ iO
 have oU:=aB eO
 have oV:=aB eP
 have oW:=aB eQ
 have oZ:=aB eT
 have o5:=aB eU
 have o6:=aB eX
 have o8:=aB eY
 have o9:=zr 1 aV
 have pg:=zr 4 aV
 have pu:=zr 6 aV
 have pz:=zr 8 aV
 have pE:=zr 10 aV
 have pF:=zr 12 aV
 have pG:=zr 14 aV
 refine nt (rt (tR (Fin.res (res0 rfl) ?_)))
 have lZ:=aV.px [0,1,2,3,17,18,19,20] [16] []
 obtain⟨rfl,rfl⟩:=ic (zj hr (show _=(gz,aA.mk (cZ.mk aD.aa.au aD.aa.av aD.aa.aV aD.aa.aL (E2 b.aa.ag.ls) (E2 b.aa.aj.ls) (E2 b.aa.aF.ls)) aD.bP (E2 aD.ay.ls) aD.bK aD.bA aD.bz aD.bv aD.bq aD.dP aD.dH aD.dI aD.dG aD.dJ) from et (ah aS) (et (ip bg) (et (ah (bJ bv)) (et (ah bz) (et (iN aJ) (et (ah (bJ aT)) (et (gm bR) (et (ip V) (et (ah (bJ dR)) (et (iN dS) (ah eH))))))))))))
 exact⟨lu,lv,lw,r,s,z,t,u,B,lC,lD,lF,lG,lH,lI,lJ,lK,lL,lM,lN,lQ,lS,lT,lU,lV,lX,lY,rfl,lZ,eO,ai,aj,eP,eQ,eT,eU,eX,eY⟩
 refine Ik (rs:= []) 4 rfl rfl rfl (dT V) e7 (Ik (rs:= []) 5 rfl rfl rfl (dT V) e7 (Ik (rs:= []) 6 rfl rfl rfl (dT V) e7 (Ik (rs:= []) 7 rfl rfl rfl (dT V) e7 (Ik (rs:= []) 8 rfl rfl rfl (dT V) e7 (Ik (rs:= []) 9 rfl rfl rfl (dT V) e7 (Ik (rs:= []) 10 rfl rfl rfl (dT V) e7 (Ik (rs:= []) 11 rfl rfl rfl (dT V) e7 (Ik (rs:= []) 12 rfl rfl rfl (dT V) e7 (Ik (rs:= []) 13 rfl rfl rfl (dT V) e7 (Ik (rs:= []) 14 rfl rfl rfl (dT V) e7 (Ik (rs:= []) 15 rfl rfl rfl (dT V) e7 (Ik (rs:= []) 16 rfl rfl rfl (dT V) e7 (qt (v:= .bool true) 17 rfl (λ _ _=>Iw rfl (dT V) rfl) (qn (Ig (jt (sr ?_)))))))))))))))))
 have l5:=iy.pf [1,2,3,4,5,6,7]
 have bV:=rH (f:=bB.own) j l5
 have pI:a.bV.ls.length<=a.bV.c/\a.bV.ls.length<=9223372036854775807:=aZ bV (i:=0) rfl (φ:=λ _=>_) (ax (Q3.2 ⟨a,D3 j,b1⟩) aW)
 have pJ:a.aG.ls.length<=a.aG.c/\a.aG.ls.length<=9223372036854775807:=aZ bV (i:=0) rfl (φ:=λ _=>_) (ax (Q3.2 ⟨a,D3 j, .tail _ b1⟩) aW)
 have pK:a.bD.ls.length<=a.bD.c/\a.bD.ls.length<=9223372036854775807:=aZ bV (i:=0) rfl (φ:=λ _=>_) (ax (Q3.2 ⟨a,D3 j, .tail _ b2⟩) aW)
 have pM:a.af.ls.length<=a.af.c/\a.af.ls.length<=9223372036854775807:=aZ bV (i:=0) rfl (φ:=λ _=>_) (ax (Q3.2 ⟨a,D3 j, .tail _ b3⟩) aW)
 refine Mz rfl (Mz rfl ?_)
 have l6:=bV.px [2,3,4,5,10] [] [1,6,7,8,9]
 obtain⟨⟨gB,aF⟩,eZ⟩:∃ q:bI × aA,fq p0 h b=q:=⟨_,rfl⟩
 obtain⟨rC,iP,pO,iQ,pQ⟩:=Jg l6
 refine cl Tryz.call63 (nP _ _ g0 p0 af ag aa h X b aG aH r s t u d m l K L C M N E O P F Q R G S T I gB aF iP aK U ak au av ay az e8 (by first | assumption | exact Mk.act f5 | exact nJ f8 (o7 (x:=bB.abs a) aL f5) | exact nJ f8 (qN (x:=bB.abs a) aL _)) e8 eZ) ?_
 rintro _ rD ⟨l7,l8,l9,ma,mf,mg,mh,mi,mo,mq,mr,mE,mF,mG,mH,mI,mJ,mM,mO,mP,mQ,rfl,iR,fe,fo,fu,fA,fB,fC,fD⟩
 have aX:=iQ _ _ iR
 have pR:=aB fe
 have pV:=aB fo
 have pW:=aB fu
 have pX:=aB fA
 have pY:=aB fB
 have p8:=aB fC
 have p9:=aB fD
 have qb:=zr 1 aX
 have qc:=zr 4 aX
 have qf:=zr 6 aX
 have qg:=zr 8 aX
 have qi:=zr 10 aX
 have qj:=zr 12 aX
 have qm:=zr 14 aX
 refine nt (rt (tR (Fin.res (res0 rfl) ?_)))
 have mR:=aX.px [0,1,2,3,17,18,19,20] [16] []
 obtain⟨rfl,rfl⟩:=ic (zj hr (show _=(gB,aA.mk (cZ.mk aF.aa.au aF.aa.av aF.aa.aV aF.aa.aL (E2 b.aa.ag.ls) (E2 b.aa.aj.ls) (E2 b.aa.aF.ls)) aF.bP (E2 aF.ay.ls) aF.bK aF.bA aF.bz aF.bv aF.bq aF.dP aF.dH aF.dI aF.dG aF.dJ) from et (ah aS) (et (ip bg) (et (ah (bJ bv)) (et (ah bz) (et (iN aJ) (et (ah (bJ aT)) (et (gm bR) (et (iN V) (ah eZ))))))))))
 exact⟨l7,l8,l9,r,s,z,t,u,B,ma,mf,mg,mh,mi,mo,mq,mr,mE,mF,mG,mH,mI,mJ,mM,mO,mP,mQ,rfl,mR,fe,ai,aj,fo,fu,fA,fB,fC,fD⟩
 have h39t:Bool.toNat bQ=0:=by rw [bg]; rfl
 refine jT (cn bg) (rt (tR (Fin.res (res0 rfl) ?_)))
 have mU:=bu.px [] [0] []
 obtain⟨rfl,rfl⟩:=ic (zj hr zq2)
 exact⟨af,ag,aa,r,s,z,t,u,B,d,m,l,K,L,C,M,N,E,O,P,F,Q,R,G,S,T,I,rfl,mU,aK,ai,aj,U,ak,au,av,ay,az⟩
end
section
open Go.RowKit
def iw (a:aA) (h:Int) (b:dK) (e:dK):Nat->Nat->List bL->(List bL)
  | 0,c,d=>d
  | g+1,c,d=>bnd (C0 e.aG.ls c default) λ f=>bnd (C0 e.bD.ls c default) λ i=>if i=true then iw a h b e g (c+1) d else bnd (il (aA.mk a.aa a.bP (E2 (u2 a.ay.ls (D0 h) (dK.mk b.aR b.aM b.aS b.dh (E2 b.bV.ls) (E2 b.aG.ls) (E2 b.bD.ls) (E2 b.af.ls) (C5.wrap (b.eO+1))))) a.bK a.bA a.bz a.bv a.bq a.dP a.dH a.dI a.dG a.dJ)) λ j=>bnd (dw (bI.mk (E2 d)) (bL.mk 3 0 f.eG 0 0 0 0 0 e.aR j 0 e.dh 0 0 0 false (bC.mk [] []) (E2 f.aH.ls) (E2 []) (E2 []))) λ k=>iw a h b e g (c+1) k.aX.ls
def jJ (f:bI) (g:Nat) (a:aA):bI × aA:=
 bnd (bW a.ay.ls g) λ d=>if d.2=true then bnd (C0 a.ay.ls (D0 d.1) default) λ b=>bnd (C0 (u2 a.ay.ls (D0 d.1) (dK.mk b.aR b.aM b.aS b.dh (E2 b.bV.ls) (E2 b.aG.ls) (E2 b.bD.ls) (E2 b.af.ls) (C5.wrap (b.eO+1)))) (D0 d.1) default) λ e=>if e.eO > 10 then bnd (fq f d.1 (aA.mk a.aa a.bP (E2 (u2 a.ay.ls (D0 d.1) (dK.mk b.aR b.aM b.aS b.dh (E2 b.bV.ls) (E2 b.aG.ls) (E2 b.bD.ls) (E2 b.af.ls) (C5.wrap (b.eO+1))))) a.bK a.bA a.bz a.bv a.bq a.dP a.dH a.dI a.dG a.dJ)) λ c=>(c.1,aA.mk (cZ.mk c.2.aa.au c.2.aa.av c.2.aa.aV c.2.aa.aL (E2 a.aa.ag.ls) (E2 a.aa.aj.ls) (E2 a.aa.aF.ls)) c.2.bP (E2 c.2.ay.ls) c.2.bK c.2.bA c.2.bz c.2.bv c.2.bq c.2.dP c.2.dH c.2.dI c.2.dG c.2.dJ) else bnd (iw a d.1 b e e.aG.ls.length 0 f.aX.ls) λ sLrbtbbfL=>(bI.mk (E2 sLrbtbbfL),aA.mk a.aa a.bP (E2 (u2 a.ay.ls (D0 d.1) (dK.mk b.aR b.aM b.aS b.dh (E2 b.bV.ls) (E2 b.aG.ls) (E2 b.bD.ls) (E2 b.af.ls) (C5.wrap (b.eO+1))))) a.bK a.bA a.bz a.bv a.bq a.dP a.dH a.dI a.dG a.dJ) else(f,a)
theorem wI (w D g0) (p0:bI) (ag ai Z p1 N) (a:aA) (T U S Q aK V W d m j r s t u z B C E F G I J K L M) (r0:bI) (X:aA) (H:Own w D w [blk g0 [.pointer (some ⟨N,0,none⟩), .slice ag p0.aX.ls.length ai] 98,row ag p0.aX.ls.length ai (q3 bf.cells Z) 42 21,sepL (q3 bf.own Z),mK N a T a.aa.ag.ls.length U S Q V W d m r s u z C E G I K L,row d a.ay.ls.length m (q3 bB.cells j) 107 9,sepL (q3 bB.own j),row r a.bK.af.ls.length s (q3 ae.cells t) 149 3,sepL (q3 ae.own t),row u a.bA.af.ls.length z (q3 ae.cells B) 149 3,sepL (q3 ae.own B),row C a.bz.af.ls.length E (q3 ae.cells F) 149 3,sepL (q3 ae.own F),row G a.bv.af.ls.length I (q3 ae.cells J) 149 3,sepL (q3 ae.own J),row K a.bq.af.ls.length L (q3 ae.cells M) 149 3,sepL (q3 ae.own M)]) (aT:s5 bf.abs Z=p0.aX.ls) (bn:s5 aC.abs aK=a.aa.aj.ls) (cz:Ro w D λ w'=>bE w' 5 S a.aa.aj.ls.length (q3 aC.cells aK)) (fK:a.aa.aj.ls.length<=Q/\a.aa.aj.ls.length<=9223372036854775807) (bq:∀ x ∈ aK,Ro w D (λ w'=>bE w' 1 x.au.A x.au.ls.length (q3 (eI .i64) x.au.ls))/\(x.au.ls.length<=x.au.c/\x.au.ls.length<=9223372036854775807)) (O:s5 bB.abs j=a.ay.ls) (av:s5 ae.abs t=a.bK.af.ls) (ay:s5 ae.abs B=a.bA.af.ls) (az:s5 ae.abs F=a.bz.af.ls) (aD:s5 ae.abs J=a.bv.af.ls) (aF:s5 ae.abs M=a.bq.af.ls) (kL:a.aa.ag.ls.length<=1000/\a.aa.aj.ls.length<=1000/\a.aa.aF.ls.length<=1000/\a.ay.ls.length<=1000/\p0.aX.ls.length<=100000) (kM:Ak a.ay.ls) (hr:jJ p0 p1 a=(r0,X)):
    Calls Tryz.prog 26 #[vP g0 0,vU p1] w (d9 λ v w'=> ∃ cB cK bH cO df bK dh di bM dm dn bP dx dz bR dA dB bS dC dD bT,v= .tuple #[]/\Own w D w' [blk g0 [vP N 0, .slice cB r0.aX.ls.length cK] 98,row cB r0.aX.ls.length cK (q3 bf.cells bH) 42 21,sepL (q3 bf.own bH),blk N [vI X.aa.au,vU X.aa.av,vU X.aa.aV,vU X.aa.aL, .slice T a.aa.ag.ls.length U, .slice S a.aa.aj.ls.length Q, .slice V a.aa.aF.ls.length W,vU X.bP, .slice cO X.ay.ls.length df, .bool X.bK.cO,vU X.bK.aS,vI X.bK.dA, .slice dh X.bK.af.ls.length di, .bool X.bA.cO,vU X.bA.aS,vI X.bA.dA, .slice dm X.bA.af.ls.length dn, .bool X.bz.cO,vU X.bz.aS,vI X.bz.dA, .slice dx X.bz.af.ls.length dz, .bool X.bv.cO,vU X.bv.aS,vI X.bv.dA, .slice dA X.bv.af.ls.length dB, .bool X.bq.cO,vU X.bq.aS,vI X.bq.dA, .slice dC X.bq.af.ls.length dD,vU X.dP,vU X.dH,vU X.dI,vU X.dG,vU X.dJ, .pointer none] 86,row cO X.ay.ls.length df (q3 bB.cells bK) 107 9,sepL (q3 bB.own bK),row dh X.bK.af.ls.length di (q3 ae.cells bM) 149 3,sepL (q3 ae.own bM),row dm X.bA.af.ls.length dn (q3 ae.cells bP) 149 3,sepL (q3 ae.own bP),row dx X.bz.af.ls.length dz (q3 ae.cells bR) 149 3,sepL (q3 ae.own bR),row dA X.bv.af.ls.length dB (q3 ae.cells bS) 149 3,sepL (q3 ae.own bS),row dC X.bq.af.ls.length dD (q3 ae.cells bT) 149 3,sepL (q3 ae.own bT)]/\(s5 bf.abs bH=r0.aX.ls)/\(s5 bB.abs bK=X.ay.ls)/\(s5 ae.abs bM=X.bK.af.ls)/\(s5 ae.abs bP=X.bA.af.ls)/\(s5 ae.abs bR=X.bz.af.ls)/\(s5 ae.abs bS=X.bv.af.ls)/\(s5 ae.abs bT=X.bq.af.ls)):=by
 unfold jJ at hr
 have iI:=aB aT
 have fC:=aB bn
 have fD:=aB O
 have fE:=aB av
 have fG:=aB ay
 have fH:=aB az
 have fI:=aB aD
 have fJ:=aB aF
 have iJ:=zr 1 H
 have fM:=zr 4 H
 have fO:=zr 6 H
 have fP:=zr 8 H
 have fQ:=zr 10 H
 have fT:=zr 12 H
 have fU:=zr 14 H
 refine cb Tryz.func26 ?_
 refine sr (Mz rfl (Kz (vP g0 0) (Kz (vP g0 0) (Lz (vP N 0) H 0 P3 (Mz rfl ?_)))))
 refine WL.do rfl (Iz Tryz.call62 rfl ?_ (λ _ _ k=>k))
 refine cb Tryz.func62 ?_
 refine sr (Az rfl (Ar rfl (Mz rfl (Kz (vP N 0) (Kz (vP N 8) (Lz (.slice d a.ay.ls.length m) H 3 Tryz.isAgg79 (Mz rfl ?_)))))))
 obtain⟨⟨h,bu⟩,bY⟩:∃ q:Int × Bool,bW a.ay.ls p1=q:=⟨_,rfl⟩
 obtain⟨kN,fV,jK,fZ,aG⟩:=Ii H
 refine cl Tryz.call102 (jb _ _ d a.ay.ls.length m j a.ay.ls p1 h bu fV O (aG _ 4 _ rfl aO) (λ x9 h9=>⟨aG _ 5 _ rfl (ax (Q3.2 ⟨x9,h9,b1⟩) aO),aZ (φ:=λ _=>_) H (i:=5) rfl (ax (Q3.2 ⟨x9,h9,b1⟩) aW),aG _ 5 _ rfl (ax (Q3.2 ⟨x9,h9, .tail _ b1⟩) aO),aZ (φ:=λ _=>_) H (i:=5) rfl (ax (Q3.2 ⟨x9,h9, .tail _ b1⟩) aW),(λ y1 k1=>⟨aG _ 5 _ rfl (ax (Q3.2 ⟨x9,h9, .tail _ b4⟩) (ax (Q3.2 ⟨y1,k1,b1⟩) aO)),aZ (φ:=λ _=>_) H (i:=5) rfl (ax (Q3.2 ⟨x9,h9, .tail _ b4⟩) (ax (Q3.2 ⟨y1,k1,b1⟩) aW)),aG _ 5 _ rfl (ax (Q3.2 ⟨x9,h9, .tail _ b4⟩) (ax (Q3.2 ⟨y1,k1, .tail _ b1⟩) aO)),aZ (φ:=λ _=>_) H (i:=5) rfl (ax (Q3.2 ⟨x9,h9, .tail _ b4⟩) (ax (Q3.2 ⟨y1,k1, .tail _ b1⟩) aW))⟩),aG _ 5 _ rfl (ax (Q3.2 ⟨x9,h9, .tail _ b2⟩) aO),aZ (φ:=λ _=>_) H (i:=5) rfl (ax (Q3.2 ⟨x9,h9, .tail _ b2⟩) aW),aG _ 5 _ rfl (ax (Q3.2 ⟨x9,h9, .tail _ b3⟩) aO),aZ (φ:=λ _=>_) H (i:=5) rfl (ax (Q3.2 ⟨x9,h9, .tail _ b3⟩) aW),(λ y1 k1=>⟨aG _ 5 _ rfl (ax (Q3.2 ⟨x9,h9, .tail _ b5⟩) (ax (Q3.2 ⟨y1,k1,b1⟩) aO)),aZ (φ:=λ _=>_) H (i:=5) rfl (ax (Q3.2 ⟨x9,h9, .tail _ b5⟩) (ax (Q3.2 ⟨y1,k1,b1⟩) aW)),(λ y2 k2=>⟨aG _ 5 _ rfl (ax (Q3.2 ⟨x9,h9, .tail _ b5⟩) (ax (Q3.2 ⟨y1,k1, .tail _ b1⟩) (ax (Q3.2 ⟨y2,k2,b1⟩) aO))),aZ (φ:=λ _=>_) H (i:=5) rfl (ax (Q3.2 ⟨x9,h9, .tail _ b5⟩) (ax (Q3.2 ⟨y1,k1, .tail _ b1⟩) (ax (Q3.2 ⟨y2,k2,b1⟩) aW)))⟩)⟩)⟩) rfl e6 bY) ?_
 rintro _ kP ⟨rfl,gu,eu,eB⟩
 have aL:=fZ _ _ gu
 replace eu:0<=h/\h<=(a.ay.ls.length:Int):=eu
 replace eB:Bool.toNat bu=0\/h < (a.ay.ls.length:Int):=eB
 refine Kz (vI h) (Kz (.bool bu) (Az rfl (An rfl (rt (Fin.res (lW rfl rfl rfl) (Mz rfl (Kz (vI h) (Kz (.bool bu) (Az rfl (An rfl (Ic (sr (Mz rfl (Kz (.bool (!bu)) (nt ?_)))))))))))))))
 rcases Li (bu) with bv | bv
 have h34t:Bool.toNat bu=1:=by rw [bv]; rfl
 refine jF (cn bv) (sk (sr (Mz rfl (Kz (vP g0 0) (Kz (vP g0 0) (Lz (vP N 0) aL 0 P3 (Kz (vP N 0) (Kz (vP N 8) (Lz (.slice d a.ay.ls.length m) aL 3 Tryz.isAgg79 (fw (vJ (D0 h)) (Ie (e:=h) (Iq rfl) e6) ?_))))))))))
 obtain⟨b,aH⟩:=dN (ls:=j) (i:=D0 h) bB.len f4 (aL.rds (i:=4) rfl) e9
 have dE:=fF O aH
 have jL:b.bV.ls.length<=b.bV.c/\b.bV.ls.length<=9223372036854775807:=aZ aL (i:=5) rfl (φ:=λ _=>_) (ax (Q3.2 ⟨b,D3 aH,b1⟩) aW)
 have jM:b.aG.ls.length=r8 (s5 bG.abs b.aG.ls):=aB (rfl:s5 bG.abs b.aG.ls=s5 bG.abs b.aG.ls)
 have jN:b.aG.ls.length<=b.aG.c/\b.aG.ls.length<=9223372036854775807:=aZ aL (i:=5) rfl (φ:=λ _=>_) (ax (Q3.2 ⟨b,D3 aH, .tail _ b1⟩) aW)
 have jO:b.bD.ls.length<=b.bD.c/\b.bD.ls.length<=9223372036854775807:=aZ aL (i:=5) rfl (φ:=λ _=>_) (ax (Q3.2 ⟨b,D3 aH, .tail _ b2⟩) aW)
 have jP:b.af.ls.length=r8 (s5 bO.abs b.af.ls):=aB (rfl:s5 bO.abs b.af.ls=s5 bO.abs b.af.ls)
 have jQ:b.af.ls.length<=b.af.c/\b.af.ls.length<=9223372036854775807:=aZ aL (i:=5) rfl (φ:=λ _=>_) (ax (Q3.2 ⟨b,D3 aH, .tail _ b3⟩) aW)
 have aI:Tok (bB.abs b):=yz f8 dE
 have jR:1<=b.aM/\b.aM<=4:=aI.uh
 have jS:b.bD.ls.length=b.aG.ls.length:=by have q9:=aI.yes; simp only [bB.abs,s3] at q9; exact q9
 have jU:b.af.ls.length=b.aG.ls.length:=by have q9:=aI.res; simp only [bB.abs,s3] at q9; exact q9
 have jW:b.aG.ls.length<=5:=by have q9:=aI.len; simp only [bB.abs,s3] at q9; exact q9
 have jX:b.bV.ls.length<=24:=aI.ops.1
 refine fw (.pointer (some ⟨ab d,ao d+(D0 h) *9,none⟩)) (Ij (qh) rfl rfl ((aL.rds (i:=4) rfl).addr (i:=D0 h) e6) e6) (Ar rfl (Mz rfl (Kz (.pointer (some ⟨ab d,ao d+(D0 h) *9,none⟩)) (Kz (.pointer (some ⟨ab d,ao d+(D0 h) *9+8,none⟩)) (fw (vI b.eO) (Io rfl (bZ.one C4 (((aL.rds (i:=4) rfl).elem bB.len aH f4).at_ (k:=8) rfl))) (Kz (vI (C5.wrap (b.eO+1))) (Kz (.pointer (some ⟨ab d,ao d+(D0 h) *9,none⟩)) (Kz (.pointer (some ⟨ab d,ao d+(D0 h) *9+8,none⟩)) ?_))))))))
 have iK:=aL.pf [4]
 refine Jb (Do.storeRow (vs:= [vI (C5.wrap (b.eO+1))]) (o:=(D0 h) *9+8) (q:=ao d+(D0 h) *9+8) iK rfl e6 rfl Tryz.sizeOf3 rfl rfl (Le rfl) (je bB.len aH (Le rfl)) (jV (y:=(bB.mk b.aR b.aM b.aS b.dh b.bV b.aG b.bD b.af (C5.wrap (b.eO+1)))) bB.len rfl (Le rfl) aH) ?_)
 intro eT iL
 have bA:Own w D eT [row d a.ay.ls.length m (q3 bB.cells (u2 j (D0 h) (bB.mk b.aR b.aM b.aS b.dh b.bV b.aG b.bD b.af (C5.wrap (b.eO+1))))) 107 9,blk g0 [vP N 0, .slice ag p0.aX.ls.length ai] 98,row ag p0.aX.ls.length ai (q3 bf.cells Z) 42 21,sepL (q3 bf.own Z),mK N a T a.aa.ag.ls.length U S Q V W d m r s u z C E G I K L,sepL (q3 bB.own (u2 j (D0 h) (bB.mk b.aR b.aM b.aS b.dh b.bV b.aG b.bD b.af (C5.wrap (b.eO+1))))),row r a.bK.af.ls.length s (q3 ae.cells t) 149 3,sepL (q3 ae.own t),row u a.bA.af.ls.length z (q3 ae.cells B) 149 3,sepL (q3 ae.own B),row C a.bz.af.ls.length E (q3 ae.cells F) 149 3,sepL (q3 ae.own F),row G a.bv.af.ls.length I (q3 ae.cells J) 149 3,sepL (q3 ae.own J),row K a.bq.af.ls.length L (q3 ae.cells M) 149 3,sepL (q3 ae.own M)]:=by rw [Cw (f:=bB.own) (y:=(bB.mk b.aR b.aM b.aS b.dh b.bV b.aG b.bD b.af (C5.wrap (b.eO+1)))) aH rfl]; exact iL
 have jY:r8 (u2 j (D0 h) (bB.mk b.aR b.aM b.aS b.dh b.bV b.aG b.bD b.af (C5.wrap (b.eO+1))))=r8 (u2 a.ay.ls (D0 h) (dK.mk b.aR b.aM b.aS b.dh (E2 b.bV.ls) (E2 (s5 bG.abs b.aG.ls)) (E2 b.bD.ls) (E2 (s5 bO.abs b.af.ls)) (C5.wrap (b.eO+1)))):=aB (iW O rfl)
 have jZ:r8 (u2 a.ay.ls (D0 h) (dK.mk b.aR b.aM b.aS b.dh (E2 b.bV.ls) (E2 (s5 bG.abs b.aG.ls)) (E2 b.bD.ls) (E2 (s5 bO.abs b.af.ls)) (C5.wrap (b.eO+1))))=a.ay.ls.length:=H1
 refine nt (Ic (sr (Mz rfl (Kz (.pointer (some ⟨ab d,ao d+(D0 h) *9,none⟩)) (Kz (.pointer (some ⟨ab d,ao d+(D0 h) *9+8,none⟩)) ?_)))))
 obtain⟨g,P⟩:=dN (ls:=(u2 j (D0 h) (bB.mk b.aR b.aM b.aS b.dh b.bV b.aG b.bD b.af (C5.wrap (b.eO+1))))) (i:=D0 h) bB.len f4 (bA.rds (i:=0) rfl) e9
 have dG:=fF (iW O rfl) P
 have j3:g.bV.ls.length<=g.bV.c/\g.bV.ls.length<=9223372036854775807:=aZ bA (i:=5) rfl (φ:=λ _=>_) (ax (Q3.2 ⟨g,D3 P,b1⟩) aW)
 have j4:g.aG.ls.length=r8 (s5 bG.abs g.aG.ls):=aB (rfl:s5 bG.abs g.aG.ls=s5 bG.abs g.aG.ls)
 have j5:g.aG.ls.length<=g.aG.c/\g.aG.ls.length<=9223372036854775807:=aZ bA (i:=5) rfl (φ:=λ _=>_) (ax (Q3.2 ⟨g,D3 P, .tail _ b1⟩) aW)
 have j6:g.bD.ls.length<=g.bD.c/\g.bD.ls.length<=9223372036854775807:=aZ bA (i:=5) rfl (φ:=λ _=>_) (ax (Q3.2 ⟨g,D3 P, .tail _ b2⟩) aW)
 have kg:g.af.ls.length=r8 (s5 bO.abs g.af.ls):=aB (rfl:s5 bO.abs g.af.ls=s5 bO.abs g.af.ls)
 have ko:g.af.ls.length<=g.af.c/\g.af.ls.length<=9223372036854775807:=aZ bA (i:=5) rfl (φ:=λ _=>_) (ax (Q3.2 ⟨g,D3 P, .tail _ b3⟩) aW)
 have aJ:Tok (bB.abs g):=yz (by first | assumption | exact Mk.act f5 | exact nJ f8 (o7 (x:=bB.abs b) aI f5) | exact nJ f8 (qN (x:=bB.abs b) aI _)) dG
 have kr:1<=g.aM/\g.aM<=4:=aJ.uh
 have ku:g.bD.ls.length=g.aG.ls.length:=by have q9:=aJ.yes; simp only [bB.abs,s3] at q9; exact q9
 have kv:g.af.ls.length=g.aG.ls.length:=by have q9:=aJ.res; simp only [bB.abs,s3] at q9; exact q9
 have kw:g.aG.ls.length<=5:=by have q9:=aJ.len; simp only [bB.abs,s3] at q9; exact q9
 have ky:g.bV.ls.length<=24:=aJ.ops.1
 refine fw (vI g.eO) (Io rfl (bZ.one C4 (((bA.rds (i:=0) rfl).elem bB.len P f4).at_ (k:=8) rfl))) (Kz (.bool (decide (g.eO > 10))) (nt ?_))
 by_cases ek:g.eO > 10
 refine jT (dT ek) (sr (Mz rfl (Mz rfl ?_)))
 have dH:a.ay.ls.length=r8 (u2 a.ay.ls (D0 h) (dK.mk b.aR b.aM b.aS b.dh (E2 b.bV.ls) (E2 (s5 bG.abs b.aG.ls)) (E2 b.bD.ls) (E2 (s5 bO.abs b.af.ls)) (C5.wrap (b.eO+1)))):=by first | omega | (simp only [H1]; done) | (simp only [H1,o1,s0,F2,m9,o0,H2]; omega)
 have iM:Own w D eT [row d (r8 (u2 a.ay.ls (D0 h) (dK.mk b.aR b.aM b.aS b.dh (E2 b.bV.ls) (E2 (s5 bG.abs b.aG.ls)) (E2 b.bD.ls) (E2 (s5 bO.abs b.af.ls)) (C5.wrap (b.eO+1))))) m (q3 bB.cells (u2 j (D0 h) (bB.mk b.aR b.aM b.aS b.dh b.bV b.aG b.bD b.af (C5.wrap (b.eO+1))))) 107 9,blk g0 [vP N 0, .slice ag p0.aX.ls.length ai] 98,row ag p0.aX.ls.length ai (q3 bf.cells Z) 42 21,sepL (q3 bf.own Z),blk N [vI a.aa.au,vU a.aa.av,vU a.aa.aV,vU a.aa.aL, .slice T a.aa.ag.ls.length U, .slice S a.aa.aj.ls.length Q, .slice V a.aa.aF.ls.length W,vU a.bP, .slice d (r8 (u2 a.ay.ls (D0 h) (dK.mk b.aR b.aM b.aS b.dh (E2 b.bV.ls) (E2 (s5 bG.abs b.aG.ls)) (E2 b.bD.ls) (E2 (s5 bO.abs b.af.ls)) (C5.wrap (b.eO+1))))) m, .bool a.bK.cO,vU a.bK.aS,vI a.bK.dA, .slice r a.bK.af.ls.length s, .bool a.bA.cO,vU a.bA.aS,vI a.bA.dA, .slice u a.bA.af.ls.length z, .bool a.bz.cO,vU a.bz.aS,vI a.bz.dA, .slice C a.bz.af.ls.length E, .bool a.bv.cO,vU a.bv.aS,vI a.bv.dA, .slice G a.bv.af.ls.length I, .bool a.bq.cO,vU a.bq.aS,vI a.bq.dA, .slice K a.bq.af.ls.length L,vU a.dP,vU a.dH,vU a.dI,vU a.dG,vU a.dJ, .pointer none] 86,sepL (q3 bB.own (u2 j (D0 h) (bB.mk b.aR b.aM b.aS b.dh b.bV b.aG b.bD b.af (C5.wrap (b.eO+1))))),row r a.bK.af.ls.length s (q3 ae.cells t) 149 3,sepL (q3 ae.own t),row u a.bA.af.ls.length z (q3 ae.cells B) 149 3,sepL (q3 ae.own B),row C a.bz.af.ls.length E (q3 ae.cells F) 149 3,sepL (q3 ae.own F),row G a.bv.af.ls.length I (q3 ae.cells J) 149 3,sepL (q3 ae.own J),row K a.bq.af.ls.length L (q3 ae.cells M) 149 3,sepL (q3 ae.own M)]:=by rw [<- dH]; exact bA
 have iO:=iM.pf [1,2,3,4]
 obtain⟨⟨gy,aj⟩,eD⟩:∃ q:bI × aA,fq p0 h (aA.mk a.aa a.bP (E2 (u2 a.ay.ls (D0 h) (dK.mk b.aR b.aM b.aS b.dh (E2 b.bV.ls) (E2 (s5 bG.abs b.aG.ls)) (E2 b.bD.ls) (E2 (s5 bO.abs b.af.ls)) (C5.wrap (b.eO+1))))) a.bK a.bA a.bz a.bv a.bq a.dP a.dH a.dI a.dG a.dJ)=q:=⟨_,rfl⟩
 obtain⟨kQ,gz,kz,gB,kC⟩:=Jg iO
 refine cl Tryz.call63 (nP _ _ g0 p0 ag ai Z h N (aA.mk a.aa a.bP (E2 (u2 a.ay.ls (D0 h) (dK.mk b.aR b.aM b.aS b.dh (E2 b.bV.ls) (E2 (s5 bG.abs b.aG.ls)) (E2 b.bD.ls) (E2 (s5 bO.abs b.af.ls)) (C5.wrap (b.eO+1))))) a.bK a.bA a.bz a.bv a.bq a.dP a.dH a.dI a.dG a.dJ) T U S Q V W d m (u2 j (D0 h) (bB.mk b.aR b.aM b.aS b.dh b.bV b.aG b.bD b.af (C5.wrap (b.eO+1)))) r s t u z B C E F G I J K L M gy aj gz aT (iW O rfl) av ay az aD aF e8 (by first | assumption | exact Mk.act f5 | exact nJ f8 (o7 (x:=bB.abs b) aI f5) | exact nJ f8 (qN (x:=bB.abs b) aI _) | exact nJ f8 (o7 (x:=bB.abs g) aJ f5) | exact nJ f8 (qN (x:=bB.abs g) aJ _)) e8 eD) ?_
 rintro _ kR ⟨iP,iQ,iR,iT,iU,gD,iV,iX,gF,gG,gH,gI,gJ,gK,gL,gM,gN,gP,gQ,gT,gV,rfl,gW,eF,dI,dJ,dL,dO,dP,dQ⟩
 have bD:=gB _ _ gW
 have iY:=aB eF
 have iZ:=aB dI
 have ja:=aB dJ
 have jc:=aB dL
 have jd:=aB dO
 have jf:=aB dP
 have jg:=aB dQ
 have jh:=zr 1 bD
 have ji:=zr 4 bD
 have jk:=zr 6 bD
 have jl:=zr 8 bD
 have jm:=zr 10 bD
 have jo:=zr 12 bD
 have jq:=zr 14 bD
 refine nt (rt (tR (Fin.res (res0 rfl) ?_)))
 have gX:=bD.pf []
 obtain⟨rfl,rfl⟩:=ic (zj hr (show _=(gy,aA.mk (cZ.mk aj.aa.au aj.aa.av aj.aa.aV aj.aa.aL (E2 a.aa.ag.ls) (E2 a.aa.aj.ls) (E2 a.aa.aF.ls)) aj.bP (E2 aj.ay.ls) aj.bK aj.bA aj.bz aj.bv aj.bq aj.dP aj.dH aj.dI aj.dG aj.dJ) from et (ah bY) (et (ip bv) (et (ah (bJ dE)) (et (ah (bJ dG)) (et (ip ek) (ah eD)))))))
 exact⟨iP,iQ,iR,iT,iU,gD,iV,iX,gF,gG,gH,gI,gJ,gK,gL,gM,gN,gP,gQ,gT,gV,(by first | rfl | (rw [<- dH]; done) | (rw [<- dH]; rfl)),gX,eF,dI,dJ,dL,dO,dP,dQ⟩
 refine jF (dF ek) (sk (Ib ?_))
 have au:a.ay.ls.length=r8 (u2 a.ay.ls (D0 h) (dK.mk b.aR b.aM b.aS b.dh (E2 b.bV.ls) (E2 (s5 bG.abs b.aG.ls)) (E2 b.bD.ls) (E2 (s5 bO.abs b.af.ls)) (C5.wrap (b.eO+1)))):=by first | omega | (simp only [H1]; done) | (simp only [H1,o1,s0,F2,m9,o0,H2]; omega)
 have eG:Own w D eT [row d (r8 (u2 a.ay.ls (D0 h) (dK.mk b.aR b.aM b.aS b.dh (E2 b.bV.ls) (E2 (s5 bG.abs b.aG.ls)) (E2 b.bD.ls) (E2 (s5 bO.abs b.af.ls)) (C5.wrap (b.eO+1))))) m (q3 bB.cells (u2 j (D0 h) (bB.mk b.aR b.aM b.aS b.dh b.bV b.aG b.bD b.af (C5.wrap (b.eO+1))))) 107 9,blk g0 [vP N 0, .slice ag p0.aX.ls.length ai] 98,row ag p0.aX.ls.length ai (q3 bf.cells Z) 42 21,sepL (q3 bf.own Z),blk N [vI a.aa.au,vU a.aa.av,vU a.aa.aV,vU a.aa.aL, .slice T a.aa.ag.ls.length U, .slice S a.aa.aj.ls.length Q, .slice V a.aa.aF.ls.length W,vU a.bP, .slice d (r8 (u2 a.ay.ls (D0 h) (dK.mk b.aR b.aM b.aS b.dh (E2 b.bV.ls) (E2 (s5 bG.abs b.aG.ls)) (E2 b.bD.ls) (E2 (s5 bO.abs b.af.ls)) (C5.wrap (b.eO+1))))) m, .bool a.bK.cO,vU a.bK.aS,vI a.bK.dA, .slice r a.bK.af.ls.length s, .bool a.bA.cO,vU a.bA.aS,vI a.bA.dA, .slice u a.bA.af.ls.length z, .bool a.bz.cO,vU a.bz.aS,vI a.bz.dA, .slice C a.bz.af.ls.length E, .bool a.bv.cO,vU a.bv.aS,vI a.bv.dA, .slice G a.bv.af.ls.length I, .bool a.bq.cO,vU a.bq.aS,vI a.bq.dA, .slice K a.bq.af.ls.length L,vU a.dP,vU a.dH,vU a.dI,vU a.dG,vU a.dJ, .pointer none] 86,sepL (q3 bB.own (u2 j (D0 h) (bB.mk b.aR b.aM b.aS b.dh b.bV b.aG b.bD b.af (C5.wrap (b.eO+1))))),row r a.bK.af.ls.length s (q3 ae.cells t) 149 3,sepL (q3 ae.own t),row u a.bA.af.ls.length z (q3 ae.cells B) 149 3,sepL (q3 ae.own B),row C a.bz.af.ls.length E (q3 ae.cells F) 149 3,sepL (q3 ae.own F),row G a.bv.af.ls.length I (q3 ae.cells J) 149 3,sepL (q3 ae.own J),row K a.bq.af.ls.length L (q3 ae.cells M) 149 3,sepL (q3 ae.own M)]:=by rw [<- au]; exact bA
 refine Mz rfl (Mz rfl ?_)
 refine WL.do rfl (Iz Tryz.call64 rfl ?_ (λ _ _ k=>k))
 refine cb Tryz.func64 ?_
 refine sr (Mz rfl (Kz (.pointer (some ⟨ab d,ao d+(D0 h) *9,none⟩)) (Kz (.pointer (some ⟨ab d,ao d+(D0 h) *9+5,none⟩)) (fw (.slice g.aG.A g.aG.ls.length g.aG.c) (Io rfl (bZ.one Tryz.isAgg103 (((qg au.symm (eG.rds (i:=0) rfl)).elem bB.len P f4).at_ (k:=5) rfl))) (fw (vJ (r8 (s5 bG.abs g.aG.ls))) (Ie (e:=(g.aG.ls.length:Int)) yk j0) (Mn rfl (bo ?_)))))))
 have gY:=eG.pb [2,3]
 obtain⟨gZ,aX⟩:=Au λ (l:Nat) aQ (aR:Nat) aM R w'=>Own w D w' [row d (r8 (u2 a.ay.ls (D0 h) (dK.mk b.aR b.aM b.aS b.dh (E2 b.bV.ls) (E2 (s5 bG.abs b.aG.ls)) (E2 b.bD.ls) (E2 (s5 bO.abs b.af.ls)) (C5.wrap (b.eO+1))))) m (q3 bB.cells (u2 j (D0 h) (bB.mk b.aR b.aM b.aS b.dh b.bV b.aG b.bD b.af (C5.wrap (b.eO+1))))) 107 9,blk g0 [vP N 0, .slice aQ R.length aR] 98,blk N [vI a.aa.au,vU a.aa.av,vU a.aa.aV,vU a.aa.aL, .slice T a.aa.ag.ls.length U, .slice S a.aa.aj.ls.length Q, .slice V a.aa.aF.ls.length W,vU a.bP, .slice d (r8 (u2 a.ay.ls (D0 h) (dK.mk b.aR b.aM b.aS b.dh (E2 b.bV.ls) (E2 (s5 bG.abs b.aG.ls)) (E2 b.bD.ls) (E2 (s5 bO.abs b.af.ls)) (C5.wrap (b.eO+1))))) m, .bool a.bK.cO,vU a.bK.aS,vI a.bK.dA, .slice r a.bK.af.ls.length s, .bool a.bA.cO,vU a.bA.aS,vI a.bA.dA, .slice u a.bA.af.ls.length z, .bool a.bz.cO,vU a.bz.aS,vI a.bz.dA, .slice C a.bz.af.ls.length E, .bool a.bv.cO,vU a.bv.aS,vI a.bv.dA, .slice G a.bv.af.ls.length I, .bool a.bq.cO,vU a.bq.aS,vI a.bq.dA, .slice K a.bq.af.ls.length L,vU a.dP,vU a.dH,vU a.dI,vU a.dG,vU a.dJ, .pointer none] 86,sepL (q3 bB.own (u2 j (D0 h) (bB.mk b.aR b.aM b.aS b.dh b.bV b.aG b.bD b.af (C5.wrap (b.eO+1))))),row r a.bK.af.ls.length s (q3 ae.cells t) 149 3,sepL (q3 ae.own t),row u a.bA.af.ls.length z (q3 ae.cells B) 149 3,sepL (q3 ae.own B),row C a.bz.af.ls.length E (q3 ae.cells F) 149 3,sepL (q3 ae.own F),row G a.bv.af.ls.length I (q3 ae.cells J) 149 3,sepL (q3 ae.own J),row K a.bq.af.ls.length L (q3 ae.cells M) 149 3,sepL (q3 ae.own M),row aQ R.length aR (q3 bf.cells aM) 42 21,sepL (q3 bf.own aM)]/\s5 bf.abs aM=R/\l<=r8 (s5 bG.abs g.aG.ls)/\R.length<=p0.aX.ls.length+l/\R.length<=100000+l/\iw a h (bB.abs b) (bB.abs g) (r8 (s5 bG.abs g.aG.ls)) 0 p0.aX.ls=iw a h (bB.abs b) (bB.abs g) ((r8 (s5 bG.abs g.aG.ls)) - l) l R
 refine Wp.loop (λ i:Nat × (Option Addr) × Nat × (List bf) × (List bL)=> [(11,vJ i.1),(10,vJ (r8 (s5 bG.abs g.aG.ls))),(9, .slice g.aG.A g.aG.ls.length g.aG.c),(0,vP g0 0),(1, .pointer (some ⟨ab d,ao d+(D0 h) *9,none⟩))]) gZ (λ i=>(r8 (s5 bG.abs g.aG.ls)) - i.1) (0,ag,ai,Z,p0.aX.ls) ⟨rfl,rfl,rfl,rfl,rfl,trivial⟩ (aX.2 ⟨gY,by exact aT,e6,e6,e6,rfl⟩) ?_
 rintro ⟨l,aQ,aR,aM,R⟩ kD eU
 obtain⟨aN,aY,jr,jv,jw,bU⟩:=aX.1 eU
 have jy:=aB aY
 refine sr (Kz (.bool (decide ((l:Int) < ((r8 (s5 bG.abs g.aG.ls):Nat):Int)))) (nt (Ic ?_)))
 by_cases eH:(l:Int) < ((r8 (s5 bG.abs g.aG.ls):Nat):Int)
 refine jT (dT eH) (sk (Ic (bo (sr (Mz rfl ?_)))))
 obtain⟨p,aP⟩:=dN (ls:=g.aG.ls) (i:=l) bG.len f4 (show bE _ 3 g.aG.A g.aG.ls.length (q3 bG.cells g.aG.ls) from (aZ aN (i:=3) rfl (ax (Q3.2 ⟨g,D3 P, .tail _ b1⟩) aO))) e9
 have bV:=fF (rfl:s5 bG.abs g.aG.ls=s5 bG.abs g.aG.ls) aP
 have jA:p.aH.ls.length<=p.aH.c/\p.aH.ls.length<=9223372036854775807:=aZ aN (i:=3) rfl (φ:=λ _=>_) (ax (Q3.2 ⟨g,D3 P, .tail _ b4⟩) (ax (Q3.2 ⟨p,D3 aP,b1⟩) aW))
 have jB:p.aJ.ls.length<=p.aJ.c/\p.aJ.ls.length<=9223372036854775807:=aZ aN (i:=3) rfl (φ:=λ _=>_) (ax (Q3.2 ⟨g,D3 P, .tail _ b4⟩) (ax (Q3.2 ⟨p,D3 aP, .tail _ b1⟩) aW))
 have jC:p.aH.ls.length<=24024:=Tok.prt aJ _ (D3 bV)
 refine fw (.pointer (some ⟨ab g.aG.A,ao g.aG.A+l *3,none⟩)) (Ij (um) rfl rfl ((show bE _ 3 g.aG.A g.aG.ls.length (q3 bG.cells g.aG.ls) from (aZ aN (i:=3) rfl (ax (Q3.2 ⟨g,D3 P, .tail _ b1⟩) aO))).addr (i:=l) e6) e6) (fw (.agg (bG.cells p).toArray) (Io rfl (Iy (cs:=(bG.cells p)) Tryz.isAgg172 Tryz.sizeOf172 ((show bE _ 3 g.aG.A g.aG.ls.length (q3 bG.cells g.aG.ls) from (aZ aN (i:=3) rfl (ax (Q3.2 ⟨g,D3 P, .tail _ b1⟩) aO))).elem bG.len aP f4))) ?_)
 refine dV [vI 0, .slice none 0 0, .slice none 0 0] 172 aN ?_
 intro eO kE ib
 refine Az rfl ?_
 refine dS (bG.cells p) 0 ib Tryz.sizeOf172 ?_
 intro kF aS
 refine ns (Mz rfl (Kz (.pointer (some ⟨ab d,ao d+(D0 h) *9,none⟩)) (Kz (.pointer (some ⟨ab d,ao d+(D0 h) *9+6,none⟩)) (fw (.slice g.bD.A g.bD.ls.length g.bD.c) (Io rfl (bZ.one Tryz.isAgg104 (((qg au.symm (aS.rds (i:=1) rfl)).elem bB.len P f4).at_ (k:=6) rfl))) (Mz rfl ?_)))))
 obtain⟨dR,bX⟩:=dN (ls:=g.bD.ls) (i:=l) pq f4 (aZ aS (i:=4) rfl (ax (Q3.2 ⟨g,D3 P, .tail _ b2⟩) aO)) e9
 refine fw (.pointer (some ⟨ab g.bD.A,ao g.bD.A+l *1,none⟩)) (Ij (yc) rfl rfl ((aZ aS (i:=4) rfl (ax (Q3.2 ⟨g,D3 P, .tail _ b2⟩) aO)).addr (i:=l) e6) e6) (fw (.bool dR) (Io rfl (bZ.one Tryz.isAgg4 (((aZ aS (i:=4) rfl (ax (Q3.2 ⟨g,D3 P, .tail _ b2⟩) aO)).elem pq bX f4).at_ (k:=0) rfl))) (Kz (.bool (!dR)) (nt ?_)))
 rcases Li (dR) with bF | bF
 refine jF (cn bF) (IE (bN (Ig (Ib (fw (vJ (l+1)) (Ie (e:=C5.wrap ((l:Int)+1)) yk f0) (Mz rfl (WL.nil ?_)))))))
 have ig:=aS.px [] [0] []
 exact Ir (l+1,aQ,aR,aM,R) ⟨rfl,rfl,rfl,rfl,rfl,trivial⟩ (aX.2 ⟨ig,by exact aY,e6,e6,e6,et (bU) (et (congrArg (λ q=>iw a h (bB.abs b) (bB.abs g) q l R) (rY (n:=r8 (s5 bG.abs g.aG.ls)) (i:=l) e6)) (et (ah (bJ bV)) (et (ah (bJ bX)) (ip bF))))⟩) (by show (r8 (s5 bG.abs g.aG.ls)) - (l+1) < (r8 (s5 bG.abs g.aG.ls)) - l; omega)
 refine jT (cn bF) ?_
 refine pU 17 [19] (bQ.block (Iu (Iu (bQ.block IC)))) aS ?_
 intro kG ik
 refine qv 0 rfl rfl (qp eO 0 1 rfl (ql 2 rfl 0 C4 rfl rfl rfl (qv 3 rfl rfl (qk (.pointer (some ⟨ab d,ao d+(D0 h) *9,none⟩)) 4 rfl (qk (.pointer (some ⟨ab d,ao d+(D0 h) *9,none⟩)) 5 rfl (qt (v:=vU g.aR) 6 rfl (λ _ ⟨_,H9⟩=>Io rfl (bZ.one Tryz.isAgg28 (((qg au.symm (H9.rds (i:=1) rfl)).elem bB.len P f4).at_ (k:=0) rfl))) (qv 7 rfl rfl (qp g0 0 8 rfl (qp g0 0 9 rfl (ql 10 rfl 2 P3 rfl rfl rfl (qv 12 rfl rfl (qk (.pointer (some ⟨ab d,ao d+(D0 h) *9,none⟩)) 13 rfl (qk (.pointer (some ⟨ab d,ao d+(D0 h) *9+3,none⟩)) 14 rfl (qt (v:=vU g.dh) 15 rfl (λ _ ⟨_,H9⟩=>Io rfl (bZ.one Tryz.isAgg28 (((qg au.symm (H9.rds (i:=1) rfl)).elem bB.len P f4).at_ (k:=3) rfl))) (qp eO 1 16 rfl (ql 17 rfl 0 Tryz.isAgg39 rfl rfl rfl ?_))))))))))))))))
 have ak:=ik.pf [3]
 have jE:=zr 2 ak
 obtain⟨cu,dU⟩:∃ q,il (aA.mk a.aa a.bP (E2 (u2 a.ay.ls (D0 h) (dK.mk b.aR b.aM b.aS b.dh (E2 b.bV.ls) (E2 (s5 bG.abs b.aG.ls)) (E2 b.bD.ls) (E2 (s5 bO.abs b.af.ls)) (C5.wrap (b.eO+1))))) a.bK a.bA a.bz a.bv a.bq a.dP a.dH a.dI a.dG a.dJ)=q:=⟨_,rfl⟩
 obtain⟨kH,eX,dW,eY,Y⟩:=II ak
 refine qd 11 rfl (Iz Tryz.call108 rfl (o9 _ _ N (aA.mk a.aa a.bP (E2 (u2 a.ay.ls (D0 h) (dK.mk b.aR b.aM b.aS b.dh (E2 b.bV.ls) (E2 (s5 bG.abs b.aG.ls)) (E2 b.bD.ls) (E2 (s5 bO.abs b.af.ls)) (C5.wrap (b.eO+1))))) a.bK a.bA a.bz a.bv a.bq a.dP a.dH a.dI a.dG a.dJ) T U S Q aK V W d m (u2 j (D0 h) (bB.mk b.aR b.aM b.aS b.dh b.bV b.aG b.bD b.af (C5.wrap (b.eO+1)))) r s u z C E G I K L cu eX bn (dW _ cz) e6 (λ x9 h9=>⟨dW _ (bq x9 h9).1,(bq x9 h9).2⟩) (iW O rfl) (Y _ 1 _ rfl aO) e6 (λ x9 h9=>⟨Y _ 3 _ rfl (ax (Q3.2 ⟨x9,h9,b1⟩) aO),aZ (φ:=λ _=>_) ak (i:=4) rfl (ax (Q3.2 ⟨x9,h9,b1⟩) aW),Y _ 3 _ rfl (ax (Q3.2 ⟨x9,h9, .tail _ b1⟩) aO),aZ (φ:=λ _=>_) ak (i:=4) rfl (ax (Q3.2 ⟨x9,h9, .tail _ b1⟩) aW),(λ y1 k1=>⟨Y _ 3 _ rfl (ax (Q3.2 ⟨x9,h9, .tail _ b4⟩) (ax (Q3.2 ⟨y1,k1,b1⟩) aO)),aZ (φ:=λ _=>_) ak (i:=4) rfl (ax (Q3.2 ⟨x9,h9, .tail _ b4⟩) (ax (Q3.2 ⟨y1,k1,b1⟩) aW)),Y _ 3 _ rfl (ax (Q3.2 ⟨x9,h9, .tail _ b4⟩) (ax (Q3.2 ⟨y1,k1, .tail _ b1⟩) aO)),aZ (φ:=λ _=>_) ak (i:=4) rfl (ax (Q3.2 ⟨x9,h9, .tail _ b4⟩) (ax (Q3.2 ⟨y1,k1, .tail _ b1⟩) aW))⟩),Y _ 3 _ rfl (ax (Q3.2 ⟨x9,h9, .tail _ b2⟩) aO),aZ (φ:=λ _=>_) ak (i:=4) rfl (ax (Q3.2 ⟨x9,h9, .tail _ b2⟩) aW),Y _ 3 _ rfl (ax (Q3.2 ⟨x9,h9, .tail _ b3⟩) aO),aZ (φ:=λ _=>_) ak (i:=4) rfl (ax (Q3.2 ⟨x9,h9, .tail _ b3⟩) aW),(λ y1 k1=>⟨Y _ 3 _ rfl (ax (Q3.2 ⟨x9,h9, .tail _ b5⟩) (ax (Q3.2 ⟨y1,k1,b1⟩) aO)),aZ (φ:=λ _=>_) ak (i:=4) rfl (ax (Q3.2 ⟨x9,h9, .tail _ b5⟩) (ax (Q3.2 ⟨y1,k1,b1⟩) aW)),(λ y2 k2=>⟨Y _ 3 _ rfl (ax (Q3.2 ⟨x9,h9, .tail _ b5⟩) (ax (Q3.2 ⟨y1,k1, .tail _ b1⟩) (ax (Q3.2 ⟨y2,k2,b1⟩) aO))),aZ (φ:=λ _=>_) ak (i:=4) rfl (ax (Q3.2 ⟨x9,h9, .tail _ b5⟩) (ax (Q3.2 ⟨y1,k1, .tail _ b1⟩) (ax (Q3.2 ⟨y2,k2,b1⟩) aW)))⟩)⟩)⟩) e8 dU) ?_)
 rintro _ kI ⟨rfl,eZ⟩
 have iq:=eY _ _ eZ
 have eP:=iq.pf [1,2,3]
 refine⟨.inr ⟨_,eP⟩, ?_⟩
 refine qk (.agg (gU 3 0 p.eG 0 0 0 0 0 g.aR cu 0 g.dh 0 0 0 false [] [] p.aH.A p.aH.ls.length p.aH.c none 0 0 none 0 0).toArray) 18 rfl ?_
 have iy:=eP.pf [2,15,16]
 obtain⟨dX,dY⟩:∃ q,dw (bI.mk (E2 R)) (bL.mk 3 0 p.eG 0 0 0 0 0 g.aR cu 0 g.dh 0 0 0 false (bC.mk [] []) (E2 p.aH.ls) (E2 []) (E2 []))=q:=⟨_,rfl⟩
 obtain⟨kJ,fe,jG,fo,fu⟩:=IU iy
 refine qd 19 rfl (Iz Tryz.call65 rfl (gp _ _ g0 (bI.mk (E2 R)) aQ aR aM N (bL.mk 3 0 p.eG 0 0 0 0 0 g.aR cu 0 g.dh 0 0 0 false (bC.mk [] []) (E2 p.aH.ls) (E2 []) (E2 [])) p.aH.A p.aH.ls.length p.aH.c none 0 0 [] none 0 0 dX fe aY rfl (fu _ 3 _ rfl (ax (Q3.2 ⟨g,D3 P, .tail _ b4⟩) (ax (Q3.2 ⟨p,D3 aP,b1⟩) aO))) e6 rfl rfl (λ _ _=>bE.nil _ _ _) f2 (λ _ h9=>absurd h9 y6) rfl (λ _ _=>bE.nil _ _ _) f2 e8 (by first | assumption | exact dM f5 | exact λ x hx=>absurd hx y6 | exact dM (Mk.mU f5).1 | exact dM (Mk.lT f5).1 | exact dM (Mk.nu f5).1 | exact dM (Mk.ny f5).1 | exact dM (Mk.nz f5).1) dY) ?_)
 rintro _ kK ⟨iA,iB,iC,rfl,fA,dZ,ed⟩
 have eQ:=fo _ _ fA
 have jH:=aB dZ
 have jI:=zr 1 eQ
 replace ed:dX.aX.ls.length=R.length+1:=ed
 refine⟨.inl e7, ?_⟩
 refine qn (bN (Ig (Ib (fw (vJ (l+1)) (Ie (e:=C5.wrap ((l:Int)+1)) yk f0) (Mz rfl (WL.nil ?_))))))
 have iD:=eQ.px [4] [3] [1,2]
 exact Ir (l+1,iA,iB,iC,dX.aX.ls) ⟨rfl,rfl,rfl,rfl,rfl,trivial⟩ (aX.2 ⟨iD,by exact dZ,e6,e6,e6,et (bU) (et (congrArg (λ q=>iw a h (bB.abs b) (bB.abs g) q l R) (rY (n:=r8 (s5 bG.abs g.aG.ls)) (i:=l) e6)) (et (ah (bJ bV)) (et (ah (bJ bX)) (et (gm bF) (et (ah dU) (ah dY))))))⟩) (by show (r8 (s5 bG.abs g.aG.ls)) - (l+1) < (r8 (s5 bG.abs g.aG.ls)) - l; omega)
 refine jF (dF eH) (Wp.exit (Il ?_))
 have fB:iw a h (bB.abs b) (bB.abs g) (r8 (s5 bG.abs g.aG.ls)) 0 p0.aX.ls=R:=et (bU) (et (congrArg (λ q=>iw a h (bB.abs b) (bB.abs g) q l R) (wT (n:=r8 (s5 bG.abs g.aG.ls)) (i:=l) e6)) rfl)
 refine Il (IB (IA (res0 rfl) (WL.nil (IA (res0 rfl) ?_))))
 have iE:=aN.pf [1,14,15,2]
 obtain⟨rfl,rfl⟩:=ic (zj hr (show _=(bI.mk (E2 R),aA.mk a.aa a.bP (E2 (u2 a.ay.ls (D0 h) (dK.mk b.aR b.aM b.aS b.dh (E2 b.bV.ls) (E2 (s5 bG.abs b.aG.ls)) (E2 b.bD.ls) (E2 (s5 bO.abs b.af.ls)) (C5.wrap (b.eO+1))))) a.bK a.bA a.bz a.bv a.bq a.dP a.dH a.dI a.dG a.dJ) from et (ah bY) (et (ip bv) (et (ah (bJ dE)) (et (ah (bJ dG)) (et (iN ek) (ah fB)))))))
 exact⟨aQ,aR,aM,d,m,(u2 j (D0 h) (bB.mk b.aR b.aM b.aS b.dh b.bV b.aG b.bD b.af (C5.wrap (b.eO+1)))),r,s,t,u,z,B,C,E,F,G,I,J,K,L,M,(by first | rfl | (rw [<- au]; done) | (rw [<- au]; rfl)),iE,aY,(iW O rfl),av,ay,az,aD,aF⟩
 have h34t:Bool.toNat bu=0:=by rw [bv]; rfl
 refine jT (cn bv) (rt (tR (Fin.res (res0 rfl) ?_)))
 have iF:=aL.pf []
 obtain⟨rfl,rfl⟩:=ic (zj hr zq2)
 exact⟨ag,ai,Z,d,m,j,r,s,t,u,z,B,C,E,F,G,I,J,K,L,M,rfl,iF,aT,O,av,ay,az,aD,aF⟩
end
end Go.Proofs.YtbkagebjhbphaaaGreat
