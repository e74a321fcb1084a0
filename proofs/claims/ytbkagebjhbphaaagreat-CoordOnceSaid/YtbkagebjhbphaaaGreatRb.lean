/-
 record: what is written.
-/
import Derived.Test.YtbkagebjhbphaaaGreatCoM
namespace Go.Proofs.YtbkagebjhbphaaaGreat
open Int renaming toNat→D0
open IntKind renaming i64→C5,u64→D1,u8→O5
open List renaming drop→r3,flatMap→q3,flatMap_append→r4,length→r8,length_append→o1,length_cons→s0,length_map→s3,length_nil→F2,mem_of_getElem?→D3,toArray→v9
open Ll renaming mk→E2
open _root_.Go.Proofs.Tryz renaming call119→O6,call77→O7,call79→O9,func77→O8,isAgg153→I0,isAgg28→D4,isAgg3→C4,isAgg9→C2,prog→v8,sizeOf149→E6,sizeOf153→I2,underlying134→O4
open WL renaming nil→C6
open Wp renaming exit→C7,loop→C3
set_option maxRecDepth 100000
open Go.RowKit
set_option linter.unusedVariables false
set_option linter.unusedSectionVars false
set_option linter.unusedSimpArgs false
def nK:Nat→Nat→List UInt8→Nat × (List UInt8)
  | 0,a,b=>default
  | c+1,a,b=>if((a:Nat):Int) ≥ 128 then nK c (a / 128) (b++ [((UInt8.ofNat a) ||| (128:UInt8))]) else(a,b)
def sj (a:Nat):(List UInt8):=
 bnd (nK (a+1) a ([])) fun sLrL=>(sLrL.2++ [(UInt8.ofNat sLrL.1)])
theorem wG (w D c j) (H:Own w D w []) (t:c≤18446744073709551615) (hr:sj c=j):
    Calls v8 117 #[vU c] w (d9 fun v w'=> ∃ U V,v= .slice U j.length V∧Own w D w' [row U j.length V (q3 eB j) 5 1]∧(1≤j.length∧j.length≤10)∧(c ≥ 128∨j.length=1)):=by
 refine cb Tryz.func117 ?_
 refine sr (Ar rfl ?_)
 refine WL.do rfl (KI (m:=10) (size:=1) (bytes:=1) (z:= .int .u8 0) O4 e7 H rfl rfl e6 (by unfold maxLen; omega) ?_)
 intro F af G
 refine An rfl (Ic (bo ?_))
 have I:=G.pf []
 obtain⟨J,d⟩:=Au fun (a:Nat) l (n:Nat) b (f:Nat) w'=>Own w D w' [row l b.length n (q3 eB b) 5 1]∧lY b.length a∧b.length≤9∧(c ≥ 128∨(b.length=0∧a=c))∧a < f∧nK (c+1) c ([])=nK f a b
 refine C3 (fun i:Nat × (Option Addr) × Nat × (List UInt8) × Nat=> [(0,vU i.1),(3, .slice i.2.1 i.2.2.2.1.length i.2.2.1),(2, .slice none 0 0)]) J (fun i=>i.2.2.2.2) (c,F,10, [],c+1) ⟨rfl,rfl,rfl,trivial⟩ (d.2 ⟨I,(show lY (0) c∧0≤9∧(c ≥ 128∨(0=0∧c=c))∧c < (c+1)∧nK (c+1) c ([])=nK (c+1) c ([]) from ⟨by first | exact lY.zero t | exact lY.step f5 j2,by first | exact Lg _ | (have q9:=lY.le f5 e6; simp only [o1,s0,F2]; omega),e6,e6,rfl⟩)⟩) ?_
 rintro ⟨a,l,n,b,f⟩ ai u
 obtain⟨x,W,X,Y,Z,h⟩:=d.1 u
 obtain⟨o,A⟩:∃ q,f=q+1:=⟨f - 1,e6⟩
 subst A
 refine Ic (sr (Mz rfl (Kz (.bool (decide (((a:Nat):Int) ≥ 128))) (nt ?_))))
 by_cases g:((a:Nat):Int) ≥ 128
 refine jT (dT g) (sk (bo (sr (Mz rfl (Mz rfl (fw (.int .u8 (((UInt8.ofNat a).toNat:Nat):Int)) (Ie (e:=O5.wrap ((a:Nat):Int)) yk (yO _)) (fw (.int .u8 ((((UInt8.ofNat a) ||| (128:UInt8)).toNat:Nat):Int)) (Ie (e:=O5.wrap (((BitVec.ofInt 8 (((UInt8.ofNat a).toNat:Nat):Int) ||| BitVec.ofInt 8 128).toNat:Nat):Int)) yk (u8_or (UInt8.ofNat a) (128:UInt8))) ?_)))))))
 refine lg [.int .u8 ((((UInt8.ofNat a) ||| (128:UInt8)).toNat:Nat):Int)] 5 1 1 x ?_
 intro K aj p
 replace p:=IL (y:=row K 1 1 (q3 eB ([((UInt8.ofNat a) ||| (128:UInt8))])) 5 1) rfl p
 have B:=p.pb [0]
 refine WL.do rfl (IM (k:=b.length) (m:=1) (yf) B rfl rfl (jv O4 (B.rds (i:=1) rfl) (fU xX ([((UInt8.ofNat a) ||| (128:UInt8))]))) rfl e6 (s:=r8 (b++ [((UInt8.ofNat a) ||| (128:UInt8))])) f7 (r4).symm ?_)
 intro L M ak N
 have aa:r8 (b++ [((UInt8.ofNat a) ||| (128:UInt8))])=b.length+1:=by simp only [o1,s0,F2]
 refine An rfl (Ib (Mz rfl (fw (vU (a / 128)) (Ie (e:=Int.fdiv ((a:Nat):Int) 128) yk (nV _ 7 _ f4)) (Az rfl (C6 (bN ?_))))))
 have O:=N.pk [0]
 exact Ir (a / 128,L,M,(b++ [((UInt8.ofNat a) ||| (128:UInt8))]),o) ⟨rfl,rfl,rfl,trivial⟩ (d.2 ⟨O,by first | exact lY.zero t | exact lY.step f5 j2,by first | exact Lg _ | (have q9:=lY.le f5 e6; simp only [o1,s0,F2]; omega),e6,e6,Eq.trans (h) (if_pos g)⟩) (by show o < o+1; omega)
 refine jF (dF g) (C7 (Il ?_))
 have C:nK (c+1) c ([])=(a,b):=et (h) (iN g)
 refine Il (IB (Ig (sr (Mz rfl (Mz rfl (fw (.int .u8 (((UInt8.ofNat a).toNat:Nat):Int)) (Ie (e:=O5.wrap ((a:Nat):Int)) yk (yO _)) ?_))))))
 refine lg [.int .u8 (((UInt8.ofNat a).toNat:Nat):Int)] 5 1 1 x ?_
 intro P au r
 replace r:=IL (y:=row P 1 1 (q3 eB ([(UInt8.ofNat a)])) 5 1) rfl r
 have E:=r.pb [0]
 refine WL.do rfl (IM (k:=b.length) (m:=1) (yf) E rfl rfl (jv O4 (E.rds (i:=1) rfl) (fU xX ([(UInt8.ofNat a)]))) rfl e6 (s:=r8 (b++ [(UInt8.ofNat a)])) f7 (r4).symm ?_)
 intro Q R av S
 have ae:r8 (b++ [(UInt8.ofNat a)])=b.length+1:=by simp only [o1,s0,F2]
 refine An rfl (rt (rs ?_))
 have T:=S.pk [0]
 obtain rfl:_=(b++ [(UInt8.ofNat a)]):=hr.symm.trans (ah C)
 exact⟨Q,R,rfl,T,g1,g1⟩
def vw (b:List UInt8):(List UInt8):=
 bnd (sj b.length) fun a=>(a++b)
theorem zM (w D b g) (H:Own w D w []) (C:b.length≤140737488351232) (hr:vw b=g):
    Calls v8 141 #[.string ⟨v9 b⟩] w (d9 fun v w'=> ∃ u x,v= .slice u g.length x∧Own w D w' [row u g.length x (q3 eB g) 5 1]∧(g.length≤b.length+10)∧(b.length ≥ 128∨g.length=b.length+1)):=by
 refine cb Tryz.func141 ?_
 refine sr (Ar rfl (Mz rfl (Kz (vJ b.length) (fw (vU b.length) (Ie (e:=D1.wrap ((b.length:Nat):Int)) yk (IntWalk.u64_in _ e6)) ?_))))
 obtain⟨a,c⟩:∃ q,sj b.length=q:=⟨_,rfl⟩
 obtain⟨E,h,y,j,z⟩:=Ii H
 refine cl Tryz.call117 (wG _ _ b.length a h e6 c) ?_
 rintro _ F ⟨G,I,rfl,l,d,f⟩
 have n:=j _ _ l
 have A:=n.rowC (i:=0) rfl
 replace d:1≤a.length∧a.length≤10:=d
 replace f:b.length ≥ 128∨a.length=1:=f
 refine Mz rfl ?_
 refine WL.do rfl (IM (k:=a.length) (m:=b.length) (yf) n rfl rfl (ER Tryz.underlying9 rfl) rfl e6 (s:=r8 (a++b)) f7 (r4).symm ?_)
 intro o p J r
 have B:r8 (a++b)=a.length+b.length:=by simp only [o1,s0,F2]
 refine An rfl (rt (rs ?_))
 have t:=r.pf []
 obtain rfl:_=(a++b):=hr.symm.trans (ah c)
 exact⟨o,p,rfl,t,g1,g1⟩
def bX (b:dR) (c:Nat):dR:=
 bnd (sj c) fun a=>dR.mk (E2 (b.xb.ls++a))
theorem dX (w D g) (b:dR) (c d p) (r:dR) (H:Own w D w [blk g [.slice c b.xb.ls.length d] 159,row c b.xb.ls.length d (q3 eB b.xb.ls) 5 1]) (O:b.xb.ls.length≤9000000000∧p≤18446744073709551615) (hr:bX b p=r):
    Calls v8 79 #[vP g 0,vU p] w (d9 fun v w'=> ∃ e f,v= .tuple #[]∧Own w D w' [blk g [.slice e r.xb.ls.length f] 159,row e r.xb.ls.length f (q3 eB r.xb.ls) 5 1]∧(r.xb.ls.length≤b.xb.ls.length+10)):=by
 have E:=H.rowC (i:=1) rfl
 refine cb Tryz.func79 ?_
 have h:=H.drew
 refine Ji [7,10] (fun W=> ∃ L',Own w D W ([blk g [.slice c b.xb.ls.length d] 159,row c b.xb.ls.length d (q3 eB b.xb.ls) 5 1]++L')) e7 e7 IC ⟨_,h⟩ ?_
 revert h
 generalize World.drew w=P
 intro h
 refine IP (v:=vP g 0) 0 rfl e7 (fun _=>Iq rfl) (qv 1 rfl rfl (qp g 0 2 rfl (qp g 0 3 rfl (ql 4 rfl 0 Tryz.isAgg134 rfl rfl rfl (qv 5 rfl rfl ?_)))))
 obtain⟨a,j⟩:∃ q,sj p=q:=⟨_,rfl⟩
 obtain⟨Q,t,K,u,L⟩:=Ii h
 refine qd 6 rfl (Iz Tryz.call117 rfl (wG _ _ p a t e6 j) ?_)
 rintro _ R ⟨S,T,rfl,x,l,n⟩
 have y:=u _ _ x
 have M:=y.rowC (i:=0) rfl
 replace l:1≤a.length∧a.length≤10:=l
 replace n:p ≥ 128∨a.length=1:=n
 have z:=y.pb [0]
 refine⟨.inr ⟨_,z⟩, ?_⟩
 have A:=z.pf [1]
 refine qd 7 rfl (IM (k:=b.xb.ls.length) (m:=a.length) (yf) A rfl rfl (jv O4 (A.rds (i:=2) rfl) (fU xX a)) rfl e6 (s:=r8 (b.xb.ls++a)) f7 (r4).symm ?_)
 intro B C U F
 have N:r8 (b.xb.ls++a)=b.xb.ls.length+a.length:=by simp only [o1,s0,F2]
 refine⟨.inl e7, ?_⟩
 refine IP (v:=vP g 0) 8 rfl e7 (fun _=>yk) (IP (v:=vP g 0) 9 rfl e7 (fun _=>yk) ?_)
 have G:=F.pf [1]
 refine qe 10 rfl (Do.store (vs:= [.slice B (r8 (b.xb.ls++a)) C]) (o:=0) G rfl rfl Tryz.sizeOf134 rfl rfl rfl rfl ?_)
 intro V I
 refine⟨.inl e7, ?_⟩
 refine qn (IA (res0 rfl) ?_)
 have J:=I.pk [0,1]
 obtain rfl:_=dR.mk (E2 (b.xb.ls++a)):=hr.symm.trans (ah j)
 exact⟨B,C,rfl,J,g1⟩
def iY (b:dR) (c:List UInt8):dR:=
 bnd (vw c) fun a=>dR.mk (E2 (b.xb.ls++a))
theorem lG (w D g) (b:dR) (c d j) (r:dR) (H:Own w D w [blk g [.slice c b.xb.ls.length d] 159,row c b.xb.ls.length d (q3 eB b.xb.ls) 5 1]) (O:b.xb.ls.length≤9000000000∧j.length≤16) (hr:iY b j=r):
    Calls v8 119 #[vP g 0, .string ⟨v9 j⟩] w (d9 fun v w'=> ∃ e f,v= .tuple #[]∧Own w D w' [blk g [.slice e r.xb.ls.length f] 159,row e r.xb.ls.length f (q3 eB r.xb.ls) 5 1]∧(r.xb.ls.length≤b.xb.ls.length+26)):=by
 have E:=H.rowC (i:=1) rfl
 refine cb Tryz.func119 ?_
 have h:=H.drew
 refine Ji [7,10] (fun W=> ∃ L',Own w D W ([blk g [.slice c b.xb.ls.length d] 159,row c b.xb.ls.length d (q3 eB b.xb.ls) 5 1]++L')) e7 e7 IC ⟨_,h⟩ ?_
 revert h
 generalize World.drew w=P
 intro h
 refine IP (v:=vP g 0) 0 rfl e7 (fun _=>Iq rfl) (qv 1 rfl rfl (qp g 0 2 rfl (qp g 0 3 rfl (ql 4 rfl 0 Tryz.isAgg134 rfl rfl rfl (qv 5 rfl rfl ?_)))))
 obtain⟨a,l⟩:∃ q,vw j=q:=⟨_,rfl⟩
 obtain⟨Q,t,K,u,L⟩:=Ii h
 refine qd 6 rfl (Iz Tryz.call141 rfl (zM _ _ j a t e6 l) ?_)
 rintro _ R ⟨S,T,rfl,x,n,p⟩
 have y:=u _ _ x
 have M:=y.rowC (i:=0) rfl
 replace n:a.length≤j.length+10:=n
 replace p:j.length ≥ 128∨a.length=j.length+1:=p
 have z:=y.pb [0]
 refine⟨.inr ⟨_,z⟩, ?_⟩
 have A:=z.pf [1]
 refine qd 7 rfl (IM (k:=b.xb.ls.length) (m:=a.length) (yf) A rfl rfl (jv O4 (A.rds (i:=2) rfl) (fU xX a)) rfl e6 (s:=r8 (b.xb.ls++a)) f7 (r4).symm ?_)
 intro B C U F
 have N:r8 (b.xb.ls++a)=b.xb.ls.length+a.length:=by simp only [o1,s0,F2]
 refine⟨.inl e7, ?_⟩
 refine IP (v:=vP g 0) 8 rfl e7 (fun _=>yk) (IP (v:=vP g 0) 9 rfl e7 (fun _=>yk) ?_)
 have G:=F.pf [1]
 refine qe 10 rfl (Do.store (vs:= [.slice B (r8 (b.xb.ls++a)) C]) (o:=0) G rfl rfl Tryz.sizeOf134 rfl rfl rfl rfl ?_)
 intro V I
 refine⟨.inl e7, ?_⟩
 refine qn (IA (res0 rfl) ?_)
 have J:=I.pk [0,1]
 obtain rfl:_=dR.mk (E2 (b.xb.ls++a)):=hr.symm.trans (ah l)
 exact⟨B,C,rfl,J,g1⟩
def pK (d:dR) (c:aY):dR:=
 bnd (iY d c.bF) fun a=>bnd (bX a (D0 (D1.wrap c.eG))) fun b=>b
set_option maxHeartbeats 1000000 in
theorem uz (w D r) (h:dR) (b c) (a:aY) (s:dR) (H:Own w D w [blk r [.slice b h.xb.ls.length c] 159,row b h.xb.ls.length c (q3 eB h.xb.ls) 5 1]) (U:h.xb.ls.length≤8000000000) (V:(a.bF.length≤12)) (hr:pK h a=s):
    Calls v8 81 #[vP r 0, .agg (aY.cells a).toArray] w (d9 fun v w'=> ∃ d f,v= .tuple #[]∧Own w D w' [blk r [.slice d s.xb.ls.length f] 159,row d s.xb.ls.length f (q3 eB s.xb.ls) 5 1]∧(s.xb.ls.length≤h.xb.ls.length+40)):=by
 have F:=H.rowC (i:=1) rfl
 refine cb Tryz.func81 ?_
 refine sr ?_
 refine dV (aY.cells a) 89 H ?_
 intro t W u
 refine ns (Mz rfl (Kz (vP t 0) (Lz (.string ⟨v9 a.bF⟩) u 0 C2 ?_)))
 have G:=u.pb [0]
 obtain⟨g,j⟩:∃ q,iY h a.bF=q:=⟨_,rfl⟩
 obtain⟨X,x,N,y,O⟩:=IJ G
 refine cl O6 (lG _ _ r h b c a.bF g x f6 j) ?_
 rintro _ Y ⟨I,J,rfl,z,l⟩
 have o:=y _ _ z
 have P:=o.rowC (i:=1) rfl
 replace l:g.xb.ls.length≤h.xb.ls.length+26:=l
 refine nt (Ib (Mz rfl (Kz (vP t 1) (Lz (vI a.eG) o 2 C4 ?_))))
 refine WL.do rfl (Iz O7 rfl ?_ (fun _ _ k=>k))
 refine cb O8 ?_
 refine Ib (Mz rfl (Mz rfl ?_))
 have Q:D0 (D1.wrap a.eG)≤18446744073709551615:=mh _
 refine fw (vU (D0 (D1.wrap a.eG))) (Ie (e:=D1.wrap a.eG) yk (fD _)) ?_
 obtain⟨p,m⟩:∃ q,bX g (D0 (D1.wrap a.eG))=q:=⟨_,rfl⟩
 obtain⟨Z,A,R,B,S⟩:=IJ o
 refine cl O9 (dX _ _ r g I J (D0 (D1.wrap a.eG)) p A f6 m) ?_
 rintro _ aa ⟨K,L,rfl,C,n⟩
 have E:=B _ _ C
 have T:=E.rowC (i:=1) rfl
 replace n:p.xb.ls.length≤g.xb.ls.length+10:=n
 refine C6 (IA (res0 rfl) (C6 (IA (res0 rfl) ?_)))
 have M:=E.pk [0,1]
 obtain rfl:_=p:=hr.symm.trans (et (ah j) (ah m))
 exact⟨K,L,rfl,M,g1⟩
def mi (d:dR) (c:aI):dR:=
 bnd (iY d c.bY) fun a=>bnd (iY a c.aT) fun b=>b
set_option maxHeartbeats 1000000 in
theorem qO (w D m) (j:dR) (c d) (a:aI) (u:dR) (H:Own w D w [blk m [.slice c j.xb.ls.length d] 159,row c j.xb.ls.length d (q3 eB j.xb.ls) 5 1]) (X:j.xb.ls.length≤8000000000) (Y:(a.bY.length≤12∧a.aT.length≤16)) (hr:mi j a=u):
    Calls v8 145 #[vP m 0, .agg (aI.cells a).toArray] w (d9 fun v w'=> ∃ e f,v= .tuple #[]∧Own w D w' [blk m [.slice e u.xb.ls.length f] 159,row e u.xb.ls.length f (q3 eB u.xb.ls) 5 1]∧(u.xb.ls.length≤j.xb.ls.length+60)):=by
 have K:=H.rowC (i:=1) rfl
 refine cb Tryz.func145 ?_
 refine sr ?_
 refine dV (aI.cells a) 153 H ?_
 intro x Z s
 refine nt (Ib (Mz rfl (Kz (.func (.func 119) #[vP m 0] #[]) (Kz (vP x 0) (Lz (.string ⟨v9 a.bY⟩) s 0 C2 (Kz (vP x 1) (Lz (.string ⟨v9 a.aT⟩) s 0 C2 ?_)))))))
 refine lg [.string ⟨v9 a.bY⟩, .string ⟨v9 a.aT⟩] 9 1 2 s ?_
 intro b aa g
 replace g:=IL (y:=row b 2 2 (q3 eS ([a.bY,a.aT])) 9 1) rfl g
 refine WL.do rfl (Iz Tryz.call161 rfl ?_ (fun _ _ k=>k))
 refine cb Tryz.func161 ?_
 refine sr (Mz rfl (Kz (vI 2) (Mn rfl (bo (Jw 200 (sr (Kz (.bool true) (nt (Ic (jt (sk (Ic (bo (sr ?_))))))))))))))
 have z:([a.bY,a.aT]:List (List UInt8))[0]? =some a.bY:=rfl
 refine fw (.pointer (some ⟨ab b,ao b+0 *1,none⟩)) (Ij (Ew) rfl rfl ((g.rds (i:=0) rfl).addr (i:=0) e6) e6) (fw (.string ⟨v9 a.bY⟩) (Io rfl (bZ.one C2 (((g.rds (i:=0) rfl).elem Ac z f4).at_ (k:=0) rfl))) (An rfl (Ib (Mz rfl (Mz rfl ?_)))))
 have L:=g.pb [0,1]
 obtain⟨h,n⟩:∃ q,iY j a.bY=q:=⟨_,rfl⟩
 obtain⟨ae,A,R,B,S⟩:=IJ L
 refine WL.do rfl (IK O6 rfl rfl (lG _ _ m j c d a.bY h A f6 n) ?_)
 rintro _ af ⟨M,N,rfl,C,o⟩
 have l:=B _ _ C
 have T:=l.rowC (i:=1) rfl
 replace o:h.xb.ls.length≤j.xb.ls.length+26:=o
 refine C6 (bN (Ig (Ib (Kz (vI 1) (Mz rfl (C6 (I8 [(8,vI 1),(7,vI 2),(6, .slice b 2 2),(0, .func (.func 119) #[vP m 0] #[])] ⟨rfl,rfl,rfl,rfl,trivial⟩ (sr (Kz (.bool true) (nt (Ic (jt (sk (Ic (bo (sr ?_))))))))))))))))
 have E:([a.bY,a.aT]:List (List UInt8))[1]? =some a.aT:=rfl
 refine fw (.pointer (some ⟨ab b,ao b+1 *1,none⟩)) (Ij (Ew) rfl rfl ((l.rds (i:=2) rfl).addr (i:=1) e6) e6) (fw (.string ⟨v9 a.aT⟩) (Io rfl (bZ.one C2 (((l.rds (i:=2) rfl).elem Ac E f4).at_ (k:=0) rfl))) (An rfl (Ib (Mz rfl (Mz rfl ?_)))))
 obtain⟨t,p⟩:∃ q,iY h a.aT=q:=⟨_,rfl⟩
 obtain⟨ag,F,U,G,V⟩:=IJ l
 refine WL.do rfl (IK O6 rfl rfl (lG _ _ m h M N a.aT t F f6 p) ?_)
 rintro _ ai ⟨O,P,rfl,I,r⟩
 have J:=G _ _ I
 have W:=J.rowC (i:=1) rfl
 replace r:t.xb.ls.length≤h.xb.ls.length+26:=r
 refine C6 (bN (Ig (Ib (Kz (vI 2) (Mz rfl (C6 (I8 [(8,vI 2),(7,vI 2),(6, .slice b 2 2),(0, .func (.func 119) #[vP m 0] #[])] ⟨rfl,rfl,rfl,rfl,trivial⟩ (sr (Kz (.bool false) (nt (Ic (jf (C7 (Il (Il (IB (IA (res0 rfl) (C6 (IA (res0 rfl) ?_)))))))))))))))))))
 have Q:=J.pk [0,1]
 obtain rfl:_=t:=hr.symm.trans (et (ah n) (ah p))
 exact⟨O,P,rfl,Q,g1⟩
def jD:List aI→List UInt8→(List UInt8)
  | [],a=>a
  | c::d,a=>bnd (mi (dR.mk (E2 a)) c) fun b=>jD d b.xb.ls
def jE:List aI→List UInt8→(List UInt8)
  | [],a=>a
  | c::d,a=>bnd (mi (dR.mk (E2 a)) c) fun b=>jE d b.xb.ls
def o8 (h:dR) (a:aQ):dR:=
 if a.eF=true then bnd (bX h 1) fun e=>bnd (iY e a.aT) fun f=>bnd (bX f a.ak.ls.length) fun g=>bnd (jD a.ak.ls g.xb.ls) fun sLrtbbbL=>dR.mk (E2 sLrtbbbL) else bnd (bX h 0) fun b=>bnd (iY b a.aT) fun c=>bnd (bX c a.ak.ls.length) fun d=>bnd (jE a.ak.ls d.xb.ls) fun sLrfbbbL=>dR.mk (E2 sLrfbbbL)
set_option maxHeartbeats 1000000 in
theorem uj (w D n) (E:dR) (A B) (a:aQ) (c ai f) (r0:dR) (H:Own w D w [blk n [.slice A E.xb.ls.length B] 159,row A E.xb.ls.length B (q3 eB E.xb.ls) 5 1]) (aH:ai=a.ak.ls.length) (h:Ro w D fun w'=>bE w' 2 c a.ak.ls.length (q3 aI.cells a.ak.ls)) (dx:a.ak.ls.length≤f∧a.ak.ls.length≤9223372036854775807) (fV:E.xb.ls.length≤7000000000) (ag:(a.aT.length≤16∧a.ak.ls.length≤4∧∀ q ∈ a.ak.ls,q.bY.length≤12∧q.aT.length≤16)) (hr:o8 E a=r0):
    Calls v8 124 #[vP n 0, .agg #[.bool a.eF, .string ⟨v9 a.aT⟩, .slice c ai f]] w (d9 fun v w'=> ∃ F G,v= .tuple #[]∧Own w D w' [blk n [.slice F r0.xb.ls.length G] 159,row F r0.xb.ls.length G (q3 eB r0.xb.ls) 5 1]∧(r0.xb.ls.length≤E.xb.ls.length+300)):=by
 subst aH
 have dz:=H.rowC (i:=1) rfl
 have eO:=ag.1
 have eP:=ag.2.1
 refine cb Tryz.func124 ?_
 refine sr ?_
 refine dV [.bool a.eF, .string ⟨v9 a.aT⟩, .slice c a.ak.ls.length f] 149 H ?_
 intro x fZ aJ
 refine ns (An rfl (Ic (sr (Kz (vP x 0) (Lz (.bool a.eF) aJ 0 Tryz.isAgg4 (nt ?_))))))
 rcases Li (a.eF) with I | I
 refine jT I (Ib (Ar rfl (Mz rfl (Mz rfl ?_))))
 refine WL.do rfl (Iz O7 rfl ?_ (fun _ _ k=>k))
 refine cb O8 ?_
 refine Ib (Mz rfl (Mz rfl (fw (.int .u64 1) (Ie (e:=D1.wrap 1) yk (IntWalk.u64_in _ e6)) ?_)))
 have dA:=aJ.pb [0]
 obtain⟨J,aj⟩:∃ q,bX E 1=q:=⟨_,rfl⟩
 obtain⟨gp,bz,eQ,bA,eT⟩:=IJ dA
 refine cl O9 (dX _ _ n E A B 1 J bz f6 aj) ?_
 rintro _ gq ⟨dB,dC,rfl,bB,ak⟩
 have aK:=bA _ _ bB
 have eU:=aK.rowC (i:=1) rfl
 replace ak:J.xb.ls.length≤E.xb.ls.length+10:=ak
 refine C6 (IA (res0 rfl) (ns (Mz rfl (Kz (vP x 1) (Lz (.string ⟨v9 a.aT⟩) aK 2 C2 ?_)))))
 obtain⟨K,au⟩:∃ q,iY J a.aT=q:=⟨_,rfl⟩
 obtain⟨gu,bC,eX,bD,eY⟩:=IJ aK
 refine cl O6 (lG _ _ n J dB dC a.aT K bC f6 au) ?_
 rintro _ gy ⟨dD,dE,rfl,bF,av⟩
 have aL:=bD _ _ bF
 have eZ:=aL.rowC (i:=1) rfl
 replace av:K.xb.ls.length≤J.xb.ls.length+26:=av
 refine nt (Ib (Mz rfl (Kz (vP x 2) (Lz (.slice c a.ak.ls.length f) aL 2 Tryz.isAgg147 (Mz rfl (Kz (.func (.func 145) #[vP n 0] #[]) ?_))))))
 refine WL.do rfl (Iz Tryz.call144 rfl ?_ (fun _ _ k=>k))
 refine cb Tryz.func144 ?_
 refine sr (Mz rfl (Mz rfl (Kz (vJ a.ak.ls.length) ?_)))
 refine WL.do rfl (Iz O7 rfl ?_ (fun _ _ k=>k))
 refine cb O8 ?_
 refine Ib (Mz rfl (Mz rfl (fw (vU a.ak.ls.length) (Ie (e:=D1.wrap ((a.ak.ls.length:Nat):Int)) yk (IntWalk.u64_in _ e6)) ?_)))
 obtain⟨C,ax⟩:∃ q,bX K a.ak.ls.length=q:=⟨_,rfl⟩
 obtain⟨gz,bG,fe,bH,fo⟩:=IJ aL
 refine cl O9 (dX _ _ n K dD dE a.ak.ls.length C bG f6 ax) ?_
 rintro _ gB ⟨dG,dH,rfl,bI,ay⟩
 have bJ:=bH _ _ bI
 have fq:=bJ.rowC (i:=1) rfl
 replace ay:C.xb.ls.length≤K.xb.ls.length+10:=ay
 refine C6 (IA (res0 rfl) (nt (Ib (Mz rfl (Mz rfl ?_)))))
 refine WL.do rfl (Iz Tryz.call160 rfl ?_ (fun _ _ k=>k))
 refine cb Tryz.func160 ?_
 refine sr (Mz rfl (Kz (vJ a.ak.ls.length) (Mn rfl (bo ?_))))
 have dI:=bJ.pb [1]
 obtain⟨dJ,L⟩:=sQ fun (g:Nat) M (N:Nat) j w'=>Own w D w' [blk n [.slice M j.length N] 159,blk x [.bool a.eF, .string ⟨v9 a.aT⟩, .slice c a.ak.ls.length f] 149,row M j.length N (q3 eB j) 5 1]∧g≤a.ak.ls.length∧((j.length:Nat):Int)≤((C.xb.ls.length:Nat):Int)+60 *((g:Nat):Int)∧jD a.ak.ls C.xb.ls=jD (r3 g a.ak.ls) j
 refine C3 (fun i:Nat × (Option Addr) × Nat × (List UInt8)=> [(8,vJ i.1),(7,vJ a.ak.ls.length),(6, .slice c a.ak.ls.length f),(0, .func (.func 145) #[vP n 0] #[])]) dJ (fun i=>a.ak.ls.length - i.1) (0,dG,dH,C.xb.ls) ⟨rfl,rfl,rfl,rfl,trivial⟩ (L.2 ⟨dI,e6,e6,rfl⟩) ?_
 rintro ⟨g,M,N,j⟩ gD bK
 obtain⟨O,fu,fA,az⟩:=L.1 bK
 refine sr (Kz (.bool (decide (((g:Nat):Int) < ((a.ak.ls.length:Nat):Int)))) (nt (Ic ?_)))
 by_cases bL:((g:Nat):Int) < ((a.ak.ls.length:Nat):Int)
 obtain⟨o,P⟩:=dN (ls:=a.ak.ls) (i:=g) aI.len f4 (O.ro h) e9
 have bM:o.bY.length≤12∧o.aT.length≤16:=ag.2.2 _ (D3 P)
 have bO:=drop_at P
 refine jT (dT bL) (sk (Ic (bo (sr (fw (.pointer (some ⟨ab c,ao c+g *2,none⟩)) (Ij (ko) rfl rfl ((O.ro h).addr (i:=g) e6) e6) (fw (.agg (aI.cells o).toArray) (Io rfl (Iy (cs:=(aI.cells o)) I0 I2 ((O.ro h).elem aI.len P f4))) ?_))))))
 refine dV [.string ⟨v9 ([])⟩, .string ⟨v9 ([])⟩] 153 O ?_
 intro gF gG dK
 refine dS (aI.cells o) 0 dK I2 ?_
 intro gH bP
 refine nt (Ib (Mz rfl (La (aI.cells o) bP 0 I0 I2 ?_)))
 have dL:=bP.pb [0,2]
 obtain⟨aM,aA⟩:∃ q,mi (dR.mk (E2 j)) o=q:=⟨_,rfl⟩
 obtain⟨gI,bQ,fC,bR,fD⟩:=IJ dL
 refine WL.do rfl (IK Tryz.call145 rfl rfl (qO _ _ n (dR.mk (E2 j)) M N o aM bQ f6 (by exact bM) aA) ?_)
 rintro _ fE ⟨bS,bT,rfl,aN,Q⟩
 have aB:=bR _ _ aN
 have dM:=aB.rowC (i:=1) rfl
 replace Q:aM.xb.ls.length≤j.length+60:=Q
 refine C6 (bN (Ig (Ib (fw (vJ (g+1)) (Ie (e:=C5.wrap (((g:Nat):Int)+1)) yk f0) (Mz rfl (C6 ?_))))))
 have bU:=aB.pk [0,3,1]
 exact Ir (g+1,bS,bT,aM.xb.ls) ⟨rfl,rfl,rfl,rfl,trivial⟩ (L.2 ⟨bU,e6,e6,et (az) (et (congrArg (fun q=>jD q j) bO) (ah aA))⟩) (by show a.ak.ls.length - (g+1) < a.ak.ls.length - g; omega)
 refine jF (dF bL) (C7 (Il ?_))
 have aO:jD a.ak.ls C.xb.ls=j:=et (az) (et (congrArg (fun q=>jD q j) (fB (ls:=a.ak.ls) (i:=g) e6)) rfl)
 refine Il (IB (IA (res0 rfl) (C6 (IA (res0 rfl) (C6 (IA (res0 rfl) ?_))))))
 have bV:=O.pk [0,2]
 obtain rfl:_=dR.mk (E2 j):=hr.symm.trans (et (ip I) (et (ah aj) (et (ah au) (et (ah ax) (ah aO)))))
 exact⟨M,N,rfl,bV,g1⟩
 refine jF I (sk (sr (Mz rfl (Mz rfl ?_))))
 refine WL.do rfl (Iz O7 rfl ?_ (fun _ _ k=>k))
 refine cb O8 ?_
 refine Ib (Mz rfl (Mz rfl (fw (.int .u64 0) (Ie (e:=D1.wrap 0) yk (IntWalk.u64_in _ e6)) ?_)))
 have bW:=aJ.pb [0]
 obtain⟨p,R⟩:∃ q,bX E 0=q:=⟨_,rfl⟩
 obtain⟨fF,aP,dO,aR,dP⟩:=IJ bW
 refine cl O9 (dX _ _ n E A B 0 p aP f6 R) ?_
 rintro _ fG ⟨bY,bZ,rfl,aS,S⟩
 have T:=aR _ _ aS
 have dQ:=T.rowC (i:=1) rfl
 replace S:p.xb.ls.length≤E.xb.ls.length+10:=S
 refine C6 (IA (res0 rfl) (ns (Mz rfl (Kz (vP x 1) (Lz (.string ⟨v9 a.aT⟩) T 2 C2 ?_)))))
 obtain⟨r,U⟩:∃ q,iY p a.aT=q:=⟨_,rfl⟩
 obtain⟨fH,aT,dU,aU,dW⟩:=IJ T
 refine cl O6 (lG _ _ n p bY bZ a.aT r aT f6 U) ?_
 rintro _ fI ⟨cu,cz,rfl,aV,V⟩
 have W:=aU _ _ aV
 have dY:=W.rowC (i:=1) rfl
 replace V:r.xb.ls.length≤p.xb.ls.length+26:=V
 refine nt (Ib (Mz rfl (Kz (vP x 2) (Lz (.slice c a.ak.ls.length f) W 2 Tryz.isAgg147 (Mz rfl (Kz (.func (.func 145) #[vP n 0] #[]) ?_))))))
 refine WL.do rfl (Iz Tryz.call144 rfl ?_ (fun _ _ k=>k))
 refine cb Tryz.func144 ?_
 refine sr (Mz rfl (Mz rfl (Kz (vJ a.ak.ls.length) ?_)))
 refine WL.do rfl (Iz O7 rfl ?_ (fun _ _ k=>k))
 refine cb O8 ?_
 refine Ib (Mz rfl (Mz rfl (fw (vU a.ak.ls.length) (Ie (e:=D1.wrap ((a.ak.ls.length:Nat):Int)) yk (IntWalk.u64_in _ e6)) ?_)))
 obtain⟨m,X⟩:∃ q,bX r a.ak.ls.length=q:=⟨_,rfl⟩
 obtain⟨fJ,aW,dZ,aX,ed⟩:=IJ W
 refine cl O9 (dX _ _ n r cu cz a.ak.ls.length m aW f6 X) ?_
 rintro _ fK ⟨cB,cK,rfl,aY,Y⟩
 have aC:=aX _ _ aY
 have ek:=aC.rowC (i:=1) rfl
 replace Y:m.xb.ls.length≤r.xb.ls.length+10:=Y
 refine C6 (IA (res0 rfl) (nt (Ib (Mz rfl (Mz rfl ?_)))))
 refine WL.do rfl (Iz Tryz.call160 rfl ?_ (fun _ _ k=>k))
 refine cb Tryz.func160 ?_
 refine sr (Mz rfl (Kz (vJ a.ak.ls.length) (Mn rfl (bo ?_))))
 have cO:=aC.pb [1]
 obtain⟨cZ,y⟩:=sQ fun (b:Nat) s (t:Nat) d w'=>Own w D w' [blk n [.slice s d.length t] 159,blk x [.bool a.eF, .string ⟨v9 a.aT⟩, .slice c a.ak.ls.length f] 149,row s d.length t (q3 eB d) 5 1]∧b≤a.ak.ls.length∧((d.length:Nat):Int)≤((m.xb.ls.length:Nat):Int)+60 *((b:Nat):Int)∧jE a.ak.ls m.xb.ls=jE (r3 b a.ak.ls) d
 refine C3 (fun i:Nat × (Option Addr) × Nat × (List UInt8)=> [(8,vJ i.1),(7,vJ a.ak.ls.length),(6, .slice c a.ak.ls.length f),(0, .func (.func 145) #[vP n 0] #[])]) cZ (fun i=>a.ak.ls.length - i.1) (0,cB,cK,m.xb.ls) ⟨rfl,rfl,rfl,rfl,trivial⟩ (y.2 ⟨cO,e6,e6,rfl⟩) ?_
 rintro ⟨b,s,t,d⟩ fM aZ
 obtain⟨u,eu,eD,Z⟩:=y.1 aZ
 refine sr (Kz (.bool (decide (((b:Nat):Int) < ((a.ak.ls.length:Nat):Int)))) (nt (Ic ?_)))
 by_cases aD:((b:Nat):Int) < ((a.ak.ls.length:Nat):Int)
 obtain⟨l,z⟩:=dN (ls:=a.ak.ls) (i:=b) aI.len f4 (u.ro h) e9
 have bf:l.bY.length≤12∧l.aT.length≤16:=ag.2.2 _ (D3 z)
 have bg:=drop_at z
 refine jT (dT aD) (sk (Ic (bo (sr (fw (.pointer (some ⟨ab c,ao c+b *2,none⟩)) (Ij (ko) rfl rfl ((u.ro h).addr (i:=b) e6) e6) (fw (.agg (aI.cells l).toArray) (Io rfl (Iy (cs:=(aI.cells l)) I0 I2 ((u.ro h).elem aI.len z f4))) ?_))))))
 refine dV [.string ⟨v9 ([])⟩, .string ⟨v9 ([])⟩] 153 u ?_
 intro fO fP df
 refine dS (aI.cells l) 0 df I2 ?_
 intro fQ aF
 refine nt (Ib (Mz rfl (La (aI.cells l) aF 0 I0 I2 ?_)))
 have dh:=aF.pb [0,2]
 obtain⟨aa,ae⟩:∃ q,mi (dR.mk (E2 d)) l=q:=⟨_,rfl⟩
 obtain⟨fT,bi,eF,bn,eG⟩:=IJ dh
 refine WL.do rfl (IK Tryz.call145 rfl rfl (qO _ _ n (dR.mk (E2 d)) s t l aa bi f6 (by exact bf) ae) ?_)
 rintro _ fU ⟨di,dm,rfl,bq,af⟩
 have aG:=bn _ _ bq
 have eH:=aG.rowC (i:=1) rfl
 replace af:aa.xb.ls.length≤d.length+60:=af
 refine C6 (bN (Ig (Ib (fw (vJ (b+1)) (Ie (e:=C5.wrap (((b:Nat):Int)+1)) yk f0) (Mz rfl (C6 ?_))))))
 have dn:=aG.pk [0,3,1]
 exact Ir (b+1,di,dm,aa.xb.ls) ⟨rfl,rfl,rfl,rfl,trivial⟩ (y.2 ⟨dn,e6,e6,et (Z) (et (congrArg (fun q=>jE q d) bg) (ah ae))⟩) (by show a.ak.ls.length - (b+1) < a.ak.ls.length - b; omega)
 refine jF (dF aD) (C7 (Il ?_))
 have bu:jE a.ak.ls m.xb.ls=d:=et (Z) (et (congrArg (fun q=>jE q d) (fB (ls:=a.ak.ls) (i:=b) e6)) rfl)
 refine Il (IB (IA (res0 rfl) (C6 (IA (res0 rfl) (C6 (IA (res0 rfl) ?_))))))
 have dw:=u.pk [0,2]
 obtain rfl:_=dR.mk (E2 d):=hr.symm.trans (et (gm I) (et (ah R) (et (ah U) (et (ah X) (ah bu)))))
 exact⟨s,t,rfl,dw,g1⟩
def jg:List Int→List UInt8→(List UInt8)
  | [],a=>a
  | c::d,a=>bnd (bX (dR.mk (E2 a)) (D0 (D1.wrap c))) fun b=>jg d b.xb.ls
def ou (g:dR) (a:bH):dR:=
 bnd (bX g a.aN) fun b=>bnd (bX b (D0 (D1.wrap a.aK))) fun c=>bnd (bX c a.av) fun d=>bnd (bX d a.aP) fun e=>bnd (bX e a.au.ls.length) fun f=>bnd (jg a.au.ls f.xb.ls) fun sLrbbbbbL=>dR.mk (E2 sLrbbbbbL)
set_option maxHeartbeats 1000000 in
theorem sZ (w D m) (N:dR) (t u) (a:bH) (d R f) (r0:dR) (H:Own w D w [blk m [.slice t N.xb.ls.length u] 159,row t N.xb.ls.length u (q3 eB N.xb.ls) 5 1]) (ag:R=a.au.ls.length) (n:Ro w D fun w'=>bE w' 1 d a.au.ls.length (q3 (eI .i64) a.au.ls)) (bq:a.au.ls.length≤f∧a.au.ls.length≤9223372036854775807) (dD:N.xb.ls.length≤7000000000) (O:(a.aN≤18446744073709551615∧a.av≤18446744073709551615∧a.aP≤18446744073709551615∧a.au.ls.length≤4)) (hr:ou N a=r0):
    Calls v8 83 #[vP m 0, .agg #[vU a.aN,vI a.aK,vU a.av,vU a.aP, .slice d R f]] w (d9 fun v w'=> ∃ x z,v= .tuple #[]∧Own w D w' [blk m [.slice x r0.xb.ls.length z] 159,row x r0.xb.ls.length z (q3 eB r0.xb.ls) 5 1]∧(r0.xb.ls.length≤N.xb.ls.length+100)):=by
 subst ag
 have bu:=H.rowC (i:=1) rfl
 have bT:=O.1
 have bU:=O.2.1
 have bV:=O.2.2.1
 have bW:=O.2.2.2
 refine cb Tryz.func83 ?_
 refine sr ?_
 refine dV [vU a.aN,vI a.aK,vU a.av,vU a.aP, .slice d a.au.ls.length f] 60 H ?_
 intro r dE aA
 refine ns (Mz rfl (Kz (vP r 0) (Lz (vU a.aN) aA 0 D4 ?_)))
 have bv:=aA.pb [0]
 obtain⟨A,S⟩:∃ q,bX N a.aN=q:=⟨_,rfl⟩
 obtain⟨dG,aB,bY,aC,cu⟩:=IJ bv
 refine cl O9 (dX _ _ m N t u a.aN A aB f6 S) ?_
 rintro _ dH ⟨bz,bA,rfl,aD,T⟩
 have ai:=aC _ _ aD
 have cz:=ai.rowC (i:=1) rfl
 replace T:A.xb.ls.length≤N.xb.ls.length+10:=T
 refine ns (Mz rfl (Kz (vP r 1) (Lz (vI a.aK) ai 2 C4 ?_)))
 refine WL.do rfl (Iz O7 rfl ?_ (fun _ _ k=>k))
 refine cb O8 ?_
 refine Ib (Mz rfl (Mz rfl ?_))
 have cB:D0 (D1.wrap a.aK)≤18446744073709551615:=mh _
 refine fw (vU (D0 (D1.wrap a.aK))) (Ie (e:=D1.wrap a.aK) yk (fD _)) ?_
 obtain⟨B,U⟩:∃ q,bX A (D0 (D1.wrap a.aK))=q:=⟨_,rfl⟩
 obtain⟨dI,aF,cK,aG,cO⟩:=IJ ai
 refine cl O9 (dX _ _ m A bz bA (D0 (D1.wrap a.aK)) B aF f6 U) ?_
 rintro _ dJ ⟨bB,bC,rfl,aH,V⟩
 have P:=aG _ _ aH
 have cZ:=P.rowC (i:=1) rfl
 replace V:B.xb.ls.length≤A.xb.ls.length+10:=V
 refine C6 (IA (res0 rfl) (ns (Mz rfl (Kz (.func (.func 79) #[vP m 0] #[]) (Kz (vP r 2) (Lz (vU a.av) P 2 D4 (Kz (vP r 3) (Lz (vU a.aP) P 2 D4 ?_))))))))
 refine lg [vU a.av,vU a.aP] 28 1 2 P ?_
 intro o dK C
 replace C:=IL (y:=row o 2 2 (q3 (eN .u64) ([a.av,a.aP])) 28 1) rfl C
 refine WL.do rfl (Iz Tryz.call78 rfl ?_ (fun _ _ k=>k))
 refine cb Tryz.func78 ?_
 refine sr (Mz rfl (Kz (vI 2) (Mn rfl (bo (Jw 200 (sr (Kz (.bool true) (nt (Ic (jt (sk (Ic (bo (sr ?_))))))))))))))
 have aI:([a.av,a.aP]:List Nat)[0]? =some a.av:=rfl
 refine fw (.pointer (some ⟨ab o,ao o+0 *1,none⟩)) (Ij (uY) rfl rfl ((C.rds (i:=0) rfl).addr (i:=0) e6) e6) (fw (vU a.av) (Io rfl (bZ.one D4 (((C.rds (i:=0) rfl).elem qw aI f4).at_ (k:=0) rfl))) (An rfl (Ib (Mz rfl (Mz rfl ?_)))))
 have bD:=C.pb [0,3]
 obtain⟨E,W⟩:∃ q,bX B a.av=q:=⟨_,rfl⟩
 obtain⟨dL,aJ,df,aK,dh⟩:=IJ bD
 refine WL.do rfl (IK O9 rfl rfl (dX _ _ m B bB bC a.av E aJ f6 W) ?_)
 rintro _ dM ⟨bF,bG,rfl,aL,X⟩
 have Q:=aK _ _ aL
 have di:=Q.rowC (i:=1) rfl
 replace X:E.xb.ls.length≤B.xb.ls.length+10:=X
 refine C6 (bN (Ig (Ib (Kz (vI 1) (Mz rfl (C6 (I8 [(8,vI 1),(7,vI 2),(6, .slice o 2 2),(0, .func (.func 79) #[vP m 0] #[])] ⟨rfl,rfl,rfl,rfl,trivial⟩ (sr (Kz (.bool true) (nt (Ic (jt (sk (Ic (bo (sr ?_))))))))))))))))
 have aM:([a.av,a.aP]:List Nat)[1]? =some a.aP:=rfl
 refine fw (.pointer (some ⟨ab o,ao o+1 *1,none⟩)) (Ij (uY) rfl rfl ((Q.rds (i:=2) rfl).addr (i:=1) e6) e6) (fw (vU a.aP) (Io rfl (bZ.one D4 (((Q.rds (i:=2) rfl).elem qw aM f4).at_ (k:=0) rfl))) (An rfl (Ib (Mz rfl (Mz rfl ?_)))))
 obtain⟨F,Y⟩:∃ q,bX E a.aP=q:=⟨_,rfl⟩
 obtain⟨dO,aN,dm,aO,dn⟩:=IJ Q
 refine WL.do rfl (IK O9 rfl rfl (dX _ _ m E bF bG a.aP F aN f6 Y) ?_)
 rintro _ dP ⟨bI,bJ,rfl,aP,Z⟩
 have aQ:=aO _ _ aP
 have dw:=aQ.rowC (i:=1) rfl
 replace Z:F.xb.ls.length≤E.xb.ls.length+10:=Z
 refine C6 (bN (Ig (Ib (Kz (vI 2) (Mz rfl (C6 (I8 [(8,vI 2),(7,vI 2),(6, .slice o 2 2),(0, .func (.func 79) #[vP m 0] #[])] ⟨rfl,rfl,rfl,rfl,trivial⟩ (sr (Kz (.bool false) (nt (Ic (jf (C7 (Il (Il (IB (IA (res0 rfl) (nt ?_))))))))))))))))))
 have aR:=aQ.pk [0,1,3]
 refine Ib (Mz rfl (Kz (vP r 4) (Lz (.slice d a.au.ls.length f) aR 2 Tryz.isAgg58 (Mz rfl (Kz (.func (.func 77) #[vP m 0] #[]) ?_)))))
 refine WL.do rfl (Iz Tryz.call121 rfl ?_ (fun _ _ k=>k))
 refine cb Tryz.func121 ?_
 refine sr (Mz rfl (Mz rfl (Kz (vJ a.au.ls.length) ?_)))
 refine WL.do rfl (Iz O7 rfl ?_ (fun _ _ k=>k))
 refine cb O8 ?_
 refine Ib (Mz rfl (Mz rfl (fw (vU a.au.ls.length) (Ie (e:=D1.wrap ((a.au.ls.length:Nat):Int)) yk (IntWalk.u64_in _ e6)) ?_)))
 obtain⟨s,aa⟩:∃ q,bX F a.au.ls.length=q:=⟨_,rfl⟩
 obtain⟨dQ,aS,dx,aT,dz⟩:=IJ aR
 refine cl O9 (dX _ _ m F bI bJ a.au.ls.length s aS f6 aa) ?_
 rintro _ dS ⟨bK,aU,rfl,aV,G⟩
 have aW:=aT _ _ aV
 have bL:=aW.rowC (i:=1) rfl
 replace G:s.xb.ls.length≤F.xb.ls.length+10:=G
 refine C6 (IA (res0 rfl) (nt (Ib (Mz rfl (Mz rfl ?_)))))
 refine WL.do rfl (Iz Tryz.call142 rfl ?_ (fun _ _ k=>k))
 refine cb Tryz.func142 ?_
 refine sr (Mz rfl (Kz (vJ a.au.ls.length) (Mn rfl (bo ?_))))
 have aX:=aW.pb [1]
 obtain⟨aY,p⟩:=sQ fun (b:Nat) h (j:Nat) c w'=>Own w D w' [blk m [.slice h c.length j] 159,blk r [vU a.aN,vI a.aK,vU a.av,vU a.aP, .slice d a.au.ls.length f] 60,row h c.length j (q3 eB c) 5 1]∧b≤a.au.ls.length∧((c.length:Nat):Int)≤((s.xb.ls.length:Nat):Int)+10 *((b:Nat):Int)∧jg a.au.ls s.xb.ls=jg (r3 b a.au.ls) c
 refine C3 (fun i:Nat × (Option Addr) × Nat × (List UInt8)=> [(8,vJ i.1),(7,vJ a.au.ls.length),(6, .slice d a.au.ls.length f),(0, .func (.func 77) #[vP m 0] #[])]) aY (fun i=>a.au.ls.length - i.1) (0,bK,aU,s.xb.ls) ⟨rfl,rfl,rfl,rfl,trivial⟩ (p.2 ⟨aX,e6,e6,rfl⟩) ?_
 rintro ⟨b,h,j,c⟩ dA aj
 obtain⟨l,bM,bO,I⟩:=p.1 aj
 refine sr (Kz (.bool (decide (((b:Nat):Int) < ((a.au.ls.length:Nat):Int)))) (nt (Ic ?_)))
 by_cases ae:((b:Nat):Int) < ((a.au.ls.length:Nat):Int)
 obtain⟨g,J⟩:=dN (ls:=a.au.ls) (i:=b) jd f4 (l.ro n) e9
 have ak:=drop_at J
 refine jT (dT ae) (sk (Ic (bo (sr (fw (.pointer (some ⟨ab d,ao d+b *1,none⟩)) (Ij (om) rfl rfl ((l.ro n).addr (i:=b) e6) e6) (fw (vI g) (Io rfl (bZ.one C4 (((l.ro n).elem jd J f4).at_ (k:=0) rfl))) (An rfl (Ib (Mz rfl (Mz rfl ?_))))))))))
 refine WL.do rfl (IK O7 rfl rfl ?_ (fun _ _ k=>k))
 refine cb O8 ?_
 refine Ib (Mz rfl (Mz rfl ?_))
 have bP:D0 (D1.wrap g)≤18446744073709551615:=mh _
 refine fw (vU (D0 (D1.wrap g))) (Ie (e:=D1.wrap g) yk (fD _)) ?_
 have aZ:=l.pb [1]
 obtain⟨K,L⟩:∃ q,bX (dR.mk (E2 c)) (D0 (D1.wrap g))=q:=⟨_,rfl⟩
 obtain⟨dB,au,bQ,av,bR⟩:=IJ aZ
 refine cl O9 (dX _ _ m (dR.mk (E2 c)) h j (D0 (D1.wrap g)) K au f6 L) ?_
 rintro _ dC ⟨bf,bg,rfl,ax,M⟩
 have af:=av _ _ ax
 have bS:=af.rowC (i:=1) rfl
 replace M:K.xb.ls.length≤c.length+10:=M
 refine C6 (IA (res0 rfl) (C6 (bN (Ig (Ib (fw (vJ (b+1)) (Ie (e:=C5.wrap (((b:Nat):Int)+1)) yk f0) (Mz rfl (C6 ?_))))))))
 have bi:=af.pb [1]
 exact Ir (b+1,bf,bg,K.xb.ls) ⟨rfl,rfl,rfl,rfl,trivial⟩ (p.2 ⟨bi,e6,e6,et (I) (et (congrArg (fun q=>jg q c) ak) (ah L))⟩) (by show a.au.ls.length - (b+1) < a.au.ls.length - b; omega)
 refine jF (dF ae) (C7 (Il ?_))
 have ay:jg a.au.ls s.xb.ls=c:=et (I) (et (congrArg (fun q=>jg q c) (fB (ls:=a.au.ls) (i:=b) e6)) rfl)
 refine Il (IB (IA (res0 rfl) (C6 (IA (res0 rfl) (C6 (IA (res0 rfl) ?_))))))
 have bn:=l.pk [0,2]
 obtain rfl:_=dR.mk (E2 c):=hr.symm.trans (et (ah S) (et (ah U) (et (ah W) (et (ah Y) (et (ah aa) (ah ay))))))
 exact⟨h,j,rfl,bn,g1⟩
def jY:List aQ→List UInt8→(List UInt8)
  | [],b=>b
  | a::d,b=>bnd (o8 (dR.mk (E2 b)) (aQ.mk a.eF a.aT (E2 a.ak.ls))) fun c=>jY d c.xb.ls
def pY (f:dR) (a:eD):dR:=
 bnd (bX f (D0 (D1.wrap a.aK))) fun b=>bnd (bX b a.av) fun c=>bnd (bX c a.aP) fun d=>bnd (bX d a.ai.ls.length) fun e=>bnd (jY a.ai.ls e.xb.ls) fun sLrbbbbL=>dR.mk (E2 sLrbbbbL)
set_option maxHeartbeats 1000000 in
theorem uO (w D l) (U:dR) (s t) (a:eD) (f Y h p) (r0:dR) (H:Own w D w [blk l [.slice s U.xb.ls.length t] 159,row s U.xb.ls.length t (q3 eB U.xb.ls) 5 1]) (u:List.map ae.abs p=a.ai.ls) (aA:Y=a.ai.ls.length) (m:Ro w D fun w'=>bE w' 3 f a.ai.ls.length (q3 ae.cells p)) (bH:a.ai.ls.length≤h∧a.ai.ls.length≤9223372036854775807) (B:∀ x ∈ p,Ro w D (fun w'=>bE w' 2 x.ak.A x.ak.ls.length (q3 aI.cells x.ak.ls))∧(x.ak.ls.length≤x.ak.c∧x.ak.ls.length≤9223372036854775807)) (dL:U.xb.ls.length≤6000000000) (V:(a.av≤18446744073709551615∧a.aP≤18446744073709551615∧a.ai.ls.length≤24∧∀ z ∈ a.ai.ls,z.aT.length≤16∧z.ak.ls.length≤4∧∀ q ∈ z.ak.ls,q.bY.length≤12∧q.aT.length≤16)) (hr:pY U a=r0):
    Calls v8 85 #[vP l 0, .agg #[vI a.aK,vU a.av,vU a.aP, .slice f Y h]] w (d9 fun v w'=> ∃ C E,v= .tuple #[]∧Own w D w' [blk l [.slice C r0.xb.ls.length E] 159,row C r0.xb.ls.length E (q3 eB r0.xb.ls) 5 1]∧(r0.xb.ls.length≤U.xb.ls.length+8000)):=by
 subst aA
 have bG:=aB u
 have bI:=H.rowC (i:=1) rfl
 have cK:=V.1
 have cO:=V.2.1
 have cZ:=V.2.2.1
 refine cb Tryz.func85 ?_
 refine sr ?_
 refine dV [vI a.aK,vU a.av,vU a.aP, .slice f a.ai.ls.length h] 56 H ?_
 intro F dM aM
 refine ns (Mz rfl (Kz (vP F 0) (Lz (vI a.aK) aM 0 C4 ?_)))
 refine WL.do rfl (Iz O7 rfl ?_ (fun _ _ k=>k))
 refine cb O8 ?_
 refine Ib (Mz rfl (Mz rfl ?_))
 have df:D0 (D1.wrap a.aK)≤18446744073709551615:=mh _
 refine fw (vU (D0 (D1.wrap a.aK))) (Ie (e:=D1.wrap a.aK) yk (fD _)) ?_
 have bJ:=aM.pb [0]
 obtain⟨G,Z⟩:∃ q,bX U (D0 (D1.wrap a.aK))=q:=⟨_,rfl⟩
 obtain⟨dO,aN,dh,aO,di⟩:=IJ bJ
 refine cl O9 (dX _ _ l U s t (D0 (D1.wrap a.aK)) G aN f6 Z) ?_
 rintro _ dP ⟨bK,bL,rfl,aP,aa⟩
 have W:=aO _ _ aP
 have dm:=W.rowC (i:=1) rfl
 replace aa:G.xb.ls.length≤U.xb.ls.length+10:=aa
 refine C6 (IA (res0 rfl) (ns (Mz rfl (Kz (.func (.func 79) #[vP l 0] #[]) (Kz (vP F 1) (Lz (vU a.av) W 2 D4 (Kz (vP F 2) (Lz (vU a.aP) W 2 D4 ?_))))))))
 refine lg [vU a.av,vU a.aP] 28 1 2 W ?_
 intro n dQ I
 replace I:=IL (y:=row n 2 2 (q3 (eN .u64) ([a.av,a.aP])) 28 1) rfl I
 refine WL.do rfl (Iz Tryz.call78 rfl ?_ (fun _ _ k=>k))
 refine cb Tryz.func78 ?_
 refine sr (Mz rfl (Kz (vI 2) (Mn rfl (bo (Jw 200 (sr (Kz (.bool true) (nt (Ic (jt (sk (Ic (bo (sr ?_))))))))))))))
 have aR:([a.av,a.aP]:List Nat)[0]? =some a.av:=rfl
 refine fw (.pointer (some ⟨ab n,ao n+0 *1,none⟩)) (Ij (uY) rfl rfl ((I.rds (i:=0) rfl).addr (i:=0) e6) e6) (fw (vU a.av) (Io rfl (bZ.one D4 (((I.rds (i:=0) rfl).elem qw aR f4).at_ (k:=0) rfl))) (An rfl (Ib (Mz rfl (Mz rfl ?_)))))
 have bM:=I.pb [0,3]
 obtain⟨J,af⟩:∃ q,bX G a.av=q:=⟨_,rfl⟩
 obtain⟨dU,aS,dn,aU,dw⟩:=IJ bM
 refine WL.do rfl (IK O9 rfl rfl (dX _ _ l G bK bL a.av J aS f6 af) ?_)
 rintro _ dW ⟨bO,bP,rfl,aV,ag⟩
 have X:=aU _ _ aV
 have dx:=X.rowC (i:=1) rfl
 replace ag:J.xb.ls.length≤G.xb.ls.length+10:=ag
 refine C6 (bN (Ig (Ib (Kz (vI 1) (Mz rfl (C6 (I8 [(8,vI 1),(7,vI 2),(6, .slice n 2 2),(0, .func (.func 79) #[vP l 0] #[])] ⟨rfl,rfl,rfl,rfl,trivial⟩ (sr (Kz (.bool true) (nt (Ic (jt (sk (Ic (bo (sr ?_))))))))))))))))
 have aW:([a.av,a.aP]:List Nat)[1]? =some a.aP:=rfl
 refine fw (.pointer (some ⟨ab n,ao n+1 *1,none⟩)) (Ij (uY) rfl rfl ((X.rds (i:=2) rfl).addr (i:=1) e6) e6) (fw (vU a.aP) (Io rfl (bZ.one D4 (((X.rds (i:=2) rfl).elem qw aW f4).at_ (k:=0) rfl))) (An rfl (Ib (Mz rfl (Mz rfl ?_)))))
 obtain⟨K,ai⟩:∃ q,bX J a.aP=q:=⟨_,rfl⟩
 obtain⟨dY,aX,dz,aY,dA⟩:=IJ X
 refine WL.do rfl (IK O9 rfl rfl (dX _ _ l J bO bP a.aP K aX f6 ai) ?_)
 rintro _ dZ ⟨bQ,bR,rfl,aZ,aj⟩
 have bf:=aY _ _ aZ
 have dB:=bf.rowC (i:=1) rfl
 replace aj:K.xb.ls.length≤J.xb.ls.length+10:=aj
 refine C6 (bN (Ig (Ib (Kz (vI 2) (Mz rfl (C6 (I8 [(8,vI 2),(7,vI 2),(6, .slice n 2 2),(0, .func (.func 79) #[vP l 0] #[])] ⟨rfl,rfl,rfl,rfl,trivial⟩ (sr (Kz (.bool false) (nt (Ic (jf (C7 (Il (Il (IB (IA (res0 rfl) (nt ?_))))))))))))))))))
 have bg:=bf.pk [0,1,3]
 refine Ib (Mz rfl (Kz (vP F 3) (Lz (.slice f a.ai.ls.length h) bg 2 Tryz.isAgg40 (Mz rfl (Kz (.func (.func 124) #[vP l 0] #[]) ?_)))))
 refine WL.do rfl (Iz Tryz.call123 rfl ?_ (fun _ _ k=>k))
 refine cb Tryz.func123 ?_
 refine sr (Mz rfl (Mz rfl (Kz (vJ a.ai.ls.length) ?_)))
 refine WL.do rfl (Iz O7 rfl ?_ (fun _ _ k=>k))
 refine cb O8 ?_
 refine Ib (Mz rfl (Mz rfl (fw (vU a.ai.ls.length) (Ie (e:=D1.wrap ((a.ai.ls.length:Nat):Int)) yk (IntWalk.u64_in _ e6)) ?_)))
 obtain⟨r,au⟩:∃ q,bX K a.ai.ls.length=q:=⟨_,rfl⟩
 obtain⟨ed,bi,dC,bn,dD⟩:=IJ bg
 refine cl O9 (dX _ _ l K bQ bR a.ai.ls.length r bi f6 au) ?_
 rintro _ ek ⟨bS,bT,rfl,bq,av⟩
 have bu:=bn _ _ bq
 have dE:=bu.rowC (i:=1) rfl
 replace av:r.xb.ls.length≤K.xb.ls.length+10:=av
 refine C6 (IA (res0 rfl) (nt (Ib (Mz rfl (Mz rfl ?_)))))
 refine WL.do rfl (Iz Tryz.call143 rfl ?_ (fun _ _ k=>k))
 refine cb Tryz.func143 ?_
 refine sr (Mz rfl (Kz (vJ a.ai.ls.length) (Mn rfl (bo ?_))))
 have bU:=bu.pb [1]
 obtain⟨bV,L⟩:=sQ fun (d:Nat) M (N:Nat) g w'=>Own w D w' [blk l [.slice M g.length N] 159,blk F [vI a.aK,vU a.av,vU a.aP, .slice f a.ai.ls.length h] 56,row M g.length N (q3 eB g) 5 1]∧d≤a.ai.ls.length∧((g.length:Nat):Int)≤((r.xb.ls.length:Nat):Int)+300 *((d:Nat):Int)∧jY a.ai.ls r.xb.ls=jY (r3 d a.ai.ls) g
 refine C3 (fun i:Nat × (Option Addr) × Nat × (List UInt8)=> [(8,vJ i.1),(7,vJ a.ai.ls.length),(6, .slice f a.ai.ls.length h),(0, .func (.func 124) #[vP l 0] #[])]) bV (fun i=>a.ai.ls.length - i.1) (0,bS,bT,r.xb.ls) ⟨rfl,rfl,rfl,rfl,trivial⟩ (L.2 ⟨bU,e6,e6,rfl⟩) ?_
 rintro ⟨d,M,N,g⟩ eu bv
 obtain⟨O,bW,bY,P⟩:=L.1 bv
 refine sr (Kz (.bool (decide (((d:Nat):Int) < ((a.ai.ls.length:Nat):Int)))) (nt (Ic ?_)))
 by_cases ax:((d:Nat):Int) < ((a.ai.ls.length:Nat):Int)
 obtain⟨b,j⟩:=dN (ls:=p) (i:=d) ae.len f4 (O.ro m) e9
 have Q:=fF u j
 have cu:=(B _ (D3 j)).2
 have o:r8 (ae.abs b).aT≤16∧r8 (ae.abs b).ak.ls≤4∧∀ q ∈ (ae.abs b).ak.ls,q.bY.length≤12∧q.aT.length≤16:=V.2.2.2 _ (D3 Q)
 have hz108p0:b.aT.length≤16:=by have q9:=o.1; first | exact q9 | (simp only [ae.abs,s3] at q9; exact q9)
 have hz108p1:b.ak.ls.length≤4:=by have q9:=o.2.1; first | exact q9 | (simp only [ae.abs,s3] at q9; exact q9)
 have aD:=drop_at Q
 refine jT (dT ax) (sk (Ic (bo (sr (fw (.pointer (some ⟨ab f,ao f+d *3,none⟩)) (Ij (sI) rfl rfl ((O.ro m).addr (i:=d) e6) e6) (fw (.agg (ae.cells b).toArray) (Io rfl (Iy (cs:=(ae.cells b)) Tryz.isAgg149 E6 ((O.ro m).elem ae.len j f4))) ?_))))))
 refine dV [.bool false, .string ⟨v9 ([])⟩, .slice none 0 0] 149 O ?_
 intro dG dH bz
 refine dS (ae.cells b) 0 bz E6 ?_
 intro dI ay
 refine nt (Ib (Mz rfl (La (ae.cells b) ay 0 Tryz.isAgg149 E6 ?_)))
 have bA:=ay.pb [0,2]
 obtain⟨R,S⟩:∃ q,o8 (dR.mk (E2 g)) (aQ.mk b.eF b.aT (E2 b.ak.ls))=q:=⟨_,rfl⟩
 obtain⟨dJ,aF,aG,aH,cz⟩:=IJ bA
 refine WL.do rfl (IK Tryz.call124 rfl rfl (uj _ _ l (dR.mk (E2 g)) M N (aQ.mk b.eF b.aT (E2 b.ak.ls)) b.ak.A b.ak.ls.length b.ak.c R aF rfl (aG _ (B _ (D3 j)).1) (show b.ak.ls.length≤b.ak.c∧b.ak.ls.length≤9223372036854775807 from by omega) f6 (by exact o) S) ?_)
 rintro _ dK ⟨bB,bC,rfl,aJ,T⟩
 have az:=aH _ _ aJ
 have cB:=az.rowC (i:=1) rfl
 replace T:R.xb.ls.length≤g.length+300:=T
 refine C6 (bN (Ig (Ib (fw (vJ (d+1)) (Ie (e:=C5.wrap (((d:Nat):Int)+1)) yk f0) (Mz rfl (C6 ?_))))))
 have bD:=az.pk [0,3,1]
 exact Ir (d+1,bB,bC,R.xb.ls) ⟨rfl,rfl,rfl,rfl,trivial⟩ (L.2 ⟨bD,e6,e6,et (P) (et (congrArg (fun q=>jY q g) aD) (ah S))⟩) (by show a.ai.ls.length - (d+1) < a.ai.ls.length - d; omega)
 refine jF (dF ax) (C7 (Il ?_))
 have aK:jY a.ai.ls r.xb.ls=g:=et (P) (et (congrArg (fun q=>jY q g) (fB (ls:=a.ai.ls) (i:=d) e6)) rfl)
 refine Il (IB (IA (res0 rfl) (C6 (IA (res0 rfl) (C6 (IA (res0 rfl) ?_))))))
 have bF:=O.pk [0,2]
 obtain rfl:_=dR.mk (E2 g):=hr.symm.trans (et (ah Z) (et (ah af) (et (ah ai) (et (ah au) (ah aK)))))
 exact⟨M,N,rfl,bF,g1⟩
end Go.Proofs.YtbkagebjhbphaaaGreat
