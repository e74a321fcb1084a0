/-
 record: what is written.
-/
import Derived.Test.YtbkagebjhbphaaaGreatCoA
namespace Go.Proofs.YtbkagebjhbphaaaGreat
open Int renaming toNat→C6
open IntKind renaming i64→C3,u64→C7,u8→O8
open List renaming drop→r4,flatMap→q4,flatMap_append→r5,length→s0,length_append→o2,length_cons→s1,length_map→s3,length_nil→E7,mem_of_getElem?→D1,toArray→v6
open Ll renaming mk→E0
open _root_.Go.Proofs.Tryz renaming call119→O9,call77→P0,call79→P2,func77→P1,isAgg153→J0,isAgg28→D2,isAgg3→C2,isAgg9→C0,prog→v5,sizeOf149→E3,sizeOf153→J1,underlying134→O7
open WL renaming nil→C4
open Wp renaming exit→C5,loop→C1
set_option maxRecDepth 100000
open Go.RowKit
set_option linter.unusedVariables false
set_option linter.unusedSectionVars false
set_option linter.unusedSimpArgs false
def mW:Nat→Nat→List UInt8→Nat × (List UInt8)
  | 0,a,b=>default
  | c+1,a,b=>if((a:Nat):Int) ≥ 128 then mW c (a / 128) (b++ [((UInt8.ofNat a) ||| (128:UInt8))]) else(a,b)
def rO (a:Nat):(List UInt8):=
 bnd (mW (a+1) a ([])) fun sLrL=>(sLrL.2++ [(UInt8.ofNat sLrL.1)])
theorem vZ (w D c j) (H:Own w D w []) (t:c≤18446744073709551615) (hr:rO c=j):
    Calls v5 117 #[vU c] w (dA fun v w'=> ∃ U V,v= .slice U j.length V∧Own w D w' [row U j.length V (q4 eB j) 5 1]∧(1≤j.length∧j.length≤10)∧(c ≥ 128∨j.length=1)):=by
 refine cb Tryz.func117 ?_
 refine sr (Ar rfl ?_)
 refine WL.do rfl (KR (m:=10) (size:=1) (bytes:=1) (z:= .int .u8 0) O7 e7 H rfl rfl e6 (by unfold maxLen; omega) ?_)
 intro F ag G
 refine An rfl (Ik (bo ?_))
 have I:=G.pf []
 obtain⟨J,d⟩:=ED fun (a:Nat) l (n:Nat) b (f:Nat) w'=>Own w D w' [row l b.length n (q4 eB b) 5 1]∧lJ b.length a∧b.length≤9∧(c ≥ 128∨(b.length=0∧a=c))∧a < f∧mW (c+1) c ([])=mW f a b
 refine C1 (fun i:Nat × (Option Addr) × Nat × (List UInt8) × Nat=> [(0,vU i.1),(3, .slice i.2.1 i.2.2.2.1.length i.2.2.1),(2, .slice none 0 0)]) J (fun i=>i.2.2.2.2) (c,F,10, [],c+1) ⟨rfl,rfl,rfl,trivial⟩ (d.2 ⟨I,(show lJ (0) c∧0≤9∧(c ≥ 128∨(0=0∧c=c))∧c < (c+1)∧mW (c+1) c ([])=mW (c+1) c ([]) from ⟨by first | exact lJ.zero t | exact lJ.step f5 j1,by first | exact Lp _ | (have q9:=lJ.le f5 e6; simp only [o2,s1,E7]; omega),e6,e6,rfl⟩)⟩) ?_
 rintro ⟨a,l,n,b,f⟩ ai u
 obtain⟨x,W,X,Y,Z,h⟩:=d.1 u
 obtain⟨o,A⟩:∃ q,f=q+1:=⟨f - 1,e6⟩
 subst A
 refine Ik (sr (Mz rfl (Kz (.bool (decide (((a:Nat):Int) ≥ 128))) (nt ?_))))
 by_cases g:((a:Nat):Int) ≥ 128
 refine jT (dT g) (sk (bo (sr (Mz rfl (Mz rfl (fw (.int .u8 (((UInt8.ofNat a).toNat:Nat):Int)) (Ir (e:=O8.wrap ((a:Nat):Int)) yk (yA _)) (fw (.int .u8 ((((UInt8.ofNat a) ||| (128:UInt8)).toNat:Nat):Int)) (Ir (e:=O8.wrap (((BitVec.ofInt 8 (((UInt8.ofNat a).toNat:Nat):Int) ||| BitVec.ofInt 8 128).toNat:Nat):Int)) yk (u8_or (UInt8.ofNat a) (128:UInt8))) ?_)))))))
 refine jV [.int .u8 ((((UInt8.ofNat a) ||| (128:UInt8)).toNat:Nat):Int)] 5 1 1 x ?_
 intro K aj p
 replace p:=IX (y:=row K 1 1 (q4 eB ([((UInt8.ofNat a) ||| (128:UInt8))])) 5 1) rfl p
 have B:=p.pb [0]
 refine WL.do rfl (IW (k:=b.length) (m:=1) (xQ) B rfl rfl (gN O7 (B.rds (i:=1) rfl) (dX xJ ([((UInt8.ofNat a) ||| (128:UInt8))]))) rfl e6 (s:=s0 (b++ [((UInt8.ofNat a) ||| (128:UInt8))])) f7 (r5).symm ?_)
 intro L M ak N
 have aa:s0 (b++ [((UInt8.ofNat a) ||| (128:UInt8))])=b.length+1:=by simp only [o2,s1,E7]
 refine An rfl (Il (Mz rfl (fw (vU (a / 128)) (Ir (e:=Int.fdiv ((a:Nat):Int) 128) yk (ny _ 7 _ f2)) (Az rfl (C4 (bN ?_))))))
 have O:=N.pk [0]
 exact II (a / 128,L,M,(b++ [((UInt8.ofNat a) ||| (128:UInt8))]),o) ⟨rfl,rfl,rfl,trivial⟩ (d.2 ⟨O,by first | exact lJ.zero t | exact lJ.step f5 j1,by first | exact Lp _ | (have q9:=lJ.le f5 e6; simp only [o2,s1,E7]; omega),e6,e6,Eq.trans (h) (if_pos g)⟩) (by show o < o+1; omega)
 refine jF (dF g) (C5 (IC ?_))
 have C:mW (c+1) c ([])=(a,b):=et (h) (iN g)
 refine IC (IK (Iq (sr (Mz rfl (Mz rfl (fw (.int .u8 (((UInt8.ofNat a).toNat:Nat):Int)) (Ir (e:=O8.wrap ((a:Nat):Int)) yk (yA _)) ?_))))))
 refine jV [.int .u8 (((UInt8.ofNat a).toNat:Nat):Int)] 5 1 1 x ?_
 intro P au r
 replace r:=IX (y:=row P 1 1 (q4 eB ([(UInt8.ofNat a)])) 5 1) rfl r
 have E:=r.pb [0]
 refine WL.do rfl (IW (k:=b.length) (m:=1) (xQ) E rfl rfl (gN O7 (E.rds (i:=1) rfl) (dX xJ ([(UInt8.ofNat a)]))) rfl e6 (s:=s0 (b++ [(UInt8.ofNat a)])) f7 (r5).symm ?_)
 intro Q R av S
 have af:s0 (b++ [(UInt8.ofNat a)])=b.length+1:=by simp only [o2,s1,E7]
 refine An rfl (rt (rs ?_))
 have T:=S.pk [0]
 obtain rfl:_=(b++ [(UInt8.ofNat a)]):=hr.symm.trans (ae C)
 exact⟨Q,R,rfl,T,f9,f9⟩
def uV (b:List UInt8):(List UInt8):=
 bnd (rO b.length) fun a=>(a++b)
theorem zx (w D b g) (H:Own w D w []) (C:b.length≤140737488351232) (hr:uV b=g):
    Calls v5 141 #[.string ⟨v6 b⟩] w (dA fun v w'=> ∃ u x,v= .slice u g.length x∧Own w D w' [row u g.length x (q4 eB g) 5 1]∧(g.length≤b.length+10)∧(b.length ≥ 128∨g.length=b.length+1)):=by
 refine cb Tryz.func141 ?_
 refine sr (Ar rfl (Mz rfl (Kz (vJ b.length) (fw (vU b.length) (Ir (e:=C7.wrap ((b.length:Nat):Int)) yk (IntWalk.u64_in _ e6)) ?_))))
 obtain⟨a,c⟩:∃ q,rO b.length=q:=⟨_,rfl⟩
 obtain⟨E,h,y,j,z⟩:=Iu H
 refine cl Tryz.call117 (vZ _ _ b.length a h e6 c) ?_
 rintro _ F ⟨G,I,rfl,l,d,f⟩
 have n:=j _ _ l
 have A:=n.rowC (i:=0) rfl
 replace d:1≤a.length∧a.length≤10:=d
 replace f:b.length ≥ 128∨a.length=1:=f
 refine Mz rfl ?_
 refine WL.do rfl (IW (k:=a.length) (m:=b.length) (xQ) n rfl rfl (Fb Tryz.underlying9 rfl) rfl e6 (s:=s0 (a++b)) f7 (r5).symm ?_)
 intro o p J r
 have B:s0 (a++b)=a.length+b.length:=by simp only [o2,s1,E7]
 refine An rfl (rt (rs ?_))
 have t:=r.pf []
 obtain rfl:_=(a++b):=hr.symm.trans (ae c)
 exact⟨o,p,rfl,t,f9,f9⟩
def bS (b:dz) (c:Nat):dz:=
 bnd (rO c) fun a=>dz.mk (E0 (b.xb.ls++a))
theorem dJ (w D g) (b:dz) (c d p) (r:dz) (H:Own w D w [blk g [.slice c b.xb.ls.length d] 159,row c b.xb.ls.length d (q4 eB b.xb.ls) 5 1]) (O:b.xb.ls.length≤9000000000∧p≤18446744073709551615) (hr:bS b p=r):
    Calls v5 79 #[vP g 0,vU p] w (dA fun v w'=> ∃ e f,v= .tuple #[]∧Own w D w' [blk g [.slice e r.xb.ls.length f] 159,row e r.xb.ls.length f (q4 eB r.xb.ls) 5 1]∧(r.xb.ls.length≤b.xb.ls.length+10)):=by
 have E:=H.rowC (i:=1) rfl
 refine cb Tryz.func79 ?_
 have h:=H.drew
 refine Jr [7,10] (fun W=> ∃ L',Own w D W ([blk g [.slice c b.xb.ls.length d] 159,row c b.xb.ls.length d (q4 eB b.xb.ls) 5 1]++L')) e7 e7 IQ ⟨_,h⟩ ?_
 revert h
 generalize World.drew w=P
 intro h
 refine I4 (v:=vP g 0) 0 rfl e7 (fun _=>IA rfl) (qv 1 rfl rfl (qp g 0 2 rfl (qp g 0 3 rfl (ql 4 rfl 0 Tryz.isAgg134 rfl rfl rfl (qv 5 rfl rfl ?_)))))
 obtain⟨a,j⟩:∃ q,rO p=q:=⟨_,rfl⟩
 obtain⟨Q,t,K,u,L⟩:=Iu h
 refine qd 6 rfl (IP Tryz.call117 rfl (vZ _ _ p a t e6 j) ?_)
 rintro _ R ⟨S,T,rfl,x,l,n⟩
 have y:=u _ _ x
 have M:=y.rowC (i:=0) rfl
 replace l:1≤a.length∧a.length≤10:=l
 replace n:p ≥ 128∨a.length=1:=n
 have z:=y.pb [0]
 refine⟨.inr ⟨_,z⟩, ?_⟩
 have A:=z.pf [1]
 refine qd 7 rfl (IW (k:=b.xb.ls.length) (m:=a.length) (xQ) A rfl rfl (gN O7 (A.rds (i:=2) rfl) (dX xJ a)) rfl e6 (s:=s0 (b.xb.ls++a)) f7 (r5).symm ?_)
 intro B C U F
 have N:s0 (b.xb.ls++a)=b.xb.ls.length+a.length:=by simp only [o2,s1,E7]
 refine⟨.inl e7, ?_⟩
 refine I4 (v:=vP g 0) 8 rfl e7 (fun _=>yk) (I4 (v:=vP g 0) 9 rfl e7 (fun _=>yk) ?_)
 have G:=F.pf [1]
 refine qe 10 rfl (Do.store (vs:= [.slice B (s0 (b.xb.ls++a)) C]) (o:=0) G rfl rfl Tryz.sizeOf134 rfl rfl rfl rfl ?_)
 intro V I
 refine⟨.inl e7, ?_⟩
 refine qn (IL (res0 rfl) ?_)
 have J:=I.pk [0,1]
 obtain rfl:_=dz.mk (E0 (b.xb.ls++a)):=hr.symm.trans (ae j)
 exact⟨B,C,rfl,J,f9⟩
def iE (b:dz) (c:List UInt8):dz:=
 bnd (uV c) fun a=>dz.mk (E0 (b.xb.ls++a))
theorem kW (w D g) (b:dz) (c d j) (r:dz) (H:Own w D w [blk g [.slice c b.xb.ls.length d] 159,row c b.xb.ls.length d (q4 eB b.xb.ls) 5 1]) (O:b.xb.ls.length≤9000000000∧j.length≤16) (hr:iE b j=r):
    Calls v5 119 #[vP g 0, .string ⟨v6 j⟩] w (dA fun v w'=> ∃ e f,v= .tuple #[]∧Own w D w' [blk g [.slice e r.xb.ls.length f] 159,row e r.xb.ls.length f (q4 eB r.xb.ls) 5 1]∧(r.xb.ls.length≤b.xb.ls.length+26)):=by
 have E:=H.rowC (i:=1) rfl
 refine cb Tryz.func119 ?_
 have h:=H.drew
 refine Jr [7,10] (fun W=> ∃ L',Own w D W ([blk g [.slice c b.xb.ls.length d] 159,row c b.xb.ls.length d (q4 eB b.xb.ls) 5 1]++L')) e7 e7 IQ ⟨_,h⟩ ?_
 revert h
 generalize World.drew w=P
 intro h
 refine I4 (v:=vP g 0) 0 rfl e7 (fun _=>IA rfl) (qv 1 rfl rfl (qp g 0 2 rfl (qp g 0 3 rfl (ql 4 rfl 0 Tryz.isAgg134 rfl rfl rfl (qv 5 rfl rfl ?_)))))
 obtain⟨a,l⟩:∃ q,uV j=q:=⟨_,rfl⟩
 obtain⟨Q,t,K,u,L⟩:=Iu h
 refine qd 6 rfl (IP Tryz.call141 rfl (zx _ _ j a t e6 l) ?_)
 rintro _ R ⟨S,T,rfl,x,n,p⟩
 have y:=u _ _ x
 have M:=y.rowC (i:=0) rfl
 replace n:a.length≤j.length+10:=n
 replace p:j.length ≥ 128∨a.length=j.length+1:=p
 have z:=y.pb [0]
 refine⟨.inr ⟨_,z⟩, ?_⟩
 have A:=z.pf [1]
 refine qd 7 rfl (IW (k:=b.xb.ls.length) (m:=a.length) (xQ) A rfl rfl (gN O7 (A.rds (i:=2) rfl) (dX xJ a)) rfl e6 (s:=s0 (b.xb.ls++a)) f7 (r5).symm ?_)
 intro B C U F
 have N:s0 (b.xb.ls++a)=b.xb.ls.length+a.length:=by simp only [o2,s1,E7]
 refine⟨.inl e7, ?_⟩
 refine I4 (v:=vP g 0) 8 rfl e7 (fun _=>yk) (I4 (v:=vP g 0) 9 rfl e7 (fun _=>yk) ?_)
 have G:=F.pf [1]
 refine qe 10 rfl (Do.store (vs:= [.slice B (s0 (b.xb.ls++a)) C]) (o:=0) G rfl rfl Tryz.sizeOf134 rfl rfl rfl rfl ?_)
 intro V I
 refine⟨.inl e7, ?_⟩
 refine qn (IL (res0 rfl) ?_)
 have J:=I.pk [0,1]
 obtain rfl:_=dz.mk (E0 (b.xb.ls++a)):=hr.symm.trans (ae l)
 exact⟨B,C,rfl,J,f9⟩
def oP (d:dz) (c:aM):dz:=
 bnd (iE d c.aJ) fun a=>bnd (bS a (C6 (C7.wrap c.bE))) fun b=>b
set_option maxHeartbeats 1000000 in
theorem um (w D r) (h:dz) (b c) (a:aM) (s:dz) (H:Own w D w [blk r [.slice b h.xb.ls.length c] 159,row b h.xb.ls.length c (q4 eB h.xb.ls) 5 1]) (U:h.xb.ls.length≤8000000000) (V:(a.aJ.length≤12)) (hr:oP h a=s):
    Calls v5 81 #[vP r 0, .agg (aM.cells a).toArray] w (dA fun v w'=> ∃ d f,v= .tuple #[]∧Own w D w' [blk r [.slice d s.xb.ls.length f] 159,row d s.xb.ls.length f (q4 eB s.xb.ls) 5 1]∧(s.xb.ls.length≤h.xb.ls.length+40)):=by
 have F:=H.rowC (i:=1) rfl
 refine cb Tryz.func81 ?_
 refine sr ?_
 refine dn (aM.cells a) 89 H ?_
 intro t W u
 refine ns (Mz rfl (Kz (vP t 0) (Lz (.string ⟨v6 a.aJ⟩) u 0 C0 ?_)))
 have G:=u.pb [0]
 obtain⟨g,j⟩:∃ q,iE h a.aJ=q:=⟨_,rfl⟩
 obtain⟨X,x,N,y,O⟩:=IV G
 refine cl O9 (kW _ _ r h b c a.aJ g x f4 j) ?_
 rintro _ Y ⟨I,J,rfl,z,l⟩
 have o:=y _ _ z
 have P:=o.rowC (i:=1) rfl
 replace l:g.xb.ls.length≤h.xb.ls.length+26:=l
 refine nt (Il (Mz rfl (Kz (vP t 1) (Lz (vI a.bE) o 2 C2 ?_))))
 refine WL.do rfl (IP P0 rfl ?_ (fun _ _ k=>k))
 refine cb P1 ?_
 refine Il (Mz rfl (Mz rfl ?_))
 have Q:C6 (C7.wrap a.bE)≤18446744073709551615:=lV _
 refine fw (vU (C6 (C7.wrap a.bE))) (Ir (e:=C7.wrap a.bE) yk (fB _)) ?_
 obtain⟨p,m⟩:∃ q,bS g (C6 (C7.wrap a.bE))=q:=⟨_,rfl⟩
 obtain⟨Z,A,R,B,S⟩:=IV o
 refine cl P2 (dJ _ _ r g I J (C6 (C7.wrap a.bE)) p A f4 m) ?_
 rintro _ aa ⟨K,L,rfl,C,n⟩
 have E:=B _ _ C
 have T:=E.rowC (i:=1) rfl
 replace n:p.xb.ls.length≤g.xb.ls.length+10:=n
 refine C4 (IL (res0 rfl) (C4 (IL (res0 rfl) ?_)))
 have M:=E.pk [0,1]
 obtain rfl:_=p:=hr.symm.trans (et (ae j) (ae m))
 exact⟨K,L,rfl,M,f9⟩
def lX (d:dz) (c:aH):dz:=
 bnd (iE d c.aZ) fun a=>bnd (iE a c.aG) fun b=>b
set_option maxHeartbeats 1000000 in
theorem qx (w D m) (j:dz) (c d) (a:aH) (u:dz) (H:Own w D w [blk m [.slice c j.xb.ls.length d] 159,row c j.xb.ls.length d (q4 eB j.xb.ls) 5 1]) (X:j.xb.ls.length≤8000000000) (Y:(a.aZ.length≤12∧a.aG.length≤16)) (hr:lX j a=u):
    Calls v5 145 #[vP m 0, .agg (aH.cells a).toArray] w (dA fun v w'=> ∃ e f,v= .tuple #[]∧Own w D w' [blk m [.slice e u.xb.ls.length f] 159,row e u.xb.ls.length f (q4 eB u.xb.ls) 5 1]∧(u.xb.ls.length≤j.xb.ls.length+60)):=by
 have K:=H.rowC (i:=1) rfl
 refine cb Tryz.func145 ?_
 refine sr ?_
 refine dn (aH.cells a) 153 H ?_
 intro x Z s
 refine nt (Il (Mz rfl (Kz (.func (.func 119) #[vP m 0] #[]) (Kz (vP x 0) (Lz (.string ⟨v6 a.aZ⟩) s 0 C0 (Kz (vP x 1) (Lz (.string ⟨v6 a.aG⟩) s 0 C0 ?_)))))))
 refine jV [.string ⟨v6 a.aZ⟩, .string ⟨v6 a.aG⟩] 9 1 2 s ?_
 intro b aa g
 replace g:=IX (y:=row b 2 2 (q4 eS ([a.aZ,a.aG])) 9 1) rfl g
 refine WL.do rfl (IP Tryz.call161 rfl ?_ (fun _ _ k=>k))
 refine cb Tryz.func161 ?_
 refine sr (Mz rfl (Kz (vI 2) (Mn rfl (bo (JG 200 (sr (Kz (.bool true) (nt (Ik (jt (sk (Ik (bo (sr ?_))))))))))))))
 have z:([a.aZ,a.aG]:List (List UInt8))[0]? =some a.aZ:=rfl
 refine fw (.pointer (some ⟨ab b,ao b+0 *1,none⟩)) (Iz (EI) rfl rfl ((g.rds (i:=0) rfl).addr (i:=0) e6) e6) (fw (.string ⟨v6 a.aZ⟩) (IB rfl (bJ.one C0 (((g.rds (i:=0) rfl).elem zP z f2).at_ (k:=0) rfl))) (An rfl (Il (Mz rfl (Mz rfl ?_)))))
 have L:=g.pb [0,1]
 obtain⟨h,n⟩:∃ q,iE j a.aZ=q:=⟨_,rfl⟩
 obtain⟨af,A,R,B,S⟩:=IV L
 refine WL.do rfl (IY O9 rfl rfl (kW _ _ m j c d a.aZ h A f4 n) ?_)
 rintro _ ag ⟨M,N,rfl,C,o⟩
 have l:=B _ _ C
 have T:=l.rowC (i:=1) rfl
 replace o:h.xb.ls.length≤j.xb.ls.length+26:=o
 refine C4 (bN (Iq (Il (Kz (vI 1) (Mz rfl (C4 (Jh [(8,vI 1),(7,vI 2),(6, .slice b 2 2),(0, .func (.func 119) #[vP m 0] #[])] ⟨rfl,rfl,rfl,rfl,trivial⟩ (sr (Kz (.bool true) (nt (Ik (jt (sk (Ik (bo (sr ?_))))))))))))))))
 have E:([a.aZ,a.aG]:List (List UInt8))[1]? =some a.aG:=rfl
 refine fw (.pointer (some ⟨ab b,ao b+1 *1,none⟩)) (Iz (EI) rfl rfl ((l.rds (i:=2) rfl).addr (i:=1) e6) e6) (fw (.string ⟨v6 a.aG⟩) (IB rfl (bJ.one C0 (((l.rds (i:=2) rfl).elem zP E f2).at_ (k:=0) rfl))) (An rfl (Il (Mz rfl (Mz rfl ?_)))))
 obtain⟨t,p⟩:∃ q,iE h a.aG=q:=⟨_,rfl⟩
 obtain⟨ah,F,U,G,V⟩:=IV l
 refine WL.do rfl (IY O9 rfl rfl (kW _ _ m h M N a.aG t F f4 p) ?_)
 rintro _ ai ⟨O,P,rfl,I,r⟩
 have J:=G _ _ I
 have W:=J.rowC (i:=1) rfl
 replace r:t.xb.ls.length≤h.xb.ls.length+26:=r
 refine C4 (bN (Iq (Il (Kz (vI 2) (Mz rfl (C4 (Jh [(8,vI 2),(7,vI 2),(6, .slice b 2 2),(0, .func (.func 119) #[vP m 0] #[])] ⟨rfl,rfl,rfl,rfl,trivial⟩ (sr (Kz (.bool false) (nt (Ik (jf (C5 (IC (IC (IK (IL (res0 rfl) (C4 (IL (res0 rfl) ?_)))))))))))))))))))
 have Q:=J.pk [0,1]
 obtain rfl:_=t:=hr.symm.trans (et (ae n) (ae p))
 exact⟨O,P,rfl,Q,f9⟩
def jg:List aH→List UInt8→(List UInt8)
  | [],a=>a
  | c::d,a=>bnd (lX (dz.mk (E0 a)) c) fun b=>jg d b.xb.ls
def jh:List aH→List UInt8→(List UInt8)
  | [],a=>a
  | c::d,a=>bnd (lX (dz.mk (E0 a)) c) fun b=>jh d b.xb.ls
def oG (h:dz) (a:aQ):dz:=
 if a.dV=true then bnd (bS h 1) fun e=>bnd (iE e a.aG) fun f=>bnd (bS f a.aj.ls.length) fun g=>bnd (jg a.aj.ls g.xb.ls) fun sLrtbbbL=>dz.mk (E0 sLrtbbbL) else bnd (bS h 0) fun b=>bnd (iE b a.aG) fun c=>bnd (bS c a.aj.ls.length) fun d=>bnd (jh a.aj.ls d.xb.ls) fun sLrfbbbL=>dz.mk (E0 sLrfbbbL)
set_option maxHeartbeats 1000000 in
theorem uf (w D n) (E:dz) (A B) (a:aQ) (c ai f) (r0:dz) (H:Own w D w [blk n [.slice A E.xb.ls.length B] 159,row A E.xb.ls.length B (q4 eB E.xb.ls) 5 1]) (aI:ai=a.aj.ls.length) (h:Ro w D fun w'=>aY w' 2 c a.aj.ls.length (q4 aH.cells a.aj.ls)) (dD:a.aj.ls.length≤f∧a.aj.ls.length≤9223372036854775807) (fZ:E.xb.ls.length≤7000000000) (ah:(a.aG.length≤16∧a.aj.ls.length≤4∧∀ q ∈ a.aj.ls,q.aZ.length≤12∧q.aG.length≤16)) (hr:oG E a=r0):
    Calls v5 124 #[vP n 0, .agg #[.bool a.dV, .string ⟨v6 a.aG⟩, .slice c ai f]] w (dA fun v w'=> ∃ F G,v= .tuple #[]∧Own w D w' [blk n [.slice F r0.xb.ls.length G] 159,row F r0.xb.ls.length G (q4 eB r0.xb.ls) 5 1]∧(r0.xb.ls.length≤E.xb.ls.length+300)):=by
 subst aI
 have dE:=H.rowC (i:=1) rfl
 have eP:=ah.1
 have eQ:=ah.2.1
 refine cb Tryz.func124 ?_
 refine sr ?_
 refine dn [.bool a.dV, .string ⟨v6 a.aG⟩, .slice c a.aj.ls.length f] 149 H ?_
 intro x gm aJ
 refine ns (An rfl (Ik (sr (Kz (vP x 0) (Lz (.bool a.dV) aJ 0 Tryz.isAgg4 (nt ?_))))))
 rcases Ls (a.dV) with I | I
 refine jT I (Il (Ar rfl (Mz rfl (Mz rfl ?_))))
 refine WL.do rfl (IP P0 rfl ?_ (fun _ _ k=>k))
 refine cb P1 ?_
 refine Il (Mz rfl (Mz rfl (fw (.int .u64 1) (Ir (e:=C7.wrap 1) yk (IntWalk.u64_in _ e6)) ?_)))
 have dG:=aJ.pb [0]
 obtain⟨J,aj⟩:∃ q,bS E 1=q:=⟨_,rfl⟩
 obtain⟨gp,bA,eT,bB,eU⟩:=IV dG
 refine cl P2 (dJ _ _ n E A B 1 J bA f4 aj) ?_
 rintro _ gq ⟨dH,dI,rfl,bC,ak⟩
 have aK:=bB _ _ bC
 have eX:=aK.rowC (i:=1) rfl
 replace ak:J.xb.ls.length≤E.xb.ls.length+10:=ak
 refine C4 (IL (res0 rfl) (ns (Mz rfl (Kz (vP x 1) (Lz (.string ⟨v6 a.aG⟩) aK 2 C0 ?_)))))
 obtain⟨K,au⟩:∃ q,iE J a.aG=q:=⟨_,rfl⟩
 obtain⟨gu,bD,eY,bE,eZ⟩:=IV aK
 refine cl O9 (kW _ _ n J dH dI a.aG K bD f4 au) ?_
 rintro _ gy ⟨dK,dL,rfl,bF,av⟩
 have aL:=bE _ _ bF
 have fe:=aL.rowC (i:=1) rfl
 replace av:K.xb.ls.length≤J.xb.ls.length+26:=av
 refine nt (Il (Mz rfl (Kz (vP x 2) (Lz (.slice c a.aj.ls.length f) aL 2 Tryz.isAgg147 (Mz rfl (Kz (.func (.func 145) #[vP n 0] #[]) ?_))))))
 refine WL.do rfl (IP Tryz.call144 rfl ?_ (fun _ _ k=>k))
 refine cb Tryz.func144 ?_
 refine sr (Mz rfl (Mz rfl (Kz (vJ a.aj.ls.length) ?_)))
 refine WL.do rfl (IP P0 rfl ?_ (fun _ _ k=>k))
 refine cb P1 ?_
 refine Il (Mz rfl (Mz rfl (fw (vU a.aj.ls.length) (Ir (e:=C7.wrap ((a.aj.ls.length:Nat):Int)) yk (IntWalk.u64_in _ e6)) ?_)))
 obtain⟨C,ax⟩:∃ q,bS K a.aj.ls.length=q:=⟨_,rfl⟩
 obtain⟨gz,bG,fo,bH,fq⟩:=IV aL
 refine cl P2 (dJ _ _ n K dK dL a.aj.ls.length C bG f4 ax) ?_
 rintro _ gB ⟨dM,dN,rfl,bI,ay⟩
 have bJ:=bH _ _ bI
 have fu:=bJ.rowC (i:=1) rfl
 replace ay:C.xb.ls.length≤K.xb.ls.length+10:=ay
 refine C4 (IL (res0 rfl) (nt (Il (Mz rfl (Mz rfl ?_)))))
 refine WL.do rfl (IP Tryz.call160 rfl ?_ (fun _ _ k=>k))
 refine cb Tryz.func160 ?_
 refine sr (Mz rfl (Kz (vJ a.aj.ls.length) (Mn rfl (bo ?_))))
 have dO:=bJ.pb [1]
 obtain⟨dP,L⟩:=tq fun (g:Nat) M (N:Nat) j w'=>Own w D w' [blk n [.slice M j.length N] 159,blk x [.bool a.dV, .string ⟨v6 a.aG⟩, .slice c a.aj.ls.length f] 149,row M j.length N (q4 eB j) 5 1]∧g≤a.aj.ls.length∧((j.length:Nat):Int)≤((C.xb.ls.length:Nat):Int)+60 *((g:Nat):Int)∧jg a.aj.ls C.xb.ls=jg (r4 g a.aj.ls) j
 refine C1 (fun i:Nat × (Option Addr) × Nat × (List UInt8)=> [(8,vJ i.1),(7,vJ a.aj.ls.length),(6, .slice c a.aj.ls.length f),(0, .func (.func 145) #[vP n 0] #[])]) dP (fun i=>a.aj.ls.length - i.1) (0,dM,dN,C.xb.ls) ⟨rfl,rfl,rfl,rfl,trivial⟩ (L.2 ⟨dO,e6,e6,rfl⟩) ?_
 rintro ⟨g,M,N,j⟩ gD bK
 obtain⟨O,fA,fB,az⟩:=L.1 bK
 refine sr (Kz (.bool (decide (((g:Nat):Int) < ((a.aj.ls.length:Nat):Int)))) (nt (Ik ?_)))
 by_cases bL:((g:Nat):Int) < ((a.aj.ls.length:Nat):Int)
 obtain⟨o,P⟩:=dh (ls:=a.aj.ls) (i:=g) aH.len f2 (O.ro h) e9
 have bM:o.aZ.length≤12∧o.aG.length≤16:=ah.2.2 _ (D1 P)
 have bO:=drop_at P
 refine jT (dT bL) (sk (Ik (bo (sr (fw (.pointer (some ⟨ab c,ao c+g *2,none⟩)) (Iz (jL) rfl rfl ((O.ro h).addr (i:=g) e6) e6) (fw (.agg (aH.cells o).toArray) (IB rfl (IJ (cs:=(aH.cells o)) J0 J1 ((O.ro h).elem aH.len P f2))) ?_))))))
 refine dn [.string ⟨v6 ([])⟩, .string ⟨v6 ([])⟩] 153 O ?_
 intro gF gG dQ
 refine df (aH.cells o) 0 dQ J1 ?_
 intro gH bP
 refine nt (Il (Mz rfl (La (aH.cells o) bP 0 J0 J1 ?_)))
 have dR:=bP.pb [0,2]
 obtain⟨aM,aA⟩:∃ q,lX (dz.mk (E0 j)) o=q:=⟨_,rfl⟩
 obtain⟨gI,bQ,fC,bR,fD⟩:=IV dR
 refine WL.do rfl (IY Tryz.call145 rfl rfl (qx _ _ n (dz.mk (E0 j)) M N o aM bQ f4 (by exact bM) aA) ?_)
 rintro _ fE ⟨bT,bU,rfl,aN,Q⟩
 have aB:=bR _ _ aN
 have dS:=aB.rowC (i:=1) rfl
 replace Q:aM.xb.ls.length≤j.length+60:=Q
 refine C4 (bN (Iq (Il (fw (vJ (g+1)) (Ir (e:=C3.wrap (((g:Nat):Int)+1)) yk f0) (Mz rfl (C4 ?_))))))
 have bV:=aB.pk [0,3,1]
 exact II (g+1,bT,bU,aM.xb.ls) ⟨rfl,rfl,rfl,rfl,trivial⟩ (L.2 ⟨bV,e6,e6,et (az) (et (congrArg (fun q=>jg q j) bO) (ae aA))⟩) (by show a.aj.ls.length - (g+1) < a.aj.ls.length - g; omega)
 refine jF (dF bL) (C5 (IC ?_))
 have aO:jg a.aj.ls C.xb.ls=j:=et (az) (et (congrArg (fun q=>jg q j) (dZ (ls:=a.aj.ls) (i:=g) e6)) rfl)
 refine IC (IK (IL (res0 rfl) (C4 (IL (res0 rfl) (C4 (IL (res0 rfl) ?_))))))
 have bW:=O.pk [0,2]
 obtain rfl:_=dz.mk (E0 j):=hr.symm.trans (et (ip I) (et (ae aj) (et (ae au) (et (ae ax) (ae aO)))))
 exact⟨M,N,rfl,bW,f9⟩
 refine jF I (sk (sr (Mz rfl (Mz rfl ?_))))
 refine WL.do rfl (IP P0 rfl ?_ (fun _ _ k=>k))
 refine cb P1 ?_
 refine Il (Mz rfl (Mz rfl (fw (.int .u64 0) (Ir (e:=C7.wrap 0) yk (IntWalk.u64_in _ e6)) ?_)))
 have bX:=aJ.pb [0]
 obtain⟨p,R⟩:∃ q,bS E 0=q:=⟨_,rfl⟩
 obtain⟨fF,aP,dU,aR,dV⟩:=IV bX
 refine cl P2 (dJ _ _ n E A B 0 p aP f4 R) ?_
 rintro _ fG ⟨bY,bZ,rfl,aS,S⟩
 have T:=aR _ _ aS
 have dW:=T.rowC (i:=1) rfl
 replace S:p.xb.ls.length≤E.xb.ls.length+10:=S
 refine C4 (IL (res0 rfl) (ns (Mz rfl (Kz (vP x 1) (Lz (.string ⟨v6 a.aG⟩) T 2 C0 ?_)))))
 obtain⟨r,U⟩:∃ q,iE p a.aG=q:=⟨_,rfl⟩
 obtain⟨fH,aT,dX,aU,dY⟩:=IV T
 refine cl O9 (kW _ _ n p bY bZ a.aG r aT f4 U) ?_
 rintro _ fI ⟨cu,cz,rfl,aV,V⟩
 have W:=aU _ _ aV
 have d9:=W.rowC (i:=1) rfl
 replace V:r.xb.ls.length≤p.xb.ls.length+26:=V
 refine nt (Il (Mz rfl (Kz (vP x 2) (Lz (.slice c a.aj.ls.length f) W 2 Tryz.isAgg147 (Mz rfl (Kz (.func (.func 145) #[vP n 0] #[]) ?_))))))
 refine WL.do rfl (IP Tryz.call144 rfl ?_ (fun _ _ k=>k))
 refine cb Tryz.func144 ?_
 refine sr (Mz rfl (Mz rfl (Kz (vJ a.aj.ls.length) ?_)))
 refine WL.do rfl (IP P0 rfl ?_ (fun _ _ k=>k))
 refine cb P1 ?_
 refine Il (Mz rfl (Mz rfl (fw (vU a.aj.ls.length) (Ir (e:=C7.wrap ((a.aj.ls.length:Nat):Int)) yk (IntWalk.u64_in _ e6)) ?_)))
 obtain⟨m,X⟩:∃ q,bS r a.aj.ls.length=q:=⟨_,rfl⟩
 obtain⟨fJ,aW,ed,aX,ek⟩:=IV W
 refine cl P2 (dJ _ _ n r cu cz a.aj.ls.length m aW f4 X) ?_
 rintro _ fK ⟨cB,cK,rfl,aZ,Y⟩
 have aC:=aX _ _ aZ
 have eu:=aC.rowC (i:=1) rfl
 replace Y:m.xb.ls.length≤r.xb.ls.length+10:=Y
 refine C4 (IL (res0 rfl) (nt (Il (Mz rfl (Mz rfl ?_)))))
 refine WL.do rfl (IP Tryz.call160 rfl ?_ (fun _ _ k=>k))
 refine cb Tryz.func160 ?_
 refine sr (Mz rfl (Kz (vJ a.aj.ls.length) (Mn rfl (bo ?_))))
 have cO:=aC.pb [1]
 obtain⟨cZ,y⟩:=tq fun (b:Nat) s (t:Nat) d w'=>Own w D w' [blk n [.slice s d.length t] 159,blk x [.bool a.dV, .string ⟨v6 a.aG⟩, .slice c a.aj.ls.length f] 149,row s d.length t (q4 eB d) 5 1]∧b≤a.aj.ls.length∧((d.length:Nat):Int)≤((m.xb.ls.length:Nat):Int)+60 *((b:Nat):Int)∧jh a.aj.ls m.xb.ls=jh (r4 b a.aj.ls) d
 refine C1 (fun i:Nat × (Option Addr) × Nat × (List UInt8)=> [(8,vJ i.1),(7,vJ a.aj.ls.length),(6, .slice c a.aj.ls.length f),(0, .func (.func 145) #[vP n 0] #[])]) cZ (fun i=>a.aj.ls.length - i.1) (0,cB,cK,m.xb.ls) ⟨rfl,rfl,rfl,rfl,trivial⟩ (y.2 ⟨cO,e6,e6,rfl⟩) ?_
 rintro ⟨b,s,t,d⟩ fM bf
 obtain⟨u,eD,eF,Z⟩:=y.1 bf
 refine sr (Kz (.bool (decide (((b:Nat):Int) < ((a.aj.ls.length:Nat):Int)))) (nt (Ik ?_)))
 by_cases aD:((b:Nat):Int) < ((a.aj.ls.length:Nat):Int)
 obtain⟨l,z⟩:=dh (ls:=a.aj.ls) (i:=b) aH.len f2 (u.ro h) e9
 have bg:l.aZ.length≤12∧l.aG.length≤16:=ah.2.2 _ (D1 z)
 have bi:=drop_at z
 refine jT (dT aD) (sk (Ik (bo (sr (fw (.pointer (some ⟨ab c,ao c+b *2,none⟩)) (Iz (jL) rfl rfl ((u.ro h).addr (i:=b) e6) e6) (fw (.agg (aH.cells l).toArray) (IB rfl (IJ (cs:=(aH.cells l)) J0 J1 ((u.ro h).elem aH.len z f2))) ?_))))))
 refine dn [.string ⟨v6 ([])⟩, .string ⟨v6 ([])⟩] 153 u ?_
 intro fO fQ di
 refine df (aH.cells l) 0 di J1 ?_
 intro fT aF
 refine nt (Il (Mz rfl (La (aH.cells l) aF 0 J0 J1 ?_)))
 have dm:=aF.pb [0,2]
 obtain⟨aa,af⟩:∃ q,lX (dz.mk (E0 d)) l=q:=⟨_,rfl⟩
 obtain⟨fU,bn,eG,bq,eH⟩:=IV dm
 refine WL.do rfl (IY Tryz.call145 rfl rfl (qx _ _ n (dz.mk (E0 d)) s t l aa bn f4 (by exact bg) af) ?_)
 rintro _ fV ⟨dw,dx,rfl,bu,ag⟩
 have aG:=bq _ _ bu
 have eO:=aG.rowC (i:=1) rfl
 replace ag:aa.xb.ls.length≤d.length+60:=ag
 refine C4 (bN (Iq (Il (fw (vJ (b+1)) (Ir (e:=C3.wrap (((b:Nat):Int)+1)) yk f0) (Mz rfl (C4 ?_))))))
 have dB:=aG.pk [0,3,1]
 exact II (b+1,dw,dx,aa.xb.ls) ⟨rfl,rfl,rfl,rfl,trivial⟩ (y.2 ⟨dB,e6,e6,et (Z) (et (congrArg (fun q=>jh q d) bi) (ae af))⟩) (by show a.aj.ls.length - (b+1) < a.aj.ls.length - b; omega)
 refine jF (dF aD) (C5 (IC ?_))
 have bv:jh a.aj.ls m.xb.ls=d:=et (Z) (et (congrArg (fun q=>jh q d) (dZ (ls:=a.aj.ls) (i:=b) e6)) rfl)
 refine IC (IK (IL (res0 rfl) (C4 (IL (res0 rfl) (C4 (IL (res0 rfl) ?_))))))
 have dC:=u.pk [0,2]
 obtain rfl:_=dz.mk (E0 d):=hr.symm.trans (et (fP I) (et (ae R) (et (ae U) (et (ae X) (ae bv)))))
 exact⟨s,t,rfl,dC,f9⟩
def iR:List Int→List UInt8→(List UInt8)
  | [],a=>a
  | c::d,a=>bnd (bS (dz.mk (E0 a)) (C6 (C7.wrap c))) fun b=>iR d b.xb.ls
def nH (g:dz) (a:bH):dz:=
 bnd (bS g a.aX) fun b=>bnd (bS b (C6 (C7.wrap a.aP))) fun c=>bnd (bS c a.ax) fun d=>bnd (bS d a.aU) fun e=>bnd (bS e a.au.ls.length) fun f=>bnd (iR a.au.ls f.xb.ls) fun sLrbbbbbL=>dz.mk (E0 sLrbbbbbL)
set_option maxHeartbeats 1000000 in
theorem sK (w D m) (N:dz) (t u) (a:bH) (d R f) (r0:dz) (H:Own w D w [blk m [.slice t N.xb.ls.length u] 159,row t N.xb.ls.length u (q4 eB N.xb.ls) 5 1]) (ah:R=a.au.ls.length) (n:Ro w D fun w'=>aY w' 1 d a.au.ls.length (q4 (eI .i64) a.au.ls)) (bu:a.au.ls.length≤f∧a.au.ls.length≤9223372036854775807) (dI:N.xb.ls.length≤7000000000) (O:(a.aX≤18446744073709551615∧a.ax≤18446744073709551615∧a.aU≤18446744073709551615∧a.au.ls.length≤4)) (hr:nH N a=r0):
    Calls v5 83 #[vP m 0, .agg #[vU a.aX,vI a.aP,vU a.ax,vU a.aU, .slice d R f]] w (dA fun v w'=> ∃ x z,v= .tuple #[]∧Own w D w' [blk m [.slice x r0.xb.ls.length z] 159,row x r0.xb.ls.length z (q4 eB r0.xb.ls) 5 1]∧(r0.xb.ls.length≤N.xb.ls.length+100)):=by
 subst ah
 have bv:=H.rowC (i:=1) rfl
 have bV:=O.1
 have bW:=O.2.1
 have bX:=O.2.2.1
 have bY:=O.2.2.2
 refine cb Tryz.func83 ?_
 refine sr ?_
 refine dn [vU a.aX,vI a.aP,vU a.ax,vU a.aU, .slice d a.au.ls.length f] 60 H ?_
 intro r dK aA
 refine ns (Mz rfl (Kz (vP r 0) (Lz (vU a.aX) aA 0 D2 ?_)))
 have bz:=aA.pb [0]
 obtain⟨A,S⟩:∃ q,bS N a.aX=q:=⟨_,rfl⟩
 obtain⟨dL,aB,bZ,aC,cu⟩:=IV bz
 refine cl P2 (dJ _ _ m N t u a.aX A aB f4 S) ?_
 rintro _ dM ⟨bA,bB,rfl,aD,T⟩
 have ai:=aC _ _ aD
 have cz:=ai.rowC (i:=1) rfl
 replace T:A.xb.ls.length≤N.xb.ls.length+10:=T
 refine ns (Mz rfl (Kz (vP r 1) (Lz (vI a.aP) ai 2 C2 ?_)))
 refine WL.do rfl (IP P0 rfl ?_ (fun _ _ k=>k))
 refine cb P1 ?_
 refine Il (Mz rfl (Mz rfl ?_))
 have cB:C6 (C7.wrap a.aP)≤18446744073709551615:=lV _
 refine fw (vU (C6 (C7.wrap a.aP))) (Ir (e:=C7.wrap a.aP) yk (fB _)) ?_
 obtain⟨B,U⟩:∃ q,bS A (C6 (C7.wrap a.aP))=q:=⟨_,rfl⟩
 obtain⟨dN,aF,cK,aG,cO⟩:=IV ai
 refine cl P2 (dJ _ _ m A bA bB (C6 (C7.wrap a.aP)) B aF f4 U) ?_
 rintro _ dO ⟨bC,bD,rfl,aH,V⟩
 have P:=aG _ _ aH
 have cZ:=P.rowC (i:=1) rfl
 replace V:B.xb.ls.length≤A.xb.ls.length+10:=V
 refine C4 (IL (res0 rfl) (ns (Mz rfl (Kz (.func (.func 79) #[vP m 0] #[]) (Kz (vP r 2) (Lz (vU a.ax) P 2 D2 (Kz (vP r 3) (Lz (vU a.aU) P 2 D2 ?_))))))))
 refine jV [vU a.ax,vU a.aU] 28 1 2 P ?_
 intro o dP C
 replace C:=IX (y:=row o 2 2 (q4 (eN .u64) ([a.ax,a.aU])) 28 1) rfl C
 refine WL.do rfl (IP Tryz.call78 rfl ?_ (fun _ _ k=>k))
 refine cb Tryz.func78 ?_
 refine sr (Mz rfl (Kz (vI 2) (Mn rfl (bo (JG 200 (sr (Kz (.bool true) (nt (Ik (jt (sk (Ik (bo (sr ?_))))))))))))))
 have aI:([a.ax,a.aU]:List Nat)[0]? =some a.ax:=rfl
 refine fw (.pointer (some ⟨ab o,ao o+0 *1,none⟩)) (Iz (xc) rfl rfl ((C.rds (i:=0) rfl).addr (i:=0) e6) e6) (fw (vU a.ax) (IB rfl (bJ.one D2 (((C.rds (i:=0) rfl).elem rG aI f2).at_ (k:=0) rfl))) (An rfl (Il (Mz rfl (Mz rfl ?_)))))
 have bE:=C.pb [0,3]
 obtain⟨E,W⟩:∃ q,bS B a.ax=q:=⟨_,rfl⟩
 obtain⟨dQ,aJ,df,aK,di⟩:=IV bE
 refine WL.do rfl (IY P2 rfl rfl (dJ _ _ m B bC bD a.ax E aJ f4 W) ?_)
 rintro _ dR ⟨bF,bG,rfl,aL,X⟩
 have Q:=aK _ _ aL
 have dm:=Q.rowC (i:=1) rfl
 replace X:E.xb.ls.length≤B.xb.ls.length+10:=X
 refine C4 (bN (Iq (Il (Kz (vI 1) (Mz rfl (C4 (Jh [(8,vI 1),(7,vI 2),(6, .slice o 2 2),(0, .func (.func 79) #[vP m 0] #[])] ⟨rfl,rfl,rfl,rfl,trivial⟩ (sr (Kz (.bool true) (nt (Ik (jt (sk (Ik (bo (sr ?_))))))))))))))))
 have aM:([a.ax,a.aU]:List Nat)[1]? =some a.aU:=rfl
 refine fw (.pointer (some ⟨ab o,ao o+1 *1,none⟩)) (Iz (xc) rfl rfl ((Q.rds (i:=2) rfl).addr (i:=1) e6) e6) (fw (vU a.aU) (IB rfl (bJ.one D2 (((Q.rds (i:=2) rfl).elem rG aM f2).at_ (k:=0) rfl))) (An rfl (Il (Mz rfl (Mz rfl ?_)))))
 obtain⟨F,Y⟩:∃ q,bS E a.aU=q:=⟨_,rfl⟩
 obtain⟨dS,aN,dw,aO,dx⟩:=IV Q
 refine WL.do rfl (IY P2 rfl rfl (dJ _ _ m E bF bG a.aU F aN f4 Y) ?_)
 rintro _ dU ⟨bI,bK,rfl,aP,Z⟩
 have aQ:=aO _ _ aP
 have dB:=aQ.rowC (i:=1) rfl
 replace Z:F.xb.ls.length≤E.xb.ls.length+10:=Z
 refine C4 (bN (Iq (Il (Kz (vI 2) (Mz rfl (C4 (Jh [(8,vI 2),(7,vI 2),(6, .slice o 2 2),(0, .func (.func 79) #[vP m 0] #[])] ⟨rfl,rfl,rfl,rfl,trivial⟩ (sr (Kz (.bool false) (nt (Ik (jf (C5 (IC (IC (IK (IL (res0 rfl) (nt ?_))))))))))))))))))
 have aR:=aQ.pk [0,1,3]
 refine Il (Mz rfl (Kz (vP r 4) (Lz (.slice d a.au.ls.length f) aR 2 Tryz.isAgg58 (Mz rfl (Kz (.func (.func 77) #[vP m 0] #[]) ?_)))))
 refine WL.do rfl (IP Tryz.call121 rfl ?_ (fun _ _ k=>k))
 refine cb Tryz.func121 ?_
 refine sr (Mz rfl (Mz rfl (Kz (vJ a.au.ls.length) ?_)))
 refine WL.do rfl (IP P0 rfl ?_ (fun _ _ k=>k))
 refine cb P1 ?_
 refine Il (Mz rfl (Mz rfl (fw (vU a.au.ls.length) (Ir (e:=C7.wrap ((a.au.ls.length:Nat):Int)) yk (IntWalk.u64_in _ e6)) ?_)))
 obtain⟨s,aa⟩:∃ q,bS F a.au.ls.length=q:=⟨_,rfl⟩
 obtain⟨dV,aS,dC,aT,dD⟩:=IV aR
 refine cl P2 (dJ _ _ m F bI bK a.au.ls.length s aS f4 aa) ?_
 rintro _ dW ⟨bL,aU,rfl,aV,G⟩
 have aW:=aT _ _ aV
 have bM:=aW.rowC (i:=1) rfl
 replace G:s.xb.ls.length≤F.xb.ls.length+10:=G
 refine C4 (IL (res0 rfl) (nt (Il (Mz rfl (Mz rfl ?_)))))
 refine WL.do rfl (IP Tryz.call142 rfl ?_ (fun _ _ k=>k))
 refine cb Tryz.func142 ?_
 refine sr (Mz rfl (Kz (vJ a.au.ls.length) (Mn rfl (bo ?_))))
 have aX:=aW.pb [1]
 obtain⟨aZ,p⟩:=tq fun (b:Nat) h (j:Nat) c w'=>Own w D w' [blk m [.slice h c.length j] 159,blk r [vU a.aX,vI a.aP,vU a.ax,vU a.aU, .slice d a.au.ls.length f] 60,row h c.length j (q4 eB c) 5 1]∧b≤a.au.ls.length∧((c.length:Nat):Int)≤((s.xb.ls.length:Nat):Int)+10 *((b:Nat):Int)∧iR a.au.ls s.xb.ls=iR (r4 b a.au.ls) c
 refine C1 (fun i:Nat × (Option Addr) × Nat × (List UInt8)=> [(8,vJ i.1),(7,vJ a.au.ls.length),(6, .slice d a.au.ls.length f),(0, .func (.func 77) #[vP m 0] #[])]) aZ (fun i=>a.au.ls.length - i.1) (0,bL,aU,s.xb.ls) ⟨rfl,rfl,rfl,rfl,trivial⟩ (p.2 ⟨aX,e6,e6,rfl⟩) ?_
 rintro ⟨b,h,j,c⟩ dE aj
 obtain⟨l,bO,bP,I⟩:=p.1 aj
 refine sr (Kz (.bool (decide (((b:Nat):Int) < ((a.au.ls.length:Nat):Int)))) (nt (Ik ?_)))
 by_cases af:((b:Nat):Int) < ((a.au.ls.length:Nat):Int)
 obtain⟨g,J⟩:=dh (ls:=a.au.ls) (i:=b) iL f2 (l.ro n) e9
 have ak:=drop_at J
 refine jT (dT af) (sk (Ik (bo (sr (fw (.pointer (some ⟨ab d,ao d+b *1,none⟩)) (Iz (mq) rfl rfl ((l.ro n).addr (i:=b) e6) e6) (fw (vI g) (IB rfl (bJ.one C2 (((l.ro n).elem iL J f2).at_ (k:=0) rfl))) (An rfl (Il (Mz rfl (Mz rfl ?_))))))))))
 refine WL.do rfl (IY P0 rfl rfl ?_ (fun _ _ k=>k))
 refine cb P1 ?_
 refine Il (Mz rfl (Mz rfl ?_))
 have bQ:C6 (C7.wrap g)≤18446744073709551615:=lV _
 refine fw (vU (C6 (C7.wrap g))) (Ir (e:=C7.wrap g) yk (fB _)) ?_
 have bf:=l.pb [1]
 obtain⟨K,L⟩:∃ q,bS (dz.mk (E0 c)) (C6 (C7.wrap g))=q:=⟨_,rfl⟩
 obtain⟨dG,au,bR,av,bT⟩:=IV bf
 refine cl P2 (dJ _ _ m (dz.mk (E0 c)) h j (C6 (C7.wrap g)) K au f4 L) ?_
 rintro _ dH ⟨bg,bi,rfl,ax,M⟩
 have ag:=av _ _ ax
 have bU:=ag.rowC (i:=1) rfl
 replace M:K.xb.ls.length≤c.length+10:=M
 refine C4 (IL (res0 rfl) (C4 (bN (Iq (Il (fw (vJ (b+1)) (Ir (e:=C3.wrap (((b:Nat):Int)+1)) yk f0) (Mz rfl (C4 ?_))))))))
 have bn:=ag.pb [1]
 exact II (b+1,bg,bi,K.xb.ls) ⟨rfl,rfl,rfl,rfl,trivial⟩ (p.2 ⟨bn,e6,e6,et (I) (et (congrArg (fun q=>iR q c) ak) (ae L))⟩) (by show a.au.ls.length - (b+1) < a.au.ls.length - b; omega)
 refine jF (dF af) (C5 (IC ?_))
 have ay:iR a.au.ls s.xb.ls=c:=et (I) (et (congrArg (fun q=>iR q c) (dZ (ls:=a.au.ls) (i:=b) e6)) rfl)
 refine IC (IK (IL (res0 rfl) (C4 (IL (res0 rfl) (C4 (IL (res0 rfl) ?_))))))
 have bq:=l.pk [0,2]
 obtain rfl:_=dz.mk (E0 c):=hr.symm.trans (et (ae S) (et (ae U) (et (ae W) (et (ae Y) (et (ae aa) (ae ay))))))
 exact⟨h,j,rfl,bq,f9⟩
def jD:List aQ→List UInt8→(List UInt8)
  | [],b=>b
  | a::d,b=>bnd (oG (dz.mk (E0 b)) (aQ.mk a.dV a.aG (E0 a.aj.ls))) fun c=>jD d c.xb.ls
def pF (f:dz) (a:fF):dz:=
 bnd (bS f (C6 (C7.wrap a.aP))) fun b=>bnd (bS b a.ax) fun c=>bnd (bS c a.aU) fun d=>bnd (bS d a.ah.ls.length) fun e=>bnd (jD a.ah.ls e.xb.ls) fun sLrbbbbL=>dz.mk (E0 sLrbbbbL)
set_option maxHeartbeats 1000000 in
theorem uG (w D l) (U:dz) (s t) (a:fF) (f Y h p) (r0:dz) (H:Own w D w [blk l [.slice s U.xb.ls.length t] 159,row s U.xb.ls.length t (q4 eB U.xb.ls) 5 1]) (u:List.map af.abs p=a.ah.ls) (aB:Y=a.ah.ls.length) (m:Ro w D fun w'=>aY w' 3 f a.ah.ls.length (q4 af.cells p)) (bH:a.ah.ls.length≤h∧a.ah.ls.length≤9223372036854775807) (B:∀ x ∈ p,Ro w D (fun w'=>aY w' 2 x.aj.A x.aj.ls.length (q4 aH.cells x.aj.ls))∧(x.aj.ls.length≤x.aj.c∧x.aj.ls.length≤9223372036854775807)) (dR:U.xb.ls.length≤6000000000) (V:(a.ax≤18446744073709551615∧a.aU≤18446744073709551615∧a.ah.ls.length≤24∧∀ z ∈ a.ah.ls,z.aG.length≤16∧z.aj.ls.length≤4∧∀ q ∈ z.aj.ls,q.aZ.length≤12∧q.aG.length≤16)) (hr:pF U a=r0):
    Calls v5 85 #[vP l 0, .agg #[vI a.aP,vU a.ax,vU a.aU, .slice f Y h]] w (dA fun v w'=> ∃ C E,v= .tuple #[]∧Own w D w' [blk l [.slice C r0.xb.ls.length E] 159,row C r0.xb.ls.length E (q4 eB r0.xb.ls) 5 1]∧(r0.xb.ls.length≤U.xb.ls.length+8000)):=by
 subst aB
 have bG:=aA u
 have bI:=H.rowC (i:=1) rfl
 have cK:=V.1
 have cO:=V.2.1
 have cZ:=V.2.2.1
 refine cb Tryz.func85 ?_
 refine sr ?_
 refine dn [vI a.aP,vU a.ax,vU a.aU, .slice f a.ah.ls.length h] 56 H ?_
 intro F dS aN
 refine ns (Mz rfl (Kz (vP F 0) (Lz (vI a.aP) aN 0 C2 ?_)))
 refine WL.do rfl (IP P0 rfl ?_ (fun _ _ k=>k))
 refine cb P1 ?_
 refine Il (Mz rfl (Mz rfl ?_))
 have di:C6 (C7.wrap a.aP)≤18446744073709551615:=lV _
 refine fw (vU (C6 (C7.wrap a.aP))) (Ir (e:=C7.wrap a.aP) yk (fB _)) ?_
 have bK:=aN.pb [0]
 obtain⟨G,Z⟩:∃ q,bS U (C6 (C7.wrap a.aP))=q:=⟨_,rfl⟩
 obtain⟨dU,aO,dm,aP,dw⟩:=IV bK
 refine cl P2 (dJ _ _ l U s t (C6 (C7.wrap a.aP)) G aO f4 Z) ?_
 rintro _ dV ⟨bL,bM,rfl,aR,aa⟩
 have W:=aP _ _ aR
 have dx:=W.rowC (i:=1) rfl
 replace aa:G.xb.ls.length≤U.xb.ls.length+10:=aa
 refine C4 (IL (res0 rfl) (ns (Mz rfl (Kz (.func (.func 79) #[vP l 0] #[]) (Kz (vP F 1) (Lz (vU a.ax) W 2 D2 (Kz (vP F 2) (Lz (vU a.aU) W 2 D2 ?_))))))))
 refine jV [vU a.ax,vU a.aU] 28 1 2 W ?_
 intro n dW I
 replace I:=IX (y:=row n 2 2 (q4 (eN .u64) ([a.ax,a.aU])) 28 1) rfl I
 refine WL.do rfl (IP Tryz.call78 rfl ?_ (fun _ _ k=>k))
 refine cb Tryz.func78 ?_
 refine sr (Mz rfl (Kz (vI 2) (Mn rfl (bo (JG 200 (sr (Kz (.bool true) (nt (Ik (jt (sk (Ik (bo (sr ?_))))))))))))))
 have aS:([a.ax,a.aU]:List Nat)[0]? =some a.ax:=rfl
 refine fw (.pointer (some ⟨ab n,ao n+0 *1,none⟩)) (Iz (xc) rfl rfl ((I.rds (i:=0) rfl).addr (i:=0) e6) e6) (fw (vU a.ax) (IB rfl (bJ.one D2 (((I.rds (i:=0) rfl).elem rG aS f2).at_ (k:=0) rfl))) (An rfl (Il (Mz rfl (Mz rfl ?_)))))
 have bO:=I.pb [0,3]
 obtain⟨J,ag⟩:∃ q,bS G a.ax=q:=⟨_,rfl⟩
 obtain⟨dX,aT,dB,aU,dC⟩:=IV bO
 refine WL.do rfl (IY P2 rfl rfl (dJ _ _ l G bL bM a.ax J aT f4 ag) ?_)
 rintro _ dY ⟨bP,bQ,rfl,aV,ah⟩
 have X:=aU _ _ aV
 have dD:=X.rowC (i:=1) rfl
 replace ah:J.xb.ls.length≤G.xb.ls.length+10:=ah
 refine C4 (bN (Iq (Il (Kz (vI 1) (Mz rfl (C4 (Jh [(8,vI 1),(7,vI 2),(6, .slice n 2 2),(0, .func (.func 79) #[vP l 0] #[])] ⟨rfl,rfl,rfl,rfl,trivial⟩ (sr (Kz (.bool true) (nt (Ik (jt (sk (Ik (bo (sr ?_))))))))))))))))
 have aW:([a.ax,a.aU]:List Nat)[1]? =some a.aU:=rfl
 refine fw (.pointer (some ⟨ab n,ao n+1 *1,none⟩)) (Iz (xc) rfl rfl ((X.rds (i:=2) rfl).addr (i:=1) e6) e6) (fw (vU a.aU) (IB rfl (bJ.one D2 (((X.rds (i:=2) rfl).elem rG aW f2).at_ (k:=0) rfl))) (An rfl (Il (Mz rfl (Mz rfl ?_)))))
 obtain⟨K,ai⟩:∃ q,bS J a.aU=q:=⟨_,rfl⟩
 obtain⟨d9,aX,dE,aZ,dG⟩:=IV X
 refine WL.do rfl (IY P2 rfl rfl (dJ _ _ l J bP bQ a.aU K aX f4 ai) ?_)
 rintro _ ed ⟨bR,bT,rfl,bf,ak⟩
 have bg:=aZ _ _ bf
 have dH:=bg.rowC (i:=1) rfl
 replace ak:K.xb.ls.length≤J.xb.ls.length+10:=ak
 refine C4 (bN (Iq (Il (Kz (vI 2) (Mz rfl (C4 (Jh [(8,vI 2),(7,vI 2),(6, .slice n 2 2),(0, .func (.func 79) #[vP l 0] #[])] ⟨rfl,rfl,rfl,rfl,trivial⟩ (sr (Kz (.bool false) (nt (Ik (jf (C5 (IC (IC (IK (IL (res0 rfl) (nt ?_))))))))))))))))))
 have bi:=bg.pk [0,1,3]
 refine Il (Mz rfl (Kz (vP F 3) (Lz (.slice f a.ah.ls.length h) bi 2 Tryz.isAgg40 (Mz rfl (Kz (.func (.func 124) #[vP l 0] #[]) ?_)))))
 refine WL.do rfl (IP Tryz.call123 rfl ?_ (fun _ _ k=>k))
 refine cb Tryz.func123 ?_
 refine sr (Mz rfl (Mz rfl (Kz (vJ a.ah.ls.length) ?_)))
 refine WL.do rfl (IP P0 rfl ?_ (fun _ _ k=>k))
 refine cb P1 ?_
 refine Il (Mz rfl (Mz rfl (fw (vU a.ah.ls.length) (Ir (e:=C7.wrap ((a.ah.ls.length:Nat):Int)) yk (IntWalk.u64_in _ e6)) ?_)))
 obtain⟨r,au⟩:∃ q,bS K a.ah.ls.length=q:=⟨_,rfl⟩
 obtain⟨ek,bn,dI,bq,dK⟩:=IV bi
 refine cl P2 (dJ _ _ l K bR bT a.ah.ls.length r bn f4 au) ?_
 rintro _ eu ⟨bU,bV,rfl,bu,av⟩
 have bv:=bq _ _ bu
 have dL:=bv.rowC (i:=1) rfl
 replace av:r.xb.ls.length≤K.xb.ls.length+10:=av
 refine C4 (IL (res0 rfl) (nt (Il (Mz rfl (Mz rfl ?_)))))
 refine WL.do rfl (IP Tryz.call143 rfl ?_ (fun _ _ k=>k))
 refine cb Tryz.func143 ?_
 refine sr (Mz rfl (Kz (vJ a.ah.ls.length) (Mn rfl (bo ?_))))
 have bW:=bv.pb [1]
 obtain⟨bX,L⟩:=tq fun (d:Nat) M (N:Nat) g w'=>Own w D w' [blk l [.slice M g.length N] 159,blk F [vI a.aP,vU a.ax,vU a.aU, .slice f a.ah.ls.length h] 56,row M g.length N (q4 eB g) 5 1]∧d≤a.ah.ls.length∧((g.length:Nat):Int)≤((r.xb.ls.length:Nat):Int)+300 *((d:Nat):Int)∧jD a.ah.ls r.xb.ls=jD (r4 d a.ah.ls) g
 refine C1 (fun i:Nat × (Option Addr) × Nat × (List UInt8)=> [(8,vJ i.1),(7,vJ a.ah.ls.length),(6, .slice f a.ah.ls.length h),(0, .func (.func 124) #[vP l 0] #[])]) bX (fun i=>a.ah.ls.length - i.1) (0,bU,bV,r.xb.ls) ⟨rfl,rfl,rfl,rfl,trivial⟩ (L.2 ⟨bW,e6,e6,rfl⟩) ?_
 rintro ⟨d,M,N,g⟩ eD bz
 obtain⟨O,bY,bZ,P⟩:=L.1 bz
 refine sr (Kz (.bool (decide (((d:Nat):Int) < ((a.ah.ls.length:Nat):Int)))) (nt (Ik ?_)))
 by_cases ax:((d:Nat):Int) < ((a.ah.ls.length:Nat):Int)
 obtain⟨b,j⟩:=dh (ls:=p) (i:=d) af.len f2 (O.ro m) e9
 have Q:=eY u j
 have cu:=(B _ (D1 j)).2
 have o:s0 (af.abs b).aG≤16∧s0 (af.abs b).aj.ls≤4∧∀ q ∈ (af.abs b).aj.ls,q.aZ.length≤12∧q.aG.length≤16:=V.2.2.2 _ (D1 Q)
 have hz108p0:b.aG.length≤16:=by have q9:=o.1; first | exact q9 | (simp only [af.abs,s3] at q9; exact q9)
 have hz108p1:b.aj.ls.length≤4:=by have q9:=o.2.1; first | exact q9 | (simp only [af.abs,s3] at q9; exact q9)
 have aD:=drop_at Q
 refine jT (dT ax) (sk (Ik (bo (sr (fw (.pointer (some ⟨ab f,ao f+d *3,none⟩)) (Iz (rX) rfl rfl ((O.ro m).addr (i:=d) e6) e6) (fw (.agg (af.cells b).toArray) (IB rfl (IJ (cs:=(af.cells b)) Tryz.isAgg149 E3 ((O.ro m).elem af.len j f2))) ?_))))))
 refine dn [.bool false, .string ⟨v6 ([])⟩, .slice none 0 0] 149 O ?_
 intro dM dN bA
 refine df (af.cells b) 0 bA E3 ?_
 intro dO ay
 refine nt (Il (Mz rfl (La (af.cells b) ay 0 Tryz.isAgg149 E3 ?_)))
 have bB:=ay.pb [0,2]
 obtain⟨R,S⟩:∃ q,oG (dz.mk (E0 g)) (aQ.mk b.dV b.aG (E0 b.aj.ls))=q:=⟨_,rfl⟩
 obtain⟨dP,aF,aI,aJ,cz⟩:=IV bB
 refine WL.do rfl (IY Tryz.call124 rfl rfl (uf _ _ l (dz.mk (E0 g)) M N (aQ.mk b.dV b.aG (E0 b.aj.ls)) b.aj.A b.aj.ls.length b.aj.c R aF rfl (aI _ (B _ (D1 j)).1) (show b.aj.ls.length≤b.aj.c∧b.aj.ls.length≤9223372036854775807 from by omega) f4 (by exact o) S) ?_)
 rintro _ dQ ⟨bC,bD,rfl,aK,T⟩
 have az:=aJ _ _ aK
 have cB:=az.rowC (i:=1) rfl
 replace T:R.xb.ls.length≤g.length+300:=T
 refine C4 (bN (Iq (Il (fw (vJ (d+1)) (Ir (e:=C3.wrap (((d:Nat):Int)+1)) yk f0) (Mz rfl (C4 ?_))))))
 have bE:=az.pk [0,3,1]
 exact II (d+1,bC,bD,R.xb.ls) ⟨rfl,rfl,rfl,rfl,trivial⟩ (L.2 ⟨bE,e6,e6,et (P) (et (congrArg (fun q=>jD q g) aD) (ae S))⟩) (by show a.ah.ls.length - (d+1) < a.ah.ls.length - d; omega)
 refine jF (dF ax) (C5 (IC ?_))
 have aL:jD a.ah.ls r.xb.ls=g:=et (P) (et (congrArg (fun q=>jD q g) (dZ (ls:=a.ah.ls) (i:=d) e6)) rfl)
 refine IC (IK (IL (res0 rfl) (C4 (IL (res0 rfl) (C4 (IL (res0 rfl) ?_))))))
 have bF:=O.pk [0,2]
 obtain rfl:_=dz.mk (E0 g):=hr.symm.trans (et (ae Z) (et (ae ag) (et (ae ai) (et (ae au) (ae aL)))))
 exact⟨M,N,rfl,bF,f9⟩
end Go.Proofs.YtbkagebjhbphaaaGreat
