/-
 record: what is written.
-/
import Derived.Test.YtbkagebjhbphaaaGreatCoA
namespace Go.Proofs.YtbkagebjhbphaaaGreat
open Int renaming toNat→D2
open IntKind renaming i64→C7,u64→D3,u8→N4
open List renaming drop→r6,flatMap→q6,flatMap_append→r7,length→s2,length_append→p5,length_cons→s3,length_map→s6,length_nil→G0,mem_of_getElem?→E0,toArray→y6
open Ll renaming mk→E4
open _root_.Go.Proofs.Tryz renaming call119→N5,call77→N6,call79→N8,func77→N7,isAgg153→J1,isAgg28→E1,isAgg3→C6,isAgg9→C4,prog→y4,sizeOf149→E8,sizeOf153→J2,underlying134→N3
open WL renaming nil→D0
open Wp renaming exit→D1,loop→C5
set_option maxRecDepth 100000
open Go.RowKit
set_option linter.unusedVariables false
set_option linter.unusedSectionVars false
set_option linter.unusedSimpArgs false
def mJ:Nat→Nat→List UInt8→Nat × (List UInt8)
  | 0,a,b=>default
  | c+1,a,b=>if((a:Nat):Int) ≥ 128 then mJ c (a / 128) (b++ [((UInt8.ofNat a) ||| (128:UInt8))]) else(a,b)
def rG (a:Nat):(List UInt8):=
 bnd (mJ (a+1) a ([])) fun sLrL=>(sLrL.2++ [(UInt8.ofNat sLrL.1)])
theorem vQ (w D c j) (H:Own w D w []) (t:c≤18446744073709551615) (hr:rG c=j):
    Calls y4 117 #[vU c] w (dR fun v w'=> ∃ U V,v= .slice U j.length V∧Own w D w' [row U j.length V (q6 eB j) 5 1]∧(1≤j.length∧j.length≤10)∧(c ≥ 128∨j.length=1)):=by
 refine cb Tryz.func117 ?_
 refine sr (Ar rfl ?_)
 refine WL.do rfl (Jl (m:=10) (size:=1) (bytes:=1) (z:= .int .u8 0) N3 e7 H rfl rfl e6 (by unfold maxLen; omega) ?_)
 intro F af G
 refine An rfl (FW (bo ?_))
 have I:=G.pf []
 obtain⟨J,d⟩:=AU fun (a:Nat) l (n:Nat) b (f:Nat) w'=>Own w D w' [row l b.length n (q6 eB b) 5 1]∧lC b.length a∧b.length≤9∧(c ≥ 128∨(b.length=0∧a=c))∧a < f∧mJ (c+1) c ([])=mJ f a b
 refine C5 (fun i:Nat × (Option Addr) × Nat × (List UInt8) × Nat=> [(0,vU i.1),(3, .slice i.2.1 i.2.2.2.1.length i.2.2.1),(2, .slice none 0 0)]) J (fun i=>i.2.2.2.2) (c,F,10, [],c+1) ⟨rfl,rfl,rfl,trivial⟩ (d.2 ⟨I,(show lC (0) c∧0≤9∧(c ≥ 128∨(0=0∧c=c))∧c < (c+1)∧mJ (c+1) c ([])=mJ (c+1) c ([]) from ⟨by first | exact lC.zero t | exact lC.step f4 j2,by first | exact JQ _ | (have q9:=lC.le f4 e6; simp only [p5,s3,G0]; omega),e6,e6,rfl⟩)⟩) ?_
 rintro ⟨a,l,n,b,f⟩ ah u
 obtain⟨x,W,X,Y,Z,h⟩:=d.1 u
 obtain⟨o,A⟩:∃ q,f=q+1:=⟨f - 1,e6⟩
 subst A
 refine FW (sr (Mz rfl (Kz (.bool (decide (((a:Nat):Int) ≥ 128))) (nt ?_))))
 by_cases g:((a:Nat):Int) ≥ 128
 refine jT (dT g) (sk (bo (sr (Mz rfl (Mz rfl (fw (.int .u8 (((UInt8.ofNat a).toNat:Nat):Int)) (FX (e:=N4.wrap ((a:Nat):Int)) yk (x8 _)) (fw (.int .u8 ((((UInt8.ofNat a) ||| (128:UInt8)).toNat:Nat):Int)) (FX (e:=N4.wrap (((BitVec.ofInt 8 (((UInt8.ofNat a).toNat:Nat):Int) ||| BitVec.ofInt 8 128).toNat:Nat):Int)) yk (u8_or (UInt8.ofNat a) (128:UInt8))) ?_)))))))
 refine kL [.int .u8 ((((UInt8.ofNat a) ||| (128:UInt8)).toNat:Nat):Int)] 5 1 1 x ?_
 intro K aj p
 replace p:=Gs (y:=row K 1 1 (q6 eB ([((UInt8.ofNat a) ||| (128:UInt8))])) 5 1) rfl p
 have B:=p.pb [0]
 refine WL.do rfl (Gt (k:=b.length) (m:=1) (xD) B rfl rfl (iU N3 (B.rds (i:=1) rfl) (fF xx ([((UInt8.ofNat a) ||| (128:UInt8))]))) rfl e6 (s:=s2 (b++ [((UInt8.ofNat a) ||| (128:UInt8))])) f7 (r7).symm ?_)
 intro L M ak N
 have aa:s2 (b++ [((UInt8.ofNat a) ||| (128:UInt8))])=b.length+1:=by simp only [p5,s3,G0]
 refine An rfl (FV (Mz rfl (fw (vU (a / 128)) (FX (e:=Int.fdiv ((a:Nat):Int) 128) yk (mW _ 7 _ f3)) (Az rfl (D0 (bN ?_))))))
 have O:=N.pk [0]
 exact Gc (a / 128,L,M,(b++ [((UInt8.ofNat a) ||| (128:UInt8))]),o) ⟨rfl,rfl,rfl,trivial⟩ (d.2 ⟨O,by first | exact lC.zero t | exact lC.step f4 j2,by first | exact JQ _ | (have q9:=lC.le f4 e6; simp only [p5,s3,G0]; omega),e6,e6,Eq.trans (h) (if_pos g)⟩) (by show o < o+1; omega)
 refine jF (dF g) (D1 (F6 ?_))
 have C:mJ (c+1) c ([])=(a,b):=et (h) (iN g)
 refine F6 (Gi (FY (sr (Mz rfl (Mz rfl (fw (.int .u8 (((UInt8.ofNat a).toNat:Nat):Int)) (FX (e:=N4.wrap ((a:Nat):Int)) yk (x8 _)) ?_))))))
 refine kL [.int .u8 (((UInt8.ofNat a).toNat:Nat):Int)] 5 1 1 x ?_
 intro P au r
 replace r:=Gs (y:=row P 1 1 (q6 eB ([(UInt8.ofNat a)])) 5 1) rfl r
 have E:=r.pb [0]
 refine WL.do rfl (Gt (k:=b.length) (m:=1) (xD) E rfl rfl (iU N3 (E.rds (i:=1) rfl) (fF xx ([(UInt8.ofNat a)]))) rfl e6 (s:=s2 (b++ [(UInt8.ofNat a)])) f7 (r7).symm ?_)
 intro Q R av S
 have ae:s2 (b++ [(UInt8.ofNat a)])=b.length+1:=by simp only [p5,s3,G0]
 refine An rfl (rt (rs ?_))
 have T:=S.pk [0]
 obtain rfl:_=(b++ [(UInt8.ofNat a)]):=hr.symm.trans (ai C)
 exact⟨Q,R,rfl,T,g1,g1⟩
def uL (b:List UInt8):(List UInt8):=
 bnd (rG b.length) fun a=>(a++b)
theorem zb (w D b g) (H:Own w D w []) (C:b.length≤140737488351232) (hr:uL b=g):
    Calls y4 141 #[.string ⟨y6 b⟩] w (dR fun v w'=> ∃ u x,v= .slice u g.length x∧Own w D w' [row u g.length x (q6 eB g) 5 1]∧(g.length≤b.length+10)∧(b.length ≥ 128∨g.length=b.length+1)):=by
 refine cb Tryz.func141 ?_
 refine sr (Ar rfl (Mz rfl (Kz (vJ b.length) (fw (vU b.length) (FX (e:=D3.wrap ((b.length:Nat):Int)) yk (IntWalk.u64_in _ e6)) ?_))))
 obtain⟨a,c⟩:∃ q,rG b.length=q:=⟨_,rfl⟩
 obtain⟨E,h,y,j,z⟩:=F3 H
 refine cl Tryz.call117 (vQ _ _ b.length a h e6 c) ?_
 rintro _ F ⟨G,I,rfl,l,d,f⟩
 have n:=j _ _ l
 have A:=n.rowC (i:=0) rfl
 replace d:1≤a.length∧a.length≤10:=d
 replace f:b.length ≥ 128∨a.length=1:=f
 refine Mz rfl ?_
 refine WL.do rfl (Gt (k:=a.length) (m:=b.length) (xD) n rfl rfl (DV Tryz.underlying9 rfl) rfl e6 (s:=s2 (a++b)) f7 (r7).symm ?_)
 intro o p J r
 have B:s2 (a++b)=a.length+b.length:=by simp only [p5,s3,G0]
 refine An rfl (rt (rs ?_))
 have t:=r.pf []
 obtain rfl:_=(a++b):=hr.symm.trans (ai c)
 exact⟨o,p,rfl,t,g1,g1⟩
def bV (b:dJ) (c:Nat):dJ:=
 bnd (rG c) fun a=>dJ.mk (E4 (b.xb.ls++a))
theorem dQ (w D g) (b:dJ) (c d p) (r:dJ) (H:Own w D w [blk g [.slice c b.xb.ls.length d] 159,row c b.xb.ls.length d (q6 eB b.xb.ls) 5 1]) (O:b.xb.ls.length≤9000000000∧p≤18446744073709551615) (hr:bV b p=r):
    Calls y4 79 #[vP g 0,vU p] w (dR fun v w'=> ∃ e f,v= .tuple #[]∧Own w D w' [blk g [.slice e r.xb.ls.length f] 159,row e r.xb.ls.length f (q6 eB r.xb.ls) 5 1]∧(r.xb.ls.length≤b.xb.ls.length+10)):=by
 have E:=H.rowC (i:=1) rfl
 refine cb Tryz.func79 ?_
 have h:=H.drew
 refine G8 [7,10] (fun W=> ∃ L',Own w D W ([blk g [.slice c b.xb.ls.length d] 159,row c b.xb.ls.length d (q6 eB b.xb.ls) 5 1]++L')) e7 e7 Gj ⟨_,h⟩ ?_
 revert h
 generalize World.drew w=P
 intro h
 refine Gu (v:=vP g 0) 0 rfl e7 (fun _=>F9 rfl) (qv 1 rfl rfl (qp g 0 2 rfl (qp g 0 3 rfl (ql 4 rfl 0 Tryz.isAgg134 rfl rfl rfl (qv 5 rfl rfl ?_)))))
 obtain⟨a,j⟩:∃ q,rG p=q:=⟨_,rfl⟩
 obtain⟨Q,t,K,u,L⟩:=F3 h
 refine qd 6 rfl (Gg Tryz.call117 rfl (vQ _ _ p a t e6 j) ?_)
 rintro _ R ⟨S,T,rfl,x,l,n⟩
 have y:=u _ _ x
 have M:=y.rowC (i:=0) rfl
 replace l:1≤a.length∧a.length≤10:=l
 replace n:p ≥ 128∨a.length=1:=n
 have z:=y.pb [0]
 refine⟨.inr ⟨_,z⟩, ?_⟩
 have A:=z.pf [1]
 refine qd 7 rfl (Gt (k:=b.xb.ls.length) (m:=a.length) (xD) A rfl rfl (iU N3 (A.rds (i:=2) rfl) (fF xx a)) rfl e6 (s:=s2 (b.xb.ls++a)) f7 (r7).symm ?_)
 intro B C U F
 have N:s2 (b.xb.ls++a)=b.xb.ls.length+a.length:=by simp only [p5,s3,G0]
 refine⟨.inl e7, ?_⟩
 refine Gu (v:=vP g 0) 8 rfl e7 (fun _=>yk) (Gu (v:=vP g 0) 9 rfl e7 (fun _=>yk) ?_)
 have G:=F.pf [1]
 refine qe 10 rfl (Do.store (vs:= [.slice B (s2 (b.xb.ls++a)) C]) (o:=0) G rfl rfl Tryz.sizeOf134 rfl rfl rfl rfl ?_)
 intro V I
 refine⟨.inl e7, ?_⟩
 refine qn (Gh (res0 rfl) ?_)
 have J:=I.pk [0,1]
 obtain rfl:_=dJ.mk (E4 (b.xb.ls++a)):=hr.symm.trans (ai j)
 exact⟨B,C,rfl,J,g1⟩
def iD (b:dJ) (c:List UInt8):dJ:=
 bnd (uL c) fun a=>dJ.mk (E4 (b.xb.ls++a))
theorem kV (w D g) (b:dJ) (c d j) (r:dJ) (H:Own w D w [blk g [.slice c b.xb.ls.length d] 159,row c b.xb.ls.length d (q6 eB b.xb.ls) 5 1]) (O:b.xb.ls.length≤9000000000∧j.length≤16) (hr:iD b j=r):
    Calls y4 119 #[vP g 0, .string ⟨y6 j⟩] w (dR fun v w'=> ∃ e f,v= .tuple #[]∧Own w D w' [blk g [.slice e r.xb.ls.length f] 159,row e r.xb.ls.length f (q6 eB r.xb.ls) 5 1]∧(r.xb.ls.length≤b.xb.ls.length+26)):=by
 have E:=H.rowC (i:=1) rfl
 refine cb Tryz.func119 ?_
 have h:=H.drew
 refine G8 [7,10] (fun W=> ∃ L',Own w D W ([blk g [.slice c b.xb.ls.length d] 159,row c b.xb.ls.length d (q6 eB b.xb.ls) 5 1]++L')) e7 e7 Gj ⟨_,h⟩ ?_
 revert h
 generalize World.drew w=P
 intro h
 refine Gu (v:=vP g 0) 0 rfl e7 (fun _=>F9 rfl) (qv 1 rfl rfl (qp g 0 2 rfl (qp g 0 3 rfl (ql 4 rfl 0 Tryz.isAgg134 rfl rfl rfl (qv 5 rfl rfl ?_)))))
 obtain⟨a,l⟩:∃ q,uL j=q:=⟨_,rfl⟩
 obtain⟨Q,t,K,u,L⟩:=F3 h
 refine qd 6 rfl (Gg Tryz.call141 rfl (zb _ _ j a t e6 l) ?_)
 rintro _ R ⟨S,T,rfl,x,n,p⟩
 have y:=u _ _ x
 have M:=y.rowC (i:=0) rfl
 replace n:a.length≤j.length+10:=n
 replace p:j.length ≥ 128∨a.length=j.length+1:=p
 have z:=y.pb [0]
 refine⟨.inr ⟨_,z⟩, ?_⟩
 have A:=z.pf [1]
 refine qd 7 rfl (Gt (k:=b.xb.ls.length) (m:=a.length) (xD) A rfl rfl (iU N3 (A.rds (i:=2) rfl) (fF xx a)) rfl e6 (s:=s2 (b.xb.ls++a)) f7 (r7).symm ?_)
 intro B C U F
 have N:s2 (b.xb.ls++a)=b.xb.ls.length+a.length:=by simp only [p5,s3,G0]
 refine⟨.inl e7, ?_⟩
 refine Gu (v:=vP g 0) 8 rfl e7 (fun _=>yk) (Gu (v:=vP g 0) 9 rfl e7 (fun _=>yk) ?_)
 have G:=F.pf [1]
 refine qe 10 rfl (Do.store (vs:= [.slice B (s2 (b.xb.ls++a)) C]) (o:=0) G rfl rfl Tryz.sizeOf134 rfl rfl rfl rfl ?_)
 intro V I
 refine⟨.inl e7, ?_⟩
 refine qn (Gh (res0 rfl) ?_)
 have J:=I.pk [0,1]
 obtain rfl:_=dJ.mk (E4 (b.xb.ls++a)):=hr.symm.trans (ai l)
 exact⟨B,C,rfl,J,g1⟩
def oK (d:dJ) (c:aW):dJ:=
 bnd (iD d c.bG) fun a=>bnd (bV a (D2 (D3.wrap c.dV))) fun b=>b
set_option maxHeartbeats 1000000 in
theorem tV (w D r) (h:dJ) (b c) (a:aW) (s:dJ) (H:Own w D w [blk r [.slice b h.xb.ls.length c] 159,row b h.xb.ls.length c (q6 eB h.xb.ls) 5 1]) (U:h.xb.ls.length≤8000000000) (V:(a.bG.length≤12)) (hr:oK h a=s):
    Calls y4 81 #[vP r 0, .agg (aW.cells a).toArray] w (dR fun v w'=> ∃ d f,v= .tuple #[]∧Own w D w' [blk r [.slice d s.xb.ls.length f] 159,row d s.xb.ls.length f (q6 eB s.xb.ls) 5 1]∧(s.xb.ls.length≤h.xb.ls.length+40)):=by
 have F:=H.rowC (i:=1) rfl
 refine cb Tryz.func81 ?_
 refine sr ?_
 refine dM (aW.cells a) 89 H ?_
 intro t W u
 refine ns (Mz rfl (Kz (vP t 0) (Lz (.string ⟨y6 a.bG⟩) u 0 C4 ?_)))
 have G:=u.pb [0]
 obtain⟨g,j⟩:∃ q,iD h a.bG=q:=⟨_,rfl⟩
 obtain⟨X,x,N,y,O⟩:=Gp G
 refine cl N5 (kV _ _ r h b c a.bG g x f6 j) ?_
 rintro _ Y ⟨I,J,rfl,z,l⟩
 have o:=y _ _ z
 have P:=o.rowC (i:=1) rfl
 replace l:g.xb.ls.length≤h.xb.ls.length+26:=l
 refine nt (FV (Mz rfl (Kz (vP t 1) (Lz (vI a.dV) o 2 C6 ?_))))
 refine WL.do rfl (Gg N6 rfl ?_ (fun _ _ k=>k))
 refine cb N7 ?_
 refine FV (Mz rfl (Mz rfl ?_))
 have Q:D2 (D3.wrap a.dV)≤18446744073709551615:=mh _
 refine fw (vU (D2 (D3.wrap a.dV))) (FX (e:=D3.wrap a.dV) yk (fC _)) ?_
 obtain⟨p,m⟩:∃ q,bV g (D2 (D3.wrap a.dV))=q:=⟨_,rfl⟩
 obtain⟨Z,A,R,B,S⟩:=Gp o
 refine cl N8 (dQ _ _ r g I J (D2 (D3.wrap a.dV)) p A f6 m) ?_
 rintro _ aa ⟨K,L,rfl,C,n⟩
 have E:=B _ _ C
 have T:=E.rowC (i:=1) rfl
 replace n:p.xb.ls.length≤g.xb.ls.length+10:=n
 refine D0 (Gh (res0 rfl) (D0 (Gh (res0 rfl) ?_)))
 have M:=E.pk [0,1]
 obtain rfl:_=p:=hr.symm.trans (et (ai j) (ai m))
 exact⟨K,L,rfl,M,g1⟩
def lS (d:dJ) (c:aI):dJ:=
 bnd (iD d c.bW) fun a=>bnd (iD a c.aQ) fun b=>b
set_option maxHeartbeats 1000000 in
theorem qg (w D m) (j:dJ) (c d) (a:aI) (u:dJ) (H:Own w D w [blk m [.slice c j.xb.ls.length d] 159,row c j.xb.ls.length d (q6 eB j.xb.ls) 5 1]) (X:j.xb.ls.length≤8000000000) (Y:(a.bW.length≤12∧a.aQ.length≤16)) (hr:lS j a=u):
    Calls y4 145 #[vP m 0, .agg (aI.cells a).toArray] w (dR fun v w'=> ∃ e f,v= .tuple #[]∧Own w D w' [blk m [.slice e u.xb.ls.length f] 159,row e u.xb.ls.length f (q6 eB u.xb.ls) 5 1]∧(u.xb.ls.length≤j.xb.ls.length+60)):=by
 have K:=H.rowC (i:=1) rfl
 refine cb Tryz.func145 ?_
 refine sr ?_
 refine dM (aI.cells a) 153 H ?_
 intro x Z s
 refine nt (FV (Mz rfl (Kz (.func (.func 119) #[vP m 0] #[]) (Kz (vP x 0) (Lz (.string ⟨y6 a.bW⟩) s 0 C4 (Kz (vP x 1) (Lz (.string ⟨y6 a.aQ⟩) s 0 C4 ?_)))))))
 refine kL [.string ⟨y6 a.bW⟩, .string ⟨y6 a.aQ⟩] 9 1 2 s ?_
 intro b aa g
 replace g:=Gs (y:=row b 2 2 (q6 eS ([a.bW,a.aQ])) 9 1) rfl g
 refine WL.do rfl (Gg Tryz.call161 rfl ?_ (fun _ _ k=>k))
 refine cb Tryz.func161 ?_
 refine sr (Mz rfl (Kz (vI 2) (Mn rfl (bo (Hu 200 (sr (Kz (.bool true) (nt (FW (jt (sk (FW (bo (sr ?_))))))))))))))
 have z:([a.bW,a.aQ]:List (List UInt8))[0]? =some a.bW:=rfl
 refine fw (.pointer (some ⟨ab b,ao b+0 *1,none⟩)) (F4 (Dz) rfl rfl ((g.rds (i:=0) rfl).addr (i:=0) e6) e6) (fw (.string ⟨y6 a.bW⟩) (F7 rfl (bX.one C4 (((g.rds (i:=0) rfl).elem zu z f3).at_ (k:=0) rfl))) (An rfl (FV (Mz rfl (Mz rfl ?_)))))
 have L:=g.pb [0,1]
 obtain⟨h,n⟩:∃ q,iD j a.bW=q:=⟨_,rfl⟩
 obtain⟨ae,A,R,B,S⟩:=Gp L
 refine WL.do rfl (Gr N5 rfl rfl (kV _ _ m j c d a.bW h A f6 n) ?_)
 rintro _ af ⟨M,N,rfl,C,o⟩
 have l:=B _ _ C
 have T:=l.rowC (i:=1) rfl
 replace o:h.xb.ls.length≤j.xb.ls.length+26:=o
 refine D0 (bN (FY (FV (Kz (vI 1) (Mz rfl (D0 (GN [(8,vI 1),(7,vI 2),(6, .slice b 2 2),(0, .func (.func 119) #[vP m 0] #[])] ⟨rfl,rfl,rfl,rfl,trivial⟩ (sr (Kz (.bool true) (nt (FW (jt (sk (FW (bo (sr ?_))))))))))))))))
 have E:([a.bW,a.aQ]:List (List UInt8))[1]? =some a.aQ:=rfl
 refine fw (.pointer (some ⟨ab b,ao b+1 *1,none⟩)) (F4 (Dz) rfl rfl ((l.rds (i:=2) rfl).addr (i:=1) e6) e6) (fw (.string ⟨y6 a.aQ⟩) (F7 rfl (bX.one C4 (((l.rds (i:=2) rfl).elem zu E f3).at_ (k:=0) rfl))) (An rfl (FV (Mz rfl (Mz rfl ?_)))))
 obtain⟨t,p⟩:∃ q,iD h a.aQ=q:=⟨_,rfl⟩
 obtain⟨ag,F,U,G,V⟩:=Gp l
 refine WL.do rfl (Gr N5 rfl rfl (kV _ _ m h M N a.aQ t F f6 p) ?_)
 rintro _ ah ⟨O,P,rfl,I,r⟩
 have J:=G _ _ I
 have W:=J.rowC (i:=1) rfl
 replace r:t.xb.ls.length≤h.xb.ls.length+26:=r
 refine D0 (bN (FY (FV (Kz (vI 2) (Mz rfl (D0 (GN [(8,vI 2),(7,vI 2),(6, .slice b 2 2),(0, .func (.func 119) #[vP m 0] #[])] ⟨rfl,rfl,rfl,rfl,trivial⟩ (sr (Kz (.bool false) (nt (FW (jf (D1 (F6 (F6 (Gi (Gh (res0 rfl) (D0 (Gh (res0 rfl) ?_)))))))))))))))))))
 have Q:=J.pk [0,1]
 obtain rfl:_=t:=hr.symm.trans (et (ai n) (ai p))
 exact⟨O,P,rfl,Q,g1⟩
def jd:List aI→List UInt8→(List UInt8)
  | [],a=>a
  | c::d,a=>bnd (lS (dJ.mk (E4 a)) c) fun b=>jd d b.xb.ls
def je:List aI→List UInt8→(List UInt8)
  | [],a=>a
  | c::d,a=>bnd (lS (dJ.mk (E4 a)) c) fun b=>je d b.xb.ls
def ol (h:dJ) (a:aS):dJ:=
 if a.dZ=true then bnd (bV h 1) fun e=>bnd (iD e a.aQ) fun f=>bnd (bV f a.aj.ls.length) fun g=>bnd (jd a.aj.ls g.xb.ls) fun sLrtbbbL=>dJ.mk (E4 sLrtbbbL) else bnd (bV h 0) fun b=>bnd (iD b a.aQ) fun c=>bnd (bV c a.aj.ls.length) fun d=>bnd (je a.aj.ls d.xb.ls) fun sLrfbbbL=>dJ.mk (E4 sLrfbbbL)
set_option maxHeartbeats 1000000 in
theorem tC (w D n) (E:dJ) (A B) (a:aS) (c ah f) (r0:dJ) (H:Own w D w [blk n [.slice A E.xb.ls.length B] 159,row A E.xb.ls.length B (q6 eB E.xb.ls) 5 1]) (aH:ah=a.aj.ls.length) (h:Ro w D fun w'=>bA w' 2 c a.aj.ls.length (q6 aI.cells a.aj.ls)) (dx:a.aj.ls.length≤f∧a.aj.ls.length≤9223372036854775807) (fV:E.xb.ls.length≤7000000000) (ag:(a.aQ.length≤16∧a.aj.ls.length≤4∧∀ q ∈ a.aj.ls,q.bW.length≤12∧q.aQ.length≤16)) (hr:ol E a=r0):
    Calls y4 124 #[vP n 0, .agg #[.bool a.dZ, .string ⟨y6 a.aQ⟩, .slice c ah f]] w (dR fun v w'=> ∃ F G,v= .tuple #[]∧Own w D w' [blk n [.slice F r0.xb.ls.length G] 159,row F r0.xb.ls.length G (q6 eB r0.xb.ls) 5 1]∧(r0.xb.ls.length≤E.xb.ls.length+300)):=by
 subst aH
 have dz:=H.rowC (i:=1) rfl
 have eO:=ag.1
 have eP:=ag.2.1
 refine cb Tryz.func124 ?_
 refine sr ?_
 refine dM [.bool a.dZ, .string ⟨y6 a.aQ⟩, .slice c a.aj.ls.length f] 149 H ?_
 intro x fZ aJ
 refine ns (An rfl (FW (sr (Kz (vP x 0) (Lz (.bool a.dZ) aJ 0 Tryz.isAgg4 (nt ?_))))))
 rcases JS (a.dZ) with I | I
 refine jT I (FV (Ar rfl (Mz rfl (Mz rfl ?_))))
 refine WL.do rfl (Gg N6 rfl ?_ (fun _ _ k=>k))
 refine cb N7 ?_
 refine FV (Mz rfl (Mz rfl (fw (.int .u64 1) (FX (e:=D3.wrap 1) yk (IntWalk.u64_in _ e6)) ?_)))
 have dA:=aJ.pb [0]
 obtain⟨J,aj⟩:∃ q,bV E 1=q:=⟨_,rfl⟩
 obtain⟨gm,bz,eQ,bB,eT⟩:=Gp dA
 refine cl N8 (dQ _ _ n E A B 1 J bz f6 aj) ?_
 rintro _ gp ⟨dB,dC,rfl,bC,ak⟩
 have aK:=bB _ _ bC
 have eU:=aK.rowC (i:=1) rfl
 replace ak:J.xb.ls.length≤E.xb.ls.length+10:=ak
 refine D0 (Gh (res0 rfl) (ns (Mz rfl (Kz (vP x 1) (Lz (.string ⟨y6 a.aQ⟩) aK 2 C4 ?_)))))
 obtain⟨K,au⟩:∃ q,iD J a.aQ=q:=⟨_,rfl⟩
 obtain⟨gq,bD,eX,bE,eY⟩:=Gp aK
 refine cl N5 (kV _ _ n J dB dC a.aQ K bD f6 au) ?_
 rintro _ gu ⟨dD,dE,rfl,bF,av⟩
 have aL:=bE _ _ bF
 have fe:=aL.rowC (i:=1) rfl
 replace av:K.xb.ls.length≤J.xb.ls.length+26:=av
 refine nt (FV (Mz rfl (Kz (vP x 2) (Lz (.slice c a.aj.ls.length f) aL 2 Tryz.isAgg147 (Mz rfl (Kz (.func (.func 145) #[vP n 0] #[]) ?_))))))
 refine WL.do rfl (Gg Tryz.call144 rfl ?_ (fun _ _ k=>k))
 refine cb Tryz.func144 ?_
 refine sr (Mz rfl (Mz rfl (Kz (vJ a.aj.ls.length) ?_)))
 refine WL.do rfl (Gg N6 rfl ?_ (fun _ _ k=>k))
 refine cb N7 ?_
 refine FV (Mz rfl (Mz rfl (fw (vU a.aj.ls.length) (FX (e:=D3.wrap ((a.aj.ls.length:Nat):Int)) yk (IntWalk.u64_in _ e6)) ?_)))
 obtain⟨C,ax⟩:∃ q,bV K a.aj.ls.length=q:=⟨_,rfl⟩
 obtain⟨gy,bG,fo,bH,fq⟩:=Gp aL
 refine cl N8 (dQ _ _ n K dD dE a.aj.ls.length C bG f6 ax) ?_
 rintro _ gz ⟨dG,dH,rfl,bI,ay⟩
 have bJ:=bH _ _ bI
 have fu:=bJ.rowC (i:=1) rfl
 replace ay:C.xb.ls.length≤K.xb.ls.length+10:=ay
 refine D0 (Gh (res0 rfl) (nt (FV (Mz rfl (Mz rfl ?_)))))
 refine WL.do rfl (Gg Tryz.call160 rfl ?_ (fun _ _ k=>k))
 refine cb Tryz.func160 ?_
 refine sr (Mz rfl (Kz (vJ a.aj.ls.length) (Mn rfl (bo ?_))))
 have dI:=bJ.pb [1]
 obtain⟨dL,L⟩:=rZ fun (g:Nat) M (N:Nat) j w'=>Own w D w' [blk n [.slice M j.length N] 159,blk x [.bool a.dZ, .string ⟨y6 a.aQ⟩, .slice c a.aj.ls.length f] 149,row M j.length N (q6 eB j) 5 1]∧g≤a.aj.ls.length∧((j.length:Nat):Int)≤((C.xb.ls.length:Nat):Int)+60 *((g:Nat):Int)∧jd a.aj.ls C.xb.ls=jd (r6 g a.aj.ls) j
 refine C5 (fun i:Nat × (Option Addr) × Nat × (List UInt8)=> [(8,vJ i.1),(7,vJ a.aj.ls.length),(6, .slice c a.aj.ls.length f),(0, .func (.func 145) #[vP n 0] #[])]) dL (fun i=>a.aj.ls.length - i.1) (0,dG,dH,C.xb.ls) ⟨rfl,rfl,rfl,rfl,trivial⟩ (L.2 ⟨dI,e6,e6,rfl⟩) ?_
 rintro ⟨g,M,N,j⟩ gD bK
 obtain⟨O,fA,fB,az⟩:=L.1 bK
 refine sr (Kz (.bool (decide (((g:Nat):Int) < ((a.aj.ls.length:Nat):Int)))) (nt (FW ?_)))
 by_cases bL:((g:Nat):Int) < ((a.aj.ls.length:Nat):Int)
 obtain⟨o,P⟩:=dK (ls:=a.aj.ls) (i:=g) aI.len f3 (O.ro h) e9
 have bM:o.bW.length≤12∧o.aQ.length≤16:=ag.2.2 _ (E0 P)
 have bO:=drop_at P
 refine jT (dT bL) (sk (FW (bo (sr (fw (.pointer (some ⟨ab c,ao c+g *2,none⟩)) (F4 (jO) rfl rfl ((O.ro h).addr (i:=g) e6) e6) (fw (.agg (aI.cells o).toArray) (F7 rfl (Gf (cs:=(aI.cells o)) J1 J2 ((O.ro h).elem aI.len P f3))) ?_))))))
 refine dM [.string ⟨y6 ([])⟩, .string ⟨y6 ([])⟩] 153 O ?_
 intro gF gG dO
 refine dN (aI.cells o) 0 dO J2 ?_
 intro gH bP
 refine nt (FV (Mz rfl (La (aI.cells o) bP 0 J1 J2 ?_)))
 have dP:=bP.pb [0,2]
 obtain⟨aM,aA⟩:∃ q,lS (dJ.mk (E4 j)) o=q:=⟨_,rfl⟩
 obtain⟨gI,bQ,fC,bR,fD⟩:=Gp dP
 refine WL.do rfl (Gr Tryz.call145 rfl rfl (qg _ _ n (dJ.mk (E4 j)) M N o aM bQ f6 (by exact bM) aA) ?_)
 rintro _ fE ⟨bS,bT,rfl,aN,Q⟩
 have aB:=bR _ _ aN
 have dS:=aB.rowC (i:=1) rfl
 replace Q:aM.xb.ls.length≤j.length+60:=Q
 refine D0 (bN (FY (FV (fw (vJ (g+1)) (FX (e:=C7.wrap (((g:Nat):Int)+1)) yk f1) (Mz rfl (D0 ?_))))))
 have bU:=aB.pk [0,3,1]
 exact Gc (g+1,bS,bT,aM.xb.ls) ⟨rfl,rfl,rfl,rfl,trivial⟩ (L.2 ⟨bU,e6,e6,et (az) (et (congrArg (fun q=>jd q j) bO) (ai aA))⟩) (by show a.aj.ls.length - (g+1) < a.aj.ls.length - g; omega)
 refine jF (dF bL) (D1 (F6 ?_))
 have aO:jd a.aj.ls C.xb.ls=j:=et (az) (et (congrArg (fun q=>jd q j) (eZ (ls:=a.aj.ls) (i:=g) e6)) rfl)
 refine F6 (Gi (Gh (res0 rfl) (D0 (Gh (res0 rfl) (D0 (Gh (res0 rfl) ?_))))))
 have bW:=O.pk [0,2]
 obtain rfl:_=dJ.mk (E4 j):=hr.symm.trans (et (ip I) (et (ai aj) (et (ai au) (et (ai ax) (ai aO)))))
 exact⟨M,N,rfl,bW,g1⟩
 refine jF I (sk (sr (Mz rfl (Mz rfl ?_))))
 refine WL.do rfl (Gg N6 rfl ?_ (fun _ _ k=>k))
 refine cb N7 ?_
 refine FV (Mz rfl (Mz rfl (fw (.int .u64 0) (FX (e:=D3.wrap 0) yk (IntWalk.u64_in _ e6)) ?_)))
 have bX:=aJ.pb [0]
 obtain⟨p,R⟩:∃ q,bV E 0=q:=⟨_,rfl⟩
 obtain⟨fF,aP,dU,aQ,dV⟩:=Gp bX
 refine cl N8 (dQ _ _ n E A B 0 p aP f6 R) ?_
 rintro _ fG ⟨bY,bZ,rfl,aR,S⟩
 have T:=aQ _ _ aR
 have dW:=T.rowC (i:=1) rfl
 replace S:p.xb.ls.length≤E.xb.ls.length+10:=S
 refine D0 (Gh (res0 rfl) (ns (Mz rfl (Kz (vP x 1) (Lz (.string ⟨y6 a.aQ⟩) T 2 C4 ?_)))))
 obtain⟨r,U⟩:∃ q,iD p a.aQ=q:=⟨_,rfl⟩
 obtain⟨fH,aT,dX,aU,dY⟩:=Gp T
 refine cl N5 (kV _ _ n p bY bZ a.aQ r aT f6 U) ?_
 rintro _ fI ⟨cu,cz,rfl,aV,V⟩
 have W:=aU _ _ aV
 have dZ:=W.rowC (i:=1) rfl
 replace V:r.xb.ls.length≤p.xb.ls.length+26:=V
 refine nt (FV (Mz rfl (Kz (vP x 2) (Lz (.slice c a.aj.ls.length f) W 2 Tryz.isAgg147 (Mz rfl (Kz (.func (.func 145) #[vP n 0] #[]) ?_))))))
 refine WL.do rfl (Gg Tryz.call144 rfl ?_ (fun _ _ k=>k))
 refine cb Tryz.func144 ?_
 refine sr (Mz rfl (Mz rfl (Kz (vJ a.aj.ls.length) ?_)))
 refine WL.do rfl (Gg N6 rfl ?_ (fun _ _ k=>k))
 refine cb N7 ?_
 refine FV (Mz rfl (Mz rfl (fw (vU a.aj.ls.length) (FX (e:=D3.wrap ((a.aj.ls.length:Nat):Int)) yk (IntWalk.u64_in _ e6)) ?_)))
 obtain⟨m,X⟩:∃ q,bV r a.aj.ls.length=q:=⟨_,rfl⟩
 obtain⟨fJ,aW,d9,aX,ed⟩:=Gp W
 refine cl N8 (dQ _ _ n r cu cz a.aj.ls.length m aW f6 X) ?_
 rintro _ fK ⟨cB,cK,rfl,aY,Y⟩
 have aC:=aX _ _ aY
 have ek:=aC.rowC (i:=1) rfl
 replace Y:m.xb.ls.length≤r.xb.ls.length+10:=Y
 refine D0 (Gh (res0 rfl) (nt (FV (Mz rfl (Mz rfl ?_)))))
 refine WL.do rfl (Gg Tryz.call160 rfl ?_ (fun _ _ k=>k))
 refine cb Tryz.func160 ?_
 refine sr (Mz rfl (Kz (vJ a.aj.ls.length) (Mn rfl (bo ?_))))
 have cO:=aC.pb [1]
 obtain⟨cZ,y⟩:=rZ fun (b:Nat) s (t:Nat) d w'=>Own w D w' [blk n [.slice s d.length t] 159,blk x [.bool a.dZ, .string ⟨y6 a.aQ⟩, .slice c a.aj.ls.length f] 149,row s d.length t (q6 eB d) 5 1]∧b≤a.aj.ls.length∧((d.length:Nat):Int)≤((m.xb.ls.length:Nat):Int)+60 *((b:Nat):Int)∧je a.aj.ls m.xb.ls=je (r6 b a.aj.ls) d
 refine C5 (fun i:Nat × (Option Addr) × Nat × (List UInt8)=> [(8,vJ i.1),(7,vJ a.aj.ls.length),(6, .slice c a.aj.ls.length f),(0, .func (.func 145) #[vP n 0] #[])]) cZ (fun i=>a.aj.ls.length - i.1) (0,cB,cK,m.xb.ls) ⟨rfl,rfl,rfl,rfl,trivial⟩ (y.2 ⟨cO,e6,e6,rfl⟩) ?_
 rintro ⟨b,s,t,d⟩ fM aZ
 obtain⟨u,eu,eD,Z⟩:=y.1 aZ
 refine sr (Kz (.bool (decide (((b:Nat):Int) < ((a.aj.ls.length:Nat):Int)))) (nt (FW ?_)))
 by_cases aD:((b:Nat):Int) < ((a.aj.ls.length:Nat):Int)
 obtain⟨l,z⟩:=dK (ls:=a.aj.ls) (i:=b) aI.len f3 (u.ro h) e9
 have bf:l.bW.length≤12∧l.aQ.length≤16:=ag.2.2 _ (E0 z)
 have bg:=drop_at z
 refine jT (dT aD) (sk (FW (bo (sr (fw (.pointer (some ⟨ab c,ao c+b *2,none⟩)) (F4 (jO) rfl rfl ((u.ro h).addr (i:=b) e6) e6) (fw (.agg (aI.cells l).toArray) (F7 rfl (Gf (cs:=(aI.cells l)) J1 J2 ((u.ro h).elem aI.len z f3))) ?_))))))
 refine dM [.string ⟨y6 ([])⟩, .string ⟨y6 ([])⟩] 153 u ?_
 intro fO fP df
 refine dN (aI.cells l) 0 df J2 ?_
 intro fQ aF
 refine nt (FV (Mz rfl (La (aI.cells l) aF 0 J1 J2 ?_)))
 have dh:=aF.pb [0,2]
 obtain⟨aa,ae⟩:∃ q,lS (dJ.mk (E4 d)) l=q:=⟨_,rfl⟩
 obtain⟨fT,bi,eF,bn,eG⟩:=Gp dh
 refine WL.do rfl (Gr Tryz.call145 rfl rfl (qg _ _ n (dJ.mk (E4 d)) s t l aa bi f6 (by exact bf) ae) ?_)
 rintro _ fU ⟨di,dm,rfl,bq,af⟩
 have aG:=bn _ _ bq
 have eH:=aG.rowC (i:=1) rfl
 replace af:aa.xb.ls.length≤d.length+60:=af
 refine D0 (bN (FY (FV (fw (vJ (b+1)) (FX (e:=C7.wrap (((b:Nat):Int)+1)) yk f1) (Mz rfl (D0 ?_))))))
 have dn:=aG.pk [0,3,1]
 exact Gc (b+1,di,dm,aa.xb.ls) ⟨rfl,rfl,rfl,rfl,trivial⟩ (y.2 ⟨dn,e6,e6,et (Z) (et (congrArg (fun q=>je q d) bg) (ai ae))⟩) (by show a.aj.ls.length - (b+1) < a.aj.ls.length - b; omega)
 refine jF (dF aD) (D1 (F6 ?_))
 have bu:je a.aj.ls m.xb.ls=d:=et (Z) (et (congrArg (fun q=>je q d) (eZ (ls:=a.aj.ls) (i:=b) e6)) rfl)
 refine F6 (Gi (Gh (res0 rfl) (D0 (Gh (res0 rfl) (D0 (Gh (res0 rfl) ?_))))))
 have dw:=u.pk [0,2]
 obtain rfl:_=dJ.mk (E4 d):=hr.symm.trans (et (gB I) (et (ai R) (et (ai U) (et (ai X) (ai bu)))))
 exact⟨s,t,rfl,dw,g1⟩
def iL:List Int→List UInt8→(List UInt8)
  | [],a=>a
  | c::d,a=>bnd (bV (dJ.mk (E4 a)) (D2 (D3.wrap c))) fun b=>iL d b.xb.ls
def nu (g:dJ) (a:bJ):dJ:=
 bnd (bV g a.aU) fun b=>bnd (bV b (D2 (D3.wrap a.aN))) fun c=>bnd (bV c a.ay) fun d=>bnd (bV d a.aO) fun e=>bnd (bV e a.av.ls.length) fun f=>bnd (iL a.av.ls f.xb.ls) fun sLrbbbbbL=>dJ.mk (E4 sLrbbbbbL)
set_option maxHeartbeats 1000000 in
theorem sw (w D m) (N:dJ) (t u) (a:bJ) (d R f) (r0:dJ) (H:Own w D w [blk m [.slice t N.xb.ls.length u] 159,row t N.xb.ls.length u (q6 eB N.xb.ls) 5 1]) (ag:R=a.av.ls.length) (n:Ro w D fun w'=>bA w' 1 d a.av.ls.length (q6 (eI .i64) a.av.ls)) (bq:a.av.ls.length≤f∧a.av.ls.length≤9223372036854775807) (dD:N.xb.ls.length≤7000000000) (O:(a.aU≤18446744073709551615∧a.ay≤18446744073709551615∧a.aO≤18446744073709551615∧a.av.ls.length≤4)) (hr:nu N a=r0):
    Calls y4 83 #[vP m 0, .agg #[vU a.aU,vI a.aN,vU a.ay,vU a.aO, .slice d R f]] w (dR fun v w'=> ∃ x z,v= .tuple #[]∧Own w D w' [blk m [.slice x r0.xb.ls.length z] 159,row x r0.xb.ls.length z (q6 eB r0.xb.ls) 5 1]∧(r0.xb.ls.length≤N.xb.ls.length+100)):=by
 subst ag
 have bu:=H.rowC (i:=1) rfl
 have bT:=O.1
 have bU:=O.2.1
 have bW:=O.2.2.1
 have bY:=O.2.2.2
 refine cb Tryz.func83 ?_
 refine sr ?_
 refine dM [vU a.aU,vI a.aN,vU a.ay,vU a.aO, .slice d a.av.ls.length f] 60 H ?_
 intro r dE aA
 refine ns (Mz rfl (Kz (vP r 0) (Lz (vU a.aU) aA 0 E1 ?_)))
 have bv:=aA.pb [0]
 obtain⟨A,S⟩:∃ q,bV N a.aU=q:=⟨_,rfl⟩
 obtain⟨dG,aB,bZ,aC,cu⟩:=Gp bv
 refine cl N8 (dQ _ _ m N t u a.aU A aB f6 S) ?_
 rintro _ dH ⟨bz,bB,rfl,aD,T⟩
 have ah:=aC _ _ aD
 have cz:=ah.rowC (i:=1) rfl
 replace T:A.xb.ls.length≤N.xb.ls.length+10:=T
 refine ns (Mz rfl (Kz (vP r 1) (Lz (vI a.aN) ah 2 C6 ?_)))
 refine WL.do rfl (Gg N6 rfl ?_ (fun _ _ k=>k))
 refine cb N7 ?_
 refine FV (Mz rfl (Mz rfl ?_))
 have cB:D2 (D3.wrap a.aN)≤18446744073709551615:=mh _
 refine fw (vU (D2 (D3.wrap a.aN))) (FX (e:=D3.wrap a.aN) yk (fC _)) ?_
 obtain⟨B,U⟩:∃ q,bV A (D2 (D3.wrap a.aN))=q:=⟨_,rfl⟩
 obtain⟨dI,aF,cK,aG,cO⟩:=Gp ah
 refine cl N8 (dQ _ _ m A bz bB (D2 (D3.wrap a.aN)) B aF f6 U) ?_
 rintro _ dL ⟨bC,bD,rfl,aH,V⟩
 have P:=aG _ _ aH
 have cZ:=P.rowC (i:=1) rfl
 replace V:B.xb.ls.length≤A.xb.ls.length+10:=V
 refine D0 (Gh (res0 rfl) (ns (Mz rfl (Kz (.func (.func 79) #[vP m 0] #[]) (Kz (vP r 2) (Lz (vU a.ay) P 2 E1 (Kz (vP r 3) (Lz (vU a.aO) P 2 E1 ?_))))))))
 refine kL [vU a.ay,vU a.aO] 28 1 2 P ?_
 intro o dN C
 replace C:=Gs (y:=row o 2 2 (q6 (eN .u64) ([a.ay,a.aO])) 28 1) rfl C
 refine WL.do rfl (Gg Tryz.call78 rfl ?_ (fun _ _ k=>k))
 refine cb Tryz.func78 ?_
 refine sr (Mz rfl (Kz (vI 2) (Mn rfl (bo (Hu 200 (sr (Kz (.bool true) (nt (FW (jt (sk (FW (bo (sr ?_))))))))))))))
 have aI:([a.ay,a.aO]:List Nat)[0]? =some a.ay:=rfl
 refine fw (.pointer (some ⟨ab o,ao o+0 *1,none⟩)) (F4 (uE) rfl rfl ((C.rds (i:=0) rfl).addr (i:=0) e6) e6) (fw (vU a.ay) (F7 rfl (bX.one E1 (((C.rds (i:=0) rfl).elem pG aI f3).at_ (k:=0) rfl))) (An rfl (FV (Mz rfl (Mz rfl ?_)))))
 have bE:=C.pb [0,3]
 obtain⟨E,W⟩:∃ q,bV B a.ay=q:=⟨_,rfl⟩
 obtain⟨dO,aJ,df,aK,dh⟩:=Gp bE
 refine WL.do rfl (Gr N8 rfl rfl (dQ _ _ m B bC bD a.ay E aJ f6 W) ?_)
 rintro _ dP ⟨bF,bG,rfl,aL,X⟩
 have Q:=aK _ _ aL
 have di:=Q.rowC (i:=1) rfl
 replace X:E.xb.ls.length≤B.xb.ls.length+10:=X
 refine D0 (bN (FY (FV (Kz (vI 1) (Mz rfl (D0 (GN [(8,vI 1),(7,vI 2),(6, .slice o 2 2),(0, .func (.func 79) #[vP m 0] #[])] ⟨rfl,rfl,rfl,rfl,trivial⟩ (sr (Kz (.bool true) (nt (FW (jt (sk (FW (bo (sr ?_))))))))))))))))
 have aM:([a.ay,a.aO]:List Nat)[1]? =some a.aO:=rfl
 refine fw (.pointer (some ⟨ab o,ao o+1 *1,none⟩)) (F4 (uE) rfl rfl ((Q.rds (i:=2) rfl).addr (i:=1) e6) e6) (fw (vU a.aO) (F7 rfl (bX.one E1 (((Q.rds (i:=2) rfl).elem pG aM f3).at_ (k:=0) rfl))) (An rfl (FV (Mz rfl (Mz rfl ?_)))))
 obtain⟨F,Y⟩:∃ q,bV E a.aO=q:=⟨_,rfl⟩
 obtain⟨dS,aN,dm,aO,dn⟩:=Gp Q
 refine WL.do rfl (Gr N8 rfl rfl (dQ _ _ m E bF bG a.aO F aN f6 Y) ?_)
 rintro _ dU ⟨bH,bI,rfl,aP,Z⟩
 have aQ:=aO _ _ aP
 have dw:=aQ.rowC (i:=1) rfl
 replace Z:F.xb.ls.length≤E.xb.ls.length+10:=Z
 refine D0 (bN (FY (FV (Kz (vI 2) (Mz rfl (D0 (GN [(8,vI 2),(7,vI 2),(6, .slice o 2 2),(0, .func (.func 79) #[vP m 0] #[])] ⟨rfl,rfl,rfl,rfl,trivial⟩ (sr (Kz (.bool false) (nt (FW (jf (D1 (F6 (F6 (Gi (Gh (res0 rfl) (nt ?_))))))))))))))))))
 have aR:=aQ.pk [0,1,3]
 refine FV (Mz rfl (Kz (vP r 4) (Lz (.slice d a.av.ls.length f) aR 2 Tryz.isAgg58 (Mz rfl (Kz (.func (.func 77) #[vP m 0] #[]) ?_)))))
 refine WL.do rfl (Gg Tryz.call121 rfl ?_ (fun _ _ k=>k))
 refine cb Tryz.func121 ?_
 refine sr (Mz rfl (Mz rfl (Kz (vJ a.av.ls.length) ?_)))
 refine WL.do rfl (Gg N6 rfl ?_ (fun _ _ k=>k))
 refine cb N7 ?_
 refine FV (Mz rfl (Mz rfl (fw (vU a.av.ls.length) (FX (e:=D3.wrap ((a.av.ls.length:Nat):Int)) yk (IntWalk.u64_in _ e6)) ?_)))
 obtain⟨s,aa⟩:∃ q,bV F a.av.ls.length=q:=⟨_,rfl⟩
 obtain⟨dV,aS,dx,aT,dz⟩:=Gp aR
 refine cl N8 (dQ _ _ m F bH bI a.av.ls.length s aS f6 aa) ?_
 rintro _ dW ⟨bK,aU,rfl,aV,G⟩
 have aW:=aT _ _ aV
 have bL:=aW.rowC (i:=1) rfl
 replace G:s.xb.ls.length≤F.xb.ls.length+10:=G
 refine D0 (Gh (res0 rfl) (nt (FV (Mz rfl (Mz rfl ?_)))))
 refine WL.do rfl (Gg Tryz.call142 rfl ?_ (fun _ _ k=>k))
 refine cb Tryz.func142 ?_
 refine sr (Mz rfl (Kz (vJ a.av.ls.length) (Mn rfl (bo ?_))))
 have aX:=aW.pb [1]
 obtain⟨aY,p⟩:=rZ fun (b:Nat) h (j:Nat) c w'=>Own w D w' [blk m [.slice h c.length j] 159,blk r [vU a.aU,vI a.aN,vU a.ay,vU a.aO, .slice d a.av.ls.length f] 60,row h c.length j (q6 eB c) 5 1]∧b≤a.av.ls.length∧((c.length:Nat):Int)≤((s.xb.ls.length:Nat):Int)+10 *((b:Nat):Int)∧iL a.av.ls s.xb.ls=iL (r6 b a.av.ls) c
 refine C5 (fun i:Nat × (Option Addr) × Nat × (List UInt8)=> [(8,vJ i.1),(7,vJ a.av.ls.length),(6, .slice d a.av.ls.length f),(0, .func (.func 77) #[vP m 0] #[])]) aY (fun i=>a.av.ls.length - i.1) (0,bK,aU,s.xb.ls) ⟨rfl,rfl,rfl,rfl,trivial⟩ (p.2 ⟨aX,e6,e6,rfl⟩) ?_
 rintro ⟨b,h,j,c⟩ dA aj
 obtain⟨l,bM,bO,I⟩:=p.1 aj
 refine sr (Kz (.bool (decide (((b:Nat):Int) < ((a.av.ls.length:Nat):Int)))) (nt (FW ?_)))
 by_cases ae:((b:Nat):Int) < ((a.av.ls.length:Nat):Int)
 obtain⟨g,J⟩:=dK (ls:=a.av.ls) (i:=b) iI f3 (l.ro n) e9
 have ak:=drop_at J
 refine jT (dT ae) (sk (FW (bo (sr (fw (.pointer (some ⟨ab d,ao d+b *1,none⟩)) (F4 (nk) rfl rfl ((l.ro n).addr (i:=b) e6) e6) (fw (vI g) (F7 rfl (bX.one C6 (((l.ro n).elem iI J f3).at_ (k:=0) rfl))) (An rfl (FV (Mz rfl (Mz rfl ?_))))))))))
 refine WL.do rfl (Gr N6 rfl rfl ?_ (fun _ _ k=>k))
 refine cb N7 ?_
 refine FV (Mz rfl (Mz rfl ?_))
 have bP:D2 (D3.wrap g)≤18446744073709551615:=mh _
 refine fw (vU (D2 (D3.wrap g))) (FX (e:=D3.wrap g) yk (fC _)) ?_
 have aZ:=l.pb [1]
 obtain⟨K,L⟩:∃ q,bV (dJ.mk (E4 c)) (D2 (D3.wrap g))=q:=⟨_,rfl⟩
 obtain⟨dB,au,bQ,av,bR⟩:=Gp aZ
 refine cl N8 (dQ _ _ m (dJ.mk (E4 c)) h j (D2 (D3.wrap g)) K au f6 L) ?_
 rintro _ dC ⟨bf,bg,rfl,ax,M⟩
 have af:=av _ _ ax
 have bS:=af.rowC (i:=1) rfl
 replace M:K.xb.ls.length≤c.length+10:=M
 refine D0 (Gh (res0 rfl) (D0 (bN (FY (FV (fw (vJ (b+1)) (FX (e:=C7.wrap (((b:Nat):Int)+1)) yk f1) (Mz rfl (D0 ?_))))))))
 have bi:=af.pb [1]
 exact Gc (b+1,bf,bg,K.xb.ls) ⟨rfl,rfl,rfl,rfl,trivial⟩ (p.2 ⟨bi,e6,e6,et (I) (et (congrArg (fun q=>iL q c) ak) (ai L))⟩) (by show a.av.ls.length - (b+1) < a.av.ls.length - b; omega)
 refine jF (dF ae) (D1 (F6 ?_))
 have ay:iL a.av.ls s.xb.ls=c:=et (I) (et (congrArg (fun q=>iL q c) (eZ (ls:=a.av.ls) (i:=b) e6)) rfl)
 refine F6 (Gi (Gh (res0 rfl) (D0 (Gh (res0 rfl) (D0 (Gh (res0 rfl) ?_))))))
 have bn:=l.pk [0,2]
 obtain rfl:_=dJ.mk (E4 c):=hr.symm.trans (et (ai S) (et (ai U) (et (ai W) (et (ai Y) (et (ai aa) (ai ay))))))
 exact⟨h,j,rfl,bn,g1⟩
def jG:List aS→List UInt8→(List UInt8)
  | [],b=>b
  | a::d,b=>bnd (ol (dJ.mk (E4 b)) (aS.mk a.dZ a.aQ (E4 a.aj.ls))) fun c=>jG d c.xb.ls
def oW (f:dJ) (a:fE):dJ:=
 bnd (bV f (D2 (D3.wrap a.aN))) fun b=>bnd (bV b a.ay) fun c=>bnd (bV c a.aO) fun d=>bnd (bV d a.ah.ls.length) fun e=>bnd (jG a.ah.ls e.xb.ls) fun sLrbbbbL=>dJ.mk (E4 sLrbbbbL)
set_option maxHeartbeats 1000000 in
theorem uq (w D l) (U:dJ) (s t) (a:fE) (f Y h p) (r0:dJ) (H:Own w D w [blk l [.slice s U.xb.ls.length t] 159,row s U.xb.ls.length t (q6 eB U.xb.ls) 5 1]) (u:List.map ae.abs p=a.ah.ls) (aB:Y=a.ah.ls.length) (m:Ro w D fun w'=>bA w' 3 f a.ah.ls.length (q6 ae.cells p)) (bH:a.ah.ls.length≤h∧a.ah.ls.length≤9223372036854775807) (B:∀ x ∈ p,Ro w D (fun w'=>bA w' 2 x.aj.A x.aj.ls.length (q6 aI.cells x.aj.ls))∧(x.aj.ls.length≤x.aj.c∧x.aj.ls.length≤9223372036854775807)) (dP:U.xb.ls.length≤6000000000) (V:(a.ay≤18446744073709551615∧a.aO≤18446744073709551615∧a.ah.ls.length≤24∧∀ z ∈ a.ah.ls,z.aQ.length≤16∧z.aj.ls.length≤4∧∀ q ∈ z.aj.ls,q.bW.length≤12∧q.aQ.length≤16)) (hr:oW U a=r0):
    Calls y4 85 #[vP l 0, .agg #[vI a.aN,vU a.ay,vU a.aO, .slice f Y h]] w (dR fun v w'=> ∃ C E,v= .tuple #[]∧Own w D w' [blk l [.slice C r0.xb.ls.length E] 159,row C r0.xb.ls.length E (q6 eB r0.xb.ls) 5 1]∧(r0.xb.ls.length≤U.xb.ls.length+8000)):=by
 subst aB
 have bG:=az u
 have bI:=H.rowC (i:=1) rfl
 have cK:=V.1
 have cO:=V.2.1
 have cZ:=V.2.2.1
 refine cb Tryz.func85 ?_
 refine sr ?_
 refine dM [vI a.aN,vU a.ay,vU a.aO, .slice f a.ah.ls.length h] 56 H ?_
 intro F dS aM
 refine ns (Mz rfl (Kz (vP F 0) (Lz (vI a.aN) aM 0 C6 ?_)))
 refine WL.do rfl (Gg N6 rfl ?_ (fun _ _ k=>k))
 refine cb N7 ?_
 refine FV (Mz rfl (Mz rfl ?_))
 have df:D2 (D3.wrap a.aN)≤18446744073709551615:=mh _
 refine fw (vU (D2 (D3.wrap a.aN))) (FX (e:=D3.wrap a.aN) yk (fC _)) ?_
 have bJ:=aM.pb [0]
 obtain⟨G,Z⟩:∃ q,bV U (D2 (D3.wrap a.aN))=q:=⟨_,rfl⟩
 obtain⟨dU,aN,dh,aO,di⟩:=Gp bJ
 refine cl N8 (dQ _ _ l U s t (D2 (D3.wrap a.aN)) G aN f6 Z) ?_
 rintro _ dV ⟨bK,bL,rfl,aP,aa⟩
 have W:=aO _ _ aP
 have dm:=W.rowC (i:=1) rfl
 replace aa:G.xb.ls.length≤U.xb.ls.length+10:=aa
 refine D0 (Gh (res0 rfl) (ns (Mz rfl (Kz (.func (.func 79) #[vP l 0] #[]) (Kz (vP F 1) (Lz (vU a.ay) W 2 E1 (Kz (vP F 2) (Lz (vU a.aO) W 2 E1 ?_))))))))
 refine kL [vU a.ay,vU a.aO] 28 1 2 W ?_
 intro n dW I
 replace I:=Gs (y:=row n 2 2 (q6 (eN .u64) ([a.ay,a.aO])) 28 1) rfl I
 refine WL.do rfl (Gg Tryz.call78 rfl ?_ (fun _ _ k=>k))
 refine cb Tryz.func78 ?_
 refine sr (Mz rfl (Kz (vI 2) (Mn rfl (bo (Hu 200 (sr (Kz (.bool true) (nt (FW (jt (sk (FW (bo (sr ?_))))))))))))))
 have aR:([a.ay,a.aO]:List Nat)[0]? =some a.ay:=rfl
 refine fw (.pointer (some ⟨ab n,ao n+0 *1,none⟩)) (F4 (uE) rfl rfl ((I.rds (i:=0) rfl).addr (i:=0) e6) e6) (fw (vU a.ay) (F7 rfl (bX.one E1 (((I.rds (i:=0) rfl).elem pG aR f3).at_ (k:=0) rfl))) (An rfl (FV (Mz rfl (Mz rfl ?_)))))
 have bM:=I.pb [0,3]
 obtain⟨J,af⟩:∃ q,bV G a.ay=q:=⟨_,rfl⟩
 obtain⟨dX,aT,dn,aU,dw⟩:=Gp bM
 refine WL.do rfl (Gr N8 rfl rfl (dQ _ _ l G bK bL a.ay J aT f6 af) ?_)
 rintro _ dY ⟨bO,bP,rfl,aV,ag⟩
 have X:=aU _ _ aV
 have dx:=X.rowC (i:=1) rfl
 replace ag:J.xb.ls.length≤G.xb.ls.length+10:=ag
 refine D0 (bN (FY (FV (Kz (vI 1) (Mz rfl (D0 (GN [(8,vI 1),(7,vI 2),(6, .slice n 2 2),(0, .func (.func 79) #[vP l 0] #[])] ⟨rfl,rfl,rfl,rfl,trivial⟩ (sr (Kz (.bool true) (nt (FW (jt (sk (FW (bo (sr ?_))))))))))))))))
 have aW:([a.ay,a.aO]:List Nat)[1]? =some a.aO:=rfl
 refine fw (.pointer (some ⟨ab n,ao n+1 *1,none⟩)) (F4 (uE) rfl rfl ((X.rds (i:=2) rfl).addr (i:=1) e6) e6) (fw (vU a.aO) (F7 rfl (bX.one E1 (((X.rds (i:=2) rfl).elem pG aW f3).at_ (k:=0) rfl))) (An rfl (FV (Mz rfl (Mz rfl ?_)))))
 obtain⟨K,ah⟩:∃ q,bV J a.aO=q:=⟨_,rfl⟩
 obtain⟨dZ,aX,dz,aY,dA⟩:=Gp X
 refine WL.do rfl (Gr N8 rfl rfl (dQ _ _ l J bO bP a.aO K aX f6 ah) ?_)
 rintro _ d9 ⟨bQ,bR,rfl,aZ,ak⟩
 have bf:=aY _ _ aZ
 have dB:=bf.rowC (i:=1) rfl
 replace ak:K.xb.ls.length≤J.xb.ls.length+10:=ak
 refine D0 (bN (FY (FV (Kz (vI 2) (Mz rfl (D0 (GN [(8,vI 2),(7,vI 2),(6, .slice n 2 2),(0, .func (.func 79) #[vP l 0] #[])] ⟨rfl,rfl,rfl,rfl,trivial⟩ (sr (Kz (.bool false) (nt (FW (jf (D1 (F6 (F6 (Gi (Gh (res0 rfl) (nt ?_))))))))))))))))))
 have bg:=bf.pk [0,1,3]
 refine FV (Mz rfl (Kz (vP F 3) (Lz (.slice f a.ah.ls.length h) bg 2 Tryz.isAgg40 (Mz rfl (Kz (.func (.func 124) #[vP l 0] #[]) ?_)))))
 refine WL.do rfl (Gg Tryz.call123 rfl ?_ (fun _ _ k=>k))
 refine cb Tryz.func123 ?_
 refine sr (Mz rfl (Mz rfl (Kz (vJ a.ah.ls.length) ?_)))
 refine WL.do rfl (Gg N6 rfl ?_ (fun _ _ k=>k))
 refine cb N7 ?_
 refine FV (Mz rfl (Mz rfl (fw (vU a.ah.ls.length) (FX (e:=D3.wrap ((a.ah.ls.length:Nat):Int)) yk (IntWalk.u64_in _ e6)) ?_)))
 obtain⟨r,au⟩:∃ q,bV K a.ah.ls.length=q:=⟨_,rfl⟩
 obtain⟨ed,bi,dC,bn,dD⟩:=Gp bg
 refine cl N8 (dQ _ _ l K bQ bR a.ah.ls.length r bi f6 au) ?_
 rintro _ ek ⟨bS,bT,rfl,bq,av⟩
 have bu:=bn _ _ bq
 have dE:=bu.rowC (i:=1) rfl
 replace av:r.xb.ls.length≤K.xb.ls.length+10:=av
 refine D0 (Gh (res0 rfl) (nt (FV (Mz rfl (Mz rfl ?_)))))
 refine WL.do rfl (Gg Tryz.call143 rfl ?_ (fun _ _ k=>k))
 refine cb Tryz.func143 ?_
 refine sr (Mz rfl (Kz (vJ a.ah.ls.length) (Mn rfl (bo ?_))))
 have bU:=bu.pb [1]
 obtain⟨bW,L⟩:=rZ fun (d:Nat) M (N:Nat) g w'=>Own w D w' [blk l [.slice M g.length N] 159,blk F [vI a.aN,vU a.ay,vU a.aO, .slice f a.ah.ls.length h] 56,row M g.length N (q6 eB g) 5 1]∧d≤a.ah.ls.length∧((g.length:Nat):Int)≤((r.xb.ls.length:Nat):Int)+300 *((d:Nat):Int)∧jG a.ah.ls r.xb.ls=jG (r6 d a.ah.ls) g
 refine C5 (fun i:Nat × (Option Addr) × Nat × (List UInt8)=> [(8,vJ i.1),(7,vJ a.ah.ls.length),(6, .slice f a.ah.ls.length h),(0, .func (.func 124) #[vP l 0] #[])]) bW (fun i=>a.ah.ls.length - i.1) (0,bS,bT,r.xb.ls) ⟨rfl,rfl,rfl,rfl,trivial⟩ (L.2 ⟨bU,e6,e6,rfl⟩) ?_
 rintro ⟨d,M,N,g⟩ eu bv
 obtain⟨O,bY,bZ,P⟩:=L.1 bv
 refine sr (Kz (.bool (decide (((d:Nat):Int) < ((a.ah.ls.length:Nat):Int)))) (nt (FW ?_)))
 by_cases ax:((d:Nat):Int) < ((a.ah.ls.length:Nat):Int)
 obtain⟨b,j⟩:=dK (ls:=p) (i:=d) ae.len f3 (O.ro m) e9
 have Q:=fo u j
 have cu:=(B _ (E0 j)).2
 have o:s2 (ae.abs b).aQ≤16∧s2 (ae.abs b).aj.ls≤4∧∀ q ∈ (ae.abs b).aj.ls,q.bW.length≤12∧q.aQ.length≤16:=V.2.2.2 _ (E0 Q)
 have hz108p0:b.aQ.length≤16:=by have q9:=o.1; first | exact q9 | (simp only [ae.abs,s6] at q9; exact q9)
 have hz108p1:b.aj.ls.length≤4:=by have q9:=o.2.1; first | exact q9 | (simp only [ae.abs,s6] at q9; exact q9)
 have aD:=drop_at Q
 refine jT (dT ax) (sk (FW (bo (sr (fw (.pointer (some ⟨ab f,ao f+d *3,none⟩)) (F4 (rR) rfl rfl ((O.ro m).addr (i:=d) e6) e6) (fw (.agg (ae.cells b).toArray) (F7 rfl (Gf (cs:=(ae.cells b)) Tryz.isAgg149 E8 ((O.ro m).elem ae.len j f3))) ?_))))))
 refine dM [.bool false, .string ⟨y6 ([])⟩, .slice none 0 0] 149 O ?_
 intro dG dH bz
 refine dN (ae.cells b) 0 bz E8 ?_
 intro dI ay
 refine nt (FV (Mz rfl (La (ae.cells b) ay 0 Tryz.isAgg149 E8 ?_)))
 have bB:=ay.pb [0,2]
 obtain⟨R,S⟩:∃ q,ol (dJ.mk (E4 g)) (aS.mk b.dZ b.aQ (E4 b.aj.ls))=q:=⟨_,rfl⟩
 obtain⟨dL,aF,aG,aH,cz⟩:=Gp bB
 refine WL.do rfl (Gr Tryz.call124 rfl rfl (tC _ _ l (dJ.mk (E4 g)) M N (aS.mk b.dZ b.aQ (E4 b.aj.ls)) b.aj.A b.aj.ls.length b.aj.c R aF rfl (aG _ (B _ (E0 j)).1) (show b.aj.ls.length≤b.aj.c∧b.aj.ls.length≤9223372036854775807 from by omega) f6 (by exact o) S) ?_)
 rintro _ dO ⟨bC,bD,rfl,aJ,T⟩
 have aA:=aH _ _ aJ
 have cB:=aA.rowC (i:=1) rfl
 replace T:R.xb.ls.length≤g.length+300:=T
 refine D0 (bN (FY (FV (fw (vJ (d+1)) (FX (e:=C7.wrap (((d:Nat):Int)+1)) yk f1) (Mz rfl (D0 ?_))))))
 have bE:=aA.pk [0,3,1]
 exact Gc (d+1,bC,bD,R.xb.ls) ⟨rfl,rfl,rfl,rfl,trivial⟩ (L.2 ⟨bE,e6,e6,et (P) (et (congrArg (fun q=>jG q g) aD) (ai S))⟩) (by show a.ah.ls.length - (d+1) < a.ah.ls.length - d; omega)
 refine jF (dF ax) (D1 (F6 ?_))
 have aK:jG a.ah.ls r.xb.ls=g:=et (P) (et (congrArg (fun q=>jG q g) (eZ (ls:=a.ah.ls) (i:=d) e6)) rfl)
 refine F6 (Gi (Gh (res0 rfl) (D0 (Gh (res0 rfl) (D0 (Gh (res0 rfl) ?_))))))
 have bF:=O.pk [0,2]
 obtain rfl:_=dJ.mk (E4 g):=hr.symm.trans (et (ai Z) (et (ai af) (et (ai ah) (et (ai au) (ai aK)))))
 exact⟨M,N,rfl,bF,g1⟩
end Go.Proofs.YtbkagebjhbphaaaGreat
