/-
 record: what is written.
-/
import Derived.Test.YtbkagebjhbphaaaGreatCoM
namespace Go.Proofs.YtbkagebjhbphaaaGreat
open Int renaming toNat→D2
open IntKind renaming i64→C7,u64→D3,u8→N5
open List renaming drop→r6,flatMap→q6,flatMap_append→r7,length→s2,length_append→p5,length_cons→s3,length_map→s6,length_nil→G1,mem_of_getElem?→E0,toArray→y6
open Ll renaming mk→E4
open _root_.Go.Proofs.Tryz renaming call119→N6,call77→N7,call79→N9,func77→N8,isAgg153→J2,isAgg28→E1,isAgg3→C6,isAgg9→C4,prog→y4,sizeOf149→F0,sizeOf153→J3,underlying134→N4
open WL renaming nil→D0
open Wp renaming exit→D1,loop→C5
set_option maxRecDepth 100000
open Go.RowKit
set_option linter.unusedVariables false
set_option linter.unusedSectionVars false
set_option linter.unusedSimpArgs false
def mJ:Nat→Nat→List UInt8→Nat × (List UInt8)
  | 0,a,b=>default
  | c+1,a,b=>if((a:Nat):Int) ≥ 128 then mJ c (a / 128) (b++ [((UInt8.ofNat a) ||| (128:UInt8))]) else(a,b)
def rE (a:Nat):(List UInt8):=
 bnd (mJ (a+1) a ([])) fun sLrL=>(sLrL.2++ [(UInt8.ofNat sLrL.1)])
theorem vN (w:World) (D:Nat→Prop) (c:Nat) (j:List UInt8) (H:Own w D w []) (t:c≤18446744073709551615) (hr:rE c=j):
    Calls y4 117 #[vU c] w (dR fun v w'=> ∃ (U:Option Addr) (V:Nat),v= .slice U j.length V∧Own w D w' [row U j.length V (q6 eB j) 5 1]∧(1≤j.length∧j.length≤10)∧(c ≥ 128∨j.length=1)):=by
 refine cb Tryz.func117 ?_
 refine sr (Ar rfl ?_)
 refine WL.do rfl (Jj (m:=10) (size:=1) (bytes:=1) (z:= .int .u8 0) N4 e7 H rfl rfl e6 (by unfold maxLen; omega) ?_)
 intro F af G
 refine An rfl (FU (bo ?_))
 have I:=G.pf []
 obtain⟨J,d⟩:=AQ fun(a:Nat) (l:Option Addr) (n:Nat) (b:List UInt8) (f:Nat) (w':World)=>Own w D w' [row l b.length n (q6 eB b) 5 1]∧lC b.length a∧b.length≤9∧(c ≥ 128∨(b.length=0∧a=c))∧a < f∧mJ (c+1) c ([])=mJ f a b
 refine C5 (fun i:Nat × (Option Addr) × Nat × (List UInt8) × Nat=> [(0,vU i.1),(3, .slice i.2.1 i.2.2.2.1.length i.2.2.1),(2, .slice none 0 0)]) J (fun i=>i.2.2.2.2) (c,F,10, [],c+1) ⟨rfl,rfl,rfl,trivial⟩ (d.2 ⟨I,(show lC (0) c∧0≤9∧(c ≥ 128∨(0=0∧c=c))∧c < (c+1)∧mJ (c+1) c ([])=mJ (c+1) c ([]) from ⟨by first | exact lC.zero t | exact lC.step f4 j2,by first | exact JO _ | (have q9:=lC.le f4 e6; simp only [p5,s3,G1]; omega),e6,e6,rfl⟩)⟩) ?_
 rintro ⟨a,l,n,b,f⟩ ah u
 obtain⟨x,W,X,Y,Z,h⟩:=d.1 u
 obtain⟨o,A⟩:∃ q,f=q+1:=⟨f - 1,e6⟩
 subst A
 refine FU (sr (Mz rfl (Kz (.bool (decide (((a:Nat):Int) ≥ 128))) (nt ?_))))
 by_cases g:((a:Nat):Int) ≥ 128
 refine jT (dT g) (sk (bo (sr (Mz rfl (Mz rfl (fw (.int .u8 (((UInt8.ofNat a).toNat:Nat):Int)) (FV (e:=N5.wrap ((a:Nat):Int)) yk (xY _)) (fw (.int .u8 ((((UInt8.ofNat a) ||| (128:UInt8)).toNat:Nat):Int)) (FV (e:=N5.wrap (((BitVec.ofInt 8 (((UInt8.ofNat a).toNat:Nat):Int) ||| BitVec.ofInt 8 128).toNat:Nat):Int)) yk (u8_or (UInt8.ofNat a) (128:UInt8))) ?_)))))))
 refine kL [.int .u8 ((((UInt8.ofNat a) ||| (128:UInt8)).toNat:Nat):Int)] 5 1 1 x ?_
 intro K aj p
 replace p:=Gq (y:=row K 1 1 (q6 eB ([((UInt8.ofNat a) ||| (128:UInt8))])) 5 1) rfl p
 have B:=p.pb [0]
 refine WL.do rfl (Gr (k:=b.length) (m:=1) (xB) B rfl rfl (iU N4 (B.rds (i:=1) rfl) (fF xu ([((UInt8.ofNat a) ||| (128:UInt8))]))) rfl e6 (s:=s2 (b++ [((UInt8.ofNat a) ||| (128:UInt8))])) f7 (r7).symm ?_)
 intro L M ak N
 have aa:s2 (b++ [((UInt8.ofNat a) ||| (128:UInt8))])=b.length+1:=by simp only [p5,s3,G1]
 refine An rfl (FT (Mz rfl (fw (vU (a / 128)) (FV (e:=Int.fdiv ((a:Nat):Int) 128) yk (mV _ 7 _ f3)) (Az rfl (D0 (bN ?_))))))
 have O:=N.pk [0]
 exact F9 (a / 128,L,M,(b++ [((UInt8.ofNat a) ||| (128:UInt8))]),o) ⟨rfl,rfl,rfl,trivial⟩ (d.2 ⟨O,by first | exact lC.zero t | exact lC.step f4 j2,by first | exact JO _ | (have q9:=lC.le f4 e6; simp only [p5,s3,G1]; omega),e6,e6,Eq.trans (h) (if_pos g)⟩) (by show o < o+1; omega)
 refine jF (dF g) (D1 (F4 ?_))
 have C:mJ (c+1) c ([])=(a,b):=et (h) (iN g)
 refine F4 (Gg (FW (sr (Mz rfl (Mz rfl (fw (.int .u8 (((UInt8.ofNat a).toNat:Nat):Int)) (FV (e:=N5.wrap ((a:Nat):Int)) yk (xY _)) ?_))))))
 refine kL [.int .u8 (((UInt8.ofNat a).toNat:Nat):Int)] 5 1 1 x ?_
 intro P au r
 replace r:=Gq (y:=row P 1 1 (q6 eB ([(UInt8.ofNat a)])) 5 1) rfl r
 have E:=r.pb [0]
 refine WL.do rfl (Gr (k:=b.length) (m:=1) (xB) E rfl rfl (iU N4 (E.rds (i:=1) rfl) (fF xu ([(UInt8.ofNat a)]))) rfl e6 (s:=s2 (b++ [(UInt8.ofNat a)])) f7 (r7).symm ?_)
 intro Q R av S
 have ae:s2 (b++ [(UInt8.ofNat a)])=b.length+1:=by simp only [p5,s3,G1]
 refine An rfl (rt (rs ?_))
 have T:=S.pk [0]
 obtain rfl:_=(b++ [(UInt8.ofNat a)]):=hr.symm.trans (ai C)
 exact⟨Q,R,rfl,T,g1,g1⟩
def uJ (b:List UInt8):(List UInt8):=
 bnd (rE b.length) fun a=>(a++b)
theorem yZ (w:World) (D:Nat→Prop) (b:List UInt8) (g:List UInt8) (H:Own w D w []) (C:b.length≤140737488351232) (hr:uJ b=g):
    Calls y4 141 #[.string ⟨y6 b⟩] w (dR fun v w'=> ∃ (u:Option Addr) (x:Nat),v= .slice u g.length x∧Own w D w' [row u g.length x (q6 eB g) 5 1]∧(g.length≤b.length+10)∧(b.length ≥ 128∨g.length=b.length+1)):=by
 refine cb Tryz.func141 ?_
 refine sr (Ar rfl (Mz rfl (Kz (vJ b.length) (fw (vU b.length) (FV (e:=D3.wrap ((b.length:Nat):Int)) yk (IntWalk.u64_in _ e6)) ?_))))
 obtain⟨a,c⟩:∃ q,rE b.length=q:=⟨_,rfl⟩
 obtain⟨E,h,y,j,z⟩:=FY H
 refine cl Tryz.call117 (vN _ _ b.length a h e6 c) ?_
 rintro _ F ⟨G,I,rfl,l,d,f⟩
 have n:=j _ _ l
 have A:=n.rowC (i:=0) rfl
 replace d:1≤a.length∧a.length≤10:=d
 replace f:b.length ≥ 128∨a.length=1:=f
 refine Mz rfl ?_
 refine WL.do rfl (Gr (k:=a.length) (m:=b.length) (xB) n rfl rfl (DT Tryz.underlying9 rfl) rfl e6 (s:=s2 (a++b)) f7 (r7).symm ?_)
 intro o p J r
 have B:s2 (a++b)=a.length+b.length:=by simp only [p5,s3,G1]
 refine An rfl (rt (rs ?_))
 have t:=r.pf []
 obtain rfl:_=(a++b):=hr.symm.trans (ai c)
 exact⟨o,p,rfl,t,g1,g1⟩
def bX (b:dJ) (c:Nat):dJ:=
 bnd (rE c) fun a=>dJ.mk (E4 (b.xb.ls++a))
theorem dQ (w:World) (D:Nat→Prop) (e:Nat) (b:dJ) (c:Option Addr) (d:Nat) (l:Nat) (n:dJ) (H:Own w D w [blk e [.slice c b.xb.ls.length d] 159,row c b.xb.ls.length d (q6 eB b.xb.ls) 5 1]) (M:b.xb.ls.length≤9000000000∧l≤18446744073709551615) (hr:bX b l=n):
    Calls y4 79 #[vP e 0,vU l] w (dR fun v w'=> ∃ (B0ox0:Option Addr) (b0ox0:Nat),v= .tuple #[]∧Own w D w' [blk e [.slice B0ox0 n.xb.ls.length b0ox0] 159,row B0ox0 n.xb.ls.length b0ox0 (q6 eB n.xb.ls) 5 1]∧(n.xb.ls.length≤b.xb.ls.length+10)):=by
 have B:=H.rowC (i:=1) rfl
 refine cb Tryz.func79 ?_
 have f:=H.drew
 refine G6 [7,10] (fun W=> ∃ L',Own w D W ([blk e [.slice c b.xb.ls.length d] 159,row c b.xb.ls.length d (q6 eB b.xb.ls) 5 1]++L')) e7 e7 Gh ⟨_,f⟩ ?_
 revert f
 generalize World.drew w=N
 intro f
 refine Gs (v:=vP e 0) 0 rfl e7 (fun _=>F7 rfl) (qv 1 rfl rfl (qp e 0 2 rfl (qp e 0 3 rfl (ql 4 rfl 0 Tryz.isAgg134 rfl rfl rfl (qv 5 rfl rfl ?_)))))
 obtain⟨a,g⟩:∃ q,rE l=q:=⟨_,rfl⟩
 obtain⟨O,p,I,r,J⟩:=FY f
 refine qd 6 rfl (Gd Tryz.call117 rfl (vN _ _ l a p e6 g) ?_)
 rintro _ P ⟨Q,R,rfl,t,h,j⟩
 have u:=r _ _ t
 have K:=u.rowC (i:=0) rfl
 replace h:1≤a.length∧a.length≤10:=h
 replace j:l ≥ 128∨a.length=1:=j
 have x:=u.pb [0]
 refine⟨.inr ⟨_,x⟩, ?_⟩
 have y:=x.pf [1]
 refine qd 7 rfl (Gr (k:=b.xb.ls.length) (m:=a.length) (xB) y rfl rfl (iU N4 (y.rds (i:=2) rfl) (fF xu a)) rfl e6 (s:=s2 (b.xb.ls++a)) f7 (r7).symm ?_)
 intro z A S C
 have L:s2 (b.xb.ls++a)=b.xb.ls.length+a.length:=by simp only [p5,s3,G1]
 refine⟨.inl e7, ?_⟩
 refine Gs (v:=vP e 0) 8 rfl e7 (fun _=>yk) (Gs (v:=vP e 0) 9 rfl e7 (fun _=>yk) ?_)
 have E:=C.pf [1]
 refine qe 10 rfl (Do.store (vs:= [.slice z (s2 (b.xb.ls++a)) A]) (o:=0) E rfl rfl Tryz.sizeOf134 rfl rfl rfl rfl ?_)
 intro T F
 refine⟨.inl e7, ?_⟩
 refine qn (Gf (res0 rfl) ?_)
 have G:=F.pk [0,1]
 obtain rfl:_=dJ.mk (E4 (b.xb.ls++a)):=hr.symm.trans (ai g)
 exact⟨z,A,rfl,G,g1⟩
def iD (b:dJ) (c:List UInt8):dJ:=
 bnd (uJ c) fun a=>dJ.mk (E4 (b.xb.ls++a))
theorem kV (w:World) (D:Nat→Prop) (e:Nat) (b:dJ) (c:Option Addr) (d:Nat) (g:List UInt8) (n:dJ) (H:Own w D w [blk e [.slice c b.xb.ls.length d] 159,row c b.xb.ls.length d (q6 eB b.xb.ls) 5 1]) (M:b.xb.ls.length≤9000000000∧g.length≤16) (hr:iD b g=n):
    Calls y4 119 #[vP e 0, .string ⟨y6 g⟩] w (dR fun v w'=> ∃ (B0ox0:Option Addr) (b0ox0:Nat),v= .tuple #[]∧Own w D w' [blk e [.slice B0ox0 n.xb.ls.length b0ox0] 159,row B0ox0 n.xb.ls.length b0ox0 (q6 eB n.xb.ls) 5 1]∧(n.xb.ls.length≤b.xb.ls.length+26)):=by
 have B:=H.rowC (i:=1) rfl
 refine cb Tryz.func119 ?_
 have f:=H.drew
 refine G6 [7,10] (fun W=> ∃ L',Own w D W ([blk e [.slice c b.xb.ls.length d] 159,row c b.xb.ls.length d (q6 eB b.xb.ls) 5 1]++L')) e7 e7 Gh ⟨_,f⟩ ?_
 revert f
 generalize World.drew w=N
 intro f
 refine Gs (v:=vP e 0) 0 rfl e7 (fun _=>F7 rfl) (qv 1 rfl rfl (qp e 0 2 rfl (qp e 0 3 rfl (ql 4 rfl 0 Tryz.isAgg134 rfl rfl rfl (qv 5 rfl rfl ?_)))))
 obtain⟨a,h⟩:∃ q,uJ g=q:=⟨_,rfl⟩
 obtain⟨O,p,I,r,J⟩:=FY f
 refine qd 6 rfl (Gd Tryz.call141 rfl (yZ _ _ g a p e6 h) ?_)
 rintro _ P ⟨Q,R,rfl,t,j,l⟩
 have u:=r _ _ t
 have K:=u.rowC (i:=0) rfl
 replace j:a.length≤g.length+10:=j
 replace l:g.length ≥ 128∨a.length=g.length+1:=l
 have x:=u.pb [0]
 refine⟨.inr ⟨_,x⟩, ?_⟩
 have y:=x.pf [1]
 refine qd 7 rfl (Gr (k:=b.xb.ls.length) (m:=a.length) (xB) y rfl rfl (iU N4 (y.rds (i:=2) rfl) (fF xu a)) rfl e6 (s:=s2 (b.xb.ls++a)) f7 (r7).symm ?_)
 intro z A S C
 have L:s2 (b.xb.ls++a)=b.xb.ls.length+a.length:=by simp only [p5,s3,G1]
 refine⟨.inl e7, ?_⟩
 refine Gs (v:=vP e 0) 8 rfl e7 (fun _=>yk) (Gs (v:=vP e 0) 9 rfl e7 (fun _=>yk) ?_)
 have E:=C.pf [1]
 refine qe 10 rfl (Do.store (vs:= [.slice z (s2 (b.xb.ls++a)) A]) (o:=0) E rfl rfl Tryz.sizeOf134 rfl rfl rfl rfl ?_)
 intro T F
 refine⟨.inl e7, ?_⟩
 refine qn (Gf (res0 rfl) ?_)
 have G:=F.pk [0,1]
 obtain rfl:_=dJ.mk (E4 (b.xb.ls++a)):=hr.symm.trans (ai h)
 exact⟨z,A,rfl,G,g1⟩
def oI (d:dJ) (c:bv):dJ:=
 bnd (iD d c.bK) fun a=>bnd (bX a (D2 (D3.wrap c.dV))) fun b=>b
set_option maxHeartbeats 1000000 in
theorem tQ (w:World) (D:Nat→Prop) (o:Nat) (f:dJ) (b:Option Addr) (c:Nat) (a:bv) (p:dJ) (H:Own w D w [blk o [.slice b f.xb.ls.length c] 159,row b f.xb.ls.length c (q6 eB f.xb.ls) 5 1]) (S:f.xb.ls.length≤8000000000) (T:(a.bK.length≤12)) (hr:oI f a=p):
    Calls y4 81 #[vP o 0, .agg (bv.cells a).toArray] w (dR fun v w'=> ∃ (B0ox0:Option Addr) (b0ox0:Nat),v= .tuple #[]∧Own w D w' [blk o [.slice B0ox0 p.xb.ls.length b0ox0] 159,row B0ox0 p.xb.ls.length b0ox0 (q6 eB p.xb.ls) 5 1]∧(p.xb.ls.length≤f.xb.ls.length+40)):=by
 have C:=H.rowC (i:=1) rfl
 refine cb Tryz.func81 ?_
 refine sr ?_
 refine dM (bv.cells a) 89 H ?_
 intro r U s
 refine ns (Mz rfl (Kz (vP r 0) (Lz (.string ⟨y6 a.bK⟩) s 0 C4 ?_)))
 have E:=s.pb [0]
 obtain⟨d,g⟩:∃ q,iD f a.bK=q:=⟨_,rfl⟩
 obtain⟨V,t,L,u,M⟩:=Gm E
 refine cl N6 (kV _ _ o f b c a.bK d t f6 g) ?_
 rintro _ W ⟨F,G,rfl,x,h⟩
 have m:=u _ _ x
 have N:=m.rowC (i:=1) rfl
 replace h:d.xb.ls.length≤f.xb.ls.length+26:=h
 refine nt (FT (Mz rfl (Kz (vP r 1) (Lz (vI a.dV) m 2 C6 ?_))))
 refine WL.do rfl (Gd N7 rfl ?_ (fun _ _ k=>k))
 refine cb N8 ?_
 refine FT (Mz rfl (Mz rfl ?_))
 have O:D2 (D3.wrap a.dV)≤18446744073709551615:=mh _
 refine fw (vU (D2 (D3.wrap a.dV))) (FV (e:=D3.wrap a.dV) yk (fC _)) ?_
 obtain⟨n,j⟩:∃ q,bX d (D2 (D3.wrap a.dV))=q:=⟨_,rfl⟩
 obtain⟨X,y,P,z,Q⟩:=Gm m
 refine cl N9 (dQ _ _ o d F G (D2 (D3.wrap a.dV)) n y f6 j) ?_
 rintro _ Y ⟨I,J,rfl,A,l⟩
 have B:=z _ _ A
 have R:=B.rowC (i:=1) rfl
 replace l:n.xb.ls.length≤d.xb.ls.length+10:=l
 refine D0 (Gf (res0 rfl) (D0 (Gf (res0 rfl) ?_)))
 have K:=B.pk [0,1]
 obtain rfl:_=n:=hr.symm.trans (et (ai g) (ai j))
 exact⟨I,J,rfl,K,g1⟩
def lS (d:dJ) (c:aL):dJ:=
 bnd (iD d c.bY) fun a=>bnd (iD a c.aW) fun b=>b
set_option maxHeartbeats 1000000 in
theorem qc (w:World) (D:Nat→Prop) (j:Nat) (g:dJ) (c:Option Addr) (d:Nat) (a:aL) (s:dJ) (H:Own w D w [blk j [.slice c g.xb.ls.length d] 159,row c g.xb.ls.length d (q6 eB g.xb.ls) 5 1]) (V:g.xb.ls.length≤8000000000) (W:(a.bY.length≤12∧a.aW.length≤16)) (hr:lS g a=s):
    Calls y4 145 #[vP j 0, .agg (aL.cells a).toArray] w (dR fun v w'=> ∃ (B0ox0:Option Addr) (b0ox0:Nat),v= .tuple #[]∧Own w D w' [blk j [.slice B0ox0 s.xb.ls.length b0ox0] 159,row B0ox0 s.xb.ls.length b0ox0 (q6 eB s.xb.ls) 5 1]∧(s.xb.ls.length≤g.xb.ls.length+60)):=by
 have I:=H.rowC (i:=1) rfl
 refine cb Tryz.func145 ?_
 refine sr ?_
 refine dM (aL.cells a) 153 H ?_
 intro t X p
 refine nt (FT (Mz rfl (Kz (.func (.func 119) #[vP j 0] #[]) (Kz (vP t 0) (Lz (.string ⟨y6 a.bY⟩) p 0 C4 (Kz (vP t 1) (Lz (.string ⟨y6 a.aW⟩) p 0 C4 ?_)))))))
 refine kL [.string ⟨y6 a.bY⟩, .string ⟨y6 a.aW⟩] 9 1 2 p ?_
 intro b Y e
 replace e:=Gq (y:=row b 2 2 (q6 eS ([a.bY,a.aW])) 9 1) rfl e
 refine WL.do rfl (Gd Tryz.call161 rfl ?_ (fun _ _ k=>k))
 refine cb Tryz.func161 ?_
 refine sr (Mz rfl (Kz (vI 2) (Mn rfl (bo (Hr 200 (sr (Kz (.bool true) (nt (FU (jt (sk (FU (bo (sr ?_))))))))))))))
 have u:([a.bY,a.aW]:List (List UInt8))[0]? =some a.bY:=rfl
 refine fw (.pointer (some ⟨ab b,ao b+0 *1,none⟩)) (FZ (Dx) rfl rfl ((e.rds (i:=0) rfl).addr (i:=0) e6) e6) (fw (.string ⟨y6 a.bY⟩) (F5 rfl (bZ.one C4 (((e.rds (i:=0) rfl).elem zq u f3).at_ (k:=0) rfl))) (An rfl (FT (Mz rfl (Mz rfl ?_)))))
 have J:=e.pb [0,1]
 obtain⟨f,l⟩:∃ q,iD g a.bY=q:=⟨_,rfl⟩
 obtain⟨Z,x,P,z,Q⟩:=Gm J
 refine WL.do rfl (Gp N6 rfl rfl (kV _ _ j g c d a.bY f x f6 l) ?_)
 rintro _ aa ⟨K,L,rfl,A,m⟩
 have h:=z _ _ A
 have R:=h.rowC (i:=1) rfl
 replace m:f.xb.ls.length≤g.xb.ls.length+26:=m
 refine D0 (bN (FW (FT (Kz (vI 1) (Mz rfl (D0 (GL [(8,vI 1),(7,vI 2),(6, .slice b 2 2),(0, .func (.func 119) #[vP j 0] #[])] ⟨rfl,rfl,rfl,rfl,trivial⟩ (sr (Kz (.bool true) (nt (FU (jt (sk (FU (bo (sr ?_))))))))))))))))
 have B:([a.bY,a.aW]:List (List UInt8))[1]? =some a.aW:=rfl
 refine fw (.pointer (some ⟨ab b,ao b+1 *1,none⟩)) (FZ (Dx) rfl rfl ((h.rds (i:=2) rfl).addr (i:=1) e6) e6) (fw (.string ⟨y6 a.aW⟩) (F5 rfl (bZ.one C4 (((h.rds (i:=2) rfl).elem zq B f3).at_ (k:=0) rfl))) (An rfl (FT (Mz rfl (Mz rfl ?_)))))
 obtain⟨r,n⟩:∃ q,iD f a.aW=q:=⟨_,rfl⟩
 obtain⟨ae,C,S,E,T⟩:=Gm h
 refine WL.do rfl (Gp N6 rfl rfl (kV _ _ j f K L a.aW r C f6 n) ?_)
 rintro _ af ⟨M,N,rfl,F,o⟩
 have G:=E _ _ F
 have U:=G.rowC (i:=1) rfl
 replace o:r.xb.ls.length≤f.xb.ls.length+26:=o
 refine D0 (bN (FW (FT (Kz (vI 2) (Mz rfl (D0 (GL [(8,vI 2),(7,vI 2),(6, .slice b 2 2),(0, .func (.func 119) #[vP j 0] #[])] ⟨rfl,rfl,rfl,rfl,trivial⟩ (sr (Kz (.bool false) (nt (FU (jf (D1 (F4 (F4 (Gg (Gf (res0 rfl) (D0 (Gf (res0 rfl) ?_)))))))))))))))))))
 have O:=G.pk [0,1]
 obtain rfl:_=r:=hr.symm.trans (et (ai l) (ai n))
 exact⟨M,N,rfl,O,g1⟩
def jd:List aL→List UInt8→(List UInt8)
  | [],a=>a
  | c::d,a=>bnd (lS (dJ.mk (E4 a)) c) fun b=>jd d b.xb.ls
def je:List aL→List UInt8→(List UInt8)
  | [],a=>a
  | c::d,a=>bnd (lS (dJ.mk (E4 a)) c) fun b=>je d b.xb.ls
def og (h:dJ) (a:aY):dJ:=
 if a.dZ=true then bnd (bX h 1) fun e=>bnd (iD e a.aW) fun f=>bnd (bX f a.au.ls.length) fun g=>bnd (jd a.au.ls g.xb.ls) fun sLrtbbbL=>dJ.mk (E4 sLrtbbbL) else bnd (bX h 0) fun b=>bnd (iD b a.aW) fun c=>bnd (bX c a.au.ls.length) fun d=>bnd (je a.au.ls d.xb.ls) fun sLrfbbbL=>dJ.mk (E4 sLrfbbbL)
set_option maxHeartbeats 1000000 in
theorem tq (w:World) (D:Nat→Prop) (n:Nat) (E:dJ) (A:Option Addr) (B:Nat) (a:aY) (c:Option Addr) (af f:Nat) (r0:dJ) (H:Own w D w [blk n [.slice A E.xb.ls.length B] 159,row A E.xb.ls.length B (q6 eB E.xb.ls) 5 1]) (aF:af=a.au.ls.length) (h:Ro w D fun w'=>bD w' 2 c a.au.ls.length (q6 aL.cells a.au.ls)) (dn:a.au.ls.length≤f∧a.au.ls.length≤9223372036854775807) (fT:E.xb.ls.length≤7000000000) (ae:(a.aW.length≤16∧a.au.ls.length≤4∧∀ q ∈ a.au.ls,q.bY.length≤12∧q.aW.length≤16)) (hr:og E a=r0):
    Calls y4 124 #[vP n 0, .agg #[.bool a.dZ, .string ⟨y6 a.aW⟩, .slice c af f]] w (dR fun v w'=> ∃ (B0ox0:Option Addr) (b0ox0:Nat),v= .tuple #[]∧Own w D w' [blk n [.slice B0ox0 r0.xb.ls.length b0ox0] 159,row B0ox0 r0.xb.ls.length b0ox0 (q6 eB r0.xb.ls) 5 1]∧(r0.xb.ls.length≤E.xb.ls.length+300)):=by
 subst aF
 have dw:=H.rowC (i:=1) rfl
 have eG:=ae.1
 have eH:=ae.2.1
 refine cb Tryz.func124 ?_
 refine sr ?_
 refine dM [.bool a.dZ, .string ⟨y6 a.aW⟩, .slice c a.au.ls.length f] 149 H ?_
 intro x fU aG
 refine ns (An rfl (FU (sr (Kz (vP x 0) (Lz (.bool a.dZ) aG 0 Tryz.isAgg4 (nt ?_))))))
 rcases JQ (a.dZ) with F | F
 refine jT F (FT (Ar rfl (Mz rfl (Mz rfl ?_))))
 refine WL.do rfl (Gd N7 rfl ?_ (fun _ _ k=>k))
 refine cb N8 ?_
 refine FT (Mz rfl (Mz rfl (fw (.int .u64 1) (FV (e:=D3.wrap 1) yk (IntWalk.u64_in _ e6)) ?_)))
 have dx:=aG.pb [0]
 obtain⟨G,ag⟩:∃ q,bX E 1=q:=⟨_,rfl⟩
 obtain⟨fV,bu,eO,bv,eP⟩:=Gm dx
 refine cl N9 (dQ _ _ n E A B 1 G bu f6 ag) ?_
 rintro _ fZ ⟨dz,dA,rfl,bz,ah⟩
 have aH:=bv _ _ bz
 have eQ:=aH.rowC (i:=1) rfl
 replace ah:G.xb.ls.length≤E.xb.ls.length+10:=ah
 refine D0 (Gf (res0 rfl) (ns (Mz rfl (Kz (vP x 1) (Lz (.string ⟨y6 a.aW⟩) aH 2 C4 ?_)))))
 obtain⟨I,aj⟩:∃ q,iD G a.aW=q:=⟨_,rfl⟩
 obtain⟨gm,bA,eT,bB,eU⟩:=Gm aH
 refine cl N6 (kV _ _ n G dz dA a.aW I bA f6 aj) ?_
 rintro _ gp ⟨dB,dC,rfl,bC,ak⟩
 have aI:=bB _ _ bC
 have eX:=aI.rowC (i:=1) rfl
 replace ak:I.xb.ls.length≤G.xb.ls.length+26:=ak
 refine nt (FT (Mz rfl (Kz (vP x 2) (Lz (.slice c a.au.ls.length f) aI 2 Tryz.isAgg147 (Mz rfl (Kz (.func (.func 145) #[vP n 0] #[]) ?_))))))
 refine WL.do rfl (Gd Tryz.call144 rfl ?_ (fun _ _ k=>k))
 refine cb Tryz.func144 ?_
 refine sr (Mz rfl (Mz rfl (Kz (vJ a.au.ls.length) ?_)))
 refine WL.do rfl (Gd N7 rfl ?_ (fun _ _ k=>k))
 refine cb N8 ?_
 refine FT (Mz rfl (Mz rfl (fw (vU a.au.ls.length) (FV (e:=D3.wrap ((a.au.ls.length:Nat):Int)) yk (IntWalk.u64_in _ e6)) ?_)))
 obtain⟨C,au⟩:∃ q,bX I a.au.ls.length=q:=⟨_,rfl⟩
 obtain⟨gq,bE,eY,bF,fe⟩:=Gm aI
 refine cl N9 (dQ _ _ n I dB dC a.au.ls.length C bE f6 au) ?_
 rintro _ gu ⟨dD,dE,rfl,bG,av⟩
 have bH:=bF _ _ bG
 have fo:=bH.rowC (i:=1) rfl
 replace av:C.xb.ls.length≤I.xb.ls.length+10:=av
 refine D0 (Gf (res0 rfl) (nt (FT (Mz rfl (Mz rfl ?_)))))
 refine WL.do rfl (Gd Tryz.call160 rfl ?_ (fun _ _ k=>k))
 refine cb Tryz.func160 ?_
 refine sr (Mz rfl (Kz (vJ a.au.ls.length) (Mn rfl (bo ?_))))
 have dG:=bH.pb [1]
 obtain⟨dH,J⟩:=rX fun(g:Nat) (K:Option Addr) (L:Nat) (j:List UInt8) (w':World)=>Own w D w' [blk n [.slice K j.length L] 159,blk x [.bool a.dZ, .string ⟨y6 a.aW⟩, .slice c a.au.ls.length f] 149,row K j.length L (q6 eB j) 5 1]∧g≤a.au.ls.length∧((j.length:Nat):Int)≤((C.xb.ls.length:Nat):Int)+60 *((g:Nat):Int)∧jd a.au.ls C.xb.ls=jd (r6 g a.au.ls) j
 refine C5 (fun i:Nat × (Option Addr) × Nat × (List UInt8)=> [(8,vJ i.1),(7,vJ a.au.ls.length),(6, .slice c a.au.ls.length f),(0, .func (.func 145) #[vP n 0] #[])]) dH (fun i=>a.au.ls.length - i.1) (0,dD,dE,C.xb.ls) ⟨rfl,rfl,rfl,rfl,trivial⟩ (J.2 ⟨dG,e6,e6,rfl⟩) ?_
 rintro ⟨g,K,L,j⟩ gy bI
 obtain⟨M,fq,fu,ax⟩:=J.1 bI
 refine sr (Kz (.bool (decide (((g:Nat):Int) < ((a.au.ls.length:Nat):Int)))) (nt (FU ?_)))
 by_cases bJ:((g:Nat):Int) < ((a.au.ls.length:Nat):Int)
 obtain⟨o,N⟩:=dK (ls:=a.au.ls) (i:=g) aL.len f3 (M.ro h) e9
 have bK:o.bY.length≤12∧o.aW.length≤16:=ae.2.2 _ (E0 N)
 have bL:=drop_at N
 refine jT (dT bJ) (sk (FU (bo (sr (fw (.pointer (some ⟨ab c,ao c+g *2,none⟩)) (FZ (jO) rfl rfl ((M.ro h).addr (i:=g) e6) e6) (fw (.agg (aL.cells o).toArray) (F5 rfl (Gc (cs:=(aL.cells o)) J2 J3 ((M.ro h).elem aL.len N f3))) ?_))))))
 refine dM [.string ⟨y6 ([])⟩, .string ⟨y6 ([])⟩] 153 M ?_
 intro gz gD dI
 refine dN (aL.cells o) 0 dI J3 ?_
 intro gF bM
 refine nt (FT (Mz rfl (La (aL.cells o) bM 0 J2 J3 ?_)))
 have dL:=bM.pb [0,2]
 obtain⟨aJ,ay⟩:∃ q,lS (dJ.mk (E4 j)) o=q:=⟨_,rfl⟩
 obtain⟨gG,bO,fA,bP,fB⟩:=Gm dL
 refine WL.do rfl (Gp Tryz.call145 rfl rfl (qc _ _ n (dJ.mk (E4 j)) K L o aJ bO f6 (by exact bK) ay) ?_)
 rintro _ fC ⟨bQ,bR,rfl,aK,O⟩
 have az:=bP _ _ aK
 have dO:=az.rowC (i:=1) rfl
 replace O:aJ.xb.ls.length≤j.length+60:=O
 refine D0 (bN (FW (FT (fw (vJ (g+1)) (FV (e:=C7.wrap (((g:Nat):Int)+1)) yk f1) (Mz rfl (D0 ?_))))))
 have bS:=az.pk [0,3,1]
 exact F9 (g+1,bQ,bR,aJ.xb.ls) ⟨rfl,rfl,rfl,rfl,trivial⟩ (J.2 ⟨bS,e6,e6,et (ax) (et (congrArg (fun q=>jd q j) bL) (ai ay))⟩) (by show a.au.ls.length - (g+1) < a.au.ls.length - g; omega)
 refine jF (dF bJ) (D1 (F4 ?_))
 have aM:jd a.au.ls C.xb.ls=j:=et (ax) (et (congrArg (fun q=>jd q j) (eZ (ls:=a.au.ls) (i:=g) e6)) rfl)
 refine F4 (Gg (Gf (res0 rfl) (D0 (Gf (res0 rfl) (D0 (Gf (res0 rfl) ?_))))))
 have bT:=M.pk [0,2]
 obtain rfl:_=dJ.mk (E4 j):=hr.symm.trans (et (ip F) (et (ai ag) (et (ai aj) (et (ai au) (ai aM)))))
 exact⟨K,L,rfl,bT,g1⟩
 refine jF F (sk (sr (Mz rfl (Mz rfl ?_))))
 refine WL.do rfl (Gd N7 rfl ?_ (fun _ _ k=>k))
 refine cb N8 ?_
 refine FT (Mz rfl (Mz rfl (fw (.int .u64 0) (FV (e:=D3.wrap 0) yk (IntWalk.u64_in _ e6)) ?_)))
 have bU:=aG.pb [0]
 obtain⟨p,P⟩:∃ q,bX E 0=q:=⟨_,rfl⟩
 obtain⟨fD,aN,dP,aO,dS⟩:=Gm bU
 refine cl N9 (dQ _ _ n E A B 0 p aN f6 P) ?_
 rintro _ fE ⟨bV,bW,rfl,aP,Q⟩
 have R:=aO _ _ aP
 have dU:=R.rowC (i:=1) rfl
 replace Q:p.xb.ls.length≤E.xb.ls.length+10:=Q
 refine D0 (Gf (res0 rfl) (ns (Mz rfl (Kz (vP x 1) (Lz (.string ⟨y6 a.aW⟩) R 2 C4 ?_)))))
 obtain⟨r,S⟩:∃ q,iD p a.aW=q:=⟨_,rfl⟩
 obtain⟨fF,aQ,dV,aR,dW⟩:=Gm R
 refine cl N6 (kV _ _ n p bV bW a.aW r aQ f6 S) ?_
 rintro _ fG ⟨bY,bZ,rfl,aS,T⟩
 have U:=aR _ _ aS
 have dX:=U.rowC (i:=1) rfl
 replace T:r.xb.ls.length≤p.xb.ls.length+26:=T
 refine nt (FT (Mz rfl (Kz (vP x 2) (Lz (.slice c a.au.ls.length f) U 2 Tryz.isAgg147 (Mz rfl (Kz (.func (.func 145) #[vP n 0] #[]) ?_))))))
 refine WL.do rfl (Gd Tryz.call144 rfl ?_ (fun _ _ k=>k))
 refine cb Tryz.func144 ?_
 refine sr (Mz rfl (Mz rfl (Kz (vJ a.au.ls.length) ?_)))
 refine WL.do rfl (Gd N7 rfl ?_ (fun _ _ k=>k))
 refine cb N8 ?_
 refine FT (Mz rfl (Mz rfl (fw (vU a.au.ls.length) (FV (e:=D3.wrap ((a.au.ls.length:Nat):Int)) yk (IntWalk.u64_in _ e6)) ?_)))
 obtain⟨m,V⟩:∃ q,bX r a.au.ls.length=q:=⟨_,rfl⟩
 obtain⟨fH,aT,dY,aU,dZ⟩:=Gm U
 refine cl N9 (dQ _ _ n r bY bZ a.au.ls.length m aT f6 V) ?_
 rintro _ fI ⟨cu,cz,rfl,aV,W⟩
 have aA:=aU _ _ aV
 have d9:=aA.rowC (i:=1) rfl
 replace W:m.xb.ls.length≤r.xb.ls.length+10:=W
 refine D0 (Gf (res0 rfl) (nt (FT (Mz rfl (Mz rfl ?_)))))
 refine WL.do rfl (Gd Tryz.call160 rfl ?_ (fun _ _ k=>k))
 refine cb Tryz.func160 ?_
 refine sr (Mz rfl (Kz (vJ a.au.ls.length) (Mn rfl (bo ?_))))
 have cB:=aA.pb [1]
 obtain⟨cK,y⟩:=rX fun(b:Nat) (s:Option Addr) (t:Nat) (d:List UInt8) (w':World)=>Own w D w' [blk n [.slice s d.length t] 159,blk x [.bool a.dZ, .string ⟨y6 a.aW⟩, .slice c a.au.ls.length f] 149,row s d.length t (q6 eB d) 5 1]∧b≤a.au.ls.length∧((d.length:Nat):Int)≤((m.xb.ls.length:Nat):Int)+60 *((b:Nat):Int)∧je a.au.ls m.xb.ls=je (r6 b a.au.ls) d
 refine C5 (fun i:Nat × (Option Addr) × Nat × (List UInt8)=> [(8,vJ i.1),(7,vJ a.au.ls.length),(6, .slice c a.au.ls.length f),(0, .func (.func 145) #[vP n 0] #[])]) cK (fun i=>a.au.ls.length - i.1) (0,cu,cz,m.xb.ls) ⟨rfl,rfl,rfl,rfl,trivial⟩ (y.2 ⟨cB,e6,e6,rfl⟩) ?_
 rintro ⟨b,s,t,d⟩ fJ aW
 obtain⟨u,ed,ek,X⟩:=y.1 aW
 refine sr (Kz (.bool (decide (((b:Nat):Int) < ((a.au.ls.length:Nat):Int)))) (nt (FU ?_)))
 by_cases aB:((b:Nat):Int) < ((a.au.ls.length:Nat):Int)
 obtain⟨l,z⟩:=dK (ls:=a.au.ls) (i:=b) aL.len f3 (u.ro h) e9
 have aX:l.bY.length≤12∧l.aW.length≤16:=ae.2.2 _ (E0 z)
 have aZ:=drop_at z
 refine jT (dT aB) (sk (FU (bo (sr (fw (.pointer (some ⟨ab c,ao c+b *2,none⟩)) (FZ (jO) rfl rfl ((u.ro h).addr (i:=b) e6) e6) (fw (.agg (aL.cells l).toArray) (F5 rfl (Gc (cs:=(aL.cells l)) J2 J3 ((u.ro h).elem aL.len z f3))) ?_))))))
 refine dM [.string ⟨y6 ([])⟩, .string ⟨y6 ([])⟩] 153 u ?_
 intro fK fM cO
 refine dN (aL.cells l) 0 cO J3 ?_
 intro fO aC
 refine nt (FT (Mz rfl (La (aL.cells l) aC 0 J2 J3 ?_)))
 have cZ:=aC.pb [0,2]
 obtain⟨Y,Z⟩:∃ q,lS (dJ.mk (E4 d)) l=q:=⟨_,rfl⟩
 obtain⟨fP,bf,eu,bg,eD⟩:=Gm cZ
 refine WL.do rfl (Gp Tryz.call145 rfl rfl (qc _ _ n (dJ.mk (E4 d)) s t l Y bf f6 (by exact aX) Z) ?_)
 rintro _ fQ ⟨df,dh,rfl,bi,aa⟩
 have aD:=bg _ _ bi
 have eF:=aD.rowC (i:=1) rfl
 replace aa:Y.xb.ls.length≤d.length+60:=aa
 refine D0 (bN (FW (FT (fw (vJ (b+1)) (FV (e:=C7.wrap (((b:Nat):Int)+1)) yk f1) (Mz rfl (D0 ?_))))))
 have di:=aD.pk [0,3,1]
 exact F9 (b+1,df,dh,Y.xb.ls) ⟨rfl,rfl,rfl,rfl,trivial⟩ (y.2 ⟨di,e6,e6,et (X) (et (congrArg (fun q=>je q d) aZ) (ai Z))⟩) (by show a.au.ls.length - (b+1) < a.au.ls.length - b; omega)
 refine jF (dF aB) (D1 (F4 ?_))
 have bn:je a.au.ls m.xb.ls=d:=et (X) (et (congrArg (fun q=>je q d) (eZ (ls:=a.au.ls) (i:=b) e6)) rfl)
 refine F4 (Gg (Gf (res0 rfl) (D0 (Gf (res0 rfl) (D0 (Gf (res0 rfl) ?_))))))
 have dm:=u.pk [0,2]
 obtain rfl:_=dJ.mk (E4 d):=hr.symm.trans (et (gB F) (et (ai P) (et (ai S) (et (ai V) (ai bn)))))
 exact⟨s,t,rfl,dm,g1⟩
def iL:List Int→List UInt8→(List UInt8)
  | [],a=>a
  | c::d,a=>bnd (bX (dJ.mk (E4 a)) (D2 (D3.wrap c))) fun b=>iL d b.xb.ls
def ni (g:dJ) (a:bM):dJ:=
 bnd (bX g a.bi) fun b=>bnd (bX b (D2 (D3.wrap a.aS))) fun c=>bnd (bX c a.ax) fun d=>bnd (bX d a.aU) fun e=>bnd (bX e a.av.ls.length) fun f=>bnd (iL a.av.ls f.xb.ls) fun sLrbbbbbL=>dJ.mk (E4 sLrbbbbbL)
set_option maxHeartbeats 1000000 in
theorem sj (w:World) (D:Nat→Prop) (m:Nat) (L:dJ) (t:Option Addr) (u:Nat) (a:bM) (d:Option Addr) (P f:Nat) (r0:dJ) (H:Own w D w [blk m [.slice t L.xb.ls.length u] 159,row t L.xb.ls.length u (q6 eB L.xb.ls) 5 1]) (ae:P=a.av.ls.length) (n:Ro w D fun w'=>bD w' 1 d a.av.ls.length (q6 (eI .i64) a.av.ls)) (bi:a.av.ls.length≤f∧a.av.ls.length≤9223372036854775807) (dB:L.xb.ls.length≤7000000000) (M:(a.bi≤18446744073709551615∧a.ax≤18446744073709551615∧a.aU≤18446744073709551615∧a.av.ls.length≤4)) (hr:ni L a=r0):
    Calls y4 83 #[vP m 0, .agg #[vU a.bi,vI a.aS,vU a.ax,vU a.aU, .slice d P f]] w (dR fun v w'=> ∃ (B0ox0:Option Addr) (b0ox0:Nat),v= .tuple #[]∧Own w D w' [blk m [.slice B0ox0 r0.xb.ls.length b0ox0] 159,row B0ox0 r0.xb.ls.length b0ox0 (q6 eB r0.xb.ls) 5 1]∧(r0.xb.ls.length≤L.xb.ls.length+100)):=by
 subst ae
 have bn:=H.rowC (i:=1) rfl
 have bR:=M.1
 have bS:=M.2.1
 have bT:=M.2.2.1
 have bU:=M.2.2.2
 refine cb Tryz.func83 ?_
 refine sr ?_
 refine dM [vU a.bi,vI a.aS,vU a.ax,vU a.aU, .slice d a.av.ls.length f] 60 H ?_
 intro r dC ay
 refine ns (Mz rfl (Kz (vP r 0) (Lz (vU a.bi) ay 0 E1 ?_)))
 have bq:=ay.pb [0]
 obtain⟨x,Q⟩:∃ q,bX L a.bi=q:=⟨_,rfl⟩
 obtain⟨dD,az,bV,aA,bW⟩:=Gm bq
 refine cl N9 (dQ _ _ m L t u a.bi x az f6 Q) ?_
 rintro _ dE ⟨bu,bv,rfl,aB,R⟩
 have af:=aA _ _ aB
 have bY:=af.rowC (i:=1) rfl
 replace R:x.xb.ls.length≤L.xb.ls.length+10:=R
 refine ns (Mz rfl (Kz (vP r 1) (Lz (vI a.aS) af 2 C6 ?_)))
 refine WL.do rfl (Gd N7 rfl ?_ (fun _ _ k=>k))
 refine cb N8 ?_
 refine FT (Mz rfl (Mz rfl ?_))
 have cu:D2 (D3.wrap a.aS)≤18446744073709551615:=mh _
 refine fw (vU (D2 (D3.wrap a.aS))) (FV (e:=D3.wrap a.aS) yk (fC _)) ?_
 obtain⟨z,S⟩:∃ q,bX x (D2 (D3.wrap a.aS))=q:=⟨_,rfl⟩
 obtain⟨dG,aC,cz,aD,cB⟩:=Gm af
 refine cl N9 (dQ _ _ m x bu bv (D2 (D3.wrap a.aS)) z aC f6 S) ?_
 rintro _ dH ⟨bz,bA,rfl,aF,T⟩
 have N:=aD _ _ aF
 have cK:=N.rowC (i:=1) rfl
 replace T:z.xb.ls.length≤x.xb.ls.length+10:=T
 refine D0 (Gf (res0 rfl) (ns (Mz rfl (Kz (.func (.func 79) #[vP m 0] #[]) (Kz (vP r 2) (Lz (vU a.ax) N 2 E1 (Kz (vP r 3) (Lz (vU a.aU) N 2 E1 ?_))))))))
 refine kL [vU a.ax,vU a.aU] 28 1 2 N ?_
 intro o dI A
 replace A:=Gq (y:=row o 2 2 (q6 (eN .u64) ([a.ax,a.aU])) 28 1) rfl A
 refine WL.do rfl (Gd Tryz.call78 rfl ?_ (fun _ _ k=>k))
 refine cb Tryz.func78 ?_
 refine sr (Mz rfl (Kz (vI 2) (Mn rfl (bo (Hr 200 (sr (Kz (.bool true) (nt (FU (jt (sk (FU (bo (sr ?_))))))))))))))
 have aG:([a.ax,a.aU]:List Nat)[0]? =some a.ax:=rfl
 refine fw (.pointer (some ⟨ab o,ao o+0 *1,none⟩)) (FZ (uC) rfl rfl ((A.rds (i:=0) rfl).addr (i:=0) e6) e6) (fw (vU a.ax) (F5 rfl (bZ.one E1 (((A.rds (i:=0) rfl).elem pE aG f3).at_ (k:=0) rfl))) (An rfl (FT (Mz rfl (Mz rfl ?_)))))
 have bB:=A.pb [0,3]
 obtain⟨B,U⟩:∃ q,bX z a.ax=q:=⟨_,rfl⟩
 obtain⟨dL,aH,cO,aI,cZ⟩:=Gm bB
 refine WL.do rfl (Gp N9 rfl rfl (dQ _ _ m z bz bA a.ax B aH f6 U) ?_)
 rintro _ dN ⟨bC,bE,rfl,aJ,V⟩
 have O:=aI _ _ aJ
 have df:=O.rowC (i:=1) rfl
 replace V:B.xb.ls.length≤z.xb.ls.length+10:=V
 refine D0 (bN (FW (FT (Kz (vI 1) (Mz rfl (D0 (GL [(8,vI 1),(7,vI 2),(6, .slice o 2 2),(0, .func (.func 79) #[vP m 0] #[])] ⟨rfl,rfl,rfl,rfl,trivial⟩ (sr (Kz (.bool true) (nt (FU (jt (sk (FU (bo (sr ?_))))))))))))))))
 have aK:([a.ax,a.aU]:List Nat)[1]? =some a.aU:=rfl
 refine fw (.pointer (some ⟨ab o,ao o+1 *1,none⟩)) (FZ (uC) rfl rfl ((O.rds (i:=2) rfl).addr (i:=1) e6) e6) (fw (vU a.aU) (F5 rfl (bZ.one E1 (((O.rds (i:=2) rfl).elem pE aK f3).at_ (k:=0) rfl))) (An rfl (FT (Mz rfl (Mz rfl ?_)))))
 obtain⟨C,W⟩:∃ q,bX B a.aU=q:=⟨_,rfl⟩
 obtain⟨dO,aL,dh,aM,di⟩:=Gm O
 refine WL.do rfl (Gp N9 rfl rfl (dQ _ _ m B bC bE a.aU C aL f6 W) ?_)
 rintro _ dP ⟨bF,bG,rfl,aN,X⟩
 have aO:=aM _ _ aN
 have dm:=aO.rowC (i:=1) rfl
 replace X:C.xb.ls.length≤B.xb.ls.length+10:=X
 refine D0 (bN (FW (FT (Kz (vI 2) (Mz rfl (D0 (GL [(8,vI 2),(7,vI 2),(6, .slice o 2 2),(0, .func (.func 79) #[vP m 0] #[])] ⟨rfl,rfl,rfl,rfl,trivial⟩ (sr (Kz (.bool false) (nt (FU (jf (D1 (F4 (F4 (Gg (Gf (res0 rfl) (nt ?_))))))))))))))))))
 have aP:=aO.pk [0,1,3]
 refine FT (Mz rfl (Kz (vP r 4) (Lz (.slice d a.av.ls.length f) aP 2 Tryz.isAgg58 (Mz rfl (Kz (.func (.func 77) #[vP m 0] #[]) ?_)))))
 refine WL.do rfl (Gd Tryz.call121 rfl ?_ (fun _ _ k=>k))
 refine cb Tryz.func121 ?_
 refine sr (Mz rfl (Mz rfl (Kz (vJ a.av.ls.length) ?_)))
 refine WL.do rfl (Gd N7 rfl ?_ (fun _ _ k=>k))
 refine cb N8 ?_
 refine FT (Mz rfl (Mz rfl (fw (vU a.av.ls.length) (FV (e:=D3.wrap ((a.av.ls.length:Nat):Int)) yk (IntWalk.u64_in _ e6)) ?_)))
 obtain⟨s,Y⟩:∃ q,bX C a.av.ls.length=q:=⟨_,rfl⟩
 obtain⟨dS,aQ,dn,aR,dw⟩:=Gm aP
 refine cl N9 (dQ _ _ m C bF bG a.av.ls.length s aQ f6 Y) ?_
 rintro _ dU ⟨bH,aS,rfl,aT,E⟩
 have aU:=aR _ _ aT
 have bI:=aU.rowC (i:=1) rfl
 replace E:s.xb.ls.length≤C.xb.ls.length+10:=E
 refine D0 (Gf (res0 rfl) (nt (FT (Mz rfl (Mz rfl ?_)))))
 refine WL.do rfl (Gd Tryz.call142 rfl ?_ (fun _ _ k=>k))
 refine cb Tryz.func142 ?_
 refine sr (Mz rfl (Kz (vJ a.av.ls.length) (Mn rfl (bo ?_))))
 have aV:=aU.pb [1]
 obtain⟨aW,p⟩:=rX fun(b:Nat) (h:Option Addr) (j:Nat) (c:List UInt8) (w':World)=>Own w D w' [blk m [.slice h c.length j] 159,blk r [vU a.bi,vI a.aS,vU a.ax,vU a.aU, .slice d a.av.ls.length f] 60,row h c.length j (q6 eB c) 5 1]∧b≤a.av.ls.length∧((c.length:Nat):Int)≤((s.xb.ls.length:Nat):Int)+10 *((b:Nat):Int)∧iL a.av.ls s.xb.ls=iL (r6 b a.av.ls) c
 refine C5 (fun i:Nat × (Option Addr) × Nat × (List UInt8)=> [(8,vJ i.1),(7,vJ a.av.ls.length),(6, .slice d a.av.ls.length f),(0, .func (.func 77) #[vP m 0] #[])]) aW (fun i=>a.av.ls.length - i.1) (0,bH,aS,s.xb.ls) ⟨rfl,rfl,rfl,rfl,trivial⟩ (p.2 ⟨aV,e6,e6,rfl⟩) ?_
 rintro ⟨b,h,j,c⟩ dx ag
 obtain⟨l,bJ,bK,F⟩:=p.1 ag
 refine sr (Kz (.bool (decide (((b:Nat):Int) < ((a.av.ls.length:Nat):Int)))) (nt (FU ?_)))
 by_cases Z:((b:Nat):Int) < ((a.av.ls.length:Nat):Int)
 obtain⟨g,G⟩:=dK (ls:=a.av.ls) (i:=b) iI f3 (l.ro n) e9
 have ah:=drop_at G
 refine jT (dT Z) (sk (FU (bo (sr (fw (.pointer (some ⟨ab d,ao d+b *1,none⟩)) (FZ (ng) rfl rfl ((l.ro n).addr (i:=b) e6) e6) (fw (vI g) (F5 rfl (bZ.one C6 (((l.ro n).elem iI G f3).at_ (k:=0) rfl))) (An rfl (FT (Mz rfl (Mz rfl ?_))))))))))
 refine WL.do rfl (Gp N7 rfl rfl ?_ (fun _ _ k=>k))
 refine cb N8 ?_
 refine FT (Mz rfl (Mz rfl ?_))
 have bL:D2 (D3.wrap g)≤18446744073709551615:=mh _
 refine fw (vU (D2 (D3.wrap g))) (FV (e:=D3.wrap g) yk (fC _)) ?_
 have aX:=l.pb [1]
 obtain⟨I,J⟩:∃ q,bX (dJ.mk (E4 c)) (D2 (D3.wrap g))=q:=⟨_,rfl⟩
 obtain⟨dz,aj,bO,ak,bP⟩:=Gm aX
 refine cl N9 (dQ _ _ m (dJ.mk (E4 c)) h j (D2 (D3.wrap g)) I aj f6 J) ?_
 rintro _ dA ⟨aY,aZ,rfl,au,K⟩
 have aa:=ak _ _ au
 have bQ:=aa.rowC (i:=1) rfl
 replace K:I.xb.ls.length≤c.length+10:=K
 refine D0 (Gf (res0 rfl) (D0 (bN (FW (FT (fw (vJ (b+1)) (FV (e:=C7.wrap (((b:Nat):Int)+1)) yk f1) (Mz rfl (D0 ?_))))))))
 have bf:=aa.pb [1]
 exact F9 (b+1,aY,aZ,I.xb.ls) ⟨rfl,rfl,rfl,rfl,trivial⟩ (p.2 ⟨bf,e6,e6,et (F) (et (congrArg (fun q=>iL q c) ah) (ai J))⟩) (by show a.av.ls.length - (b+1) < a.av.ls.length - b; omega)
 refine jF (dF Z) (D1 (F4 ?_))
 have av:iL a.av.ls s.xb.ls=c:=et (F) (et (congrArg (fun q=>iL q c) (eZ (ls:=a.av.ls) (i:=b) e6)) rfl)
 refine F4 (Gg (Gf (res0 rfl) (D0 (Gf (res0 rfl) (D0 (Gf (res0 rfl) ?_))))))
 have bg:=l.pk [0,2]
 obtain rfl:_=dJ.mk (E4 c):=hr.symm.trans (et (ai Q) (et (ai S) (et (ai U) (et (ai W) (et (ai Y) (ai av))))))
 exact⟨h,j,rfl,bg,g1⟩
def jG:List aY→List UInt8→(List UInt8)
  | [],b=>b
  | a::d,b=>bnd (og (dJ.mk (E4 b)) (aY.mk a.dZ a.aW (E4 a.au.ls))) fun c=>jG d c.xb.ls
def oU (f:dJ) (a:fE):dJ:=
 bnd (bX f (D2 (D3.wrap a.aS))) fun b=>bnd (bX b a.ax) fun c=>bnd (bX c a.aU) fun d=>bnd (bX d a.ah.ls.length) fun e=>bnd (jG a.ah.ls e.xb.ls) fun sLrbbbbL=>dJ.mk (E4 sLrbbbbL)
set_option maxHeartbeats 1000000 in
theorem um (w:World) (D:Nat→Prop) (l:Nat) (S:dJ) (s:Option Addr) (t:Nat) (a:fE) (f:Option Addr) (W h:Nat) (p:List af) (r0:dJ) (H:Own w D w [blk l [.slice s S.xb.ls.length t] 159,row s S.xb.ls.length t (q6 eB S.xb.ls) 5 1]) (u:List.map af.abs p=a.ah.ls) (ay:W=a.ah.ls.length) (m:Ro w D fun w'=>bD w' 3 f a.ah.ls.length (q6 af.cells p)) (bF:a.ah.ls.length≤h∧a.ah.ls.length≤9223372036854775807) (B:∀ x ∈ p,Ro w D (fun w'=>bD w' 2 x.au.A x.au.ls.length (q6 aL.cells x.au.ls))∧(x.au.ls.length≤x.au.c∧x.au.ls.length≤9223372036854775807)) (dL:S.xb.ls.length≤6000000000) (T:(a.ax≤18446744073709551615∧a.aU≤18446744073709551615∧a.ah.ls.length≤24∧∀ z ∈ a.ah.ls,z.aW.length≤16∧z.au.ls.length≤4∧∀ q ∈ z.au.ls,q.bY.length≤12∧q.aW.length≤16)) (hr:oU S a=r0):
    Calls y4 85 #[vP l 0, .agg #[vI a.aS,vU a.ax,vU a.aU, .slice f W h]] w (dR fun v w'=> ∃ (B0ox0:Option Addr) (b0ox0:Nat),v= .tuple #[]∧Own w D w' [blk l [.slice B0ox0 r0.xb.ls.length b0ox0] 159,row B0ox0 r0.xb.ls.length b0ox0 (q6 eB r0.xb.ls) 5 1]∧(r0.xb.ls.length≤S.xb.ls.length+8000)):=by
 subst ay
 have bE:=az u
 have bG:=H.rowC (i:=1) rfl
 have cz:=T.1
 have cB:=T.2.1
 have cK:=T.2.2.1
 refine cb Tryz.func85 ?_
 refine sr ?_
 refine dM [vI a.aS,vU a.ax,vU a.aU, .slice f a.ah.ls.length h] 56 H ?_
 intro C dO aJ
 refine ns (Mz rfl (Kz (vP C 0) (Lz (vI a.aS) aJ 0 C6 ?_)))
 refine WL.do rfl (Gd N7 rfl ?_ (fun _ _ k=>k))
 refine cb N8 ?_
 refine FT (Mz rfl (Mz rfl ?_))
 have cO:D2 (D3.wrap a.aS)≤18446744073709551615:=mh _
 refine fw (vU (D2 (D3.wrap a.aS))) (FV (e:=D3.wrap a.aS) yk (fC _)) ?_
 have bH:=aJ.pb [0]
 obtain⟨E,X⟩:∃ q,bX S (D2 (D3.wrap a.aS))=q:=⟨_,rfl⟩
 obtain⟨dP,aK,cZ,aM,df⟩:=Gm bH
 refine cl N9 (dQ _ _ l S s t (D2 (D3.wrap a.aS)) E aK f6 X) ?_
 rintro _ dS ⟨bI,bJ,rfl,aN,Y⟩
 have U:=aM _ _ aN
 have dh:=U.rowC (i:=1) rfl
 replace Y:E.xb.ls.length≤S.xb.ls.length+10:=Y
 refine D0 (Gf (res0 rfl) (ns (Mz rfl (Kz (.func (.func 79) #[vP l 0] #[]) (Kz (vP C 1) (Lz (vU a.ax) U 2 E1 (Kz (vP C 2) (Lz (vU a.aU) U 2 E1 ?_))))))))
 refine kL [vU a.ax,vU a.aU] 28 1 2 U ?_
 intro n dU F
 replace F:=Gq (y:=row n 2 2 (q6 (eN .u64) ([a.ax,a.aU])) 28 1) rfl F
 refine WL.do rfl (Gd Tryz.call78 rfl ?_ (fun _ _ k=>k))
 refine cb Tryz.func78 ?_
 refine sr (Mz rfl (Kz (vI 2) (Mn rfl (bo (Hr 200 (sr (Kz (.bool true) (nt (FU (jt (sk (FU (bo (sr ?_))))))))))))))
 have aO:([a.ax,a.aU]:List Nat)[0]? =some a.ax:=rfl
 refine fw (.pointer (some ⟨ab n,ao n+0 *1,none⟩)) (FZ (uC) rfl rfl ((F.rds (i:=0) rfl).addr (i:=0) e6) e6) (fw (vU a.ax) (F5 rfl (bZ.one E1 (((F.rds (i:=0) rfl).elem pE aO f3).at_ (k:=0) rfl))) (An rfl (FT (Mz rfl (Mz rfl ?_)))))
 have bK:=F.pb [0,3]
 obtain⟨G,Z⟩:∃ q,bX E a.ax=q:=⟨_,rfl⟩
 obtain⟨dV,aP,di,aQ,dm⟩:=Gm bK
 refine WL.do rfl (Gp N9 rfl rfl (dQ _ _ l E bI bJ a.ax G aP f6 Z) ?_)
 rintro _ dW ⟨bL,bM,rfl,aR,aa⟩
 have V:=aQ _ _ aR
 have dn:=V.rowC (i:=1) rfl
 replace aa:G.xb.ls.length≤E.xb.ls.length+10:=aa
 refine D0 (bN (FW (FT (Kz (vI 1) (Mz rfl (D0 (GL [(8,vI 1),(7,vI 2),(6, .slice n 2 2),(0, .func (.func 79) #[vP l 0] #[])] ⟨rfl,rfl,rfl,rfl,trivial⟩ (sr (Kz (.bool true) (nt (FU (jt (sk (FU (bo (sr ?_))))))))))))))))
 have aS:([a.ax,a.aU]:List Nat)[1]? =some a.aU:=rfl
 refine fw (.pointer (some ⟨ab n,ao n+1 *1,none⟩)) (FZ (uC) rfl rfl ((V.rds (i:=2) rfl).addr (i:=1) e6) e6) (fw (vU a.aU) (F5 rfl (bZ.one E1 (((V.rds (i:=2) rfl).elem pE aS f3).at_ (k:=0) rfl))) (An rfl (FT (Mz rfl (Mz rfl ?_)))))
 obtain⟨I,ae⟩:∃ q,bX G a.aU=q:=⟨_,rfl⟩
 obtain⟨dX,aT,dw,aU,dx⟩:=Gm V
 refine WL.do rfl (Gp N9 rfl rfl (dQ _ _ l G bL bM a.aU I aT f6 ae) ?_)
 rintro _ dY ⟨bO,bP,rfl,aV,ag⟩
 have aX:=aU _ _ aV
 have dz:=aX.rowC (i:=1) rfl
 replace ag:I.xb.ls.length≤G.xb.ls.length+10:=ag
 refine D0 (bN (FW (FT (Kz (vI 2) (Mz rfl (D0 (GL [(8,vI 2),(7,vI 2),(6, .slice n 2 2),(0, .func (.func 79) #[vP l 0] #[])] ⟨rfl,rfl,rfl,rfl,trivial⟩ (sr (Kz (.bool false) (nt (FU (jf (D1 (F4 (F4 (Gg (Gf (res0 rfl) (nt ?_))))))))))))))))))
 have aZ:=aX.pk [0,1,3]
 refine FT (Mz rfl (Kz (vP C 3) (Lz (.slice f a.ah.ls.length h) aZ 2 Tryz.isAgg40 (Mz rfl (Kz (.func (.func 124) #[vP l 0] #[]) ?_)))))
 refine WL.do rfl (Gd Tryz.call123 rfl ?_ (fun _ _ k=>k))
 refine cb Tryz.func123 ?_
 refine sr (Mz rfl (Mz rfl (Kz (vJ a.ah.ls.length) ?_)))
 refine WL.do rfl (Gd N7 rfl ?_ (fun _ _ k=>k))
 refine cb N8 ?_
 refine FT (Mz rfl (Mz rfl (fw (vU a.ah.ls.length) (FV (e:=D3.wrap ((a.ah.ls.length:Nat):Int)) yk (IntWalk.u64_in _ e6)) ?_)))
 obtain⟨r,ah⟩:∃ q,bX I a.ah.ls.length=q:=⟨_,rfl⟩
 obtain⟨dZ,bf,dA,bg,dB⟩:=Gm aZ
 refine cl N9 (dQ _ _ l I bO bP a.ah.ls.length r bf f6 ah) ?_
 rintro _ d9 ⟨bQ,bR,rfl,bi,aj⟩
 have bn:=bg _ _ bi
 have dC:=bn.rowC (i:=1) rfl
 replace aj:r.xb.ls.length≤I.xb.ls.length+10:=aj
 refine D0 (Gf (res0 rfl) (nt (FT (Mz rfl (Mz rfl ?_)))))
 refine WL.do rfl (Gd Tryz.call143 rfl ?_ (fun _ _ k=>k))
 refine cb Tryz.func143 ?_
 refine sr (Mz rfl (Kz (vJ a.ah.ls.length) (Mn rfl (bo ?_))))
 have bS:=bn.pb [1]
 obtain⟨bT,J⟩:=rX fun(d:Nat) (K:Option Addr) (L:Nat) (g:List UInt8) (w':World)=>Own w D w' [blk l [.slice K g.length L] 159,blk C [vI a.aS,vU a.ax,vU a.aU, .slice f a.ah.ls.length h] 56,row K g.length L (q6 eB g) 5 1]∧d≤a.ah.ls.length∧((g.length:Nat):Int)≤((r.xb.ls.length:Nat):Int)+300 *((d:Nat):Int)∧jG a.ah.ls r.xb.ls=jG (r6 d a.ah.ls) g
 refine C5 (fun i:Nat × (Option Addr) × Nat × (List UInt8)=> [(8,vJ i.1),(7,vJ a.ah.ls.length),(6, .slice f a.ah.ls.length h),(0, .func (.func 124) #[vP l 0] #[])]) bT (fun i=>a.ah.ls.length - i.1) (0,bQ,bR,r.xb.ls) ⟨rfl,rfl,rfl,rfl,trivial⟩ (J.2 ⟨bS,e6,e6,rfl⟩) ?_
 rintro ⟨d,K,L,g⟩ ed bq
 obtain⟨M,bU,bV,N⟩:=J.1 bq
 refine sr (Kz (.bool (decide (((d:Nat):Int) < ((a.ah.ls.length:Nat):Int)))) (nt (FU ?_)))
 by_cases ak:((d:Nat):Int) < ((a.ah.ls.length:Nat):Int)
 obtain⟨b,j⟩:=dK (ls:=p) (i:=d) af.len f3 (M.ro m) e9
 have O:=fo u j
 have bW:=(B _ (E0 j)).2
 have o:s2 (af.abs b).aW≤16∧s2 (af.abs b).au.ls≤4∧∀ q ∈ (af.abs b).au.ls,q.bY.length≤12∧q.aW.length≤16:=T.2.2.2 _ (E0 O)
 have hz108p0:b.aW.length≤16:=by have q9:=o.1; first | exact q9 | (simp only [af.abs,s6] at q9; exact q9)
 have hz108p1:b.au.ls.length≤4:=by have q9:=o.2.1; first | exact q9 | (simp only [af.abs,s6] at q9; exact q9)
 have aB:=drop_at O
 refine jT (dT ak) (sk (FU (bo (sr (fw (.pointer (some ⟨ab f,ao f+d *3,none⟩)) (FZ (rP) rfl rfl ((M.ro m).addr (i:=d) e6) e6) (fw (.agg (af.cells b).toArray) (F5 rfl (Gc (cs:=(af.cells b)) Tryz.isAgg149 F0 ((M.ro m).elem af.len j f3))) ?_))))))
 refine dM [.bool false, .string ⟨y6 ([])⟩, .slice none 0 0] 149 M ?_
 intro dD dE bu
 refine dN (af.cells b) 0 bu F0 ?_
 intro dG av
 refine nt (FT (Mz rfl (La (af.cells b) av 0 Tryz.isAgg149 F0 ?_)))
 have bv:=av.pb [0,2]
 obtain⟨P,Q⟩:∃ q,og (dJ.mk (E4 g)) (aY.mk b.dZ b.aW (E4 b.au.ls))=q:=⟨_,rfl⟩
 obtain⟨dH,aC,aD,aF,bY⟩:=Gm bv
 refine WL.do rfl (Gp Tryz.call124 rfl rfl (tq _ _ l (dJ.mk (E4 g)) K L (aY.mk b.dZ b.aW (E4 b.au.ls)) b.au.A b.au.ls.length b.au.c P aC rfl (aD _ (B _ (E0 j)).1) (show b.au.ls.length≤b.au.c∧b.au.ls.length≤9223372036854775807 from by omega) f6 (by exact o) Q) ?_)
 rintro _ dI ⟨bz,bA,rfl,aG,R⟩
 have ax:=aF _ _ aG
 have cu:=ax.rowC (i:=1) rfl
 replace R:P.xb.ls.length≤g.length+300:=R
 refine D0 (bN (FW (FT (fw (vJ (d+1)) (FV (e:=C7.wrap (((d:Nat):Int)+1)) yk f1) (Mz rfl (D0 ?_))))))
 have bB:=ax.pk [0,3,1]
 exact F9 (d+1,bz,bA,P.xb.ls) ⟨rfl,rfl,rfl,rfl,trivial⟩ (J.2 ⟨bB,e6,e6,et (N) (et (congrArg (fun q=>jG q g) aB) (ai Q))⟩) (by show a.ah.ls.length - (d+1) < a.ah.ls.length - d; omega)
 refine jF (dF ak) (D1 (F4 ?_))
 have aH:jG a.ah.ls r.xb.ls=g:=et (N) (et (congrArg (fun q=>jG q g) (eZ (ls:=a.ah.ls) (i:=d) e6)) rfl)
 refine F4 (Gg (Gf (res0 rfl) (D0 (Gf (res0 rfl) (D0 (Gf (res0 rfl) ?_))))))
 have bC:=M.pk [0,2]
 obtain rfl:_=dJ.mk (E4 g):=hr.symm.trans (et (ai X) (et (ai Z) (et (ai ae) (et (ai ah) (ai aH)))))
 exact⟨K,L,rfl,bC,g1⟩
end Go.Proofs.YtbkagebjhbphaaaGreat
