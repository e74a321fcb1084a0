/-
 record: what is written.
-/
import Derived.Test.YtbkagebjhbphaaaGreatCoA
namespace Go.Proofs.YtbkagebjhbphaaaGreat
set_option maxRecDepth 100000
open Go.RowKit
set_option linter.unusedVariables false
set_option linter.unusedSectionVars false
set_option linter.unusedSimpArgs false
def mF:Nat→Nat→List UInt8→Nat × (List UInt8)
  | 0,a,b=>default
  | c+1,a,b=>if((a:Nat):Int) ≥ 128 then mF c (a / 128) (b++ [((UInt8.ofNat a) ||| (128:UInt8))]) else(a,b)
def qW (a:Nat):(List UInt8):=
 bnd (mF (a+1) a ([])) fun sLrL=>(sLrL.2++ [(UInt8.ofNat sLrL.1)])
theorem vw (w:World) (D:Nat→Prop) (c:Nat) (j:List UInt8) (H:Own w D w []) (t:c≤18446744073709551615) (hr:qW c=j):
    Calls Tryz.prog 117 #[vU c] w (dW fun v w'=> ∃ (U:Option Addr) (V:Nat),v= .slice U j.length V∧Own w D w' [row U j.length V (List.flatMap eB j) 5 1]∧(1≤j.length∧j.length≤10)∧(c ≥ 128∨j.length=1)):=by
 refine cb Tryz.func117 ?_
 refine sr (Ar rfl ?_)
 refine WL.do rfl (Ig (m:=10) (size:=1) (bytes:=1) (z:= .int .u8 0) Tryz.underlying134 (by kernel_rfl) H rfl rfl (by omega) (by unfold maxLen; omega) ?_)
 intro F af G
 refine An rfl (EP (bo ?_))
 have I:=G.pf []
 obtain⟨J,d⟩:=zZ fun(a:Nat) (l:Option Addr) (n:Nat) (b:List UInt8) (f:Nat) (w':World)=>Own w D w' [row l b.length n (List.flatMap eB b) 5 1]∧lm b.length a∧b.length≤9∧(c ≥ 128∨(b.length=0∧a=c))∧a < f∧mF (c+1) c ([])=mF f a b
 refine Wp.loop (fun i:Nat × (Option Addr) × Nat × (List UInt8) × Nat=> [(0,vU i.1),(3, .slice i.2.1 i.2.2.2.1.length i.2.2.1),(2, .slice none 0 0)]) J (fun i=>i.2.2.2.2) (c,F,10, [],c+1) ⟨rfl,rfl,rfl,trivial⟩ (d.2 ⟨I,(show lm (0) c∧0≤9∧(c ≥ 128∨(0=0∧c=c))∧c < (c+1)∧mF (c+1) c ([])=mF (c+1) c ([]) from ⟨by first | exact lm.zero t | exact lm.step (by assumption) (by simp only [List.length_append,List.length_cons,List.length_nil]),by first | exact IU _ | (have q9:=lm.le (by assumption) (by omega); simp only [List.length_append,List.length_cons,List.length_nil]; omega),by omega,by omega,rfl⟩)⟩) ?_
 rintro ⟨a,l,n,b,f⟩ ah u
 show Wp _ _ _ [(0,vU a),(3, .slice l b.length n),(2, .slice none 0 0)] _ _
 obtain⟨x,W,X,Y,Z,h⟩:=d.1 u
 obtain⟨o,A⟩:∃ q,f=q+1:=⟨f - 1,by omega⟩
 subst A
 refine EP (sr (Mz rfl (Kz (.bool (decide (((a:Nat):Int) ≥ 128))) (nt ?_))))
 by_cases g:((a:Nat):Int) ≥ 128
 refine jT (dT g) (sk (bo (sr (Mz rfl (Mz rfl (fw (.int .u8 (((UInt8.ofNat a).toNat:Nat):Int)) (EQ (e:=IntKind.u8.wrap ((a:Nat):Int)) yk (xC _)) (fw (.int .u8 ((((UInt8.ofNat a) ||| (128:UInt8)).toNat:Nat):Int)) (EQ (e:=IntKind.u8.wrap (((BitVec.ofInt 8 (((UInt8.ofNat a).toNat:Nat):Int) ||| BitVec.ofInt 8 128).toNat:Nat):Int)) yk (u8_or (UInt8.ofNat a) (128:UInt8))) ?_)))))))
 refine kG [.int .u8 ((((UInt8.ofNat a) ||| (128:UInt8)).toNat:Nat):Int)] 5 1 1 x ?_
 intro K aj p
 replace p:=Fx (y:=row K 1 1 (List.flatMap eB ([((UInt8.ofNat a) ||| (128:UInt8))])) 5 1) rfl p
 have B:=p.pb [0]
 refine WL.do rfl (Fy (k:=b.length) (m:=1) (wW) B rfl rfl (iP Tryz.underlying134 (B.rds (i:=1) rfl) (fA wP ([((UInt8.ofNat a) ||| (128:UInt8))]))) rfl (by omega) (s:=List.length (b++ [((UInt8.ofNat a) ||| (128:UInt8))])) (by first | omega | (simp only [List.length_append,List.length_cons,List.length_nil] <;> omega)) (List.flatMap_append).symm ?_)
 intro L M ak N
 have aa:List.length (b++ [((UInt8.ofNat a) ||| (128:UInt8))])=b.length+1:=by simp only [List.length_append,List.length_cons,List.length_nil]
 refine An rfl (EO (Mz rfl (fw (vU (a / 128)) (EQ (e:=Int.fdiv ((a:Nat):Int) 128) yk (mM _ 7 _ (by decide))) (Az rfl (WL.nil (bN ?_))))))
 have O:=N.pk [0]
 exact E8 (a / 128,L,M,(b++ [((UInt8.ofNat a) ||| (128:UInt8))]),o) ⟨rfl,rfl,rfl,trivial⟩ (d.2 ⟨O,by first | exact lm.zero t | exact lm.step (by assumption) (by simp only [List.length_append,List.length_cons,List.length_nil]),by first | exact IU _ | (have q9:=lm.le (by assumption) (by omega); simp only [List.length_append,List.length_cons,List.length_nil]; omega),by omega,by omega,Eq.trans (h) (if_pos g)⟩) (by show o < o+1; omega)
 refine jF (dF g) (Wp.exit (EX ?_))
 have C:mF (c+1) c ([])=(a,b):=et (h) (iN g)
 refine EX (Fg (ER (sr (Mz rfl (Mz rfl (fw (.int .u8 (((UInt8.ofNat a).toNat:Nat):Int)) (EQ (e:=IntKind.u8.wrap ((a:Nat):Int)) yk (xC _)) ?_))))))
 refine kG [.int .u8 (((UInt8.ofNat a).toNat:Nat):Int)] 5 1 1 x ?_
 intro P au r
 replace r:=Fx (y:=row P 1 1 (List.flatMap eB ([(UInt8.ofNat a)])) 5 1) rfl r
 have E:=r.pb [0]
 refine WL.do rfl (Fy (k:=b.length) (m:=1) (wW) E rfl rfl (iP Tryz.underlying134 (E.rds (i:=1) rfl) (fA wP ([(UInt8.ofNat a)]))) rfl (by omega) (s:=List.length (b++ [(UInt8.ofNat a)])) (by first | omega | (simp only [List.length_append,List.length_cons,List.length_nil] <;> omega)) (List.flatMap_append).symm ?_)
 intro Q R av S
 have ae:List.length (b++ [(UInt8.ofNat a)])=b.length+1:=by simp only [List.length_append,List.length_cons,List.length_nil]
 refine An rfl (rt (rs ?_))
 have T:=S.pk [0]
 obtain rfl:_=(b++ [(UInt8.ofNat a)]):=hr.symm.trans (ai C)
 exact⟨Q,R,rfl,T,(by first | omega | (simp only [List.length_cons,List.length_nil,List.length_append]; omega)),(by first | omega | (simp only [List.length_cons,List.length_nil,List.length_append]; omega))⟩
def uu (b:List UInt8):(List UInt8):=
 bnd (qW b.length) fun a=>(a++b)
theorem yB (w:World) (D:Nat→Prop) (b:List UInt8) (g:List UInt8) (H:Own w D w []) (C:b.length≤140737488351232) (hr:uu b=g):
    Calls Tryz.prog 141 #[.string ⟨List.toArray b⟩] w (dW fun v w'=> ∃ (u:Option Addr) (x:Nat),v= .slice u g.length x∧Own w D w' [row u g.length x (List.flatMap eB g) 5 1]∧(g.length≤b.length+10)∧(b.length ≥ 128∨g.length=b.length+1)):=by
 refine cb Tryz.func141 ?_
 refine sr (Ar rfl (Mz rfl (Kz (vJ b.length) (fw (vU b.length) (EQ (e:=IntKind.u64.wrap ((b.length:Nat):Int)) yk (IntWalk.u64_in _ (by omega))) ?_))))
 obtain⟨a,c⟩:∃ q,qW b.length=q:=⟨_,rfl⟩
 obtain⟨E,h,y,j,z⟩:=EU H
 refine cl Tryz.call117 (vw _ _ b.length a h (by omega) c) ?_
 rintro _ F ⟨G,I,rfl,l,d,f⟩
 have n:=j _ _ l
 have A:=n.rowC (i:=0) rfl
 replace d:1≤a.length∧a.length≤10:=d
 replace f:b.length ≥ 128∨a.length=1:=f
 refine Mz rfl ?_
 refine WL.do rfl (Fy (k:=a.length) (m:=b.length) (wW) n rfl rfl (C8 Tryz.underlying9 rfl) rfl (by omega) (s:=List.length (a++b)) (by first | omega | (simp only [List.length_append,List.length_cons,List.length_nil] <;> omega)) (List.flatMap_append).symm ?_)
 intro o p J r
 have B:List.length (a++b)=a.length+b.length:=by simp only [List.length_append,List.length_cons,List.length_nil]
 refine An rfl (rt (rs ?_))
 have t:=r.pf []
 obtain rfl:_=(a++b):=hr.symm.trans (ai c)
 exact⟨o,p,rfl,t,(by first | omega | (simp only [List.length_cons,List.length_nil,List.length_append]; omega)),(by first | omega | (simp only [List.length_cons,List.length_nil,List.length_append]; omega))⟩
def bY (b:dN) (c:Nat):dN:=
 bnd (qW c) fun a=>dN.mk (Ll.mk (b.xb.ls++a))
theorem dU (w:World) (D:Nat→Prop) (e:Nat) (b:dN) (c:Option Addr) (d:Nat) (l:Nat) (n:dN) (H:Own w D w [blk e [.slice c b.xb.ls.length d] 159,row c b.xb.ls.length d (List.flatMap eB b.xb.ls) 5 1]) (M:b.xb.ls.length≤9000000000∧l≤18446744073709551615) (hr:bY b l=n):
    Calls Tryz.prog 79 #[vP e 0,vU l] w (dW fun v w'=> ∃ (B0ox0:Option Addr) (b0ox0:Nat),v= .tuple #[]∧Own w D w' [blk e [.slice B0ox0 n.xb.ls.length b0ox0] 159,row B0ox0 n.xb.ls.length b0ox0 (List.flatMap eB n.xb.ls) 5 1]∧(n.xb.ls.length≤b.xb.ls.length+10)):=by
 have B:=H.rowC (i:=1) rfl
 refine cb Tryz.func79 ?_
 have f:=H.drew
 refine F3 [7,10] (fun W=> ∃ L',Own w D W ([blk e [.slice c b.xb.ls.length d] 159,row c b.xb.ls.length d (List.flatMap eB b.xb.ls) 5 1]++L')) (by kernel_rfl) (by kernel_rfl) Fp ⟨_,f⟩ ?_
 revert f
 generalize World.drew w=N
 intro f
 refine Fz (v:=vP e 0) 0 rfl (by kernel_rfl) (fun _=>E5 rfl) (qv 1 rfl rfl (qp e 0 2 rfl (qp e 0 3 rfl (ql 4 rfl 0 Tryz.isAgg134 rfl rfl rfl (qv 5 rfl rfl ?_)))))
 obtain⟨a,g⟩:∃ q,qW l=q:=⟨_,rfl⟩
 obtain⟨O,p,I,r,J⟩:=EU f
 refine qd 6 rfl (Fe Tryz.call117 rfl (vw _ _ l a p (by omega) g) ?_)
 rintro _ P ⟨Q,R,rfl,t,h,j⟩
 have u:=r _ _ t
 have K:=u.rowC (i:=0) rfl
 replace h:1≤a.length∧a.length≤10:=h
 replace j:l ≥ 128∨a.length=1:=j
 have x:=u.pb [0]
 refine⟨.inr ⟨_,x⟩, ?_⟩
 have y:=x.pf [1]
 refine qd 7 rfl (Fy (k:=b.xb.ls.length) (m:=a.length) (wW) y rfl rfl (iP Tryz.underlying134 (y.rds (i:=2) rfl) (fA wP a)) rfl (by omega) (s:=List.length (b.xb.ls++a)) (by first | omega | (simp only [List.length_append,List.length_cons,List.length_nil] <;> omega)) (List.flatMap_append).symm ?_)
 intro z A S C
 have L:List.length (b.xb.ls++a)=b.xb.ls.length+a.length:=by simp only [List.length_append,List.length_cons,List.length_nil]
 refine⟨.inl (by kernel_rfl), ?_⟩
 refine Fz (v:=vP e 0) 8 rfl (by kernel_rfl) (fun _=>yk) (Fz (v:=vP e 0) 9 rfl (by kernel_rfl) (fun _=>yk) ?_)
 have E:=C.pf [1]
 refine qe 10 rfl (Do.store (vs:= [.slice z (List.length (b.xb.ls++a)) A]) (o:=0) E rfl rfl Tryz.sizeOf134 rfl rfl rfl rfl ?_)
 intro T F
 refine⟨.inl (by kernel_rfl), ?_⟩
 refine qn (Ff (res0 rfl) ?_)
 have G:=F.pk [0,1]
 obtain rfl:_=dN.mk (Ll.mk (b.xb.ls++a)):=hr.symm.trans (ai g)
 exact⟨z,A,rfl,G,(by first | omega | (simp only [List.length_cons,List.length_nil,List.length_append]; omega))⟩
def iE (b:dN) (c:List UInt8):dN:=
 bnd (uu c) fun a=>dN.mk (Ll.mk (b.xb.ls++a))
theorem kQ (w:World) (D:Nat→Prop) (e:Nat) (b:dN) (c:Option Addr) (d:Nat) (g:List UInt8) (n:dN) (H:Own w D w [blk e [.slice c b.xb.ls.length d] 159,row c b.xb.ls.length d (List.flatMap eB b.xb.ls) 5 1]) (M:b.xb.ls.length≤9000000000∧g.length≤16) (hr:iE b g=n):
    Calls Tryz.prog 119 #[vP e 0, .string ⟨List.toArray g⟩] w (dW fun v w'=> ∃ (B0ox0:Option Addr) (b0ox0:Nat),v= .tuple #[]∧Own w D w' [blk e [.slice B0ox0 n.xb.ls.length b0ox0] 159,row B0ox0 n.xb.ls.length b0ox0 (List.flatMap eB n.xb.ls) 5 1]∧(n.xb.ls.length≤b.xb.ls.length+26)):=by
 have B:=H.rowC (i:=1) rfl
 refine cb Tryz.func119 ?_
 have f:=H.drew
 refine F3 [7,10] (fun W=> ∃ L',Own w D W ([blk e [.slice c b.xb.ls.length d] 159,row c b.xb.ls.length d (List.flatMap eB b.xb.ls) 5 1]++L')) (by kernel_rfl) (by kernel_rfl) Fp ⟨_,f⟩ ?_
 revert f
 generalize World.drew w=N
 intro f
 refine Fz (v:=vP e 0) 0 rfl (by kernel_rfl) (fun _=>E5 rfl) (qv 1 rfl rfl (qp e 0 2 rfl (qp e 0 3 rfl (ql 4 rfl 0 Tryz.isAgg134 rfl rfl rfl (qv 5 rfl rfl ?_)))))
 obtain⟨a,h⟩:∃ q,uu g=q:=⟨_,rfl⟩
 obtain⟨O,p,I,r,J⟩:=EU f
 refine qd 6 rfl (Fe Tryz.call141 rfl (yB _ _ g a p (by omega) h) ?_)
 rintro _ P ⟨Q,R,rfl,t,j,l⟩
 have u:=r _ _ t
 have K:=u.rowC (i:=0) rfl
 replace j:a.length≤g.length+10:=j
 replace l:g.length ≥ 128∨a.length=g.length+1:=l
 have x:=u.pb [0]
 refine⟨.inr ⟨_,x⟩, ?_⟩
 have y:=x.pf [1]
 refine qd 7 rfl (Fy (k:=b.xb.ls.length) (m:=a.length) (wW) y rfl rfl (iP Tryz.underlying134 (y.rds (i:=2) rfl) (fA wP a)) rfl (by omega) (s:=List.length (b.xb.ls++a)) (by first | omega | (simp only [List.length_append,List.length_cons,List.length_nil] <;> omega)) (List.flatMap_append).symm ?_)
 intro z A S C
 have L:List.length (b.xb.ls++a)=b.xb.ls.length+a.length:=by simp only [List.length_append,List.length_cons,List.length_nil]
 refine⟨.inl (by kernel_rfl), ?_⟩
 refine Fz (v:=vP e 0) 8 rfl (by kernel_rfl) (fun _=>yk) (Fz (v:=vP e 0) 9 rfl (by kernel_rfl) (fun _=>yk) ?_)
 have E:=C.pf [1]
 refine qe 10 rfl (Do.store (vs:= [.slice z (List.length (b.xb.ls++a)) A]) (o:=0) E rfl rfl Tryz.sizeOf134 rfl rfl rfl rfl ?_)
 intro T F
 refine⟨.inl (by kernel_rfl), ?_⟩
 refine qn (Ff (res0 rfl) ?_)
 have G:=F.pk [0,1]
 obtain rfl:_=dN.mk (Ll.mk (b.xb.ls++a)):=hr.symm.trans (ai h)
 exact⟨z,A,rfl,G,(by first | omega | (simp only [List.length_cons,List.length_nil,List.length_append]; omega))⟩
def om (d:dN) (c:bv):dN:=
 bnd (iE d c.bJ) fun a=>bnd (bY a (Int.toNat (IntKind.u64.wrap c.dX))) fun b=>b
set_option maxHeartbeats 1000000 in
theorem sU (w:World) (D:Nat→Prop) (o:Nat) (f:dN) (b:Option Addr) (c:Nat) (a:bv) (p:dN) (H:Own w D w [blk o [.slice b f.xb.ls.length c] 159,row b f.xb.ls.length c (List.flatMap eB f.xb.ls) 5 1]) (S:f.xb.ls.length≤8000000000) (T:(a.bJ.length≤12)) (hr:om f a=p):
    Calls Tryz.prog 81 #[vP o 0, .agg (bv.cells a).toArray] w (dW fun v w'=> ∃ (B0ox0:Option Addr) (b0ox0:Nat),v= .tuple #[]∧Own w D w' [blk o [.slice B0ox0 p.xb.ls.length b0ox0] 159,row B0ox0 p.xb.ls.length b0ox0 (List.flatMap eB p.xb.ls) 5 1]∧(p.xb.ls.length≤f.xb.ls.length+40)):=by
 have C:=H.rowC (i:=1) rfl
 refine cb Tryz.func81 ?_
 refine sr ?_
 refine dP (bv.cells a) 89 H ?_
 intro r U s
 refine ns (Mz rfl (Kz (vP r 0) (Lz (.string ⟨List.toArray a.bJ⟩) s 0 Tryz.isAgg9 ?_)))
 have E:=s.pb [0]
 obtain⟨d,g⟩:∃ q,iE f a.bJ=q:=⟨_,rfl⟩
 obtain⟨V,t,L,u,M⟩:=Fv E
 refine cl Tryz.call119 (kQ _ _ o f b c a.bJ d t (by first | omega | (dsimp only; omega) | (dsimp only [List.length_cons,List.length_nil]; omega)) g) ?_
 rintro _ W ⟨F,G,rfl,x,h⟩
 have m:=u _ _ x
 have N:=m.rowC (i:=1) rfl
 replace h:d.xb.ls.length≤f.xb.ls.length+26:=h
 refine nt (EO (Mz rfl (Kz (vP r 1) (Lz (vI a.dX) m 2 Tryz.isAgg3 ?_))))
 refine WL.do rfl (Fe Tryz.call77 rfl ?_ (fun _ _ k=>k))
 refine cb Tryz.func77 ?_
 refine EO (Mz rfl (Mz rfl ?_))
 have O:Int.toNat (IntKind.u64.wrap a.dX)≤18446744073709551615:=l7 _
 refine fw (vU (Int.toNat (IntKind.u64.wrap a.dX))) (EQ (e:=IntKind.u64.wrap a.dX) yk (fq _)) ?_
 obtain⟨n,j⟩:∃ q,bY d (Int.toNat (IntKind.u64.wrap a.dX))=q:=⟨_,rfl⟩
 obtain⟨X,y,P,z,Q⟩:=Fv m
 refine cl Tryz.call79 (dU _ _ o d F G (Int.toNat (IntKind.u64.wrap a.dX)) n y (by first | omega | (dsimp only; omega) | (dsimp only [List.length_cons,List.length_nil]; omega)) j) ?_
 rintro _ Y ⟨I,J,rfl,A,l⟩
 have B:=z _ _ A
 have R:=B.rowC (i:=1) rfl
 replace l:n.xb.ls.length≤d.xb.ls.length+10:=l
 refine WL.nil (Ff (res0 rfl) (WL.nil (Ff (res0 rfl) ?_)))
 have K:=B.pk [0,1]
 obtain rfl:_=n:=hr.symm.trans (et (ai g) (ai j))
 exact⟨I,J,rfl,K,(by first | omega | (simp only [List.length_cons,List.length_nil,List.length_append]; omega))⟩
def lJ (d:dN) (c:aL):dN:=
 bnd (iE d c.cu) fun a=>bnd (iE a c.aV) fun b=>b
set_option maxHeartbeats 1000000 in
theorem pM (w:World) (D:Nat→Prop) (j:Nat) (g:dN) (c:Option Addr) (d:Nat) (a:aL) (s:dN) (H:Own w D w [blk j [.slice c g.xb.ls.length d] 159,row c g.xb.ls.length d (List.flatMap eB g.xb.ls) 5 1]) (V:g.xb.ls.length≤8000000000) (W:(a.cu.length≤12∧a.aV.length≤16)) (hr:lJ g a=s):
    Calls Tryz.prog 145 #[vP j 0, .agg (aL.cells a).toArray] w (dW fun v w'=> ∃ (B0ox0:Option Addr) (b0ox0:Nat),v= .tuple #[]∧Own w D w' [blk j [.slice B0ox0 s.xb.ls.length b0ox0] 159,row B0ox0 s.xb.ls.length b0ox0 (List.flatMap eB s.xb.ls) 5 1]∧(s.xb.ls.length≤g.xb.ls.length+60)):=by
 have I:=H.rowC (i:=1) rfl
 refine cb Tryz.func145 ?_
 refine sr ?_
 refine dP (aL.cells a) 153 H ?_
 intro t X p
 refine nt (EO (Mz rfl (Kz (.func (.func 119) #[vP j 0] #[]) (Kz (vP t 0) (Lz (.string ⟨List.toArray a.cu⟩) p 0 Tryz.isAgg9 (Kz (vP t 1) (Lz (.string ⟨List.toArray a.aV⟩) p 0 Tryz.isAgg9 ?_)))))))
 refine kG [.string ⟨List.toArray a.cu⟩, .string ⟨List.toArray a.aV⟩] 9 1 2 p ?_
 intro b Y e
 replace e:=Fx (y:=row b 2 2 (List.flatMap eS ([a.cu,a.aV])) 9 1) rfl e
 refine WL.do rfl (Fe Tryz.call161 rfl ?_ (fun _ _ k=>k))
 refine cb Tryz.func161 ?_
 refine sr (Mz rfl (Kz (vI 2) (Mn rfl (bo (Gh 200 (sr (Kz (.bool true) (nt (EP (jt (sk (EP (bo (sr ?_))))))))))))))
 have u:([a.cu,a.aV]:List (List UInt8))[0]? =some a.cu:=rfl
 refine fw (.pointer (some ⟨ab b,ao b+0 *1,none⟩)) (ET (CL) rfl rfl ((e.rds (i:=0) rfl).addr (i:=0) (by omega)) (by omega)) (fw (.string ⟨List.toArray a.cu⟩) (EY rfl (bZ.one Tryz.isAgg9 (((e.rds (i:=0) rfl).elem yN u (by decide)).at_ (k:=0) rfl))) (An rfl (EO (Mz rfl (Mz rfl ?_)))))
 have J:=e.pb [0,1]
 obtain⟨f,l⟩:∃ q,iE g a.cu=q:=⟨_,rfl⟩
 obtain⟨Z,x,P,z,Q⟩:=Fv J
 refine WL.do rfl (Fw Tryz.call119 rfl rfl (kQ _ _ j g c d a.cu f x (by first | omega | (dsimp only; omega) | (dsimp only [List.length_cons,List.length_nil]; omega)) l) ?_)
 rintro _ aa ⟨K,L,rfl,A,m⟩
 have h:=z _ _ A
 have R:=h.rowC (i:=1) rfl
 replace m:f.xb.ls.length≤g.xb.ls.length+26:=m
 refine WL.nil (bN (ER (EO (Kz (vI 1) (Mz rfl (WL.nil (FR [(8,vI 1),(7,vI 2),(6, .slice b 2 2),(0, .func (.func 119) #[vP j 0] #[])] ⟨rfl,rfl,rfl,rfl,trivial⟩ (sr (Kz (.bool true) (nt (EP (jt (sk (EP (bo (sr ?_))))))))))))))))
 have B:([a.cu,a.aV]:List (List UInt8))[1]? =some a.aV:=rfl
 refine fw (.pointer (some ⟨ab b,ao b+1 *1,none⟩)) (ET (CL) rfl rfl ((h.rds (i:=2) rfl).addr (i:=1) (by omega)) (by omega)) (fw (.string ⟨List.toArray a.aV⟩) (EY rfl (bZ.one Tryz.isAgg9 (((h.rds (i:=2) rfl).elem yN B (by decide)).at_ (k:=0) rfl))) (An rfl (EO (Mz rfl (Mz rfl ?_)))))
 obtain⟨r,n⟩:∃ q,iE f a.aV=q:=⟨_,rfl⟩
 obtain⟨ae,C,S,E,T⟩:=Fv h
 refine WL.do rfl (Fw Tryz.call119 rfl rfl (kQ _ _ j f K L a.aV r C (by first | omega | (dsimp only; omega) | (dsimp only [List.length_cons,List.length_nil]; omega)) n) ?_)
 rintro _ af ⟨M,N,rfl,F,o⟩
 have G:=E _ _ F
 have U:=G.rowC (i:=1) rfl
 replace o:r.xb.ls.length≤f.xb.ls.length+26:=o
 refine WL.nil (bN (ER (EO (Kz (vI 2) (Mz rfl (WL.nil (FR [(8,vI 2),(7,vI 2),(6, .slice b 2 2),(0, .func (.func 119) #[vP j 0] #[])] ⟨rfl,rfl,rfl,rfl,trivial⟩ (sr (Kz (.bool false) (nt (EP (jf (Wp.exit (EX (EX (Fg (Ff (res0 rfl) (WL.nil (Ff (res0 rfl) ?_)))))))))))))))))))
 have O:=G.pk [0,1]
 obtain rfl:_=r:=hr.symm.trans (et (ai l) (ai n))
 exact⟨M,N,rfl,O,(by first | omega | (simp only [List.length_cons,List.length_nil,List.length_append]; omega))⟩
def ja:List aL→List UInt8→(List UInt8)
  | [],a=>a
  | c::d,a=>bnd (lJ (dN.mk (Ll.mk a)) c) fun b=>ja d b.xb.ls
def jb:List aL→List UInt8→(List UInt8)
  | [],a=>a
  | c::d,a=>bnd (lJ (dN.mk (Ll.mk a)) c) fun b=>jb d b.xb.ls
def nR (h:dN) (a:aZ):dN:=
 if a.dZ=true then bnd (bY h 1) fun e=>bnd (iE e a.aV) fun f=>bnd (bY f a.av.ls.length) fun g=>bnd (ja a.av.ls g.xb.ls) fun sLrtbbbL=>dN.mk (Ll.mk sLrtbbbL) else bnd (bY h 0) fun b=>bnd (iE b a.aV) fun c=>bnd (bY c a.av.ls.length) fun d=>bnd (jb a.av.ls d.xb.ls) fun sLrfbbbL=>dN.mk (Ll.mk sLrfbbbL)
set_option maxHeartbeats 1000000 in
theorem sG (w:World) (D:Nat→Prop) (n:Nat) (E:dN) (A:Option Addr) (B:Nat) (a:aZ) (c:Option Addr) (af f:Nat) (r0:dN) (H:Own w D w [blk n [.slice A E.xb.ls.length B] 159,row A E.xb.ls.length B (List.flatMap eB E.xb.ls) 5 1]) (aF:af=a.av.ls.length) (h:Ro w D fun w'=>bD w' 2 c a.av.ls.length (List.flatMap aL.cells a.av.ls)) (dn:a.av.ls.length≤f∧a.av.ls.length≤9223372036854775807) (fT:E.xb.ls.length≤7000000000) (ae:(a.aV.length≤16∧a.av.ls.length≤4∧∀ q ∈ a.av.ls,q.cu.length≤12∧q.aV.length≤16)) (hr:nR E a=r0):
    Calls Tryz.prog 124 #[vP n 0, .agg #[.bool a.dZ, .string ⟨List.toArray a.aV⟩, .slice c af f]] w (dW fun v w'=> ∃ (B0ox0:Option Addr) (b0ox0:Nat),v= .tuple #[]∧Own w D w' [blk n [.slice B0ox0 r0.xb.ls.length b0ox0] 159,row B0ox0 r0.xb.ls.length b0ox0 (List.flatMap eB r0.xb.ls) 5 1]∧(r0.xb.ls.length≤E.xb.ls.length+300)):=by
 subst aF
 have dw:=H.rowC (i:=1) rfl
 have eH:=ae.1
 have eO:=ae.2.1
 refine cb Tryz.func124 ?_
 refine sr ?_
 refine dP [.bool a.dZ, .string ⟨List.toArray a.aV⟩, .slice c a.av.ls.length f] 149 H ?_
 intro x fV aG
 refine ns (An rfl (EP (sr (Kz (vP x 0) (Lz (.bool a.dZ) aG 0 Tryz.isAgg4 (nt ?_))))))
 rcases IW (a.dZ) with F | F
 refine jT F (EO (Ar rfl (Mz rfl (Mz rfl ?_))))
 refine WL.do rfl (Fe Tryz.call77 rfl ?_ (fun _ _ k=>k))
 refine cb Tryz.func77 ?_
 refine EO (Mz rfl (Mz rfl (fw (.int .u64 1) (EQ (e:=IntKind.u64.wrap 1) yk (IntWalk.u64_in _ (by omega))) ?_)))
 have dx:=aG.pb [0]
 obtain⟨G,ag⟩:∃ q,bY E 1=q:=⟨_,rfl⟩
 obtain⟨fZ,bu,eP,bv,eQ⟩:=Fv dx
 refine cl Tryz.call79 (dU _ _ n E A B 1 G bu (by first | omega | (dsimp only; omega) | (dsimp only [List.length_cons,List.length_nil]; omega)) ag) ?_
 rintro _ gm ⟨dz,dA,rfl,bz,ah⟩
 have aH:=bv _ _ bz
 have eT:=aH.rowC (i:=1) rfl
 replace ah:G.xb.ls.length≤E.xb.ls.length+10:=ah
 refine WL.nil (Ff (res0 rfl) (ns (Mz rfl (Kz (vP x 1) (Lz (.string ⟨List.toArray a.aV⟩) aH 2 Tryz.isAgg9 ?_)))))
 obtain⟨I,aj⟩:∃ q,iE G a.aV=q:=⟨_,rfl⟩
 obtain⟨gp,bA,eU,bB,eX⟩:=Fv aH
 refine cl Tryz.call119 (kQ _ _ n G dz dA a.aV I bA (by first | omega | (dsimp only; omega) | (dsimp only [List.length_cons,List.length_nil]; omega)) aj) ?_
 rintro _ gq ⟨dB,dC,rfl,bC,ak⟩
 have aI:=bB _ _ bC
 have eY:=aI.rowC (i:=1) rfl
 replace ak:I.xb.ls.length≤G.xb.ls.length+26:=ak
 refine nt (EO (Mz rfl (Kz (vP x 2) (Lz (.slice c a.av.ls.length f) aI 2 Tryz.isAgg147 (Mz rfl (Kz (.func (.func 145) #[vP n 0] #[]) ?_))))))
 refine WL.do rfl (Fe Tryz.call144 rfl ?_ (fun _ _ k=>k))
 refine cb Tryz.func144 ?_
 refine sr (Mz rfl (Mz rfl (Kz (vJ a.av.ls.length) ?_)))
 refine WL.do rfl (Fe Tryz.call77 rfl ?_ (fun _ _ k=>k))
 refine cb Tryz.func77 ?_
 refine EO (Mz rfl (Mz rfl (fw (vU a.av.ls.length) (EQ (e:=IntKind.u64.wrap ((a.av.ls.length:Nat):Int)) yk (IntWalk.u64_in _ (by omega))) ?_)))
 obtain⟨C,au⟩:∃ q,bY I a.av.ls.length=q:=⟨_,rfl⟩
 obtain⟨gu,bE,eZ,bF,fe⟩:=Fv aI
 refine cl Tryz.call79 (dU _ _ n I dB dC a.av.ls.length C bE (by first | omega | (dsimp only; omega) | (dsimp only [List.length_cons,List.length_nil]; omega)) au) ?_
 rintro _ gy ⟨dD,dE,rfl,bG,av⟩
 have bH:=bF _ _ bG
 have fo:=bH.rowC (i:=1) rfl
 replace av:C.xb.ls.length≤I.xb.ls.length+10:=av
 refine WL.nil (Ff (res0 rfl) (nt (EO (Mz rfl (Mz rfl ?_)))))
 refine WL.do rfl (Fe Tryz.call160 rfl ?_ (fun _ _ k=>k))
 refine cb Tryz.func160 ?_
 refine sr (Mz rfl (Kz (vJ a.av.ls.length) (Mn rfl (bo ?_))))
 have dG:=bH.pb [1]
 obtain⟨dH,J⟩:=rD fun(g:Nat) (K:Option Addr) (L:Nat) (j:List UInt8) (w':World)=>Own w D w' [blk n [.slice K j.length L] 159,blk x [.bool a.dZ, .string ⟨List.toArray a.aV⟩, .slice c a.av.ls.length f] 149,row K j.length L (List.flatMap eB j) 5 1]∧g≤a.av.ls.length∧((j.length:Nat):Int)≤((C.xb.ls.length:Nat):Int)+60 *((g:Nat):Int)∧ja a.av.ls C.xb.ls=ja (List.drop g a.av.ls) j
 refine Wp.loop (fun i:Nat × (Option Addr) × Nat × (List UInt8)=> [(8,vJ i.1),(7,vJ a.av.ls.length),(6, .slice c a.av.ls.length f),(0, .func (.func 145) #[vP n 0] #[])]) dH (fun i=>a.av.ls.length - i.1) (0,dD,dE,C.xb.ls) ⟨rfl,rfl,rfl,rfl,trivial⟩ (J.2 ⟨dG,by omega,by omega,rfl⟩) ?_
 rintro ⟨g,K,L,j⟩ gz bI
 show Wp _ _ _ [(8,vJ g),(7,vJ a.av.ls.length),(6, .slice c a.av.ls.length f),(0, .func (.func 145) #[vP n 0] #[])] _ _
 obtain⟨M,fq,fu,ax⟩:=J.1 bI
 refine sr (Kz (.bool (decide (((g:Nat):Int) < ((a.av.ls.length:Nat):Int)))) (nt (EP ?_)))
 by_cases bJ:((g:Nat):Int) < ((a.av.ls.length:Nat):Int)
 obtain⟨o,N⟩:=dK (ls:=a.av.ls) (i:=g) aL.len (by decide) (M.ro h) (by first | omega | (simp; done) | (simp; omega))
 have bK:o.cu.length≤12∧o.aV.length≤16:=ae.2.2 _ (List.mem_of_getElem? N)
 have bL:=drop_at N
 refine jT (dT bJ) (sk (EP (bo (sr (fw (.pointer (some ⟨ab c,ao c+g *2,none⟩)) (ET (jL) rfl rfl ((M.ro h).addr (i:=g) (by omega)) (by omega)) (fw (.agg (aL.cells o).toArray) (EY rfl (Fb (cs:=(aL.cells o)) Tryz.isAgg153 Tryz.sizeOf153 ((M.ro h).elem aL.len N (by decide)))) ?_))))))
 refine dP [.string ⟨List.toArray ([])⟩, .string ⟨List.toArray ([])⟩] 153 M ?_
 intro gB gD dI
 refine dO (aL.cells o) 0 dI Tryz.sizeOf153 ?_
 intro gF bM
 refine nt (EO (Mz rfl (La (aL.cells o) bM 0 Tryz.isAgg153 Tryz.sizeOf153 ?_)))
 have dJ:=bM.pb [0,2]
 obtain⟨aJ,ay⟩:∃ q,lJ (dN.mk (Ll.mk j)) o=q:=⟨_,rfl⟩
 obtain⟨gG,bO,fA,bP,fB⟩:=Fv dJ
 refine WL.do rfl (Fw Tryz.call145 rfl rfl (pM _ _ n (dN.mk (Ll.mk j)) K L o aJ bO (by first | omega | (dsimp only; omega) | (dsimp only [List.length_cons,List.length_nil]; omega)) (by exact bK) ay) ?_)
 rintro _ fC ⟨bQ,bR,rfl,aK,O⟩
 have az:=bP _ _ aK
 have dL:=az.rowC (i:=1) rfl
 replace O:aJ.xb.ls.length≤j.length+60:=O
 refine WL.nil (bN (ER (EO (fw (vJ (g+1)) (EQ (e:=IntKind.i64.wrap (((g:Nat):Int)+1)) yk (by rw [IR _ (by omega)]; omega)) (Mz rfl (WL.nil ?_))))))
 have bS:=az.pk [0,3,1]
 exact E8 (g+1,bQ,bR,aJ.xb.ls) ⟨rfl,rfl,rfl,rfl,trivial⟩ (J.2 ⟨bS,by omega,by omega,et (ax) (et (congrArg (fun q=>ja q j) bL) (ai ay))⟩) (by show a.av.ls.length - (g+1) < a.av.ls.length - g; omega)
 refine jF (dF bJ) (Wp.exit (EX ?_))
 have aM:ja a.av.ls C.xb.ls=j:=et (ax) (et (congrArg (fun q=>ja q j) (eD (ls:=a.av.ls) (i:=g) (by omega))) rfl)
 refine EX (Fg (Ff (res0 rfl) (WL.nil (Ff (res0 rfl) (WL.nil (Ff (res0 rfl) ?_))))))
 have bT:=M.pk [0,2]
 obtain rfl:_=dN.mk (Ll.mk j):=hr.symm.trans (et (ip F) (et (ai ag) (et (ai aj) (et (ai au) (ai aM)))))
 exact⟨K,L,rfl,bT,(by first | omega | (simp only [List.length_cons,List.length_nil,List.length_append]; omega))⟩
 refine jF F (sk (sr (Mz rfl (Mz rfl ?_))))
 refine WL.do rfl (Fe Tryz.call77 rfl ?_ (fun _ _ k=>k))
 refine cb Tryz.func77 ?_
 refine EO (Mz rfl (Mz rfl (fw (.int .u64 0) (EQ (e:=IntKind.u64.wrap 0) yk (IntWalk.u64_in _ (by omega))) ?_)))
 have bU:=aG.pb [0]
 obtain⟨p,P⟩:∃ q,bY E 0=q:=⟨_,rfl⟩
 obtain⟨fD,aN,dM,aO,dQ⟩:=Fv bU
 refine cl Tryz.call79 (dU _ _ n E A B 0 p aN (by first | omega | (dsimp only; omega) | (dsimp only [List.length_cons,List.length_nil]; omega)) P) ?_
 rintro _ fE ⟨bV,bW,rfl,aP,Q⟩
 have R:=aO _ _ aP
 have dR:=R.rowC (i:=1) rfl
 replace Q:p.xb.ls.length≤E.xb.ls.length+10:=Q
 refine WL.nil (Ff (res0 rfl) (ns (Mz rfl (Kz (vP x 1) (Lz (.string ⟨List.toArray a.aV⟩) R 2 Tryz.isAgg9 ?_)))))
 obtain⟨r,S⟩:∃ q,iE p a.aV=q:=⟨_,rfl⟩
 obtain⟨fF,aQ,dS,aR,dV⟩:=Fv R
 refine cl Tryz.call119 (kQ _ _ n p bV bW a.aV r aQ (by first | omega | (dsimp only; omega) | (dsimp only [List.length_cons,List.length_nil]; omega)) S) ?_
 rintro _ fG ⟨bX,bZ,rfl,aS,T⟩
 have U:=aR _ _ aS
 have dX:=U.rowC (i:=1) rfl
 replace T:r.xb.ls.length≤p.xb.ls.length+26:=T
 refine nt (EO (Mz rfl (Kz (vP x 2) (Lz (.slice c a.av.ls.length f) U 2 Tryz.isAgg147 (Mz rfl (Kz (.func (.func 145) #[vP n 0] #[]) ?_))))))
 refine WL.do rfl (Fe Tryz.call144 rfl ?_ (fun _ _ k=>k))
 refine cb Tryz.func144 ?_
 refine sr (Mz rfl (Mz rfl (Kz (vJ a.av.ls.length) ?_)))
 refine WL.do rfl (Fe Tryz.call77 rfl ?_ (fun _ _ k=>k))
 refine cb Tryz.func77 ?_
 refine EO (Mz rfl (Mz rfl (fw (vU a.av.ls.length) (EQ (e:=IntKind.u64.wrap ((a.av.ls.length:Nat):Int)) yk (IntWalk.u64_in _ (by omega))) ?_)))
 obtain⟨m,V⟩:∃ q,bY r a.av.ls.length=q:=⟨_,rfl⟩
 obtain⟨fH,aT,dY,aU,dZ⟩:=Fv U
 refine cl Tryz.call79 (dU _ _ n r bX bZ a.av.ls.length m aT (by first | omega | (dsimp only; omega) | (dsimp only [List.length_cons,List.length_nil]; omega)) V) ?_
 rintro _ fI ⟨cu,cz,rfl,aV,W⟩
 have aA:=aU _ _ aV
 have d9:=aA.rowC (i:=1) rfl
 replace W:m.xb.ls.length≤r.xb.ls.length+10:=W
 refine WL.nil (Ff (res0 rfl) (nt (EO (Mz rfl (Mz rfl ?_)))))
 refine WL.do rfl (Fe Tryz.call160 rfl ?_ (fun _ _ k=>k))
 refine cb Tryz.func160 ?_
 refine sr (Mz rfl (Kz (vJ a.av.ls.length) (Mn rfl (bo ?_))))
 have cB:=aA.pb [1]
 obtain⟨cK,y⟩:=rD fun(b:Nat) (s:Option Addr) (t:Nat) (d:List UInt8) (w':World)=>Own w D w' [blk n [.slice s d.length t] 159,blk x [.bool a.dZ, .string ⟨List.toArray a.aV⟩, .slice c a.av.ls.length f] 149,row s d.length t (List.flatMap eB d) 5 1]∧b≤a.av.ls.length∧((d.length:Nat):Int)≤((m.xb.ls.length:Nat):Int)+60 *((b:Nat):Int)∧jb a.av.ls m.xb.ls=jb (List.drop b a.av.ls) d
 refine Wp.loop (fun i:Nat × (Option Addr) × Nat × (List UInt8)=> [(8,vJ i.1),(7,vJ a.av.ls.length),(6, .slice c a.av.ls.length f),(0, .func (.func 145) #[vP n 0] #[])]) cK (fun i=>a.av.ls.length - i.1) (0,cu,cz,m.xb.ls) ⟨rfl,rfl,rfl,rfl,trivial⟩ (y.2 ⟨cB,by omega,by omega,rfl⟩) ?_
 rintro ⟨b,s,t,d⟩ fJ aW
 show Wp _ _ _ [(8,vJ b),(7,vJ a.av.ls.length),(6, .slice c a.av.ls.length f),(0, .func (.func 145) #[vP n 0] #[])] _ _
 obtain⟨u,ed,ek,X⟩:=y.1 aW
 refine sr (Kz (.bool (decide (((b:Nat):Int) < ((a.av.ls.length:Nat):Int)))) (nt (EP ?_)))
 by_cases aB:((b:Nat):Int) < ((a.av.ls.length:Nat):Int)
 obtain⟨l,z⟩:=dK (ls:=a.av.ls) (i:=b) aL.len (by decide) (u.ro h) (by first | omega | (simp; done) | (simp; omega))
 have aX:l.cu.length≤12∧l.aV.length≤16:=ae.2.2 _ (List.mem_of_getElem? z)
 have aY:=drop_at z
 refine jT (dT aB) (sk (EP (bo (sr (fw (.pointer (some ⟨ab c,ao c+b *2,none⟩)) (ET (jL) rfl rfl ((u.ro h).addr (i:=b) (by omega)) (by omega)) (fw (.agg (aL.cells l).toArray) (EY rfl (Fb (cs:=(aL.cells l)) Tryz.isAgg153 Tryz.sizeOf153 ((u.ro h).elem aL.len z (by decide)))) ?_))))))
 refine dP [.string ⟨List.toArray ([])⟩, .string ⟨List.toArray ([])⟩] 153 u ?_
 intro fK fM cO
 refine dO (aL.cells l) 0 cO Tryz.sizeOf153 ?_
 intro fO aC
 refine nt (EO (Mz rfl (La (aL.cells l) aC 0 Tryz.isAgg153 Tryz.sizeOf153 ?_)))
 have cZ:=aC.pb [0,2]
 obtain⟨Y,Z⟩:∃ q,lJ (dN.mk (Ll.mk d)) l=q:=⟨_,rfl⟩
 obtain⟨fP,bf,eu,bg,eF⟩:=Fv cZ
 refine WL.do rfl (Fw Tryz.call145 rfl rfl (pM _ _ n (dN.mk (Ll.mk d)) s t l Y bf (by first | omega | (dsimp only; omega) | (dsimp only [List.length_cons,List.length_nil]; omega)) (by exact aX) Z) ?_)
 rintro _ fQ ⟨df,dh,rfl,bi,aa⟩
 have aD:=bg _ _ bi
 have eG:=aD.rowC (i:=1) rfl
 replace aa:Y.xb.ls.length≤d.length+60:=aa
 refine WL.nil (bN (ER (EO (fw (vJ (b+1)) (EQ (e:=IntKind.i64.wrap (((b:Nat):Int)+1)) yk (by rw [IR _ (by omega)]; omega)) (Mz rfl (WL.nil ?_))))))
 have di:=aD.pk [0,3,1]
 exact E8 (b+1,df,dh,Y.xb.ls) ⟨rfl,rfl,rfl,rfl,trivial⟩ (y.2 ⟨di,by omega,by omega,et (X) (et (congrArg (fun q=>jb q d) aY) (ai Z))⟩) (by show a.av.ls.length - (b+1) < a.av.ls.length - b; omega)
 refine jF (dF aB) (Wp.exit (EX ?_))
 have bn:jb a.av.ls m.xb.ls=d:=et (X) (et (congrArg (fun q=>jb q d) (eD (ls:=a.av.ls) (i:=b) (by omega))) rfl)
 refine EX (Fg (Ff (res0 rfl) (WL.nil (Ff (res0 rfl) (WL.nil (Ff (res0 rfl) ?_))))))
 have dm:=u.pk [0,2]
 obtain rfl:_=dN.mk (Ll.mk d):=hr.symm.trans (et (fU F) (et (ai P) (et (ai S) (et (ai V) (ai bn)))))
 exact⟨s,t,rfl,dm,(by first | omega | (simp only [List.length_cons,List.length_nil,List.length_append]; omega))⟩
def iM:List Int→List UInt8→(List UInt8)
  | [],a=>a
  | c::d,a=>bnd (bY (dN.mk (Ll.mk a)) (Int.toNat (IntKind.u64.wrap c))) fun b=>iM d b.xb.ls
def mR (g:dN) (a:bL):dN:=
 bnd (bY g a.bf) fun b=>bnd (bY b (Int.toNat (IntKind.u64.wrap a.aQ))) fun c=>bnd (bY c a.ay) fun d=>bnd (bY d a.aU) fun e=>bnd (bY e a.au.ls.length) fun f=>bnd (iM a.au.ls f.xb.ls) fun sLrbbbbbL=>dN.mk (Ll.mk sLrbbbbbL)
set_option maxHeartbeats 1000000 in
theorem rH (w:World) (D:Nat→Prop) (m:Nat) (L:dN) (t:Option Addr) (u:Nat) (a:bL) (d:Option Addr) (P f:Nat) (r0:dN) (H:Own w D w [blk m [.slice t L.xb.ls.length u] 159,row t L.xb.ls.length u (List.flatMap eB L.xb.ls) 5 1]) (ae:P=a.au.ls.length) (n:Ro w D fun w'=>bD w' 1 d a.au.ls.length (List.flatMap (eI .i64) a.au.ls)) (bi:a.au.ls.length≤f∧a.au.ls.length≤9223372036854775807) (dB:L.xb.ls.length≤7000000000) (M:(a.bf≤18446744073709551615∧a.ay≤18446744073709551615∧a.aU≤18446744073709551615∧a.au.ls.length≤4)) (hr:mR L a=r0):
    Calls Tryz.prog 83 #[vP m 0, .agg #[vU a.bf,vI a.aQ,vU a.ay,vU a.aU, .slice d P f]] w (dW fun v w'=> ∃ (B0ox0:Option Addr) (b0ox0:Nat),v= .tuple #[]∧Own w D w' [blk m [.slice B0ox0 r0.xb.ls.length b0ox0] 159,row B0ox0 r0.xb.ls.length b0ox0 (List.flatMap eB r0.xb.ls) 5 1]∧(r0.xb.ls.length≤L.xb.ls.length+100)):=by
 subst ae
 have bn:=H.rowC (i:=1) rfl
 have bR:=M.1
 have bS:=M.2.1
 have bT:=M.2.2.1
 have bU:=M.2.2.2
 refine cb Tryz.func83 ?_
 refine sr ?_
 refine dP [vU a.bf,vI a.aQ,vU a.ay,vU a.aU, .slice d a.au.ls.length f] 60 H ?_
 intro r dC ay
 refine ns (Mz rfl (Kz (vP r 0) (Lz (vU a.bf) ay 0 Tryz.isAgg28 ?_)))
 have bq:=ay.pb [0]
 obtain⟨x,Q⟩:∃ q,bY L a.bf=q:=⟨_,rfl⟩
 obtain⟨dD,az,bV,aA,bW⟩:=Fv bq
 refine cl Tryz.call79 (dU _ _ m L t u a.bf x az (by first | omega | (dsimp only; omega) | (dsimp only [List.length_cons,List.length_nil]; omega)) Q) ?_
 rintro _ dE ⟨bu,bv,rfl,aB,R⟩
 have af:=aA _ _ aB
 have bX:=af.rowC (i:=1) rfl
 replace R:x.xb.ls.length≤L.xb.ls.length+10:=R
 refine ns (Mz rfl (Kz (vP r 1) (Lz (vI a.aQ) af 2 Tryz.isAgg3 ?_)))
 refine WL.do rfl (Fe Tryz.call77 rfl ?_ (fun _ _ k=>k))
 refine cb Tryz.func77 ?_
 refine EO (Mz rfl (Mz rfl ?_))
 have cu:Int.toNat (IntKind.u64.wrap a.aQ)≤18446744073709551615:=l7 _
 refine fw (vU (Int.toNat (IntKind.u64.wrap a.aQ))) (EQ (e:=IntKind.u64.wrap a.aQ) yk (fq _)) ?_
 obtain⟨z,S⟩:∃ q,bY x (Int.toNat (IntKind.u64.wrap a.aQ))=q:=⟨_,rfl⟩
 obtain⟨dG,aC,cz,aD,cB⟩:=Fv af
 refine cl Tryz.call79 (dU _ _ m x bu bv (Int.toNat (IntKind.u64.wrap a.aQ)) z aC (by first | omega | (dsimp only; omega) | (dsimp only [List.length_cons,List.length_nil]; omega)) S) ?_
 rintro _ dH ⟨bz,bA,rfl,aF,T⟩
 have N:=aD _ _ aF
 have cK:=N.rowC (i:=1) rfl
 replace T:z.xb.ls.length≤x.xb.ls.length+10:=T
 refine WL.nil (Ff (res0 rfl) (ns (Mz rfl (Kz (.func (.func 79) #[vP m 0] #[]) (Kz (vP r 2) (Lz (vU a.ay) N 2 Tryz.isAgg28 (Kz (vP r 3) (Lz (vU a.aU) N 2 Tryz.isAgg28 ?_))))))))
 refine kG [vU a.ay,vU a.aU] 28 1 2 N ?_
 intro o dI A
 replace A:=Fx (y:=row o 2 2 (List.flatMap (eN .u64) ([a.ay,a.aU])) 28 1) rfl A
 refine WL.do rfl (Fe Tryz.call78 rfl ?_ (fun _ _ k=>k))
 refine cb Tryz.func78 ?_
 refine sr (Mz rfl (Kz (vI 2) (Mn rfl (bo (Gh 200 (sr (Kz (.bool true) (nt (EP (jt (sk (EP (bo (sr ?_))))))))))))))
 have aG:([a.ay,a.aU]:List Nat)[0]? =some a.ay:=rfl
 refine fw (.pointer (some ⟨ab o,ao o+0 *1,none⟩)) (ET (sO) rfl rfl ((A.rds (i:=0) rfl).addr (i:=0) (by omega)) (by omega)) (fw (vU a.ay) (EY rfl (bZ.one Tryz.isAgg28 (((A.rds (i:=0) rfl).elem nV aG (by decide)).at_ (k:=0) rfl))) (An rfl (EO (Mz rfl (Mz rfl ?_)))))
 have bB:=A.pb [0,3]
 obtain⟨B,U⟩:∃ q,bY z a.ay=q:=⟨_,rfl⟩
 obtain⟨dJ,aH,cO,aI,cZ⟩:=Fv bB
 refine WL.do rfl (Fw Tryz.call79 rfl rfl (dU _ _ m z bz bA a.ay B aH (by first | omega | (dsimp only; omega) | (dsimp only [List.length_cons,List.length_nil]; omega)) U) ?_)
 rintro _ dL ⟨bC,bE,rfl,aJ,V⟩
 have O:=aI _ _ aJ
 have df:=O.rowC (i:=1) rfl
 replace V:B.xb.ls.length≤z.xb.ls.length+10:=V
 refine WL.nil (bN (ER (EO (Kz (vI 1) (Mz rfl (WL.nil (FR [(8,vI 1),(7,vI 2),(6, .slice o 2 2),(0, .func (.func 79) #[vP m 0] #[])] ⟨rfl,rfl,rfl,rfl,trivial⟩ (sr (Kz (.bool true) (nt (EP (jt (sk (EP (bo (sr ?_))))))))))))))))
 have aK:([a.ay,a.aU]:List Nat)[1]? =some a.aU:=rfl
 refine fw (.pointer (some ⟨ab o,ao o+1 *1,none⟩)) (ET (sO) rfl rfl ((O.rds (i:=2) rfl).addr (i:=1) (by omega)) (by omega)) (fw (vU a.aU) (EY rfl (bZ.one Tryz.isAgg28 (((O.rds (i:=2) rfl).elem nV aK (by decide)).at_ (k:=0) rfl))) (An rfl (EO (Mz rfl (Mz rfl ?_)))))
 obtain⟨C,W⟩:∃ q,bY B a.aU=q:=⟨_,rfl⟩
 obtain⟨dM,aL,dh,aM,di⟩:=Fv O
 refine WL.do rfl (Fw Tryz.call79 rfl rfl (dU _ _ m B bC bE a.aU C aL (by first | omega | (dsimp only; omega) | (dsimp only [List.length_cons,List.length_nil]; omega)) W) ?_)
 rintro _ dO ⟨bF,bG,rfl,aN,X⟩
 have aO:=aM _ _ aN
 have dm:=aO.rowC (i:=1) rfl
 replace X:C.xb.ls.length≤B.xb.ls.length+10:=X
 refine WL.nil (bN (ER (EO (Kz (vI 2) (Mz rfl (WL.nil (FR [(8,vI 2),(7,vI 2),(6, .slice o 2 2),(0, .func (.func 79) #[vP m 0] #[])] ⟨rfl,rfl,rfl,rfl,trivial⟩ (sr (Kz (.bool false) (nt (EP (jf (Wp.exit (EX (EX (Fg (Ff (res0 rfl) (nt ?_))))))))))))))))))
 have aP:=aO.pk [0,1,3]
 refine EO (Mz rfl (Kz (vP r 4) (Lz (.slice d a.au.ls.length f) aP 2 Tryz.isAgg58 (Mz rfl (Kz (.func (.func 77) #[vP m 0] #[]) ?_)))))
 refine WL.do rfl (Fe Tryz.call121 rfl ?_ (fun _ _ k=>k))
 refine cb Tryz.func121 ?_
 refine sr (Mz rfl (Mz rfl (Kz (vJ a.au.ls.length) ?_)))
 refine WL.do rfl (Fe Tryz.call77 rfl ?_ (fun _ _ k=>k))
 refine cb Tryz.func77 ?_
 refine EO (Mz rfl (Mz rfl (fw (vU a.au.ls.length) (EQ (e:=IntKind.u64.wrap ((a.au.ls.length:Nat):Int)) yk (IntWalk.u64_in _ (by omega))) ?_)))
 obtain⟨s,Y⟩:∃ q,bY C a.au.ls.length=q:=⟨_,rfl⟩
 obtain⟨dQ,aQ,dn,aR,dw⟩:=Fv aP
 refine cl Tryz.call79 (dU _ _ m C bF bG a.au.ls.length s aQ (by first | omega | (dsimp only; omega) | (dsimp only [List.length_cons,List.length_nil]; omega)) Y) ?_
 rintro _ dR ⟨bH,aS,rfl,aT,E⟩
 have aU:=aR _ _ aT
 have bI:=aU.rowC (i:=1) rfl
 replace E:s.xb.ls.length≤C.xb.ls.length+10:=E
 refine WL.nil (Ff (res0 rfl) (nt (EO (Mz rfl (Mz rfl ?_)))))
 refine WL.do rfl (Fe Tryz.call142 rfl ?_ (fun _ _ k=>k))
 refine cb Tryz.func142 ?_
 refine sr (Mz rfl (Kz (vJ a.au.ls.length) (Mn rfl (bo ?_))))
 have aV:=aU.pb [1]
 obtain⟨aW,p⟩:=rD fun(b:Nat) (h:Option Addr) (j:Nat) (c:List UInt8) (w':World)=>Own w D w' [blk m [.slice h c.length j] 159,blk r [vU a.bf,vI a.aQ,vU a.ay,vU a.aU, .slice d a.au.ls.length f] 60,row h c.length j (List.flatMap eB c) 5 1]∧b≤a.au.ls.length∧((c.length:Nat):Int)≤((s.xb.ls.length:Nat):Int)+10 *((b:Nat):Int)∧iM a.au.ls s.xb.ls=iM (List.drop b a.au.ls) c
 refine Wp.loop (fun i:Nat × (Option Addr) × Nat × (List UInt8)=> [(8,vJ i.1),(7,vJ a.au.ls.length),(6, .slice d a.au.ls.length f),(0, .func (.func 77) #[vP m 0] #[])]) aW (fun i=>a.au.ls.length - i.1) (0,bH,aS,s.xb.ls) ⟨rfl,rfl,rfl,rfl,trivial⟩ (p.2 ⟨aV,by omega,by omega,rfl⟩) ?_
 rintro ⟨b,h,j,c⟩ dx ag
 show Wp _ _ _ [(8,vJ b),(7,vJ a.au.ls.length),(6, .slice d a.au.ls.length f),(0, .func (.func 77) #[vP m 0] #[])] _ _
 obtain⟨l,bJ,bK,F⟩:=p.1 ag
 refine sr (Kz (.bool (decide (((b:Nat):Int) < ((a.au.ls.length:Nat):Int)))) (nt (EP ?_)))
 by_cases Z:((b:Nat):Int) < ((a.au.ls.length:Nat):Int)
 obtain⟨g,G⟩:=dK (ls:=a.au.ls) (i:=b) iJ (by decide) (l.ro n) (by first | omega | (simp; done) | (simp; omega))
 have ah:=drop_at G
 refine jT (dT Z) (sk (EP (bo (sr (fw (.pointer (some ⟨ab d,ao d+b *1,none⟩)) (ET (mQ) rfl rfl ((l.ro n).addr (i:=b) (by omega)) (by omega)) (fw (vI g) (EY rfl (bZ.one Tryz.isAgg3 (((l.ro n).elem iJ G (by decide)).at_ (k:=0) rfl))) (An rfl (EO (Mz rfl (Mz rfl ?_))))))))))
 refine WL.do rfl (Fw Tryz.call77 rfl rfl ?_ (fun _ _ k=>k))
 refine cb Tryz.func77 ?_
 refine EO (Mz rfl (Mz rfl ?_))
 have bM:Int.toNat (IntKind.u64.wrap g)≤18446744073709551615:=l7 _
 refine fw (vU (Int.toNat (IntKind.u64.wrap g))) (EQ (e:=IntKind.u64.wrap g) yk (fq _)) ?_
 have aX:=l.pb [1]
 obtain⟨I,J⟩:∃ q,bY (dN.mk (Ll.mk c)) (Int.toNat (IntKind.u64.wrap g))=q:=⟨_,rfl⟩
 obtain⟨dz,aj,bO,ak,bP⟩:=Fv aX
 refine cl Tryz.call79 (dU _ _ m (dN.mk (Ll.mk c)) h j (Int.toNat (IntKind.u64.wrap g)) I aj (by first | omega | (dsimp only; omega) | (dsimp only [List.length_cons,List.length_nil]; omega)) J) ?_
 rintro _ dA ⟨aY,aZ,rfl,au,K⟩
 have aa:=ak _ _ au
 have bQ:=aa.rowC (i:=1) rfl
 replace K:I.xb.ls.length≤c.length+10:=K
 refine WL.nil (Ff (res0 rfl) (WL.nil (bN (ER (EO (fw (vJ (b+1)) (EQ (e:=IntKind.i64.wrap (((b:Nat):Int)+1)) yk (by rw [IR _ (by omega)]; omega)) (Mz rfl (WL.nil ?_))))))))
 have bf:=aa.pb [1]
 exact E8 (b+1,aY,aZ,I.xb.ls) ⟨rfl,rfl,rfl,rfl,trivial⟩ (p.2 ⟨bf,by omega,by omega,et (F) (et (congrArg (fun q=>iM q c) ah) (ai J))⟩) (by show a.au.ls.length - (b+1) < a.au.ls.length - b; omega)
 refine jF (dF Z) (Wp.exit (EX ?_))
 have av:iM a.au.ls s.xb.ls=c:=et (F) (et (congrArg (fun q=>iM q c) (eD (ls:=a.au.ls) (i:=b) (by omega))) rfl)
 refine EX (Fg (Ff (res0 rfl) (WL.nil (Ff (res0 rfl) (WL.nil (Ff (res0 rfl) ?_))))))
 have bg:=l.pk [0,2]
 obtain rfl:_=dN.mk (Ll.mk c):=hr.symm.trans (et (ai Q) (et (ai S) (et (ai U) (et (ai W) (et (ai Y) (ai av))))))
 exact⟨h,j,rfl,bg,(by first | omega | (simp only [List.length_cons,List.length_nil,List.length_append]; omega))⟩
def jB:List aZ→List UInt8→(List UInt8)
  | [],b=>b
  | a::d,b=>bnd (nR (dN.mk (Ll.mk b)) (aZ.mk a.dZ a.aV (Ll.mk a.av.ls))) fun c=>jB d c.xb.ls
def oI (f:dN) (a:fG):dN:=
 bnd (bY f (Int.toNat (IntKind.u64.wrap a.aQ))) fun b=>bnd (bY b a.ay) fun c=>bnd (bY c a.aU) fun d=>bnd (bY d a.ah.ls.length) fun e=>bnd (jB a.ah.ls e.xb.ls) fun sLrbbbbL=>dN.mk (Ll.mk sLrbbbbL)
set_option maxHeartbeats 1000000 in
theorem tQ (w:World) (D:Nat→Prop) (l:Nat) (S:dN) (s:Option Addr) (t:Nat) (a:fG) (f:Option Addr) (W h:Nat) (p:List af) (r0:dN) (H:Own w D w [blk l [.slice s S.xb.ls.length t] 159,row s S.xb.ls.length t (List.flatMap eB S.xb.ls) 5 1]) (u:List.map af.abs p=a.ah.ls) (ay:W=a.ah.ls.length) (m:Ro w D fun w'=>bD w' 3 f a.ah.ls.length (List.flatMap af.cells p)) (bF:a.ah.ls.length≤h∧a.ah.ls.length≤9223372036854775807) (B:∀ x ∈ p,Ro w D (fun w'=>bD w' 2 x.av.A x.av.ls.length (List.flatMap aL.cells x.av.ls))∧(x.av.ls.length≤x.av.c∧x.av.ls.length≤9223372036854775807)) (dJ:S.xb.ls.length≤6000000000) (T:(a.ay≤18446744073709551615∧a.aU≤18446744073709551615∧a.ah.ls.length≤24∧∀ z ∈ a.ah.ls,z.aV.length≤16∧z.av.ls.length≤4∧∀ q ∈ z.av.ls,q.cu.length≤12∧q.aV.length≤16)) (hr:oI S a=r0):
    Calls Tryz.prog 85 #[vP l 0, .agg #[vI a.aQ,vU a.ay,vU a.aU, .slice f W h]] w (dW fun v w'=> ∃ (B0ox0:Option Addr) (b0ox0:Nat),v= .tuple #[]∧Own w D w' [blk l [.slice B0ox0 r0.xb.ls.length b0ox0] 159,row B0ox0 r0.xb.ls.length b0ox0 (List.flatMap eB r0.xb.ls) 5 1]∧(r0.xb.ls.length≤S.xb.ls.length+8000)):=by
 subst ay
 have bE:=aA u
 have bG:=H.rowC (i:=1) rfl
 have cz:=T.1
 have cB:=T.2.1
 have cK:=T.2.2.1
 refine cb Tryz.func85 ?_
 refine sr ?_
 refine dP [vI a.aQ,vU a.ay,vU a.aU, .slice f a.ah.ls.length h] 56 H ?_
 intro C dL aJ
 refine ns (Mz rfl (Kz (vP C 0) (Lz (vI a.aQ) aJ 0 Tryz.isAgg3 ?_)))
 refine WL.do rfl (Fe Tryz.call77 rfl ?_ (fun _ _ k=>k))
 refine cb Tryz.func77 ?_
 refine EO (Mz rfl (Mz rfl ?_))
 have cO:Int.toNat (IntKind.u64.wrap a.aQ)≤18446744073709551615:=l7 _
 refine fw (vU (Int.toNat (IntKind.u64.wrap a.aQ))) (EQ (e:=IntKind.u64.wrap a.aQ) yk (fq _)) ?_
 have bH:=aJ.pb [0]
 obtain⟨E,X⟩:∃ q,bY S (Int.toNat (IntKind.u64.wrap a.aQ))=q:=⟨_,rfl⟩
 obtain⟨dM,aK,cZ,aM,df⟩:=Fv bH
 refine cl Tryz.call79 (dU _ _ l S s t (Int.toNat (IntKind.u64.wrap a.aQ)) E aK (by first | omega | (dsimp only; omega) | (dsimp only [List.length_cons,List.length_nil]; omega)) X) ?_
 rintro _ dQ ⟨bI,bJ,rfl,aN,Y⟩
 have U:=aM _ _ aN
 have dh:=U.rowC (i:=1) rfl
 replace Y:E.xb.ls.length≤S.xb.ls.length+10:=Y
 refine WL.nil (Ff (res0 rfl) (ns (Mz rfl (Kz (.func (.func 79) #[vP l 0] #[]) (Kz (vP C 1) (Lz (vU a.ay) U 2 Tryz.isAgg28 (Kz (vP C 2) (Lz (vU a.aU) U 2 Tryz.isAgg28 ?_))))))))
 refine kG [vU a.ay,vU a.aU] 28 1 2 U ?_
 intro n dR F
 replace F:=Fx (y:=row n 2 2 (List.flatMap (eN .u64) ([a.ay,a.aU])) 28 1) rfl F
 refine WL.do rfl (Fe Tryz.call78 rfl ?_ (fun _ _ k=>k))
 refine cb Tryz.func78 ?_
 refine sr (Mz rfl (Kz (vI 2) (Mn rfl (bo (Gh 200 (sr (Kz (.bool true) (nt (EP (jt (sk (EP (bo (sr ?_))))))))))))))
 have aO:([a.ay,a.aU]:List Nat)[0]? =some a.ay:=rfl
 refine fw (.pointer (some ⟨ab n,ao n+0 *1,none⟩)) (ET (sO) rfl rfl ((F.rds (i:=0) rfl).addr (i:=0) (by omega)) (by omega)) (fw (vU a.ay) (EY rfl (bZ.one Tryz.isAgg28 (((F.rds (i:=0) rfl).elem nV aO (by decide)).at_ (k:=0) rfl))) (An rfl (EO (Mz rfl (Mz rfl ?_)))))
 have bK:=F.pb [0,3]
 obtain⟨G,Z⟩:∃ q,bY E a.ay=q:=⟨_,rfl⟩
 obtain⟨dS,aP,di,aQ,dm⟩:=Fv bK
 refine WL.do rfl (Fw Tryz.call79 rfl rfl (dU _ _ l E bI bJ a.ay G aP (by first | omega | (dsimp only; omega) | (dsimp only [List.length_cons,List.length_nil]; omega)) Z) ?_)
 rintro _ dV ⟨bL,bM,rfl,aR,aa⟩
 have V:=aQ _ _ aR
 have dn:=V.rowC (i:=1) rfl
 replace aa:G.xb.ls.length≤E.xb.ls.length+10:=aa
 refine WL.nil (bN (ER (EO (Kz (vI 1) (Mz rfl (WL.nil (FR [(8,vI 1),(7,vI 2),(6, .slice n 2 2),(0, .func (.func 79) #[vP l 0] #[])] ⟨rfl,rfl,rfl,rfl,trivial⟩ (sr (Kz (.bool true) (nt (EP (jt (sk (EP (bo (sr ?_))))))))))))))))
 have aS:([a.ay,a.aU]:List Nat)[1]? =some a.aU:=rfl
 refine fw (.pointer (some ⟨ab n,ao n+1 *1,none⟩)) (ET (sO) rfl rfl ((V.rds (i:=2) rfl).addr (i:=1) (by omega)) (by omega)) (fw (vU a.aU) (EY rfl (bZ.one Tryz.isAgg28 (((V.rds (i:=2) rfl).elem nV aS (by decide)).at_ (k:=0) rfl))) (An rfl (EO (Mz rfl (Mz rfl ?_)))))
 obtain⟨I,ae⟩:∃ q,bY G a.aU=q:=⟨_,rfl⟩
 obtain⟨dX,aT,dw,aU,dx⟩:=Fv V
 refine WL.do rfl (Fw Tryz.call79 rfl rfl (dU _ _ l G bL bM a.aU I aT (by first | omega | (dsimp only; omega) | (dsimp only [List.length_cons,List.length_nil]; omega)) ae) ?_)
 rintro _ dY ⟨bO,bP,rfl,aW,ag⟩
 have aX:=aU _ _ aW
 have dz:=aX.rowC (i:=1) rfl
 replace ag:I.xb.ls.length≤G.xb.ls.length+10:=ag
 refine WL.nil (bN (ER (EO (Kz (vI 2) (Mz rfl (WL.nil (FR [(8,vI 2),(7,vI 2),(6, .slice n 2 2),(0, .func (.func 79) #[vP l 0] #[])] ⟨rfl,rfl,rfl,rfl,trivial⟩ (sr (Kz (.bool false) (nt (EP (jf (Wp.exit (EX (EX (Fg (Ff (res0 rfl) (nt ?_))))))))))))))))))
 have aY:=aX.pk [0,1,3]
 refine EO (Mz rfl (Kz (vP C 3) (Lz (.slice f a.ah.ls.length h) aY 2 Tryz.isAgg40 (Mz rfl (Kz (.func (.func 124) #[vP l 0] #[]) ?_)))))
 refine WL.do rfl (Fe Tryz.call123 rfl ?_ (fun _ _ k=>k))
 refine cb Tryz.func123 ?_
 refine sr (Mz rfl (Mz rfl (Kz (vJ a.ah.ls.length) ?_)))
 refine WL.do rfl (Fe Tryz.call77 rfl ?_ (fun _ _ k=>k))
 refine cb Tryz.func77 ?_
 refine EO (Mz rfl (Mz rfl (fw (vU a.ah.ls.length) (EQ (e:=IntKind.u64.wrap ((a.ah.ls.length:Nat):Int)) yk (IntWalk.u64_in _ (by omega))) ?_)))
 obtain⟨r,ah⟩:∃ q,bY I a.ah.ls.length=q:=⟨_,rfl⟩
 obtain⟨dZ,bf,dA,bg,dB⟩:=Fv aY
 refine cl Tryz.call79 (dU _ _ l I bO bP a.ah.ls.length r bf (by first | omega | (dsimp only; omega) | (dsimp only [List.length_cons,List.length_nil]; omega)) ah) ?_
 rintro _ d9 ⟨bQ,bR,rfl,bi,aj⟩
 have bn:=bg _ _ bi
 have dC:=bn.rowC (i:=1) rfl
 replace aj:r.xb.ls.length≤I.xb.ls.length+10:=aj
 refine WL.nil (Ff (res0 rfl) (nt (EO (Mz rfl (Mz rfl ?_)))))
 refine WL.do rfl (Fe Tryz.call143 rfl ?_ (fun _ _ k=>k))
 refine cb Tryz.func143 ?_
 refine sr (Mz rfl (Kz (vJ a.ah.ls.length) (Mn rfl (bo ?_))))
 have bS:=bn.pb [1]
 obtain⟨bT,J⟩:=rD fun(d:Nat) (K:Option Addr) (L:Nat) (g:List UInt8) (w':World)=>Own w D w' [blk l [.slice K g.length L] 159,blk C [vI a.aQ,vU a.ay,vU a.aU, .slice f a.ah.ls.length h] 56,row K g.length L (List.flatMap eB g) 5 1]∧d≤a.ah.ls.length∧((g.length:Nat):Int)≤((r.xb.ls.length:Nat):Int)+300 *((d:Nat):Int)∧jB a.ah.ls r.xb.ls=jB (List.drop d a.ah.ls) g
 refine Wp.loop (fun i:Nat × (Option Addr) × Nat × (List UInt8)=> [(8,vJ i.1),(7,vJ a.ah.ls.length),(6, .slice f a.ah.ls.length h),(0, .func (.func 124) #[vP l 0] #[])]) bT (fun i=>a.ah.ls.length - i.1) (0,bQ,bR,r.xb.ls) ⟨rfl,rfl,rfl,rfl,trivial⟩ (J.2 ⟨bS,by omega,by omega,rfl⟩) ?_
 rintro ⟨d,K,L,g⟩ ed bq
 show Wp _ _ _ [(8,vJ d),(7,vJ a.ah.ls.length),(6, .slice f a.ah.ls.length h),(0, .func (.func 124) #[vP l 0] #[])] _ _
 obtain⟨M,bU,bV,N⟩:=J.1 bq
 refine sr (Kz (.bool (decide (((d:Nat):Int) < ((a.ah.ls.length:Nat):Int)))) (nt (EP ?_)))
 by_cases ak:((d:Nat):Int) < ((a.ah.ls.length:Nat):Int)
 obtain⟨b,j⟩:=dK (ls:=p) (i:=d) af.len (by decide) (M.ro m) (by first | omega | (simp; done) | (simp; omega))
 have O:=eQ u j
 have bW:=(B _ (List.mem_of_getElem? j)).2
 have o:List.length (af.abs b).aV≤16∧List.length (af.abs b).av.ls≤4∧∀ q ∈ (af.abs b).av.ls,q.cu.length≤12∧q.aV.length≤16:=T.2.2.2 _ (List.mem_of_getElem? O)
 have hz108p0:b.aV.length≤16:=by have q9:=o.1; first | exact q9 | (simp only [af.abs,List.length_map] at q9; exact q9)
 have hz108p1:b.av.ls.length≤4:=by have q9:=o.2.1; first | exact q9 | (simp only [af.abs,List.length_map] at q9; exact q9)
 have aB:=drop_at O
 refine jT (dT ak) (sk (EP (bo (sr (fw (.pointer (some ⟨ab f,ao f+d *3,none⟩)) (ET (rf) rfl rfl ((M.ro m).addr (i:=d) (by omega)) (by omega)) (fw (.agg (af.cells b).toArray) (EY rfl (Fb (cs:=(af.cells b)) Tryz.isAgg149 Tryz.sizeOf149 ((M.ro m).elem af.len j (by decide)))) ?_))))))
 refine dP [.bool false, .string ⟨List.toArray ([])⟩, .slice none 0 0] 149 M ?_
 intro dD dE bu
 refine dO (af.cells b) 0 bu Tryz.sizeOf149 ?_
 intro dG au
 refine nt (EO (Mz rfl (La (af.cells b) au 0 Tryz.isAgg149 Tryz.sizeOf149 ?_)))
 have bv:=au.pb [0,2]
 obtain⟨P,Q⟩:∃ q,nR (dN.mk (Ll.mk g)) (aZ.mk b.dZ b.aV (Ll.mk b.av.ls))=q:=⟨_,rfl⟩
 obtain⟨dH,aC,aD,aF,bX⟩:=Fv bv
 refine WL.do rfl (Fw Tryz.call124 rfl rfl (sG _ _ l (dN.mk (Ll.mk g)) K L (aZ.mk b.dZ b.aV (Ll.mk b.av.ls)) b.av.A b.av.ls.length b.av.c P aC rfl (aD _ (B _ (List.mem_of_getElem? j)).1) (show b.av.ls.length≤b.av.c∧b.av.ls.length≤9223372036854775807 from by omega) (by first | omega | (dsimp only; omega) | (dsimp only [List.length_cons,List.length_nil]; omega)) (by exact o) Q) ?_)
 rintro _ dI ⟨bz,bA,rfl,aG,R⟩
 have ax:=aF _ _ aG
 have cu:=ax.rowC (i:=1) rfl
 replace R:P.xb.ls.length≤g.length+300:=R
 refine WL.nil (bN (ER (EO (fw (vJ (d+1)) (EQ (e:=IntKind.i64.wrap (((d:Nat):Int)+1)) yk (by rw [IR _ (by omega)]; omega)) (Mz rfl (WL.nil ?_))))))
 have bB:=ax.pk [0,3,1]
 exact E8 (d+1,bz,bA,P.xb.ls) ⟨rfl,rfl,rfl,rfl,trivial⟩ (J.2 ⟨bB,by omega,by omega,et (N) (et (congrArg (fun q=>jB q g) aB) (ai Q))⟩) (by show a.ah.ls.length - (d+1) < a.ah.ls.length - d; omega)
 refine jF (dF ak) (Wp.exit (EX ?_))
 have aH:jB a.ah.ls r.xb.ls=g:=et (N) (et (congrArg (fun q=>jB q g) (eD (ls:=a.ah.ls) (i:=d) (by omega))) rfl)
 refine EX (Fg (Ff (res0 rfl) (WL.nil (Ff (res0 rfl) (WL.nil (Ff (res0 rfl) ?_))))))
 have bC:=M.pk [0,2]
 obtain rfl:_=dN.mk (Ll.mk g):=hr.symm.trans (et (ai X) (et (ai Z) (et (ai ae) (et (ai ah) (ai aH)))))
 exact⟨K,L,rfl,bC,(by first | omega | (simp only [List.length_cons,List.length_nil,List.length_append]; omega))⟩
end Go.Proofs.YtbkagebjhbphaaaGreat
