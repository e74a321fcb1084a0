/-
 record: what is written.
-/
import Derived.Test.YtcnkpjheifkgnaaGreatRcA
namespace Go.Proofs.YtcnkpjheifkgnaaGreat
set_option maxRecDepth 100000
open Go.RowKit
set_option linter.unusedVariables false
set_option linter.unusedSectionVars false
set_option linter.unusedSimpArgs false
def jm:Nat→Nat→List UInt8→Nat × (List UInt8)
  | 0,a,b=>default
  | c+1,a,b=>if((a:Nat):Int) ≥ 128 then jm c (a / 128) (b++ [((UInt8.ofNat a) ||| (128:UInt8))]) else(a,b)
def bE (a:Nat):(List UInt8):=
 bnd (jm (a+1) a ([])) fun sLrL=>(sLrL.2++ [(UInt8.ofNat sLrL.1)])
theorem qC (w:World) (D:Nat→Prop) (c:Nat) (n:List UInt8) (H:Own w D w []) (t:c≤18446744073709551615) (hr:bE c=n):
    Calls Tryz.prog 68 #[.int .u64 ((c:Nat):Int)] w (dE fun v w'=> ∃ (V:Option Addr) (W:Nat),v= .slice V n.length W∧Own w D w' [row V n.length W (List.flatMap eB n) 5 1]∧(1≤n.length∧n.length≤10)∧(c ≥ 128∨n.length=1)):=by
 refine Ce (args:= [.int .u64 ((c:Nat):Int)]) Tryz.func68 rfl rfl rfl ?_
 show Wp _ _ _ [(0, .int .u64 ((c:Nat):Int))] _ _
 refine sr (Ar rfl ?_)
 refine WL.do rfl (El (m:=10) (size:=1) (bytes:=1) (z:= .int .u8 0) Tryz.underlying37 (by kernel_rfl) H rfl rfl (by omega) (by unfold maxLen; omega) ?_)
 intro I ah J
 refine An rfl (BS (bo ?_))
 have K:=J.pk [0]
 obtain⟨u,x⟩:∃ q:(Nat × (Option Addr) × Nat × (List UInt8) × Nat)→World→Prop,q=fun(i:Nat × (Option Addr) × Nat × (List UInt8) × Nat) w'=>Own w D w' [row i.2.1 i.2.2.2.1.length i.2.2.1 (List.flatMap eB i.2.2.2.1) 5 1]∧(kz i.2.2.2.1.length i.1∧i.2.2.2.1.length≤9∧(c ≥ 128∨(i.2.2.2.1.length=0∧i.1=c))∧i.1 < i.2.2.2.2∧jm (c+1) c ([])=jm i.2.2.2.2 i.1 i.2.2.2.1):=⟨_,rfl⟩
 have f:∀ {a:Nat} {g:Option Addr} {h:Nat} {b:List UInt8} {d:Nat} {w':World},u (a,g,h,b,d) w'↔Own w D w' [row g b.length h (List.flatMap eB b) 5 1]∧kz b.length a∧b.length≤9∧(c ≥ 128∨(b.length=0∧a=c))∧a < d∧jm (c+1) c ([])=jm d a b:=by intros; subst x; exact Iff.rfl
 refine Wp.loop (fun i:Nat × (Option Addr) × Nat × (List UInt8) × Nat=> [(0, .int .u64 ((i.1:Nat):Int)),(3, .slice i.2.1 i.2.2.2.1.length i.2.2.1),(2, .slice none 0 0)]) u (fun i=>i.2.2.2.2) (c,I,10, [],c+1) ⟨rfl,rfl,rfl,trivial⟩ (f.2 ⟨K,(show kz (0) c∧0≤9∧(c ≥ 128∨(0=0∧c=c))∧c < (c+1)∧jm (c+1) c ([])=jm (c+1) c ([]) from ⟨by first | exact kz.zero t | exact kz.step (by assumption) (by simp only [List.length_append,List.length_cons,List.length_nil]),by first | exact EM _ | (have q9:=kz.le (by assumption) (by omega); simp only [List.length_append,List.length_cons,List.length_nil]; omega),by omega,by omega,rfl⟩)⟩) ?_
 rintro ⟨a,g,h,b,d⟩ aj A
 show Wp _ _ _ [(0, .int .u64 ((a:Nat):Int)),(3, .slice g b.length h),(2, .slice none 0 0)] _ _
 obtain⟨B,X,Y,Z,aa,l⟩:=f.1 A
 obtain⟨o,C⟩:∃ q,d=q+1:=⟨d - 1,by omega⟩
 subst C
 refine BS (sr (Mz rfl (Kz (.bool (decide (((a:Nat):Int) ≥ 128))) (nt ?_))))
 by_cases j:((a:Nat):Int) ≥ 128
 refine jT (dT j) (sk (bo (sr (Mz rfl (Mz rfl (fw (.int .u8 (((UInt8.ofNat a).toNat:Nat):Int)) (Ci (e:=IntKind.u8.wrap ((a:Nat):Int)) yk (ol _)) (fw (.int .u8 ((((UInt8.ofNat a) ||| (128:UInt8)).toNat:Nat):Int)) (Ci (e:=IntKind.u8.wrap (((BitVec.ofInt 8 (((UInt8.ofNat a).toNat:Nat):Int) ||| BitVec.ofInt 8 128).toNat:Nat):Int)) yk (u8_or (UInt8.ofNat a) (128:UInt8))) ?_)))))))
 refine ji [.int .u8 ((((UInt8.ofNat a) ||| (128:UInt8)).toNat:Nat):Int)] 5 1 1 B ?_
 intro L ak p
 replace p:=CG (y:=row L 1 1 (List.flatMap eB ([((UInt8.ofNat a) ||| (128:UInt8))])) 5 1) rfl p
 have E:=p.pk [1,0]
 refine WL.do rfl (CU (k:=b.length) (m:=1) (kV) E rfl rfl (j5 Tryz.underlying37 (E.rds (i:=1) rfl) (ja mi ([((UInt8.ofNat a) ||| (128:UInt8))]))) rfl (by omega) (s:=List.length (b++ [((UInt8.ofNat a) ||| (128:UInt8))])) (by first | omega | (simp only [List.length_append,List.length_cons,List.length_nil] <;> omega)) (List.flatMap_append).symm ?_)
 intro M N au O
 have ae:List.length (b++ [((UInt8.ofNat a) ||| (128:UInt8))])=b.length+1:=by simp only [List.length_append,List.length_cons,List.length_nil]
 refine An rfl (BR (Mz rfl (fw (.int .u64 ((a / 128:Nat):Int)) (Ci (e:=Int.fdiv ((a:Nat):Int) 128) yk (yn _ 7 _ (by decide))) (Az rfl (Cf (bN ?_))))))
 have P:=O.pk [0]
 exact Cm (a / 128,M,N,(b++ [((UInt8.ofNat a) ||| (128:UInt8))]),o) ⟨rfl,rfl,rfl,trivial⟩ (f.2 ⟨P,by first | exact kz.zero t | exact kz.step (by assumption) (by simp only [List.length_append,List.length_cons,List.length_nil]),by first | exact EM _ | (have q9:=kz.le (by assumption) (by omega); simp only [List.length_append,List.length_cons,List.length_nil]; omega),by omega,by omega,Eq.trans (l) (if_pos j)⟩) (by show o < o+1; omega)
 refine jF (dF j) (Wp.exit (Cb ?_))
 have F:jm (c+1) c ([])=(a,b):=et (l) (iN j)
 refine Cb (Cn (Ca (sr (Mz rfl (Mz rfl (fw (.int .u8 (((UInt8.ofNat a).toNat:Nat):Int)) (Ci (e:=IntKind.u8.wrap ((a:Nat):Int)) yk (ol _)) ?_))))))
 refine ji [.int .u8 (((UInt8.ofNat a).toNat:Nat):Int)] 5 1 1 B ?_
 intro Q av r
 replace r:=CG (y:=row Q 1 1 (List.flatMap eB ([(UInt8.ofNat a)])) 5 1) rfl r
 have G:=r.pk [1,0]
 refine WL.do rfl (CU (k:=b.length) (m:=1) (kV) G rfl rfl (j5 Tryz.underlying37 (G.rds (i:=1) rfl) (ja mi ([(UInt8.ofNat a)]))) rfl (by omega) (s:=List.length (b++ [(UInt8.ofNat a)])) (by first | omega | (simp only [List.length_append,List.length_cons,List.length_nil] <;> omega)) (List.flatMap_append).symm ?_)
 intro R S ax T
 have af:List.length (b++ [(UInt8.ofNat a)])=b.length+1:=by simp only [List.length_append,List.length_cons,List.length_nil]
 refine An rfl (rt (rs ?_))
 have U:=T.pk [0]
 obtain rfl:_=(b++ [(UInt8.ofNat a)]):=hr.symm.trans (ag F)
 exact⟨R,S,rfl,U,(by first | omega | (simp only [List.length_cons,List.length_nil,List.length_append]; omega)),(by first | omega | (simp only [List.length_cons,List.length_nil,List.length_append]; omega))⟩
def dG (b:List UInt8):(List UInt8):=
 bnd (bE b.length) fun a=>(a++b)
theorem tN (w:World) (D:Nat→Prop) (a:List UInt8) (g:List UInt8) (H:Own w D w []) (C:a.length≤140737488351232) (hr:dG a=g):
    Calls Tryz.prog 73 #[.string ⟨List.toArray a⟩] w (dE fun v w'=> ∃ (u:Option Addr) (x:Nat),v= .slice u g.length x∧Own w D w' [row u g.length x (List.flatMap eB g) 5 1]∧(g.length≤a.length+10)∧(a.length ≥ 128∨g.length=a.length+1)):=by
 refine Ce (args:= [.string ⟨List.toArray a⟩]) Tryz.func73 rfl rfl rfl ?_
 show Wp _ _ _ [(0, .string ⟨List.toArray a⟩)] _ _
 refine sr (Ar rfl (Mz rfl (Kz (.int .i64 ((a.length:Nat):Int)) (fw (.int .u64 ((a.length:Nat):Int)) (Ci (e:=IntKind.u64.wrap ((a.length:Nat):Int)) yk (IntWalk.u64_in _ (by omega))) ?_))))
 obtain⟨b,c⟩:∃ q,bE a.length=q:=⟨_,rfl⟩
 obtain⟨E,h,y,j,z⟩:=Ck H
 refine cl Tryz.call68 (qC _ _ a.length b h (by omega) c) ?_
 rintro _ F ⟨G,I,rfl,l,d,f⟩
 have n:=j _ _ l
 have A:=n.rowC (i:=0) rfl
 replace d:1≤b.length∧b.length≤10:=d
 replace f:a.length ≥ 128∨b.length=1:=f
 refine Mz rfl ?_
 refine WL.do rfl (CU (k:=b.length) (m:=a.length) (kV) n rfl rfl (uN Tryz.underlying9 rfl) rfl (by omega) (s:=List.length (b++a)) (by first | omega | (simp only [List.length_append,List.length_cons,List.length_nil] <;> omega)) (List.flatMap_append).symm ?_)
 intro o p J r
 have B:List.length (b++a)=b.length+a.length:=by simp only [List.length_append,List.length_cons,List.length_nil]
 refine An rfl (rt (rs ?_))
 have t:=r.pk [0]
 obtain rfl:_=(b++a):=hr.symm.trans (ag c)
 exact⟨o,p,rfl,t,(by first | omega | (simp only [List.length_cons,List.length_nil,List.length_append]; omega)),(by first | omega | (simp only [List.length_cons,List.length_nil,List.length_append]; omega))⟩
def aJ (b:aW) (p1:Nat):aW:=
 bnd (bE p1) fun a=>aW.mk (Ll.mk (b.xb.ls++a))
theorem bg (w:World) (D:Nat→Prop) (e:Nat) (d:aW) (b:Option Addr) (c:Nat) (p1:Nat) (l:aW) (H:Own w D w [blk e [.slice b d.xb.ls.length c] 57,row b d.xb.ls.length c (List.flatMap eB d.xb.ls) 5 1]) (L:d.xb.ls.length≤9000000000∧p1≤18446744073709551615) (hr:aJ d p1=l):
    Calls Tryz.prog 21 #[.pointer (some ⟨e,0,none⟩), .int .u64 ((p1:Nat):Int)] w (dE fun v w'=> ∃ (B0ox0:Option Addr) (b0ox0:Nat),v= .tuple #[]∧Own w D w' [blk e [.slice B0ox0 l.xb.ls.length b0ox0] 57,row B0ox0 l.xb.ls.length b0ox0 (List.flatMap eB l.xb.ls) 5 1]∧(l.xb.ls.length≤d.xb.ls.length+10)):=by
 have A:=H.rowC (i:=1) rfl
 refine Ce (args:= [.pointer (some ⟨e,0,none⟩), .int .u64 ((p1:Nat):Int)]) Tryz.func21 rfl rfl rfl ?_
 show Wp _ _ _ [(0, .pointer (some ⟨e,0,none⟩)),(1, .int .u64 ((p1:Nat):Int))] _ _
 have f:=H.drew
 refine CP [7,10] (fun W=> ∃ L',Own w D W ([blk e [.slice b d.xb.ls.length c] 57,row b d.xb.ls.length c (List.flatMap eB d.xb.ls) 5 1]++L')) (by kernel_rfl) (by kernel_rfl) CR ⟨_,f⟩ ?_
 revert f
 generalize World.drew w=M
 intro f
 refine Dj (v:= .pointer (some ⟨e,0,none⟩)) 0 rfl (by kernel_rfl) (fun _=>BX rfl) (GX.take (v:= .pointer (some ⟨e,0,none⟩)) (rs:= [[4,3,2], []]) 1 rfl (by kernel_rfl) (fun _ _=>BX rfl) (GX.take (v:= .pointer (some ⟨e,0,none⟩)) (rs:= [[4,3], []]) 2 rfl (by kernel_rfl) (fun _ _=>yk) (GX.take (v:= .pointer (some ⟨e,0,none⟩)) (rs:= [[4], []]) 3 rfl (by kernel_rfl) (fun _ _=>yk) (GX.take (v:= .slice b d.xb.ls.length c) (rs:= [[], []]) 4 rfl (by kernel_rfl) (fun _ ⟨_,N⟩=>Cc rfl (bi.one Tryz.isAgg37 (Cv (N.cls (i:=0) rfl) rfl))) (GX.take (v:= .int .u64 ((p1:Nat):Int)) (rs:= [[6], []]) 5 rfl (by kernel_rfl) (fun _ _=>BX rfl) ?_)))))
 obtain⟨a,g⟩:∃ q,bE p1=q:=⟨_,rfl⟩
 obtain⟨O,n,G,p,I⟩:=Ck f
 refine GX.do 6 rfl (by kernel_rfl) (Cq Tryz.call68 rfl (qC _ _ p1 a n (by omega) g) ?_)
 rintro _ P ⟨Q,R,rfl,r,h,j⟩
 have t:=p _ _ r
 have J:=t.rowC (i:=0) rfl
 replace h:1≤a.length∧a.length≤10:=h
 replace j:p1 ≥ 128∨a.length=1:=j
 have u:=t.pk [1,2,0]
 refine⟨.inr ⟨_,u⟩, ?_⟩
 have x:=u.pk [1,0,2]
 refine GX.do 7 rfl (by kernel_rfl) (CU (k:=d.xb.ls.length) (m:=a.length) (kV) x rfl rfl (j5 Tryz.underlying37 (x.rds (i:=2) rfl) (ja mi a)) rfl (by omega) (s:=List.length (d.xb.ls++a)) (by first | omega | (simp only [List.length_append,List.length_cons,List.length_nil] <;> omega)) (List.flatMap_append).symm ?_)
 intro y z S B
 have K:List.length (d.xb.ls++a)=d.xb.ls.length+a.length:=by simp only [List.length_append,List.length_cons,List.length_nil]
 refine⟨.inl (by kernel_rfl), ?_⟩
 refine Dj (v:= .pointer (some ⟨e,0,none⟩)) 8 rfl (by kernel_rfl) (fun _=>yk) (Dj (v:= .pointer (some ⟨e,0,none⟩)) 9 rfl (by kernel_rfl) (fun _=>yk) ?_)
 have C:=B.pk [1,0,2]
 refine Ec 10 rfl (by kernel_rfl) (Do.store (vs:= [.slice y (List.length (d.xb.ls++a)) z]) (o:=0) C rfl rfl Tryz.sizeOf37 rfl rfl rfl rfl ?_)
 intro T E
 refine⟨.inl (by kernel_rfl), ?_⟩
 refine Cx (by kernel_rfl) (Cw (res0 rfl) ?_)
 have F:=E.pk [0,1]
 obtain rfl:_=aW.mk (Ll.mk (d.xb.ls++a)):=hr.symm.trans (ag g)
 exact⟨y,z,rfl,F,(by first | omega | (simp only [List.length_cons,List.length_nil,List.length_append]; omega))⟩
def bO (b:aW) (p1:List UInt8):aW:=
 bnd (dG p1) fun a=>aW.mk (Ll.mk (b.xb.ls++a))
theorem eY (w:World) (D:Nat→Prop) (e:Nat) (d:aW) (b:Option Addr) (c:Nat) (p1:List UInt8) (l:aW) (H:Own w D w [blk e [.slice b d.xb.ls.length c] 57,row b d.xb.ls.length c (List.flatMap eB d.xb.ls) 5 1]) (L:d.xb.ls.length≤9000000000∧p1.length≤16) (hr:bO d p1=l):
    Calls Tryz.prog 28 #[.pointer (some ⟨e,0,none⟩), .string ⟨List.toArray p1⟩] w (dE fun v w'=> ∃ (B0ox0:Option Addr) (b0ox0:Nat),v= .tuple #[]∧Own w D w' [blk e [.slice B0ox0 l.xb.ls.length b0ox0] 57,row B0ox0 l.xb.ls.length b0ox0 (List.flatMap eB l.xb.ls) 5 1]∧(l.xb.ls.length≤d.xb.ls.length+26)):=by
 have A:=H.rowC (i:=1) rfl
 refine Ce (args:= [.pointer (some ⟨e,0,none⟩), .string ⟨List.toArray p1⟩]) Tryz.func28 rfl rfl rfl ?_
 show Wp _ _ _ [(0, .pointer (some ⟨e,0,none⟩)),(1, .string ⟨List.toArray p1⟩)] _ _
 have f:=H.drew
 refine CP [7,10] (fun W=> ∃ L',Own w D W ([blk e [.slice b d.xb.ls.length c] 57,row b d.xb.ls.length c (List.flatMap eB d.xb.ls) 5 1]++L')) (by kernel_rfl) (by kernel_rfl) CR ⟨_,f⟩ ?_
 revert f
 generalize World.drew w=M
 intro f
 refine Dj (v:= .pointer (some ⟨e,0,none⟩)) 0 rfl (by kernel_rfl) (fun _=>BX rfl) (GX.take (v:= .pointer (some ⟨e,0,none⟩)) (rs:= [[4,3,2], []]) 1 rfl (by kernel_rfl) (fun _ _=>BX rfl) (GX.take (v:= .pointer (some ⟨e,0,none⟩)) (rs:= [[4,3], []]) 2 rfl (by kernel_rfl) (fun _ _=>yk) (GX.take (v:= .pointer (some ⟨e,0,none⟩)) (rs:= [[4], []]) 3 rfl (by kernel_rfl) (fun _ _=>yk) (GX.take (v:= .slice b d.xb.ls.length c) (rs:= [[], []]) 4 rfl (by kernel_rfl) (fun _ ⟨_,N⟩=>Cc rfl (bi.one Tryz.isAgg37 (Cv (N.cls (i:=0) rfl) rfl))) (GX.take (v:= .string ⟨List.toArray p1⟩) (rs:= [[6], []]) 5 rfl (by kernel_rfl) (fun _ _=>BX rfl) ?_)))))
 obtain⟨a,g⟩:∃ q,dG p1=q:=⟨_,rfl⟩
 obtain⟨O,n,G,p,I⟩:=Ck f
 refine GX.do 6 rfl (by kernel_rfl) (Cq Tryz.call73 rfl (tN _ _ p1 a n (by omega) g) ?_)
 rintro _ P ⟨Q,R,rfl,r,h,j⟩
 have t:=p _ _ r
 have J:=t.rowC (i:=0) rfl
 replace h:a.length≤p1.length+10:=h
 replace j:p1.length ≥ 128∨a.length=p1.length+1:=j
 have u:=t.pk [1,2,0]
 refine⟨.inr ⟨_,u⟩, ?_⟩
 have x:=u.pk [1,0,2]
 refine GX.do 7 rfl (by kernel_rfl) (CU (k:=d.xb.ls.length) (m:=a.length) (kV) x rfl rfl (j5 Tryz.underlying37 (x.rds (i:=2) rfl) (ja mi a)) rfl (by omega) (s:=List.length (d.xb.ls++a)) (by first | omega | (simp only [List.length_append,List.length_cons,List.length_nil] <;> omega)) (List.flatMap_append).symm ?_)
 intro y z S B
 have K:List.length (d.xb.ls++a)=d.xb.ls.length+a.length:=by simp only [List.length_append,List.length_cons,List.length_nil]
 refine⟨.inl (by kernel_rfl), ?_⟩
 refine Dj (v:= .pointer (some ⟨e,0,none⟩)) 8 rfl (by kernel_rfl) (fun _=>yk) (Dj (v:= .pointer (some ⟨e,0,none⟩)) 9 rfl (by kernel_rfl) (fun _=>yk) ?_)
 have C:=B.pk [1,0,2]
 refine Ec 10 rfl (by kernel_rfl) (Do.store (vs:= [.slice y (List.length (d.xb.ls++a)) z]) (o:=0) C rfl rfl Tryz.sizeOf37 rfl rfl rfl rfl ?_)
 intro T E
 refine⟨.inl (by kernel_rfl), ?_⟩
 refine Cx (by kernel_rfl) (Cw (res0 rfl) ?_)
 have F:=E.pk [0,1]
 obtain rfl:_=aW.mk (Ll.mk (d.xb.ls++a)):=hr.symm.trans (ag g)
 exact⟨y,z,rfl,F,(by first | omega | (simp only [List.length_cons,List.length_nil,List.length_append]; omega))⟩
def jv (c:aW) (p1:aL):aW:=
 bnd (bO c p1.aK) fun a=>bnd (aJ a (Int.toNat (IntKind.u64.wrap p1.bV))) fun b=>b
set_option maxHeartbeats 1000000 in
theorem mG (w:World) (D:Nat→Prop) (d:Nat) (f:aW) (a:Option Addr) (b:Nat) (p1:aL) (o:aW) (H:Own w D w [blk d [.slice a f.xb.ls.length b] 57,row a f.xb.ls.length b (List.flatMap eB f.xb.ls) 5 1]) (R:f.xb.ls.length≤8000000000) (S:(p1.aK.length≤12)) (hr:jv f p1=o):
    Calls Tryz.prog 23 #[.pointer (some ⟨d,0,none⟩), .agg (aL.cells p1).toArray] w (dE fun v w'=> ∃ (B0ox0:Option Addr) (b0ox0:Nat),v= .tuple #[]∧Own w D w' [blk d [.slice B0ox0 o.xb.ls.length b0ox0] 57,row B0ox0 o.xb.ls.length b0ox0 (List.flatMap eB o.xb.ls) 5 1]∧(o.xb.ls.length≤f.xb.ls.length+40)):=by
 have B:=H.rowC (i:=1) rfl
 refine Ce (args:= [.pointer (some ⟨d,0,none⟩), .agg (aL.cells p1).toArray]) Tryz.func23 rfl rfl rfl ?_
 show Wp _ _ _ [(0, .pointer (some ⟨d,0,none⟩)),(1, .agg (aL.cells p1).toArray)] _ _
 refine sr ?_
 refine dB (aL.cells p1) 54 H ?_
 intro p T r
 refine ns (Mz rfl (Kz (.pointer (some ⟨p,0,none⟩)) (Lz (.string ⟨List.toArray p1.aK⟩) r 0 Tryz.isAgg9 ?_)))
 have C:=r.pk [1,2,0]
 obtain⟨c,g⟩:∃ q,bO f p1.aK=q:=⟨_,rfl⟩
 obtain⟨U,s,K,t,L⟩:=Ct C
 refine cl Tryz.call28 (eY _ _ d f a b p1.aK c s (by first | omega | (dsimp only; omega) | (dsimp only [List.length_cons,List.length_nil]; omega)) g) ?_
 rintro _ V ⟨E,F,rfl,u,h⟩
 have m:=t _ _ u
 have M:=m.rowC (i:=1) rfl
 replace h:c.xb.ls.length≤f.xb.ls.length+26:=h
 refine nt (BR (Mz rfl (Kz (.pointer (some ⟨p,1,none⟩)) (Lz (.int .i64 p1.bV) m 2 Tryz.isAgg3 ?_))))
 refine WL.do rfl (Cq Tryz.call19 rfl ?_ (fun _ _ k=>k))
 refine Ce (args:= [.pointer (some ⟨d,0,none⟩), .int .i64 p1.bV]) Tryz.func19 rfl rfl rfl ?_
 show Wp _ _ _ [(0, .pointer (some ⟨d,0,none⟩)),(1, .int .i64 p1.bV)] _ _
 refine BR (Mz rfl (Mz rfl ?_))
 have N:Int.toNat (IntKind.u64.wrap p1.bV)≤18446744073709551615:=gW _
 refine fw (.int .u64 ((Int.toNat (IntKind.u64.wrap p1.bV):Nat):Int)) (Ci (e:=IntKind.u64.wrap p1.bV) yk (di _)) ?_
 obtain⟨n,j⟩:∃ q,aJ c (Int.toNat (IntKind.u64.wrap p1.bV))=q:=⟨_,rfl⟩
 obtain⟨W,x,O,y,P⟩:=Ct m
 refine cl Tryz.call21 (bg _ _ d c E F (Int.toNat (IntKind.u64.wrap p1.bV)) n x (by first | omega | (dsimp only; omega) | (dsimp only [List.length_cons,List.length_nil]; omega)) j) ?_
 rintro _ X ⟨G,I,rfl,z,l⟩
 have A:=y _ _ z
 have Q:=A.rowC (i:=1) rfl
 replace l:n.xb.ls.length≤c.xb.ls.length+10:=l
 refine Cf (Cw (res0 rfl) (Cf (Cw (res0 rfl) ?_)))
 have J:=A.pk [0,1]
 obtain rfl:_=n:=hr.symm.trans (et (ag g) (ag j))
 exact⟨G,I,rfl,J,(by first | omega | (simp only [List.length_cons,List.length_nil,List.length_append]; omega))⟩
def lF (g:aW) (p1:bq):aW:=
 bnd (aJ g (Int.toNat (IntKind.u64.wrap p1.aI))) fun b=>bnd (bO b p1.aV) fun c=>bnd (bO c p1.aC) fun d=>bnd (bO d p1.aK) fun e=>bnd (bO e p1.aO) fun f=>bnd (aJ f (Int.toNat (IntKind.u64.wrap p1.bn))) fun a=>a
set_option maxHeartbeats 1000000 in
theorem qd (w:World) (D:Nat→Prop) (b:Nat) (u:aW) (f:Option Addr) (g:Nat) (p1:bq) (R:aW) (H:Own w D w [blk b [.slice f u.xb.ls.length g] 57,row f u.xb.ls.length g (List.flatMap eB u.xb.ls) 5 1]) (bL:u.xb.ls.length≤8000000000) (bM:(p1.aV.length≤12∧p1.aC.length≤16∧p1.aK.length≤12∧p1.aO.length≤12)) (hr:lF u p1=R):
    Calls Tryz.prog 72 #[.pointer (some ⟨b,0,none⟩), .agg (bq.cells p1).toArray] w (dE fun v w'=> ∃ (B0ox0:Option Addr) (b0ox0:Nat),v= .tuple #[]∧Own w D w' [blk b [.slice B0ox0 R.xb.ls.length b0ox0] 57,row B0ox0 R.xb.ls.length b0ox0 (List.flatMap eB R.xb.ls) 5 1]∧(R.xb.ls.length≤u.xb.ls.length+130)):=by
 have aH:=H.rowC (i:=1) rfl
 refine Ce (args:= [.pointer (some ⟨b,0,none⟩), .agg (bq.cells p1).toArray]) Tryz.func72 rfl rfl rfl ?_
 show Wp _ _ _ [(0, .pointer (some ⟨b,0,none⟩)),(1, .agg (bq.cells p1).toArray)] _ _
 refine sr ?_
 refine dB (bq.cells p1) 74 H ?_
 intro c bP S
 refine ns (Mz rfl (Kz (.pointer (some ⟨c,0,none⟩)) (Lz (.int .i64 p1.aI) S 0 Tryz.isAgg3 ?_)))
 refine WL.do rfl (Cq Tryz.call19 rfl ?_ (fun _ _ k=>k))
 refine Ce (args:= [.pointer (some ⟨b,0,none⟩), .int .i64 p1.aI]) Tryz.func19 rfl rfl rfl ?_
 show Wp _ _ _ [(0, .pointer (some ⟨b,0,none⟩)),(1, .int .i64 p1.aI)] _ _
 refine BR (Mz rfl (Mz rfl ?_))
 have aZ:Int.toNat (IntKind.u64.wrap p1.aI)≤18446744073709551615:=gW _
 refine fw (.int .u64 ((Int.toNat (IntKind.u64.wrap p1.aI):Nat):Int)) (Ci (e:=IntKind.u64.wrap p1.aI) yk (di _)) ?_
 have aI:=S.pk [1,2,0]
 obtain⟨h,B⟩:∃ q,aJ u (Int.toNat (IntKind.u64.wrap p1.aI))=q:=⟨_,rfl⟩
 obtain⟨bQ,T,bf,U,bn⟩:=Ct aI
 refine cl Tryz.call21 (bg _ _ b u f g (Int.toNat (IntKind.u64.wrap p1.aI)) h T (by first | omega | (dsimp only; omega) | (dsimp only [List.length_cons,List.length_nil]; omega)) B) ?_
 rintro _ bR ⟨aK,aL,rfl,V,C⟩
 have d:=U _ _ V
 have bu:=d.rowC (i:=1) rfl
 replace C:h.xb.ls.length≤u.xb.ls.length+10:=C
 refine Cf (Cw (res0 rfl) (ns (Mz rfl (Kz (.func (.func 28) #[.pointer (some ⟨b,0,none⟩)] #[]) (Kz (.pointer (some ⟨c,1,none⟩)) (Lz (.string ⟨List.toArray p1.aV⟩) d 2 Tryz.isAgg9 (Kz (.pointer (some ⟨c,2,none⟩)) (Lz (.string ⟨List.toArray p1.aC⟩) d 2 Tryz.isAgg9 (Kz (.pointer (some ⟨c,3,none⟩)) (Lz (.string ⟨List.toArray p1.aK⟩) d 2 Tryz.isAgg9 (Kz (.pointer (some ⟨c,4,none⟩)) (Lz (.string ⟨List.toArray p1.aO⟩) d 2 Tryz.isAgg9 ?_))))))))))))
 refine ji [.string ⟨List.toArray p1.aV⟩, .string ⟨List.toArray p1.aC⟩, .string ⟨List.toArray p1.aK⟩, .string ⟨List.toArray p1.aO⟩] 9 1 4 d ?_
 intro a bS j
 replace j:=CG (y:=row a 4 4 (List.flatMap eS ([p1.aV,p1.aC,p1.aK,p1.aO])) 9 1) rfl j
 refine WL.do rfl (Cq Tryz.call27 rfl ?_ (fun _ _ k=>k))
 refine Ce (args:= [.func (.func 28) #[.pointer (some ⟨b,0,none⟩)] #[], .slice a 4 4]) Tryz.func27 rfl rfl rfl ?_
 show Wp _ _ _ [(0, .func (.func 28) #[.pointer (some ⟨b,0,none⟩)] #[]),(1, .slice a 4 4)] _ _
 refine sr (Mz rfl (Kz (.int .i64 4) (Mn rfl (bo (Da 200 (sr (Kz (.bool true) (nt (BS (jt (sk (BS (bo (sr ?_))))))))))))))
 have W:([p1.aV,p1.aC,p1.aK,p1.aO]:List (List UInt8))[0]? =some p1.aV:=rfl
 refine fw (.pointer (some ⟨ab a,ao a+0 *1,none⟩)) (Ch (nL) rfl rfl ((j.rds (i:=0) rfl).addr (i:=0) (by omega)) (by omega)) (fw (.string ⟨List.toArray p1.aV⟩) (Cc rfl (bi.one Tryz.isAgg9 (((j.rds (i:=0) rfl).elem mo W (by decide)).at_ (k:=0) rfl))) (An rfl (BR (Mz rfl (Mz rfl ?_)))))
 have aM:=j.pk [1,2,0,3]
 obtain⟨l,E⟩:∃ q,bO h p1.aV=q:=⟨_,rfl⟩
 obtain⟨bT,X,bv,Y,bz⟩:=Ct aM
 refine WL.do rfl (CB Tryz.call28 rfl rfl (eY _ _ b h aK aL p1.aV l X (by first | omega | (dsimp only; omega) | (dsimp only [List.length_cons,List.length_nil]; omega)) E) ?_)
 rintro _ bU ⟨aN,aO,rfl,Z,F⟩
 have x:=Y _ _ Z
 have bA:=x.rowC (i:=1) rfl
 replace F:l.xb.ls.length≤h.xb.ls.length+26:=F
 refine Cf (bN (Ca (BR (Kz (.int .i64 1) (Mz rfl (Cf (CS [(8, .int .i64 1),(7, .int .i64 4),(6, .slice a 4 4),(0, .func (.func 28) #[.pointer (some ⟨b,0,none⟩)] #[])] ⟨rfl,rfl,rfl,rfl,trivial⟩ (sr (Kz (.bool true) (nt (BS (jt (sk (BS (bo (sr ?_))))))))))))))))
 have aa:([p1.aV,p1.aC,p1.aK,p1.aO]:List (List UInt8))[1]? =some p1.aC:=rfl
 refine fw (.pointer (some ⟨ab a,ao a+1 *1,none⟩)) (Ch (nL) rfl rfl ((x.rds (i:=2) rfl).addr (i:=1) (by omega)) (by omega)) (fw (.string ⟨List.toArray p1.aC⟩) (Cc rfl (bi.one Tryz.isAgg9 (((x.rds (i:=2) rfl).elem mo aa (by decide)).at_ (k:=0) rfl))) (An rfl (BR (Mz rfl (Mz rfl ?_)))))
 obtain⟨m,G⟩:∃ q,bO l p1.aC=q:=⟨_,rfl⟩
 obtain⟨bV,ae,bB,af,bC⟩:=Ct x
 refine WL.do rfl (CB Tryz.call28 rfl rfl (eY _ _ b l aN aO p1.aC m ae (by first | omega | (dsimp only; omega) | (dsimp only [List.length_cons,List.length_nil]; omega)) G) ?_)
 rintro _ bW ⟨aP,aQ,rfl,ah,I⟩
 have z:=af _ _ ah
 have bD:=z.rowC (i:=1) rfl
 replace I:m.xb.ls.length≤l.xb.ls.length+26:=I
 refine Cf (bN (Ca (BR (Kz (.int .i64 2) (Mz rfl (Cf (CS [(8, .int .i64 2),(7, .int .i64 4),(6, .slice a 4 4),(0, .func (.func 28) #[.pointer (some ⟨b,0,none⟩)] #[])] ⟨rfl,rfl,rfl,rfl,trivial⟩ (sr (Kz (.bool true) (nt (BS (jt (sk (BS (bo (sr ?_))))))))))))))))
 have ai:([p1.aV,p1.aC,p1.aK,p1.aO]:List (List UInt8))[2]? =some p1.aK:=rfl
 refine fw (.pointer (some ⟨ab a,ao a+2 *1,none⟩)) (Ch (nL) rfl rfl ((z.rds (i:=2) rfl).addr (i:=2) (by omega)) (by omega)) (fw (.string ⟨List.toArray p1.aK⟩) (Cc rfl (bi.one Tryz.isAgg9 (((z.rds (i:=2) rfl).elem mo ai (by decide)).at_ (k:=0) rfl))) (An rfl (BR (Mz rfl (Mz rfl ?_)))))
 obtain⟨n,J⟩:∃ q,bO m p1.aK=q:=⟨_,rfl⟩
 obtain⟨bX,aj,bE,ak,bF⟩:=Ct z
 refine WL.do rfl (CB Tryz.call28 rfl rfl (eY _ _ b m aP aQ p1.aK n aj (by first | omega | (dsimp only; omega) | (dsimp only [List.length_cons,List.length_nil]; omega)) J) ?_)
 rintro _ bY ⟨aR,aS,rfl,au,K⟩
 have A:=ak _ _ au
 have bG:=A.rowC (i:=1) rfl
 replace K:n.xb.ls.length≤m.xb.ls.length+26:=K
 refine Cf (bN (Ca (BR (Kz (.int .i64 3) (Mz rfl (Cf (CS [(8, .int .i64 3),(7, .int .i64 4),(6, .slice a 4 4),(0, .func (.func 28) #[.pointer (some ⟨b,0,none⟩)] #[])] ⟨rfl,rfl,rfl,rfl,trivial⟩ (sr (Kz (.bool true) (nt (BS (jt (sk (BS (bo (sr ?_))))))))))))))))
 have av:([p1.aV,p1.aC,p1.aK,p1.aO]:List (List UInt8))[3]? =some p1.aO:=rfl
 refine fw (.pointer (some ⟨ab a,ao a+3 *1,none⟩)) (Ch (nL) rfl rfl ((A.rds (i:=2) rfl).addr (i:=3) (by omega)) (by omega)) (fw (.string ⟨List.toArray p1.aO⟩) (Cc rfl (bi.one Tryz.isAgg9 (((A.rds (i:=2) rfl).elem mo av (by decide)).at_ (k:=0) rfl))) (An rfl (BR (Mz rfl (Mz rfl ?_)))))
 obtain⟨o,L⟩:∃ q,bO n p1.aO=q:=⟨_,rfl⟩
 obtain⟨bZ,ax,bH,ay,bI⟩:=Ct A
 refine WL.do rfl (CB Tryz.call28 rfl rfl (eY _ _ b n aR aS p1.aO o ax (by first | omega | (dsimp only; omega) | (dsimp only [List.length_cons,List.length_nil]; omega)) L) ?_)
 rintro _ cu ⟨az,aA,rfl,aB,p⟩
 have aC:=ay _ _ aB
 have aT:=aC.rowC (i:=1) rfl
 replace p:o.xb.ls.length≤n.xb.ls.length+26:=p
 refine Cf (bN (Ca (BR (Kz (.int .i64 4) (Mz rfl (Cf (CS [(8, .int .i64 4),(7, .int .i64 4),(6, .slice a 4 4),(0, .func (.func 28) #[.pointer (some ⟨b,0,none⟩)] #[])] ⟨rfl,rfl,rfl,rfl,trivial⟩ (sr (Kz (.bool false) (nt (BS (jf (Wp.exit (Cb (Cb (Cn (Cw (res0 rfl) (nt ?_))))))))))))))))))
 have M:=aC.pk [0,1,3]
 refine BR (Mz rfl (Kz (.pointer (some ⟨c,5,none⟩)) (Lz (.int .i64 p1.bn) M 2 Tryz.isAgg3 ?_)))
 refine WL.do rfl (Cq Tryz.call19 rfl ?_ (fun _ _ k=>k))
 refine Ce (args:= [.pointer (some ⟨b,0,none⟩), .int .i64 p1.bn]) Tryz.func19 rfl rfl rfl ?_
 show Wp _ _ _ [(0, .pointer (some ⟨b,0,none⟩)),(1, .int .i64 p1.bn)] _ _
 refine BR (Mz rfl (Mz rfl ?_))
 have aU:Int.toNat (IntKind.u64.wrap p1.bn)≤18446744073709551615:=gW _
 refine fw (.int .u64 ((Int.toNat (IntKind.u64.wrap p1.bn):Nat):Int)) (Ci (e:=IntKind.u64.wrap p1.bn) yk (di _)) ?_
 obtain⟨r,s⟩:∃ q,aJ o (Int.toNat (IntKind.u64.wrap p1.bn))=q:=⟨_,rfl⟩
 obtain⟨bJ,O,aV,P,aX⟩:=Ct M
 refine cl Tryz.call21 (bg _ _ b o az aA (Int.toNat (IntKind.u64.wrap p1.bn)) r O (by first | omega | (dsimp only; omega) | (dsimp only [List.length_cons,List.length_nil]; omega)) s) ?_
 rintro _ bK ⟨aD,aF,rfl,Q,t⟩
 have N:=P _ _ Q
 have aY:=N.rowC (i:=1) rfl
 replace t:r.xb.ls.length≤o.xb.ls.length+10:=t
 refine Cf (Cw (res0 rfl) (Cf (Cw (res0 rfl) ?_)))
 have aG:=N.pk [0,1]
 obtain rfl:_=r:=hr.symm.trans (et (ag B) (et (ag E) (et (ag G) (et (ag J) (et (ag L) (ag s))))))
 exact⟨aD,aF,rfl,aG,(by first | omega | (simp only [List.length_cons,List.length_nil,List.length_append]; omega))⟩
def jH (c:aW) (p1:bH):aW:=
 bnd (bO c p1.aV) fun a=>bnd (bO a p1.aC) fun b=>b
set_option maxHeartbeats 1000000 in
theorem mU (w:World) (D:Nat→Prop) (b:Nat) (g:aW) (c:Option Addr) (d:Nat) (p1:bH) (r:aW) (H:Own w D w [blk b [.slice c g.xb.ls.length d] 57,row c g.xb.ls.length d (List.flatMap eB g.xb.ls) 5 1]) (U:g.xb.ls.length≤8000000000) (V:(p1.aV.length≤12∧p1.aC.length≤16)) (hr:jH g p1=r):
    Calls Tryz.prog 110 #[.pointer (some ⟨b,0,none⟩), .agg (bH.cells p1).toArray] w (dE fun v w'=> ∃ (B0ox0:Option Addr) (b0ox0:Nat),v= .tuple #[]∧Own w D w' [blk b [.slice B0ox0 r.xb.ls.length b0ox0] 57,row B0ox0 r.xb.ls.length b0ox0 (List.flatMap eB r.xb.ls) 5 1]∧(r.xb.ls.length≤g.xb.ls.length+60)):=by
 have G:=H.rowC (i:=1) rfl
 refine Ce (args:= [.pointer (some ⟨b,0,none⟩), .agg (bH.cells p1).toArray]) Tryz.func110 rfl rfl rfl ?_
 show Wp _ _ _ [(0, .pointer (some ⟨b,0,none⟩)),(1, .agg (bH.cells p1).toArray)] _ _
 refine sr ?_
 refine dB (bH.cells p1) 133 H ?_
 intro s W o
 refine nt (BR (Mz rfl (Kz (.func (.func 28) #[.pointer (some ⟨b,0,none⟩)] #[]) (Kz (.pointer (some ⟨s,0,none⟩)) (Lz (.string ⟨List.toArray p1.aV⟩) o 0 Tryz.isAgg9 (Kz (.pointer (some ⟨s,1,none⟩)) (Lz (.string ⟨List.toArray p1.aC⟩) o 0 Tryz.isAgg9 ?_)))))))
 refine ji [.string ⟨List.toArray p1.aV⟩, .string ⟨List.toArray p1.aC⟩] 9 1 2 o ?_
 intro a X e
 replace e:=CG (y:=row a 2 2 (List.flatMap eS ([p1.aV,p1.aC])) 9 1) rfl e
 refine WL.do rfl (Cq Tryz.call27 rfl ?_ (fun _ _ k=>k))
 refine Ce (args:= [.func (.func 28) #[.pointer (some ⟨b,0,none⟩)] #[], .slice a 2 2]) Tryz.func27 rfl rfl rfl ?_
 show Wp _ _ _ [(0, .func (.func 28) #[.pointer (some ⟨b,0,none⟩)] #[]),(1, .slice a 2 2)] _ _
 refine sr (Mz rfl (Kz (.int .i64 2) (Mn rfl (bo (Da 200 (sr (Kz (.bool true) (nt (BS (jt (sk (BS (bo (sr ?_))))))))))))))
 have t:([p1.aV,p1.aC]:List (List UInt8))[0]? =some p1.aV:=rfl
 refine fw (.pointer (some ⟨ab a,ao a+0 *1,none⟩)) (Ch (nL) rfl rfl ((e.rds (i:=0) rfl).addr (i:=0) (by omega)) (by omega)) (fw (.string ⟨List.toArray p1.aV⟩) (Cc rfl (bi.one Tryz.isAgg9 (((e.rds (i:=0) rfl).elem mo t (by decide)).at_ (k:=0) rfl))) (An rfl (BR (Mz rfl (Mz rfl ?_)))))
 have I:=e.pk [2,3,0,1]
 obtain⟨f,j⟩:∃ q,bO g p1.aV=q:=⟨_,rfl⟩
 obtain⟨Y,u,O,x,P⟩:=Ct I
 refine WL.do rfl (CB Tryz.call28 rfl rfl (eY _ _ b g c d p1.aV f u (by first | omega | (dsimp only; omega) | (dsimp only [List.length_cons,List.length_nil]; omega)) j) ?_)
 rintro _ Z ⟨J,K,rfl,z,l⟩
 have h:=x _ _ z
 have Q:=h.rowC (i:=1) rfl
 replace l:f.xb.ls.length≤g.xb.ls.length+26:=l
 refine Cf (bN (Ca (BR (Kz (.int .i64 1) (Mz rfl (Cf (CS [(8, .int .i64 1),(7, .int .i64 2),(6, .slice a 2 2),(0, .func (.func 28) #[.pointer (some ⟨b,0,none⟩)] #[])] ⟨rfl,rfl,rfl,rfl,trivial⟩ (sr (Kz (.bool true) (nt (BS (jt (sk (BS (bo (sr ?_))))))))))))))))
 have A:([p1.aV,p1.aC]:List (List UInt8))[1]? =some p1.aC:=rfl
 refine fw (.pointer (some ⟨ab a,ao a+1 *1,none⟩)) (Ch (nL) rfl rfl ((h.rds (i:=2) rfl).addr (i:=1) (by omega)) (by omega)) (fw (.string ⟨List.toArray p1.aC⟩) (Cc rfl (bi.one Tryz.isAgg9 (((h.rds (i:=2) rfl).elem mo A (by decide)).at_ (k:=0) rfl))) (An rfl (BR (Mz rfl (Mz rfl ?_)))))
 obtain⟨p,m⟩:∃ q,bO f p1.aC=q:=⟨_,rfl⟩
 obtain⟨aa,B,R,C,S⟩:=Ct h
 refine WL.do rfl (CB Tryz.call28 rfl rfl (eY _ _ b f J K p1.aC p B (by first | omega | (dsimp only; omega) | (dsimp only [List.length_cons,List.length_nil]; omega)) m) ?_)
 rintro _ ae ⟨L,M,rfl,E,n⟩
 have F:=C _ _ E
 have T:=F.rowC (i:=1) rfl
 replace n:p.xb.ls.length≤f.xb.ls.length+26:=n
 refine Cf (bN (Ca (BR (Kz (.int .i64 2) (Mz rfl (Cf (CS [(8, .int .i64 2),(7, .int .i64 2),(6, .slice a 2 2),(0, .func (.func 28) #[.pointer (some ⟨b,0,none⟩)] #[])] ⟨rfl,rfl,rfl,rfl,trivial⟩ (sr (Kz (.bool false) (nt (BS (jf (Wp.exit (Cb (Cb (Cn (Cw (res0 rfl) (Cf (Cw (res0 rfl) ?_)))))))))))))))))))
 have N:=F.pk [0,1]
 obtain rfl:_=p:=hr.symm.trans (et (ag j) (ag m))
 exact⟨L,M,rfl,N,(by first | omega | (simp only [List.length_cons,List.length_nil,List.length_append]; omega))⟩
def fA:List bH→List UInt8→(List UInt8)
  | [],a=>a
  | c::d,a=>bnd (jH (aW.mk (Ll.mk a)) c) fun b=>fA d b.xb.ls
def fB:List bH→List UInt8→(List UInt8)
  | [],a=>a
  | c::d,a=>bnd (jH (aW.mk (Ll.mk a)) c) fun b=>fB d b.xb.ls
def kF (g:aW) (p1:cK):aW:=
 if p1.eT=true then bnd (aJ g 1) fun d=>bnd (bO d p1.aC) fun e=>bnd (aJ e p1.aA.ls.length) fun f=>bnd (fA p1.aA.ls f.xb.ls) fun sLrtbbbL=>aW.mk (Ll.mk sLrtbbbL) else bnd (aJ g 0) fun a=>bnd (bO a p1.aC) fun b=>bnd (aJ b p1.aA.ls.length) fun c=>bnd (fB p1.aA.ls c.xb.ls) fun sLrfbbbL=>aW.mk (Ll.mk sLrfbbbL)
set_option maxHeartbeats 1000000 in
theorem oJ (w:World) (D:Nat→Prop) (f:Nat) (F:aW) (A:Option Addr) (B:Nat) (p1:cK) (a:Option Addr) (af b:Nat) (r0:aW) (H:Own w D w [blk f [.slice A F.xb.ls.length B] 57,row A F.xb.ls.length B (List.flatMap eB F.xb.ls) 5 1]) (aF:af=p1.aA.ls.length) (j:Ro w D fun w'=>bG w' 2 a p1.aA.ls.length (List.flatMap bH.cells p1.aA.ls)) (dH:p1.aA.ls.length≤b∧p1.aA.ls.length≤9223372036854775807) (gp:F.xb.ls.length≤7000000000) (ae:(p1.aC.length≤16∧p1.aA.ls.length≤4∧∀ q ∈ p1.aA.ls,q.aV.length≤12∧q.aC.length≤16)) (hr:kF F p1=r0):
    Calls Tryz.prog 80 #[.pointer (some ⟨f,0,none⟩), .agg #[.bool p1.eT, .string ⟨List.toArray p1.aC⟩, .slice a af b]] w (dE fun v w'=> ∃ (B0ox0:Option Addr) (b0ox0:Nat),v= .tuple #[]∧Own w D w' [blk f [.slice B0ox0 r0.xb.ls.length b0ox0] 57,row B0ox0 r0.xb.ls.length b0ox0 (List.flatMap eB r0.xb.ls) 5 1]∧(r0.xb.ls.length≤F.xb.ls.length+300)):=by
 subst aF
 have dI:=H.rowC (i:=1) rfl
 have eP:=ae.1
 have eQ:=ae.2.1
 refine Ce (args:= [.pointer (some ⟨f,0,none⟩), .agg #[.bool p1.eT, .string ⟨List.toArray p1.aC⟩, .slice a p1.aA.ls.length b]]) Tryz.func80 rfl rfl rfl ?_
 show Wp _ _ _ [(0, .pointer (some ⟨f,0,none⟩)),(1, .agg #[.bool p1.eT, .string ⟨List.toArray p1.aC⟩, .slice a p1.aA.ls.length b])] _ _
 refine sr ?_
 refine dB [.bool p1.eT, .string ⟨List.toArray p1.aC⟩, .slice a p1.aA.ls.length b] 129 H ?_
 intro p gq aG
 refine ns (An rfl (BS (sr (Kz (.pointer (some ⟨p,0,none⟩)) (Lz (.bool p1.eT) aG 0 Tryz.isAgg4 (nt ?_))))))
 rcases EO (p1.eT) with G | G
 refine jT G (BR (Ar rfl (Mz rfl (Mz rfl ?_))))
 refine WL.do rfl (Cq Tryz.call19 rfl ?_ (fun _ _ k=>k))
 refine Ce (args:= [.pointer (some ⟨f,0,none⟩), .int .i64 1]) Tryz.func19 rfl rfl rfl ?_
 show Wp _ _ _ [(0, .pointer (some ⟨f,0,none⟩)),(1, .int .i64 1)] _ _
 refine BR (Mz rfl (Mz rfl (fw (.int .u64 1) (Ci (e:=IntKind.u64.wrap 1) yk (IntWalk.u64_in _ (by omega))) ?_)))
 have dJ:=aG.pk [1,2,0]
 obtain⟨I,ah⟩:∃ q,aJ F 1=q:=⟨_,rfl⟩
 obtain⟨gu,bz,eT,bA,eU⟩:=Ct dJ
 refine cl Tryz.call21 (bg _ _ f F A B 1 I bz (by first | omega | (dsimp only; omega) | (dsimp only [List.length_cons,List.length_nil]; omega)) ah) ?_
 rintro _ gy ⟨dK,dL,rfl,bB,ai⟩
 have aH:=bA _ _ bB
 have eX:=aH.rowC (i:=1) rfl
 replace ai:I.xb.ls.length≤F.xb.ls.length+10:=ai
 refine Cf (Cw (res0 rfl) (ns (Mz rfl (Kz (.pointer (some ⟨p,1,none⟩)) (Lz (.string ⟨List.toArray p1.aC⟩) aH 2 Tryz.isAgg9 ?_)))))
 obtain⟨J,aj⟩:∃ q,bO I p1.aC=q:=⟨_,rfl⟩
 obtain⟨gz,bC,eZ,bD,fe⟩:=Ct aH
 refine cl Tryz.call28 (eY _ _ f I dK dL p1.aC J bC (by first | omega | (dsimp only; omega) | (dsimp only [List.length_cons,List.length_nil]; omega)) aj) ?_
 rintro _ gB ⟨dM,dN,rfl,bE,ak⟩
 have aI:=bD _ _ bE
 have fo:=aI.rowC (i:=1) rfl
 replace ak:J.xb.ls.length≤I.xb.ls.length+26:=ak
 refine nt (BR (Mz rfl (Kz (.pointer (some ⟨p,2,none⟩)) (Lz (.slice a p1.aA.ls.length b) aI 2 Tryz.isAgg127 (Mz rfl (Kz (.func (.func 110) #[.pointer (some ⟨f,0,none⟩)] #[]) ?_))))))
 refine WL.do rfl (Cq Tryz.call109 rfl ?_ (fun _ _ k=>k))
 refine Ce (args:= [.pointer (some ⟨f,0,none⟩), .slice a p1.aA.ls.length b, .func (.func 110) #[.pointer (some ⟨f,0,none⟩)] #[]]) Tryz.func109 rfl rfl rfl ?_
 show Wp _ _ _ [(0, .pointer (some ⟨f,0,none⟩)),(1, .slice a p1.aA.ls.length b),(2, .func (.func 110) #[.pointer (some ⟨f,0,none⟩)] #[])] _ _
 refine sr (Mz rfl (Mz rfl (Kz (.int .i64 ((p1.aA.ls.length:Nat):Int)) ?_)))
 refine WL.do rfl (Cq Tryz.call19 rfl ?_ (fun _ _ k=>k))
 refine Ce (args:= [.pointer (some ⟨f,0,none⟩), .int .i64 ((p1.aA.ls.length:Nat):Int)]) Tryz.func19 rfl rfl rfl ?_
 show Wp _ _ _ [(0, .pointer (some ⟨f,0,none⟩)),(1, .int .i64 ((p1.aA.ls.length:Nat):Int))] _ _
 refine BR (Mz rfl (Mz rfl (fw (.int .u64 ((p1.aA.ls.length:Nat):Int)) (Ci (e:=IntKind.u64.wrap ((p1.aA.ls.length:Nat):Int)) yk (IntWalk.u64_in _ (by omega))) ?_)))
 obtain⟨r,au⟩:∃ q,aJ J p1.aA.ls.length=q:=⟨_,rfl⟩
 obtain⟨gD,bF,fq,bI,fu⟩:=Ct aI
 refine cl Tryz.call21 (bg _ _ f J dM dN p1.aA.ls.length r bF (by first | omega | (dsimp only; omega) | (dsimp only [List.length_cons,List.length_nil]; omega)) au) ?_
 rintro _ gF ⟨dO,dP,rfl,bJ,av⟩
 have bK:=bI _ _ bJ
 have fC:=bK.rowC (i:=1) rfl
 replace av:r.xb.ls.length≤J.xb.ls.length+10:=av
 refine Cf (Cw (res0 rfl) (nt (BR (Mz rfl (Mz rfl ?_)))))
 refine WL.do rfl (Cq Tryz.call119 rfl ?_ (fun _ _ k=>k))
 refine Ce (args:= [.func (.func 110) #[.pointer (some ⟨f,0,none⟩)] #[], .slice a p1.aA.ls.length b]) Tryz.func119 rfl rfl rfl ?_
 show Wp _ _ _ [(0, .func (.func 110) #[.pointer (some ⟨f,0,none⟩)] #[]),(1, .slice a p1.aA.ls.length b)] _ _
 refine sr (Mz rfl (Kz (.int .i64 ((p1.aA.ls.length:Nat):Int)) (Mn rfl (bo ?_))))
 have dQ:=bK.pk [0,2,1]
 obtain⟨bL,bP⟩:∃ q:(Nat × (Option Addr) × Nat × (List UInt8))→World→Prop,q=fun(i:Nat × (Option Addr) × Nat × (List UInt8)) w'=>Own w D w' [blk f [.slice i.2.1 i.2.2.2.length i.2.2.1] 57,blk p [.bool p1.eT, .string ⟨List.toArray p1.aC⟩, .slice a p1.aA.ls.length b] 129,row i.2.1 i.2.2.2.length i.2.2.1 (List.flatMap eB i.2.2.2) 5 1]∧(i.1≤p1.aA.ls.length∧((i.2.2.2.length:Nat):Int)≤((r.xb.ls.length:Nat):Int)+60 *((i.1:Nat):Int)∧fA p1.aA.ls r.xb.ls=fA (List.drop i.1 p1.aA.ls) i.2.2.2):=⟨_,rfl⟩
 have K:∀ {g:Nat} {C:Option Addr} {E:Nat} {h:List UInt8} {w':World},bL (g,C,E,h) w'↔Own w D w' [blk f [.slice C h.length E] 57,blk p [.bool p1.eT, .string ⟨List.toArray p1.aC⟩, .slice a p1.aA.ls.length b] 129,row C h.length E (List.flatMap eB h) 5 1]∧g≤p1.aA.ls.length∧((h.length:Nat):Int)≤((r.xb.ls.length:Nat):Int)+60 *((g:Nat):Int)∧fA p1.aA.ls r.xb.ls=fA (List.drop g p1.aA.ls) h:=by intros; subst bP; exact Iff.rfl
 refine Wp.loop (fun i:Nat × (Option Addr) × Nat × (List UInt8)=> [(8, .int .i64 ((i.1:Nat):Int)),(7, .int .i64 ((p1.aA.ls.length:Nat):Int)),(6, .slice a p1.aA.ls.length b),(0, .func (.func 110) #[.pointer (some ⟨f,0,none⟩)] #[])]) bL (fun i=>p1.aA.ls.length - i.1) (0,dO,dP,r.xb.ls) ⟨rfl,rfl,rfl,rfl,trivial⟩ (K.2 ⟨dQ,by omega,by omega,rfl⟩) ?_
 rintro ⟨g,C,E,h⟩ gG bQ
 show Wp _ _ _ [(8, .int .i64 ((g:Nat):Int)),(7, .int .i64 ((p1.aA.ls.length:Nat):Int)),(6, .slice a p1.aA.ls.length b),(0, .func (.func 110) #[.pointer (some ⟨f,0,none⟩)] #[])] _ _
 obtain⟨L,fD,fE,ax⟩:=K.1 bQ
 refine sr (Kz (.bool (decide (((g:Nat):Int) < ((p1.aA.ls.length:Nat):Int)))) (nt (BS ?_)))
 by_cases bR:((g:Nat):Int) < ((p1.aA.ls.length:Nat):Int)
 obtain⟨s,M⟩:=bU (ls:=p1.aA.ls) (i:=g) bH.len (by decide) (L.ro j) (by first | omega | (simp; done) | (simp; omega))
 have bS:s.aV.length≤12∧s.aC.length≤16:=ae.2.2 _ (List.mem_of_getElem? M)
 have bT:=drop_at M
 refine jT (dT bR) (sk (BS (bo (sr (fw (.pointer (some ⟨ab a,ao a+g *2,none⟩)) (Ch (qR) rfl rfl ((L.ro j).addr (i:=g) (by omega)) (by omega)) (fw (.agg (bH.cells s).toArray) (Cc rfl (Cu (cs:=(bH.cells s)) Tryz.isAgg133 Tryz.sizeOf133 ((L.ro j).elem bH.len M (by decide)))) ?_))))))
 refine dB [.string ⟨List.toArray ([])⟩, .string ⟨List.toArray ([])⟩] 133 L ?_
 intro gH gI dR
 refine dw (bH.cells s) 0 dR Tryz.sizeOf133 ?_
 intro gJ bV
 refine nt (BR (Mz rfl (La (bH.cells s) bV 0 Tryz.isAgg133 Tryz.sizeOf133 ?_)))
 have dS:=bV.pk [1,3,0,2]
 obtain⟨aK,N⟩:∃ q,jH (aW.mk (Ll.mk h)) s=q:=⟨_,rfl⟩
 obtain⟨gK,bW,fF,bX,fG⟩:=Ct dS
 refine WL.do rfl (CB Tryz.call110 rfl rfl (mU _ _ f (aW.mk (Ll.mk h)) C E s aK bW (by first | omega | (dsimp only; omega) | (dsimp only [List.length_cons,List.length_nil]; omega)) (by exact bS) N) ?_)
 rintro _ fH ⟨bY,bZ,rfl,aL,O⟩
 have ay:=bX _ _ aL
 have dU:=ay.rowC (i:=1) rfl
 replace O:aK.xb.ls.length≤h.length+60:=O
 refine Cf (bN (Ca (BR (fw (.int .i64 ((g+1:Nat):Int)) (Ci (e:=IntKind.i64.wrap (((g:Nat):Int)+1)) yk (by rw [EL _ (by omega)]; omega)) (Mz rfl (Cf ?_))))))
 have cu:=ay.pk [0,3,1]
 exact Cm (g+1,bY,bZ,aK.xb.ls) ⟨rfl,rfl,rfl,rfl,trivial⟩ (K.2 ⟨cu,by omega,by omega,et (ax) (et (congrArg (fun q=>fA q h) bT) (ag N))⟩) (by show p1.aA.ls.length - (g+1) < p1.aA.ls.length - g; omega)
 refine jF (dF bR) (Wp.exit (Cb ?_))
 have aM:fA p1.aA.ls r.xb.ls=h:=et (ax) (et (congrArg (fun q=>fA q h) (bM (ls:=p1.aA.ls) (i:=g) (by omega))) rfl)
 refine Cb (Cn (Cw (res0 rfl) (Cf (Cw (res0 rfl) (Cf (Cw (res0 rfl) ?_))))))
 have cz:=L.pk [0,2]
 obtain rfl:_=aW.mk (Ll.mk h):=hr.symm.trans (et (ip G) (et (ag ah) (et (ag aj) (et (ag au) (ag aM)))))
 exact⟨C,E,rfl,cz,(by first | omega | (simp only [List.length_cons,List.length_nil,List.length_append]; omega))⟩
 refine jF G (sk (sr (Mz rfl (Mz rfl ?_))))
 refine WL.do rfl (Cq Tryz.call19 rfl ?_ (fun _ _ k=>k))
 refine Ce (args:= [.pointer (some ⟨f,0,none⟩), .int .i64 0]) Tryz.func19 rfl rfl rfl ?_
 show Wp _ _ _ [(0, .pointer (some ⟨f,0,none⟩)),(1, .int .i64 0)] _ _
 refine BR (Mz rfl (Mz rfl (fw (.int .u64 0) (Ci (e:=IntKind.u64.wrap 0) yk (IntWalk.u64_in _ (by omega))) ?_)))
 have cB:=aG.pk [1,2,0]
 obtain⟨t,P⟩:∃ q,aJ F 0=q:=⟨_,rfl⟩
 obtain⟨fI,aN,dV,aO,dW⟩:=Ct cB
 refine cl Tryz.call21 (bg _ _ f F A B 0 t aN (by first | omega | (dsimp only; omega) | (dsimp only [List.length_cons,List.length_nil]; omega)) P) ?_
 rintro _ fJ ⟨cO,cZ,rfl,aP,Q⟩
 have R:=aO _ _ aP
 have dX:=R.rowC (i:=1) rfl
 replace Q:t.xb.ls.length≤F.xb.ls.length+10:=Q
 refine Cf (Cw (res0 rfl) (ns (Mz rfl (Kz (.pointer (some ⟨p,1,none⟩)) (Lz (.string ⟨List.toArray p1.aC⟩) R 2 Tryz.isAgg9 ?_)))))
 obtain⟨u,S⟩:∃ q,bO t p1.aC=q:=⟨_,rfl⟩
 obtain⟨fK,aQ,dY,aR,dZ⟩:=Ct R
 refine cl Tryz.call28 (eY _ _ f t cO cZ p1.aC u aQ (by first | omega | (dsimp only; omega) | (dsimp only [List.length_cons,List.length_nil]; omega)) S) ?_
 rintro _ fM ⟨df,dh,rfl,aS,T⟩
 have U:=aR _ _ aS
 have d9:=U.rowC (i:=1) rfl
 replace T:u.xb.ls.length≤t.xb.ls.length+26:=T
 refine nt (BR (Mz rfl (Kz (.pointer (some ⟨p,2,none⟩)) (Lz (.slice a p1.aA.ls.length b) U 2 Tryz.isAgg127 (Mz rfl (Kz (.func (.func 110) #[.pointer (some ⟨f,0,none⟩)] #[]) ?_))))))
 refine WL.do rfl (Cq Tryz.call109 rfl ?_ (fun _ _ k=>k))
 refine Ce (args:= [.pointer (some ⟨f,0,none⟩), .slice a p1.aA.ls.length b, .func (.func 110) #[.pointer (some ⟨f,0,none⟩)] #[]]) Tryz.func109 rfl rfl rfl ?_
 show Wp _ _ _ [(0, .pointer (some ⟨f,0,none⟩)),(1, .slice a p1.aA.ls.length b),(2, .func (.func 110) #[.pointer (some ⟨f,0,none⟩)] #[])] _ _
 refine sr (Mz rfl (Mz rfl (Kz (.int .i64 ((p1.aA.ls.length:Nat):Int)) ?_)))
 refine WL.do rfl (Cq Tryz.call19 rfl ?_ (fun _ _ k=>k))
 refine Ce (args:= [.pointer (some ⟨f,0,none⟩), .int .i64 ((p1.aA.ls.length:Nat):Int)]) Tryz.func19 rfl rfl rfl ?_
 show Wp _ _ _ [(0, .pointer (some ⟨f,0,none⟩)),(1, .int .i64 ((p1.aA.ls.length:Nat):Int))] _ _
 refine BR (Mz rfl (Mz rfl (fw (.int .u64 ((p1.aA.ls.length:Nat):Int)) (Ci (e:=IntKind.u64.wrap ((p1.aA.ls.length:Nat):Int)) yk (IntWalk.u64_in _ (by omega))) ?_)))
 obtain⟨l,V⟩:∃ q,aJ u p1.aA.ls.length=q:=⟨_,rfl⟩
 obtain⟨fO,aT,ed,aU,ek⟩:=Ct U
 refine cl Tryz.call21 (bg _ _ f u df dh p1.aA.ls.length l aT (by first | omega | (dsimp only; omega) | (dsimp only [List.length_cons,List.length_nil]; omega)) V) ?_
 rintro _ fP ⟨di,dm,rfl,aV,W⟩
 have az:=aU _ _ aV
 have eu:=az.rowC (i:=1) rfl
 replace W:l.xb.ls.length≤u.xb.ls.length+10:=W
 refine Cf (Cw (res0 rfl) (nt (BR (Mz rfl (Mz rfl ?_)))))
 refine WL.do rfl (Cq Tryz.call119 rfl ?_ (fun _ _ k=>k))
 refine Ce (args:= [.func (.func 110) #[.pointer (some ⟨f,0,none⟩)] #[], .slice a p1.aA.ls.length b]) Tryz.func119 rfl rfl rfl ?_
 show Wp _ _ _ [(0, .func (.func 110) #[.pointer (some ⟨f,0,none⟩)] #[]),(1, .slice a p1.aA.ls.length b)] _ _
 refine sr (Mz rfl (Kz (.int .i64 ((p1.aA.ls.length:Nat):Int)) (Mn rfl (bo ?_))))
 have dn:=az.pk [0,2,1]
 obtain⟨aA,aX⟩:∃ q:(Nat × (Option Addr) × Nat × (List UInt8))→World→Prop,q=fun(i:Nat × (Option Addr) × Nat × (List UInt8)) w'=>Own w D w' [blk f [.slice i.2.1 i.2.2.2.length i.2.2.1] 57,blk p [.bool p1.eT, .string ⟨List.toArray p1.aC⟩, .slice a p1.aA.ls.length b] 129,row i.2.1 i.2.2.2.length i.2.2.1 (List.flatMap eB i.2.2.2) 5 1]∧(i.1≤p1.aA.ls.length∧((i.2.2.2.length:Nat):Int)≤((l.xb.ls.length:Nat):Int)+60 *((i.1:Nat):Int)∧fB p1.aA.ls l.xb.ls=fB (List.drop i.1 p1.aA.ls) i.2.2.2):=⟨_,rfl⟩
 have y:∀ {c:Nat} {n:Option Addr} {o:Nat} {d:List UInt8} {w':World},aA (c,n,o,d) w'↔Own w D w' [blk f [.slice n d.length o] 57,blk p [.bool p1.eT, .string ⟨List.toArray p1.aC⟩, .slice a p1.aA.ls.length b] 129,row n d.length o (List.flatMap eB d) 5 1]∧c≤p1.aA.ls.length∧((d.length:Nat):Int)≤((l.xb.ls.length:Nat):Int)+60 *((c:Nat):Int)∧fB p1.aA.ls l.xb.ls=fB (List.drop c p1.aA.ls) d:=by intros; subst aX; exact Iff.rfl
 refine Wp.loop (fun i:Nat × (Option Addr) × Nat × (List UInt8)=> [(8, .int .i64 ((i.1:Nat):Int)),(7, .int .i64 ((p1.aA.ls.length:Nat):Int)),(6, .slice a p1.aA.ls.length b),(0, .func (.func 110) #[.pointer (some ⟨f,0,none⟩)] #[])]) aA (fun i=>p1.aA.ls.length - i.1) (0,di,dm,l.xb.ls) ⟨rfl,rfl,rfl,rfl,trivial⟩ (y.2 ⟨dn,by omega,by omega,rfl⟩) ?_
 rintro ⟨c,n,o,d⟩ fQ aY
 show Wp _ _ _ [(8, .int .i64 ((c:Nat):Int)),(7, .int .i64 ((p1.aA.ls.length:Nat):Int)),(6, .slice a p1.aA.ls.length b),(0, .func (.func 110) #[.pointer (some ⟨f,0,none⟩)] #[])] _ _
 obtain⟨x,eD,eF,X⟩:=y.1 aY
 refine sr (Kz (.bool (decide (((c:Nat):Int) < ((p1.aA.ls.length:Nat):Int)))) (nt (BS ?_)))
 by_cases aB:((c:Nat):Int) < ((p1.aA.ls.length:Nat):Int)
 obtain⟨m,z⟩:=bU (ls:=p1.aA.ls) (i:=c) bH.len (by decide) (x.ro j) (by first | omega | (simp; done) | (simp; omega))
 have aZ:m.aV.length≤12∧m.aC.length≤16:=ae.2.2 _ (List.mem_of_getElem? z)
 have bf:=drop_at z
 refine jT (dT aB) (sk (BS (bo (sr (fw (.pointer (some ⟨ab a,ao a+c *2,none⟩)) (Ch (qR) rfl rfl ((x.ro j).addr (i:=c) (by omega)) (by omega)) (fw (.agg (bH.cells m).toArray) (Cc rfl (Cu (cs:=(bH.cells m)) Tryz.isAgg133 Tryz.sizeOf133 ((x.ro j).elem bH.len z (by decide)))) ?_))))))
 refine dB [.string ⟨List.toArray ([])⟩, .string ⟨List.toArray ([])⟩] 133 x ?_
 intro fT fU dx
 refine dw (bH.cells m) 0 dx Tryz.sizeOf133 ?_
 intro fV aC
 refine nt (BR (Mz rfl (La (bH.cells m) aC 0 Tryz.isAgg133 Tryz.sizeOf133 ?_)))
 have dz:=aC.pk [1,3,0,2]
 obtain⟨Y,Z⟩:∃ q,jH (aW.mk (Ll.mk d)) m=q:=⟨_,rfl⟩
 obtain⟨fZ,bi,eG,bn,eH⟩:=Ct dz
 refine WL.do rfl (CB Tryz.call110 rfl rfl (mU _ _ f (aW.mk (Ll.mk d)) n o m Y bi (by first | omega | (dsimp only; omega) | (dsimp only [List.length_cons,List.length_nil]; omega)) (by exact aZ) Z) ?_)
 rintro _ gm ⟨dA,dC,rfl,bq,aa⟩
 have aD:=bn _ _ bq
 have eO:=aD.rowC (i:=1) rfl
 replace aa:Y.xb.ls.length≤d.length+60:=aa
 refine Cf (bN (Ca (BR (fw (.int .i64 ((c+1:Nat):Int)) (Ci (e:=IntKind.i64.wrap (((c:Nat):Int)+1)) yk (by rw [EL _ (by omega)]; omega)) (Mz rfl (Cf ?_))))))
 have dD:=aD.pk [0,3,1]
 exact Cm (c+1,dA,dC,Y.xb.ls) ⟨rfl,rfl,rfl,rfl,trivial⟩ (y.2 ⟨dD,by omega,by omega,et (X) (et (congrArg (fun q=>fB q d) bf) (ag Z))⟩) (by show p1.aA.ls.length - (c+1) < p1.aA.ls.length - c; omega)
 refine jF (dF aB) (Wp.exit (Cb ?_))
 have bu:fB p1.aA.ls l.xb.ls=d:=et (X) (et (congrArg (fun q=>fB q d) (bM (ls:=p1.aA.ls) (i:=c) (by omega))) rfl)
 refine Cb (Cn (Cw (res0 rfl) (Cf (Cw (res0 rfl) (Cf (Cw (res0 rfl) ?_))))))
 have dG:=x.pk [0,2]
 obtain rfl:_=aW.mk (Ll.mk d):=hr.symm.trans (et (jE G) (et (ag P) (et (ag S) (et (ag V) (ag bu)))))
 exact⟨n,o,rfl,dG,(by first | omega | (simp only [List.length_cons,List.length_nil,List.length_append]; omega))⟩
def fI:List bq→List UInt8→(List UInt8)
  | [],a=>a
  | c::d,a=>bnd (lF (aW.mk (Ll.mk a)) c) fun b=>fI d b.xb.ls
def kW (c:aW) (p1:eZ):aW:=
 bnd (aJ c p1.av) fun a=>bnd (aJ a p1.ay.ls.length) fun b=>bnd (fI p1.ay.ls b.xb.ls) fun sLrbbL=>aW.mk (Ll.mk sLrbbL)
set_option maxHeartbeats 1000000 in
theorem pq (w:World) (D:Nat→Prop) (f:Nat) (u:aW) (n:Option Addr) (o:Nat) (p1:eZ) (a:Option Addr) (y b:Nat) (M:aW) (H:Own w D w [blk f [.slice n u.xb.ls.length o] 57,row n u.xb.ls.length o (List.flatMap eB u.xb.ls) 5 1]) (I:y=p1.ay.ls.length) (j:Ro w D fun w'=>bG w' 6 a p1.ay.ls.length (List.flatMap bq.cells p1.ay.ls)) (au:p1.ay.ls.length≤b∧p1.ay.ls.length≤9223372036854775807) (aZ:u.xb.ls.length≤7000000000) (J:(p1.av≤18446744073709551615∧p1.ay.ls.length≤24∧∀ q ∈ p1.ay.ls,q.aV.length≤12∧q.aC.length≤16∧q.aK.length≤12∧q.aO.length≤12)) (hr:kW u p1=M):
    Calls Tryz.prog 25 #[.pointer (some ⟨f,0,none⟩), .agg #[.int .u64 ((p1.av:Nat):Int), .slice a y b]] w (dE fun v w'=> ∃ (B0ox0:Option Addr) (b0ox0:Nat),v= .tuple #[]∧Own w D w' [blk f [.slice B0ox0 M.xb.ls.length b0ox0] 57,row B0ox0 M.xb.ls.length b0ox0 (List.flatMap eB M.xb.ls) 5 1]∧(M.xb.ls.length≤u.xb.ls.length+3300)):=by
 subst I
 have av:=H.rowC (i:=1) rfl
 have aL:=J.1
 have aM:=J.2.1
 refine Ce (args:= [.pointer (some ⟨f,0,none⟩), .agg #[.int .u64 ((p1.av:Nat):Int), .slice a p1.ay.ls.length b]]) Tryz.func25 rfl rfl rfl ?_
 show Wp _ _ _ [(0, .pointer (some ⟨f,0,none⟩)),(1, .agg #[.int .u64 ((p1.av:Nat):Int), .slice a p1.ay.ls.length b])] _ _
 refine sr ?_
 refine dB [.int .u64 ((p1.av:Nat):Int), .slice a p1.ay.ls.length b] 66 H ?_
 intro x bf N
 refine ns (Mz rfl (Kz (.pointer (some ⟨x,0,none⟩)) (Lz (.int .u64 ((p1.av:Nat):Int)) N 0 Tryz.isAgg22 ?_)))
 have ax:=N.pk [1,2,0]
 obtain⟨p,z⟩:∃ q,aJ u p1.av=q:=⟨_,rfl⟩
 obtain⟨bi,O,aN,P,aO⟩:=Ct ax
 refine cl Tryz.call21 (bg _ _ f u n o p1.av p O (by first | omega | (dsimp only; omega) | (dsimp only [List.length_cons,List.length_nil]; omega)) z) ?_
 rintro _ bn ⟨ay,az,rfl,Q,A⟩
 have K:=P _ _ Q
 have aP:=K.rowC (i:=1) rfl
 replace A:p.xb.ls.length≤u.xb.ls.length+10:=A
 refine nt (BR (Mz rfl (Kz (.pointer (some ⟨x,1,none⟩)) (Lz (.slice a p1.ay.ls.length b) K 2 Tryz.isAgg64 (Mz rfl (Kz (.func (.func 72) #[.pointer (some ⟨f,0,none⟩)] #[]) ?_))))))
 refine WL.do rfl (Cq Tryz.call71 rfl ?_ (fun _ _ k=>k))
 refine Ce (args:= [.pointer (some ⟨f,0,none⟩), .slice a p1.ay.ls.length b, .func (.func 72) #[.pointer (some ⟨f,0,none⟩)] #[]]) Tryz.func71 rfl rfl rfl ?_
 show Wp _ _ _ [(0, .pointer (some ⟨f,0,none⟩)),(1, .slice a p1.ay.ls.length b),(2, .func (.func 72) #[.pointer (some ⟨f,0,none⟩)] #[])] _ _
 refine sr (Mz rfl (Mz rfl (Kz (.int .i64 ((p1.ay.ls.length:Nat):Int)) ?_)))
 refine WL.do rfl (Cq Tryz.call19 rfl ?_ (fun _ _ k=>k))
 refine Ce (args:= [.pointer (some ⟨f,0,none⟩), .int .i64 ((p1.ay.ls.length:Nat):Int)]) Tryz.func19 rfl rfl rfl ?_
 show Wp _ _ _ [(0, .pointer (some ⟨f,0,none⟩)),(1, .int .i64 ((p1.ay.ls.length:Nat):Int))] _ _
 refine BR (Mz rfl (Mz rfl (fw (.int .u64 ((p1.ay.ls.length:Nat):Int)) (Ci (e:=IntKind.u64.wrap ((p1.ay.ls.length:Nat):Int)) yk (IntWalk.u64_in _ (by omega))) ?_)))
 obtain⟨h,B⟩:∃ q,aJ p p1.ay.ls.length=q:=⟨_,rfl⟩
 obtain⟨bu,R,aQ,S,aR⟩:=Ct K
 refine cl Tryz.call21 (bg _ _ f p ay az p1.ay.ls.length h R (by first | omega | (dsimp only; omega) | (dsimp only [List.length_cons,List.length_nil]; omega)) B) ?_
 rintro _ bv ⟨aA,aB,rfl,T,C⟩
 have U:=S _ _ T
 have aS:=U.rowC (i:=1) rfl
 replace C:h.xb.ls.length≤p.xb.ls.length+10:=C
 refine Cf (Cw (res0 rfl) (nt (BR (Mz rfl (Mz rfl ?_)))))
 refine WL.do rfl (Cq Tryz.call106 rfl ?_ (fun _ _ k=>k))
 refine Ce (args:= [.func (.func 72) #[.pointer (some ⟨f,0,none⟩)] #[], .slice a p1.ay.ls.length b]) Tryz.func106 rfl rfl rfl ?_
 show Wp _ _ _ [(0, .func (.func 72) #[.pointer (some ⟨f,0,none⟩)] #[]),(1, .slice a p1.ay.ls.length b)] _ _
 refine sr (Mz rfl (Kz (.int .i64 ((p1.ay.ls.length:Nat):Int)) (Mn rfl (bo ?_))))
 have aC:=U.pk [0,2,1]
 obtain⟨V,W⟩:∃ q:(Nat × (Option Addr) × Nat × (List UInt8))→World→Prop,q=fun(i:Nat × (Option Addr) × Nat × (List UInt8)) w'=>Own w D w' [blk f [.slice i.2.1 i.2.2.2.length i.2.2.1] 57,blk x [.int .u64 ((p1.av:Nat):Int), .slice a p1.ay.ls.length b] 66,row i.2.1 i.2.2.2.length i.2.2.1 (List.flatMap eB i.2.2.2) 5 1]∧(i.1≤p1.ay.ls.length∧((i.2.2.2.length:Nat):Int)≤((h.xb.ls.length:Nat):Int)+130 *((i.1:Nat):Int)∧fI p1.ay.ls h.xb.ls=fI (List.drop i.1 p1.ay.ls) i.2.2.2):=⟨_,rfl⟩
 have r:∀ {c:Nat} {l:Option Addr} {m:Nat} {d:List UInt8} {w':World},V (c,l,m,d) w'↔Own w D w' [blk f [.slice l d.length m] 57,blk x [.int .u64 ((p1.av:Nat):Int), .slice a p1.ay.ls.length b] 66,row l d.length m (List.flatMap eB d) 5 1]∧c≤p1.ay.ls.length∧((d.length:Nat):Int)≤((h.xb.ls.length:Nat):Int)+130 *((c:Nat):Int)∧fI p1.ay.ls h.xb.ls=fI (List.drop c p1.ay.ls) d:=by intros; subst W; exact Iff.rfl
 refine Wp.loop (fun i:Nat × (Option Addr) × Nat × (List UInt8)=> [(8, .int .i64 ((i.1:Nat):Int)),(7, .int .i64 ((p1.ay.ls.length:Nat):Int)),(6, .slice a p1.ay.ls.length b),(0, .func (.func 72) #[.pointer (some ⟨f,0,none⟩)] #[])]) V (fun i=>p1.ay.ls.length - i.1) (0,aA,aB,h.xb.ls) ⟨rfl,rfl,rfl,rfl,trivial⟩ (r.2 ⟨aC,by omega,by omega,rfl⟩) ?_
 rintro ⟨c,l,m,d⟩ bz X
 show Wp _ _ _ [(8, .int .i64 ((c:Nat):Int)),(7, .int .i64 ((p1.ay.ls.length:Nat):Int)),(6, .slice a p1.ay.ls.length b),(0, .func (.func 72) #[.pointer (some ⟨f,0,none⟩)] #[])] _ _
 obtain⟨s,aT,aU,E⟩:=r.1 X
 refine sr (Kz (.bool (decide (((c:Nat):Int) < ((p1.ay.ls.length:Nat):Int)))) (nt (BS ?_)))
 by_cases Y:((c:Nat):Int) < ((p1.ay.ls.length:Nat):Int)
 obtain⟨g,t⟩:=bU (ls:=p1.ay.ls) (i:=c) bq.len (by decide) (s.ro j) (by first | omega | (simp; done) | (simp; omega))
 have Z:g.aV.length≤12∧g.aC.length≤16∧g.aK.length≤12∧g.aO.length≤12:=J.2.2 _ (List.mem_of_getElem? t)
 have aa:=drop_at t
 refine jT (dT Y) (sk (BS (bo (sr (fw (.pointer (some ⟨ab a,ao a+c *6,none⟩)) (Ch (rF) rfl rfl ((s.ro j).addr (i:=c) (by omega)) (by omega)) (fw (.agg (bq.cells g).toArray) (Cc rfl (Cu (cs:=(bq.cells g)) Tryz.isAgg74 Tryz.sizeOf74 ((s.ro j).elem bq.len t (by decide)))) ?_))))))
 refine dB [.int .i64 0, .string ⟨List.toArray ([])⟩, .string ⟨List.toArray ([])⟩, .string ⟨List.toArray ([])⟩, .string ⟨List.toArray ([])⟩, .int .i64 0] 74 s ?_
 intro bA bB aD
 refine dw (bq.cells g) 0 aD Tryz.sizeOf74 ?_
 intro bC ae
 refine nt (BR (Mz rfl (La (bq.cells g) ae 0 Tryz.isAgg74 Tryz.sizeOf74 ?_)))
 have aF:=ae.pk [1,3,0,2]
 obtain⟨L,F⟩:∃ q,lF (aW.mk (Ll.mk d)) g=q:=⟨_,rfl⟩
 obtain⟨bD,af,aV,ah,aX⟩:=Ct aF
 refine WL.do rfl (CB Tryz.call72 rfl rfl (qd _ _ f (aW.mk (Ll.mk d)) l m g L af (by first | omega | (dsimp only; omega) | (dsimp only [List.length_cons,List.length_nil]; omega)) (by exact Z) F) ?_)
 rintro _ bE ⟨aG,aH,rfl,ai,G⟩
 have aj:=ah _ _ ai
 have aY:=aj.rowC (i:=1) rfl
 replace G:L.xb.ls.length≤d.length+130:=G
 refine Cf (bN (Ca (BR (fw (.int .i64 ((c+1:Nat):Int)) (Ci (e:=IntKind.i64.wrap (((c:Nat):Int)+1)) yk (by rw [EL _ (by omega)]; omega)) (Mz rfl (Cf ?_))))))
 have aI:=aj.pk [0,3,1]
 exact Cm (c+1,aG,aH,L.xb.ls) ⟨rfl,rfl,rfl,rfl,trivial⟩ (r.2 ⟨aI,by omega,by omega,et (E) (et (congrArg (fun q=>fI q d) aa) (ag F))⟩) (by show p1.ay.ls.length - (c+1) < p1.ay.ls.length - c; omega)
 refine jF (dF Y) (Wp.exit (Cb ?_))
 have ak:fI p1.ay.ls h.xb.ls=d:=et (E) (et (congrArg (fun q=>fI q d) (bM (ls:=p1.ay.ls) (i:=c) (by omega))) rfl)
 refine Cb (Cn (Cw (res0 rfl) (Cf (Cw (res0 rfl) (Cf (Cw (res0 rfl) ?_))))))
 have aK:=s.pk [0,2]
 obtain rfl:_=aW.mk (Ll.mk d):=hr.symm.trans (et (ag z) (et (ag B) (ag ak)))
 exact⟨l,m,rfl,aK,(by first | omega | (simp only [List.length_cons,List.length_nil,List.length_append]; omega))⟩
def eU:List Int→List UInt8→(List UInt8)
  | [],a=>a
  | c::d,a=>bnd (aJ (aW.mk (Ll.mk a)) (Int.toNat (IntKind.u64.wrap c))) fun b=>eU d b.xb.ls
def jU (f:aW) (p1:bK):aW:=
 bnd (aJ f p1.av) fun a=>bnd (aJ a (Int.toNat (IntKind.u64.wrap p1.ak))) fun b=>bnd (aJ b p1.aj) fun c=>bnd (aJ c p1.bJ) fun d=>bnd (aJ d p1.aa.ls.length) fun e=>bnd (eU p1.aa.ls e.xb.ls) fun sLrbbbbbL=>aW.mk (Ll.mk sLrbbbbbL)
set_option maxHeartbeats 1000000 in
theorem nX (w:World) (D:Nat→Prop) (f:Nat) (K:aW) (s:Option Addr) (t:Nat) (p1:bK) (b:Option Addr) (O c:Nat) (r0:aW) (H:Own w D w [blk f [.slice s K.xb.ls.length t] 57,row s K.xb.ls.length t (List.flatMap eB K.xb.ls) 5 1]) (ae:O=p1.aa.ls.length) (o:Ro w D fun w'=>bG w' 1 b p1.aa.ls.length (List.flatMap (eI .i64) p1.aa.ls)) (bv:p1.aa.ls.length≤c∧p1.aa.ls.length≤9223372036854775807) (dJ:K.xb.ls.length≤7000000000) (L:(p1.av≤18446744073709551615∧p1.aj≤18446744073709551615∧p1.bJ≤18446744073709551615∧p1.aa.ls.length≤4)) (hr:jU K p1=r0):
    Calls Tryz.prog 33 #[.pointer (some ⟨f,0,none⟩), .agg #[.int .u64 ((p1.av:Nat):Int), .int .i64 p1.ak, .int .u64 ((p1.aj:Nat):Int), .int .u64 ((p1.bJ:Nat):Int), .slice b O c]] w (dE fun v w'=> ∃ (B0ox0:Option Addr) (b0ox0:Nat),v= .tuple #[]∧Own w D w' [blk f [.slice B0ox0 r0.xb.ls.length b0ox0] 57,row B0ox0 r0.xb.ls.length b0ox0 (List.flatMap eB r0.xb.ls) 5 1]∧(r0.xb.ls.length≤K.xb.ls.length+100)):=by
 subst ae
 have bz:=H.rowC (i:=1) rfl
 have bX:=L.1
 have bY:=L.2.1
 have bZ:=L.2.2.1
 have cu:=L.2.2.2
 refine Ce (args:= [.pointer (some ⟨f,0,none⟩), .agg #[.int .u64 ((p1.av:Nat):Int), .int .i64 p1.ak, .int .u64 ((p1.aj:Nat):Int), .int .u64 ((p1.bJ:Nat):Int), .slice b p1.aa.ls.length c]]) Tryz.func33 rfl rfl rfl ?_
 show Wp _ _ _ [(0, .pointer (some ⟨f,0,none⟩)),(1, .agg #[.int .u64 ((p1.av:Nat):Int), .int .i64 p1.ak, .int .u64 ((p1.aj:Nat):Int), .int .u64 ((p1.bJ:Nat):Int), .slice b p1.aa.ls.length c])] _ _
 refine sr ?_
 refine dB [.int .u64 ((p1.av:Nat):Int), .int .i64 p1.ak, .int .u64 ((p1.aj:Nat):Int), .int .u64 ((p1.bJ:Nat):Int), .slice b p1.aa.ls.length c] 79 H ?_
 intro p dK az
 refine ns (Mz rfl (Kz (.pointer (some ⟨p,0,none⟩)) (Lz (.int .u64 ((p1.av:Nat):Int)) az 0 Tryz.isAgg22 ?_)))
 have bA:=az.pk [1,2,0]
 obtain⟨u,P⟩:∃ q,aJ K p1.av=q:=⟨_,rfl⟩
 obtain⟨dL,aA,cz,aB,cB⟩:=Ct bA
 refine cl Tryz.call21 (bg _ _ f K s t p1.av u aA (by first | omega | (dsimp only; omega) | (dsimp only [List.length_cons,List.length_nil]; omega)) P) ?_
 rintro _ dM ⟨bB,bC,rfl,aC,Q⟩
 have af:=aB _ _ aC
 have cK:=af.rowC (i:=1) rfl
 replace Q:u.xb.ls.length≤K.xb.ls.length+10:=Q
 refine ns (Mz rfl (Kz (.pointer (some ⟨p,1,none⟩)) (Lz (.int .i64 p1.ak) af 2 Tryz.isAgg3 ?_)))
 refine WL.do rfl (Cq Tryz.call19 rfl ?_ (fun _ _ k=>k))
 refine Ce (args:= [.pointer (some ⟨f,0,none⟩), .int .i64 p1.ak]) Tryz.func19 rfl rfl rfl ?_
 show Wp _ _ _ [(0, .pointer (some ⟨f,0,none⟩)),(1, .int .i64 p1.ak)] _ _
 refine BR (Mz rfl (Mz rfl ?_))
 have cO:Int.toNat (IntKind.u64.wrap p1.ak)≤18446744073709551615:=gW _
 refine fw (.int .u64 ((Int.toNat (IntKind.u64.wrap p1.ak):Nat):Int)) (Ci (e:=IntKind.u64.wrap p1.ak) yk (di _)) ?_
 obtain⟨x,R⟩:∃ q,aJ u (Int.toNat (IntKind.u64.wrap p1.ak))=q:=⟨_,rfl⟩
 obtain⟨dN,aD,cZ,aF,df⟩:=Ct af
 refine cl Tryz.call21 (bg _ _ f u bB bC (Int.toNat (IntKind.u64.wrap p1.ak)) x aD (by first | omega | (dsimp only; omega) | (dsimp only [List.length_cons,List.length_nil]; omega)) R) ?_
 rintro _ dO ⟨bD,bE,rfl,aG,S⟩
 have M:=aF _ _ aG
 have dh:=M.rowC (i:=1) rfl
 replace S:x.xb.ls.length≤u.xb.ls.length+10:=S
 refine Cf (Cw (res0 rfl) (ns (Mz rfl (Kz (.func (.func 21) #[.pointer (some ⟨f,0,none⟩)] #[]) (Kz (.pointer (some ⟨p,2,none⟩)) (Lz (.int .u64 ((p1.aj:Nat):Int)) M 2 Tryz.isAgg22 (Kz (.pointer (some ⟨p,3,none⟩)) (Lz (.int .u64 ((p1.bJ:Nat):Int)) M 2 Tryz.isAgg22 ?_))))))))
 refine ji [.int .u64 ((p1.aj:Nat):Int), .int .u64 ((p1.bJ:Nat):Int)] 22 1 2 M ?_
 intro l dP z
 replace z:=CG (y:=row l 2 2 (List.flatMap (eN .u64) ([p1.aj,p1.bJ])) 22 1) rfl z
 refine WL.do rfl (Cq Tryz.call20 rfl ?_ (fun _ _ k=>k))
 refine Ce (args:= [.func (.func 21) #[.pointer (some ⟨f,0,none⟩)] #[], .slice l 2 2]) Tryz.func20 rfl rfl rfl ?_
 show Wp _ _ _ [(0, .func (.func 21) #[.pointer (some ⟨f,0,none⟩)] #[]),(1, .slice l 2 2)] _ _
 refine sr (Mz rfl (Kz (.int .i64 2) (Mn rfl (bo (Da 200 (sr (Kz (.bool true) (nt (BS (jt (sk (BS (bo (sr ?_))))))))))))))
 have aH:([p1.aj,p1.bJ]:List Nat)[0]? =some p1.aj:=rfl
 refine fw (.pointer (some ⟨ab l,ao l+0 *1,none⟩)) (Ch (jY) rfl rfl ((z.rds (i:=0) rfl).addr (i:=0) (by omega)) (by omega)) (fw (.int .u64 ((p1.aj:Nat):Int)) (Cc rfl (bi.one Tryz.isAgg22 (((z.rds (i:=0) rfl).elem fu aH (by decide)).at_ (k:=0) rfl))) (An rfl (BR (Mz rfl (Mz rfl ?_)))))
 have bF:=z.pk [1,2,0,3]
 obtain⟨A,T⟩:∃ q,aJ x p1.aj=q:=⟨_,rfl⟩
 obtain⟨dQ,aI,dm,aK,dn⟩:=Ct bF
 refine WL.do rfl (CB Tryz.call21 rfl rfl (bg _ _ f x bD bE p1.aj A aI (by first | omega | (dsimp only; omega) | (dsimp only [List.length_cons,List.length_nil]; omega)) T) ?_)
 rintro _ dR ⟨bH,bI,rfl,aL,U⟩
 have N:=aK _ _ aL
 have dw:=N.rowC (i:=1) rfl
 replace U:A.xb.ls.length≤x.xb.ls.length+10:=U
 refine Cf (bN (Ca (BR (Kz (.int .i64 1) (Mz rfl (Cf (CS [(8, .int .i64 1),(7, .int .i64 2),(6, .slice l 2 2),(0, .func (.func 21) #[.pointer (some ⟨f,0,none⟩)] #[])] ⟨rfl,rfl,rfl,rfl,trivial⟩ (sr (Kz (.bool true) (nt (BS (jt (sk (BS (bo (sr ?_))))))))))))))))
 have aM:([p1.aj,p1.bJ]:List Nat)[1]? =some p1.bJ:=rfl
 refine fw (.pointer (some ⟨ab l,ao l+1 *1,none⟩)) (Ch (jY) rfl rfl ((N.rds (i:=2) rfl).addr (i:=1) (by omega)) (by omega)) (fw (.int .u64 ((p1.bJ:Nat):Int)) (Cc rfl (bi.one Tryz.isAgg22 (((N.rds (i:=2) rfl).elem fu aM (by decide)).at_ (k:=0) rfl))) (An rfl (BR (Mz rfl (Mz rfl ?_)))))
 obtain⟨B,V⟩:∃ q,aJ A p1.bJ=q:=⟨_,rfl⟩
 obtain⟨dS,aN,dx,aO,dz⟩:=Ct N
 refine WL.do rfl (CB Tryz.call21 rfl rfl (bg _ _ f A bH bI p1.bJ B aN (by first | omega | (dsimp only; omega) | (dsimp only [List.length_cons,List.length_nil]; omega)) V) ?_)
 rintro _ dU ⟨bJ,bL,rfl,aP,W⟩
 have aQ:=aO _ _ aP
 have dA:=aQ.rowC (i:=1) rfl
 replace W:B.xb.ls.length≤A.xb.ls.length+10:=W
 refine Cf (bN (Ca (BR (Kz (.int .i64 2) (Mz rfl (Cf (CS [(8, .int .i64 2),(7, .int .i64 2),(6, .slice l 2 2),(0, .func (.func 21) #[.pointer (some ⟨f,0,none⟩)] #[])] ⟨rfl,rfl,rfl,rfl,trivial⟩ (sr (Kz (.bool false) (nt (BS (jf (Wp.exit (Cb (Cb (Cn (Cw (res0 rfl) (nt ?_))))))))))))))))))
 have aR:=aQ.pk [0,1,3]
 refine BR (Mz rfl (Kz (.pointer (some ⟨p,4,none⟩)) (Lz (.slice b p1.aa.ls.length c) aR 2 Tryz.isAgg77 (Mz rfl (Kz (.func (.func 19) #[.pointer (some ⟨f,0,none⟩)] #[]) ?_)))))
 refine WL.do rfl (Cq Tryz.call77 rfl ?_ (fun _ _ k=>k))
 refine Ce (args:= [.pointer (some ⟨f,0,none⟩), .slice b p1.aa.ls.length c, .func (.func 19) #[.pointer (some ⟨f,0,none⟩)] #[]]) Tryz.func77 rfl rfl rfl ?_
 show Wp _ _ _ [(0, .pointer (some ⟨f,0,none⟩)),(1, .slice b p1.aa.ls.length c),(2, .func (.func 19) #[.pointer (some ⟨f,0,none⟩)] #[])] _ _
 refine sr (Mz rfl (Mz rfl (Kz (.int .i64 ((p1.aa.ls.length:Nat):Int)) ?_)))
 refine WL.do rfl (Cq Tryz.call19 rfl ?_ (fun _ _ k=>k))
 refine Ce (args:= [.pointer (some ⟨f,0,none⟩), .int .i64 ((p1.aa.ls.length:Nat):Int)]) Tryz.func19 rfl rfl rfl ?_
 show Wp _ _ _ [(0, .pointer (some ⟨f,0,none⟩)),(1, .int .i64 ((p1.aa.ls.length:Nat):Int))] _ _
 refine BR (Mz rfl (Mz rfl (fw (.int .u64 ((p1.aa.ls.length:Nat):Int)) (Ci (e:=IntKind.u64.wrap ((p1.aa.ls.length:Nat):Int)) yk (IntWalk.u64_in _ (by omega))) ?_)))
 obtain⟨m,X⟩:∃ q,aJ B p1.aa.ls.length=q:=⟨_,rfl⟩
 obtain⟨dV,aS,dC,aT,dD⟩:=Ct aR
 refine cl Tryz.call21 (bg _ _ f B bJ bL p1.aa.ls.length m aS (by first | omega | (dsimp only; omega) | (dsimp only [List.length_cons,List.length_nil]; omega)) X) ?_
 rintro _ dW ⟨bO,aU,rfl,aV,C⟩
 have aX:=aT _ _ aV
 have bP:=aX.rowC (i:=1) rfl
 replace C:m.xb.ls.length≤B.xb.ls.length+10:=C
 refine Cf (Cw (res0 rfl) (nt (BR (Mz rfl (Mz rfl ?_)))))
 refine WL.do rfl (Cq Tryz.call107 rfl ?_ (fun _ _ k=>k))
 refine Ce (args:= [.func (.func 19) #[.pointer (some ⟨f,0,none⟩)] #[], .slice b p1.aa.ls.length c]) Tryz.func107 rfl rfl rfl ?_
 show Wp _ _ _ [(0, .func (.func 19) #[.pointer (some ⟨f,0,none⟩)] #[]),(1, .slice b p1.aa.ls.length c)] _ _
 refine sr (Mz rfl (Kz (.int .i64 ((p1.aa.ls.length:Nat):Int)) (Mn rfl (bo ?_))))
 have aY:=aX.pk [0,2,1]
 obtain⟨Y,ah⟩:∃ q:(Nat × (Option Addr) × Nat × (List UInt8))→World→Prop,q=fun(i:Nat × (Option Addr) × Nat × (List UInt8)) w'=>Own w D w' [blk f [.slice i.2.1 i.2.2.2.length i.2.2.1] 57,blk p [.int .u64 ((p1.av:Nat):Int), .int .i64 p1.ak, .int .u64 ((p1.aj:Nat):Int), .int .u64 ((p1.bJ:Nat):Int), .slice b p1.aa.ls.length c] 79,row i.2.1 i.2.2.2.length i.2.2.1 (List.flatMap eB i.2.2.2) 5 1]∧(i.1≤p1.aa.ls.length∧((i.2.2.2.length:Nat):Int)≤((m.xb.ls.length:Nat):Int)+10 *((i.1:Nat):Int)∧eU p1.aa.ls m.xb.ls=eU (List.drop i.1 p1.aa.ls) i.2.2.2):=⟨_,rfl⟩
 have r:∀ {a:Nat} {h:Option Addr} {j:Nat} {d:List UInt8} {w':World},Y (a,h,j,d) w'↔Own w D w' [blk f [.slice h d.length j] 57,blk p [.int .u64 ((p1.av:Nat):Int), .int .i64 p1.ak, .int .u64 ((p1.aj:Nat):Int), .int .u64 ((p1.bJ:Nat):Int), .slice b p1.aa.ls.length c] 79,row h d.length j (List.flatMap eB d) 5 1]∧a≤p1.aa.ls.length∧((d.length:Nat):Int)≤((m.xb.ls.length:Nat):Int)+10 *((a:Nat):Int)∧eU p1.aa.ls m.xb.ls=eU (List.drop a p1.aa.ls) d:=by intros; subst ah; exact Iff.rfl
 refine Wp.loop (fun i:Nat × (Option Addr) × Nat × (List UInt8)=> [(8, .int .i64 ((i.1:Nat):Int)),(7, .int .i64 ((p1.aa.ls.length:Nat):Int)),(6, .slice b p1.aa.ls.length c),(0, .func (.func 19) #[.pointer (some ⟨f,0,none⟩)] #[])]) Y (fun i=>p1.aa.ls.length - i.1) (0,bO,aU,m.xb.ls) ⟨rfl,rfl,rfl,rfl,trivial⟩ (r.2 ⟨aY,by omega,by omega,rfl⟩) ?_
 rintro ⟨a,h,j,d⟩ dG ai
 show Wp _ _ _ [(8, .int .i64 ((a:Nat):Int)),(7, .int .i64 ((p1.aa.ls.length:Nat):Int)),(6, .slice b p1.aa.ls.length c),(0, .func (.func 19) #[.pointer (some ⟨f,0,none⟩)] #[])] _ _
 obtain⟨n,bQ,bR,E⟩:=r.1 ai
 refine sr (Kz (.bool (decide (((a:Nat):Int) < ((p1.aa.ls.length:Nat):Int)))) (nt (BS ?_)))
 by_cases Z:((a:Nat):Int) < ((p1.aa.ls.length:Nat):Int)
 obtain⟨g,F⟩:=bU (ls:=p1.aa.ls) (i:=a) gu (by decide) (n.ro o) (by first | omega | (simp; done) | (simp; omega))
 have aj:=drop_at F
 refine jT (dT Z) (sk (BS (bo (sr (fw (.pointer (some ⟨ab b,ao b+a *1,none⟩)) (Ch (lU) rfl rfl ((n.ro o).addr (i:=a) (by omega)) (by omega)) (fw (.int .i64 g) (Cc rfl (bi.one Tryz.isAgg3 (((n.ro o).elem gu F (by decide)).at_ (k:=0) rfl))) (An rfl (BR (Mz rfl (Mz rfl ?_))))))))))
 refine WL.do rfl (CB Tryz.call19 rfl rfl ?_ (fun _ _ k=>k))
 refine Ce (args:= [.pointer (some ⟨f,0,none⟩), .int .i64 g]) Tryz.func19 rfl rfl rfl ?_
 show Wp _ _ _ [(0, .pointer (some ⟨f,0,none⟩)),(1, .int .i64 g)] _ _
 refine BR (Mz rfl (Mz rfl ?_))
 have bS:Int.toNat (IntKind.u64.wrap g)≤18446744073709551615:=gW _
 refine fw (.int .u64 ((Int.toNat (IntKind.u64.wrap g):Nat):Int)) (Ci (e:=IntKind.u64.wrap g) yk (di _)) ?_
 have aZ:=n.pk [0,2,1]
 obtain⟨G,I⟩:∃ q,aJ (aW.mk (Ll.mk d)) (Int.toNat (IntKind.u64.wrap g))=q:=⟨_,rfl⟩
 obtain⟨dH,ak,bT,au,bV⟩:=Ct aZ
 refine cl Tryz.call21 (bg _ _ f (aW.mk (Ll.mk d)) h j (Int.toNat (IntKind.u64.wrap g)) G ak (by first | omega | (dsimp only; omega) | (dsimp only [List.length_cons,List.length_nil]; omega)) I) ?_
 rintro _ dI ⟨bf,bn,rfl,av,J⟩
 have aa:=au _ _ av
 have bW:=aa.rowC (i:=1) rfl
 replace J:G.xb.ls.length≤d.length+10:=J
 refine Cf (Cw (res0 rfl) (Cf (bN (Ca (BR (fw (.int .i64 ((a+1:Nat):Int)) (Ci (e:=IntKind.i64.wrap (((a:Nat):Int)+1)) yk (by rw [EL _ (by omega)]; omega)) (Mz rfl (Cf ?_))))))))
 have bq:=aa.pk [0,2,1]
 exact Cm (a+1,bf,bn,G.xb.ls) ⟨rfl,rfl,rfl,rfl,trivial⟩ (r.2 ⟨bq,by omega,by omega,et (E) (et (congrArg (fun q=>eU q d) aj) (ag I))⟩) (by show p1.aa.ls.length - (a+1) < p1.aa.ls.length - a; omega)
 refine jF (dF Z) (Wp.exit (Cb ?_))
 have ax:eU p1.aa.ls m.xb.ls=d:=et (E) (et (congrArg (fun q=>eU q d) (bM (ls:=p1.aa.ls) (i:=a) (by omega))) rfl)
 refine Cb (Cn (Cw (res0 rfl) (Cf (Cw (res0 rfl) (Cf (Cw (res0 rfl) ?_))))))
 have bu:=n.pk [0,2]
 obtain rfl:_=aW.mk (Ll.mk d):=hr.symm.trans (et (ag P) (et (ag R) (et (ag T) (et (ag V) (et (ag X) (ag ax))))))
 exact⟨h,j,rfl,bu,(by first | omega | (simp only [List.length_cons,List.length_nil,List.length_append]; omega))⟩
def fJ:List cK→List UInt8→(List UInt8)
  | [],b=>b
  | a::d,b=>bnd (kF (aW.mk (Ll.mk b)) (cK.mk a.eT a.aC (Ll.mk a.aA.ls))) fun c=>fJ d c.xb.ls
def kX (e:aW) (p1:eD):aW:=
 bnd (aJ e (Int.toNat (IntKind.u64.wrap p1.ak))) fun a=>bnd (aJ a p1.aj) fun b=>bnd (aJ b p1.bJ) fun c=>bnd (aJ c p1.au.ls.length) fun d=>bnd (fJ p1.au.ls d.xb.ls) fun sLrbbbbL=>aW.mk (Ll.mk sLrbbbbL)
set_option maxHeartbeats 1000000 in
theorem pu (w:World) (D:Nat→Prop) (g:Nat) (R:aW) (B:Option Addr) (C:Nat) (p1:eD) (b:Option Addr) (V d:Nat) (r:List aD) (r0:aW) (H:Own w D w [blk g [.slice B R.xb.ls.length C] 57,row B R.xb.ls.length C (List.flatMap eB R.xb.ls) 5 1]) (E:List.map Cj r=p1.au.ls) (au:V=p1.au.ls.length) (n:Ro w D fun w'=>bG w' 3 b p1.au.ls.length (List.flatMap aD.cells r)) (bF:p1.au.ls.length≤d∧p1.au.ls.length≤9223372036854775807) (F:∀ x ∈ r,Ro w D (fun w'=>bG w' 2 x.aA.A x.aA.ls.length (List.flatMap bH.cells x.aA.ls))∧(x.aA.ls.length≤x.aA.c∧x.aA.ls.length≤9223372036854775807)) (dQ:R.xb.ls.length≤6000000000) (S:(p1.aj≤18446744073709551615∧p1.bJ≤18446744073709551615∧p1.au.ls.length≤24∧∀ z ∈ p1.au.ls,z.aC.length≤16∧z.aA.ls.length≤4∧∀ q ∈ z.aA.ls,q.aV.length≤12∧q.aC.length≤16)) (hr:kX R p1=r0):
    Calls Tryz.prog 35 #[.pointer (some ⟨g,0,none⟩), .agg #[.int .i64 p1.ak, .int .u64 ((p1.aj:Nat):Int), .int .u64 ((p1.bJ:Nat):Int), .slice b V d]] w (dE fun v w'=> ∃ (B0ox0:Option Addr) (b0ox0:Nat),v= .tuple #[]∧Own w D w' [blk g [.slice B0ox0 r0.xb.ls.length b0ox0] 57,row B0ox0 r0.xb.ls.length b0ox0 (List.flatMap eB r0.xb.ls) 5 1]∧(r0.xb.ls.length≤R.xb.ls.length+8000)):=by
 subst au
 have hdl1x0:=dm E
 have bI:=H.rowC (i:=1) rfl
 have cB:=S.1
 have cO:=S.2.1
 have cZ:=S.2.2.1
 refine Ce (args:= [.pointer (some ⟨g,0,none⟩), .agg #[.int .i64 p1.ak, .int .u64 ((p1.aj:Nat):Int), .int .u64 ((p1.bJ:Nat):Int), .slice b p1.au.ls.length d]]) Tryz.func35 rfl rfl rfl ?_
 show Wp _ _ _ [(0, .pointer (some ⟨g,0,none⟩)),(1, .agg #[.int .i64 p1.ak, .int .u64 ((p1.aj:Nat):Int), .int .u64 ((p1.bJ:Nat):Int), .slice b p1.au.ls.length d])] _ _
 refine sr ?_
 refine dB [.int .i64 p1.ak, .int .u64 ((p1.aj:Nat):Int), .int .u64 ((p1.bJ:Nat):Int), .slice b p1.au.ls.length d] 84 H ?_
 intro s dR aI
 refine ns (Mz rfl (Kz (.pointer (some ⟨s,0,none⟩)) (Lz (.int .i64 p1.ak) aI 0 Tryz.isAgg3 ?_)))
 refine WL.do rfl (Cq Tryz.call19 rfl ?_ (fun _ _ k=>k))
 refine Ce (args:= [.pointer (some ⟨g,0,none⟩), .int .i64 p1.ak]) Tryz.func19 rfl rfl rfl ?_
 show Wp _ _ _ [(0, .pointer (some ⟨g,0,none⟩)),(1, .int .i64 p1.ak)] _ _
 refine BR (Mz rfl (Mz rfl ?_))
 have df:Int.toNat (IntKind.u64.wrap p1.ak)≤18446744073709551615:=gW _
 refine fw (.int .u64 ((Int.toNat (IntKind.u64.wrap p1.ak):Nat):Int)) (Ci (e:=IntKind.u64.wrap p1.ak) yk (di _)) ?_
 have bJ:=aI.pk [1,2,0]
 obtain⟨G,W⟩:∃ q,aJ R (Int.toNat (IntKind.u64.wrap p1.ak))=q:=⟨_,rfl⟩
 obtain⟨dS,aK,dh,aL,dn⟩:=Ct bJ
 refine cl Tryz.call21 (bg _ _ g R B C (Int.toNat (IntKind.u64.wrap p1.ak)) G aK (by first | omega | (dsimp only; omega) | (dsimp only [List.length_cons,List.length_nil]; omega)) W) ?_
 rintro _ dU ⟨bK,bL,rfl,aM,X⟩
 have T:=aL _ _ aM
 have dx:=T.rowC (i:=1) rfl
 replace X:G.xb.ls.length≤R.xb.ls.length+10:=X
 refine Cf (Cw (res0 rfl) (ns (Mz rfl (Kz (.func (.func 21) #[.pointer (some ⟨g,0,none⟩)] #[]) (Kz (.pointer (some ⟨s,1,none⟩)) (Lz (.int .u64 ((p1.aj:Nat):Int)) T 2 Tryz.isAgg22 (Kz (.pointer (some ⟨s,2,none⟩)) (Lz (.int .u64 ((p1.bJ:Nat):Int)) T 2 Tryz.isAgg22 ?_))))))))
 refine ji [.int .u64 ((p1.aj:Nat):Int), .int .u64 ((p1.bJ:Nat):Int)] 22 1 2 T ?_
 intro j dV I
 replace I:=CG (y:=row j 2 2 (List.flatMap (eN .u64) ([p1.aj,p1.bJ])) 22 1) rfl I
 refine WL.do rfl (Cq Tryz.call20 rfl ?_ (fun _ _ k=>k))
 refine Ce (args:= [.func (.func 21) #[.pointer (some ⟨g,0,none⟩)] #[], .slice j 2 2]) Tryz.func20 rfl rfl rfl ?_
 show Wp _ _ _ [(0, .func (.func 21) #[.pointer (some ⟨g,0,none⟩)] #[]),(1, .slice j 2 2)] _ _
 refine sr (Mz rfl (Kz (.int .i64 2) (Mn rfl (bo (Da 200 (sr (Kz (.bool true) (nt (BS (jt (sk (BS (bo (sr ?_))))))))))))))
 have aN:([p1.aj,p1.bJ]:List Nat)[0]? =some p1.aj:=rfl
 refine fw (.pointer (some ⟨ab j,ao j+0 *1,none⟩)) (Ch (jY) rfl rfl ((I.rds (i:=0) rfl).addr (i:=0) (by omega)) (by omega)) (fw (.int .u64 ((p1.aj:Nat):Int)) (Cc rfl (bi.one Tryz.isAgg22 (((I.rds (i:=0) rfl).elem fu aN (by decide)).at_ (k:=0) rfl))) (An rfl (BR (Mz rfl (Mz rfl ?_)))))
 have bO:=I.pk [1,2,0,3]
 obtain⟨J,Y⟩:∃ q,aJ G p1.aj=q:=⟨_,rfl⟩
 obtain⟨dW,aO,dz,aP,dA⟩:=Ct bO
 refine WL.do rfl (CB Tryz.call21 rfl rfl (bg _ _ g G bK bL p1.aj J aO (by first | omega | (dsimp only; omega) | (dsimp only [List.length_cons,List.length_nil]; omega)) Y) ?_)
 rintro _ dX ⟨bP,bQ,rfl,aQ,Z⟩
 have U:=aP _ _ aQ
 have dC:=U.rowC (i:=1) rfl
 replace Z:J.xb.ls.length≤G.xb.ls.length+10:=Z
 refine Cf (bN (Ca (BR (Kz (.int .i64 1) (Mz rfl (Cf (CS [(8, .int .i64 1),(7, .int .i64 2),(6, .slice j 2 2),(0, .func (.func 21) #[.pointer (some ⟨g,0,none⟩)] #[])] ⟨rfl,rfl,rfl,rfl,trivial⟩ (sr (Kz (.bool true) (nt (BS (jt (sk (BS (bo (sr ?_))))))))))))))))
 have aR:([p1.aj,p1.bJ]:List Nat)[1]? =some p1.bJ:=rfl
 refine fw (.pointer (some ⟨ab j,ao j+1 *1,none⟩)) (Ch (jY) rfl rfl ((U.rds (i:=2) rfl).addr (i:=1) (by omega)) (by omega)) (fw (.int .u64 ((p1.bJ:Nat):Int)) (Cc rfl (bi.one Tryz.isAgg22 (((U.rds (i:=2) rfl).elem fu aR (by decide)).at_ (k:=0) rfl))) (An rfl (BR (Mz rfl (Mz rfl ?_)))))
 obtain⟨K,aa⟩:∃ q,aJ J p1.bJ=q:=⟨_,rfl⟩
 obtain⟨dY,aS,dD,aT,dG⟩:=Ct U
 refine WL.do rfl (CB Tryz.call21 rfl rfl (bg _ _ g J bP bQ p1.bJ K aS (by first | omega | (dsimp only; omega) | (dsimp only [List.length_cons,List.length_nil]; omega)) aa) ?_)
 rintro _ dZ ⟨bR,bS,rfl,aU,ae⟩
 have aV:=aT _ _ aU
 have dH:=aV.rowC (i:=1) rfl
 replace ae:K.xb.ls.length≤J.xb.ls.length+10:=ae
 refine Cf (bN (Ca (BR (Kz (.int .i64 2) (Mz rfl (Cf (CS [(8, .int .i64 2),(7, .int .i64 2),(6, .slice j 2 2),(0, .func (.func 21) #[.pointer (some ⟨g,0,none⟩)] #[])] ⟨rfl,rfl,rfl,rfl,trivial⟩ (sr (Kz (.bool false) (nt (BS (jf (Wp.exit (Cb (Cb (Cn (Cw (res0 rfl) (nt ?_))))))))))))))))))
 have aX:=aV.pk [0,1,3]
 refine BR (Mz rfl (Kz (.pointer (some ⟨s,3,none⟩)) (Lz (.slice b p1.au.ls.length d) aX 2 Tryz.isAgg82 (Mz rfl (Kz (.func (.func 80) #[.pointer (some ⟨g,0,none⟩)] #[]) ?_)))))
 refine WL.do rfl (Cq Tryz.call79 rfl ?_ (fun _ _ k=>k))
 refine Ce (args:= [.pointer (some ⟨g,0,none⟩), .slice b p1.au.ls.length d, .func (.func 80) #[.pointer (some ⟨g,0,none⟩)] #[]]) Tryz.func79 rfl rfl rfl ?_
 show Wp _ _ _ [(0, .pointer (some ⟨g,0,none⟩)),(1, .slice b p1.au.ls.length d),(2, .func (.func 80) #[.pointer (some ⟨g,0,none⟩)] #[])] _ _
 refine sr (Mz rfl (Mz rfl (Kz (.int .i64 ((p1.au.ls.length:Nat):Int)) ?_)))
 refine WL.do rfl (Cq Tryz.call19 rfl ?_ (fun _ _ k=>k))
 refine Ce (args:= [.pointer (some ⟨g,0,none⟩), .int .i64 ((p1.au.ls.length:Nat):Int)]) Tryz.func19 rfl rfl rfl ?_
 show Wp _ _ _ [(0, .pointer (some ⟨g,0,none⟩)),(1, .int .i64 ((p1.au.ls.length:Nat):Int))] _ _
 refine BR (Mz rfl (Mz rfl (fw (.int .u64 ((p1.au.ls.length:Nat):Int)) (Ci (e:=IntKind.u64.wrap ((p1.au.ls.length:Nat):Int)) yk (IntWalk.u64_in _ (by omega))) ?_)))
 obtain⟨m,af⟩:∃ q,aJ K p1.au.ls.length=q:=⟨_,rfl⟩
 obtain⟨d9,aY,dI,aZ,dJ⟩:=Ct aX
 refine cl Tryz.call21 (bg _ _ g K bR bS p1.au.ls.length m aY (by first | omega | (dsimp only; omega) | (dsimp only [List.length_cons,List.length_nil]; omega)) af) ?_
 rintro _ ed ⟨bT,bV,rfl,bf,ah⟩
 have bn:=aZ _ _ bf
 have dK:=bn.rowC (i:=1) rfl
 replace ah:m.xb.ls.length≤K.xb.ls.length+10:=ah
 refine Cf (Cw (res0 rfl) (nt (BR (Mz rfl (Mz rfl ?_)))))
 refine WL.do rfl (Cq Tryz.call108 rfl ?_ (fun _ _ k=>k))
 refine Ce (args:= [.func (.func 80) #[.pointer (some ⟨g,0,none⟩)] #[], .slice b p1.au.ls.length d]) Tryz.func108 rfl rfl rfl ?_
 show Wp _ _ _ [(0, .func (.func 80) #[.pointer (some ⟨g,0,none⟩)] #[]),(1, .slice b p1.au.ls.length d)] _ _
 refine sr (Mz rfl (Kz (.int .i64 ((p1.au.ls.length:Nat):Int)) (Mn rfl (bo ?_))))
 have bW:=bn.pk [0,2,1]
 obtain⟨bq,bu⟩:∃ q:(Nat × (Option Addr) × Nat × (List UInt8))→World→Prop,q=fun(i:Nat × (Option Addr) × Nat × (List UInt8)) w'=>Own w D w' [blk g [.slice i.2.1 i.2.2.2.length i.2.2.1] 57,blk s [.int .i64 p1.ak, .int .u64 ((p1.aj:Nat):Int), .int .u64 ((p1.bJ:Nat):Int), .slice b p1.au.ls.length d] 84,row i.2.1 i.2.2.2.length i.2.2.1 (List.flatMap eB i.2.2.2) 5 1]∧(i.1≤p1.au.ls.length∧((i.2.2.2.length:Nat):Int)≤((m.xb.ls.length:Nat):Int)+300 *((i.1:Nat):Int)∧fJ p1.au.ls m.xb.ls=fJ (List.drop i.1 p1.au.ls) i.2.2.2):=⟨_,rfl⟩
 have o:∀ {f:Nat} {t:Option Addr} {u:Nat} {h:List UInt8} {w':World},bq (f,t,u,h) w'↔Own w D w' [blk g [.slice t h.length u] 57,blk s [.int .i64 p1.ak, .int .u64 ((p1.aj:Nat):Int), .int .u64 ((p1.bJ:Nat):Int), .slice b p1.au.ls.length d] 84,row t h.length u (List.flatMap eB h) 5 1]∧f≤p1.au.ls.length∧((h.length:Nat):Int)≤((m.xb.ls.length:Nat):Int)+300 *((f:Nat):Int)∧fJ p1.au.ls m.xb.ls=fJ (List.drop f p1.au.ls) h:=by intros; subst bu; exact Iff.rfl
 refine Wp.loop (fun i:Nat × (Option Addr) × Nat × (List UInt8)=> [(8, .int .i64 ((i.1:Nat):Int)),(7, .int .i64 ((p1.au.ls.length:Nat):Int)),(6, .slice b p1.au.ls.length d),(0, .func (.func 80) #[.pointer (some ⟨g,0,none⟩)] #[])]) bq (fun i=>p1.au.ls.length - i.1) (0,bT,bV,m.xb.ls) ⟨rfl,rfl,rfl,rfl,trivial⟩ (o.2 ⟨bW,by omega,by omega,rfl⟩) ?_
 rintro ⟨f,t,u,h⟩ ek bv
 show Wp _ _ _ [(8, .int .i64 ((f:Nat):Int)),(7, .int .i64 ((p1.au.ls.length:Nat):Int)),(6, .slice b p1.au.ls.length d),(0, .func (.func 80) #[.pointer (some ⟨g,0,none⟩)] #[])] _ _
 obtain⟨L,bX,bY,M⟩:=o.1 bv
 refine sr (Kz (.bool (decide (((f:Nat):Int) < ((p1.au.ls.length:Nat):Int)))) (nt (BS ?_)))
 by_cases ai:((f:Nat):Int) < ((p1.au.ls.length:Nat):Int)
 obtain⟨a,l⟩:=bU (ls:=r) (i:=f) aD.len (by decide) (L.ro n) (by first | omega | (simp; done) | (simp; omega))
 have N:=jb E l
 have bZ:=(F _ (List.mem_of_getElem? l)).2
 have p:List.length (Cj a).aC≤16∧List.length (Cj a).aA.ls≤4∧∀ q ∈ (Cj a).aA.ls,q.aV.length≤12∧q.aC.length≤16:=S.2.2.2 _ (List.mem_of_getElem? N)
 have hz109p0:a.aC.length≤16:=by have q9:=p.1; first | exact q9 | (simp only [Cj,List.length_map] at q9; exact q9)
 have hz109p1:a.aA.ls.length≤4:=by have q9:=p.2.1; first | exact q9 | (simp only [Cj,List.length_map] at q9; exact q9)
 have ax:=drop_at N
 refine jT (dT ai) (sk (BS (bo (sr (fw (.pointer (some ⟨ab b,ao b+f *3,none⟩)) (Ch (sI) rfl rfl ((L.ro n).addr (i:=f) (by omega)) (by omega)) (fw (.agg (aD.cells a).toArray) (Cc rfl (Cu (cs:=(aD.cells a)) Tryz.isAgg129 Tryz.sizeOf129 ((L.ro n).elem aD.len l (by decide)))) ?_))))))
 refine dB [.bool false, .string ⟨List.toArray ([])⟩, .slice none 0 0] 129 L ?_
 intro dL dM bz
 refine dw (aD.cells a) 0 bz Tryz.sizeOf129 ?_
 intro dN aj
 refine nt (BR (Mz rfl (La (aD.cells a) aj 0 Tryz.isAgg129 Tryz.sizeOf129 ?_)))
 have bA:=aj.pk [1,3,0,2]
 obtain⟨O,P⟩:∃ q,kF (aW.mk (Ll.mk h)) (cK.mk a.eT a.aC (Ll.mk a.aA.ls))=q:=⟨_,rfl⟩
 obtain⟨dO,ay,az,aB,cu⟩:=Ct bA
 refine WL.do rfl (CB Tryz.call80 rfl rfl (oJ _ _ g (aW.mk (Ll.mk h)) t u (cK.mk a.eT a.aC (Ll.mk a.aA.ls)) a.aA.A a.aA.ls.length a.aA.c O ay rfl (az _ (F _ (List.mem_of_getElem? l)).1) (show a.aA.ls.length≤a.aA.c∧a.aA.ls.length≤9223372036854775807 from by omega) (by first | omega | (dsimp only; omega) | (dsimp only [List.length_cons,List.length_nil]; omega)) (by exact p) P) ?_)
 rintro _ dP ⟨bB,bC,rfl,aF,Q⟩
 have ak:=aB _ _ aF
 have cz:=ak.rowC (i:=1) rfl
 replace Q:O.xb.ls.length≤h.length+300:=Q
 refine Cf (bN (Ca (BR (fw (.int .i64 ((f+1:Nat):Int)) (Ci (e:=IntKind.i64.wrap (((f:Nat):Int)+1)) yk (by rw [EL _ (by omega)]; omega)) (Mz rfl (Cf ?_))))))
 have bD:=ak.pk [0,3,1]
 exact Cm (f+1,bB,bC,O.xb.ls) ⟨rfl,rfl,rfl,rfl,trivial⟩ (o.2 ⟨bD,by omega,by omega,et (M) (et (congrArg (fun q=>fJ q h) ax) (ag P))⟩) (by show p1.au.ls.length - (f+1) < p1.au.ls.length - f; omega)
 refine jF (dF ai) (Wp.exit (Cb ?_))
 have aG:fJ p1.au.ls m.xb.ls=h:=et (M) (et (congrArg (fun q=>fJ q h) (bM (ls:=p1.au.ls) (i:=f) (by omega))) rfl)
 refine Cb (Cn (Cw (res0 rfl) (Cf (Cw (res0 rfl) (Cf (Cw (res0 rfl) ?_))))))
 have bE:=L.pk [0,2]
 obtain rfl:_=aW.mk (Ll.mk h):=hr.symm.trans (et (ag W) (et (ag Y) (et (ag aa) (et (ag af) (ag aG)))))
 exact⟨t,u,rfl,bE,(by first | omega | (simp only [List.length_cons,List.length_nil,List.length_append]; omega))⟩
end Go.Proofs.YtcnkpjheifkgnaaGreat
