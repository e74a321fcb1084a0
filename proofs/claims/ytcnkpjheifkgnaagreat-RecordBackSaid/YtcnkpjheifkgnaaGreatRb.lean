/-
 record: what is written.
-/
import Derived.Test.YtcnkpjheifkgnaaGreatRcA
namespace Go.Proofs.YtcnkpjheifkgnaaGreat
set_option maxRecDepth 100000
open Go.RowKit
set_option linter.unusedVariables false
set_option linter.unusedSectionVars false
set_option linter.unusedSimpArgs false
def ik:Nat→Nat→List UInt8→Nat × (List UInt8)
  | 0,a,b=>default
  | c+1,a,b=>if((a:Nat):Int) ≥ 128 then ik c (a / 128) (b++ [((UInt8.ofNat a) ||| (128:UInt8))]) else(a,b)
def bq (a:Nat):(List UInt8):=
 bnd (ik (a+1) a ([])) fun sLrL=>(sLrL.2++ [(UInt8.ofNat sLrL.1)])
theorem oH (w:World) (D:Nat→Prop) (c:Nat) (n:List UInt8) (H:Own w D w []) (t:c≤18446744073709551615) (hr:bq c=n):
    Calls Tryz.prog 68 #[.int .u64 ((c:Nat):Int)] w (dE fun v w'=> ∃ (V:Option Addr) (W:Nat),v= .slice V n.length W∧Own w D w' [row V n.length W (List.flatMap eB n) 5 1]∧(1≤n.length∧n.length≤10)∧(c ≥ 128∨n.length=1)):=by
 refine zg (args:= [.int .u64 ((c:Nat):Int)]) Tryz.func68 rfl rfl rfl ?_
 show Wp _ _ _ [(0, .int .u64 ((c:Nat):Int))] _ _
 refine sr (Ar rfl ?_)
 refine WL.do rfl (Bw (m:=10) (size:=1) (bytes:=1) (z:= .int .u8 0) Tryz.underlying37 (by kernel_rfl) H rfl rfl (by omega) (by unfold maxLen; omega) ?_)
 intro I ah J
 refine An rfl (ze (bo ?_))
 have K:=J.pk [0]
 obtain⟨u,x⟩:∃ q:(Nat × (Option Addr) × Nat × (List UInt8) × Nat)→World→Prop,q=fun(i:Nat × (Option Addr) × Nat × (List UInt8) × Nat) w'=>Own w D w' [row i.2.1 i.2.2.2.1.length i.2.2.1 (List.flatMap eB i.2.2.2.1) 5 1]∧(jo i.2.2.2.1.length i.1∧i.2.2.2.1.length≤9∧(c ≥ 128∨(i.2.2.2.1.length=0∧i.1=c))∧i.1 < i.2.2.2.2∧ik (c+1) c ([])=ik i.2.2.2.2 i.1 i.2.2.2.1):=⟨_,rfl⟩
 have f:∀ {a:Nat} {g:Option Addr} {h:Nat} {b:List UInt8} {d:Nat} {w':World},u (a,g,h,b,d) w'↔Own w D w' [row g b.length h (List.flatMap eB b) 5 1]∧jo b.length a∧b.length≤9∧(c ≥ 128∨(b.length=0∧a=c))∧a < d∧ik (c+1) c ([])=ik d a b:=by intros; subst x; exact Iff.rfl
 refine Wp.loop (fun i:Nat × (Option Addr) × Nat × (List UInt8) × Nat=> [(0, .int .u64 ((i.1:Nat):Int)),(3, .slice i.2.1 i.2.2.2.1.length i.2.2.1),(2, .slice none 0 0)]) u (fun i=>i.2.2.2.2) (c,I,10, [],c+1) ⟨rfl,rfl,rfl,trivial⟩ (f.2 ⟨K,(show jo (0) c∧0≤9∧(c ≥ 128∨(0=0∧c=c))∧c < (c+1)∧ik (c+1) c ([])=ik (c+1) c ([]) from ⟨by first | exact jo.zero t | exact jo.step (by assumption) (by simp only [List.length_append,List.length_cons,List.length_nil]),by first | exact Cc _ | (have q9:=jo.le (by assumption) (by omega); simp only [List.length_append,List.length_cons,List.length_nil]; omega),by omega,by omega,rfl⟩)⟩) ?_
 rintro ⟨a,g,h,b,d⟩ aj A
 show Wp _ _ _ [(0, .int .u64 ((a:Nat):Int)),(3, .slice g b.length h),(2, .slice none 0 0)] _ _
 obtain⟨B,X,Y,Z,aa,l⟩:=f.1 A
 obtain⟨o,C⟩:∃ q,d=q+1:=⟨d - 1,by omega⟩
 subst C
 refine ze (sr (Mz rfl (Kz (.bool (decide (((a:Nat):Int) ≥ 128))) (nt ?_))))
 by_cases j:((a:Nat):Int) ≥ 128
 refine jT (dT j) (sk (bo (sr (Mz rfl (Mz rfl (fw (.int .u8 (((UInt8.ofNat a).toNat:Nat):Int)) (zy (e:=IntKind.u8.wrap ((a:Nat):Int)) yk (oQ _)) (fw (.int .u8 ((((UInt8.ofNat a) ||| (128:UInt8)).toNat:Nat):Int)) (zy (e:=IntKind.u8.wrap (((BitVec.ofInt 8 (((UInt8.ofNat a).toNat:Nat):Int) ||| BitVec.ofInt 8 128).toNat:Nat):Int)) yk (u8_or (UInt8.ofNat a) (128:UInt8))) ?_)))))))
 refine kF [.int .u8 ((((UInt8.ofNat a) ||| (128:UInt8)).toNat:Nat):Int)] 5 1 1 B ?_
 intro L ak p
 replace p:=zY (y:=row L 1 1 (List.flatMap eB ([((UInt8.ofNat a) ||| (128:UInt8))])) 5 1) rfl p
 have E:=p.pk [1,0]
 refine WL.do rfl (Aa (k:=b.length) (m:=1) (lD) E rfl rfl (j3 Tryz.underlying37 (E.rds (i:=1) rfl) (jA p9 ([((UInt8.ofNat a) ||| (128:UInt8))]))) rfl (by omega) (s:=List.length (b++ [((UInt8.ofNat a) ||| (128:UInt8))])) (by first | omega | (simp only [List.length_append,List.length_cons,List.length_nil] <;> omega)) (List.flatMap_append).symm ?_)
 intro M N au O
 have af:List.length (b++ [((UInt8.ofNat a) ||| (128:UInt8))])=b.length+1:=by simp only [List.length_append,List.length_cons,List.length_nil]
 refine An rfl (zb (Mz rfl (fw (.int .u64 ((a / 128:Nat):Int)) (zy (e:=Int.fdiv ((a:Nat):Int) 128) yk (vD _ 7 _ (by decide))) (Az rfl (zq (bN ?_))))))
 have P:=O.pk [0]
 exact zH (a / 128,M,N,(b++ [((UInt8.ofNat a) ||| (128:UInt8))]),o) ⟨rfl,rfl,rfl,trivial⟩ (f.2 ⟨P,by first | exact jo.zero t | exact jo.step (by assumption) (by simp only [List.length_append,List.length_cons,List.length_nil]),by first | exact Cc _ | (have q9:=jo.le (by assumption) (by omega); simp only [List.length_append,List.length_cons,List.length_nil]; omega),by omega,by omega,Eq.trans (l) (if_pos j)⟩) (by show o < o+1; omega)
 refine jF (dF j) (Wp.exit (zk ?_))
 have F:ik (c+1) c ([])=(a,b):=et (l) (iN j)
 refine zk (zA (zu (sr (Mz rfl (Mz rfl (fw (.int .u8 (((UInt8.ofNat a).toNat:Nat):Int)) (zy (e:=IntKind.u8.wrap ((a:Nat):Int)) yk (oQ _)) ?_))))))
 refine kF [.int .u8 (((UInt8.ofNat a).toNat:Nat):Int)] 5 1 1 B ?_
 intro Q av r
 replace r:=zY (y:=row Q 1 1 (List.flatMap eB ([(UInt8.ofNat a)])) 5 1) rfl r
 have G:=r.pk [1,0]
 refine WL.do rfl (Aa (k:=b.length) (m:=1) (lD) G rfl rfl (j3 Tryz.underlying37 (G.rds (i:=1) rfl) (jA p9 ([(UInt8.ofNat a)]))) rfl (by omega) (s:=List.length (b++ [(UInt8.ofNat a)])) (by first | omega | (simp only [List.length_append,List.length_cons,List.length_nil] <;> omega)) (List.flatMap_append).symm ?_)
 intro R S ax T
 have ag:List.length (b++ [(UInt8.ofNat a)])=b.length+1:=by simp only [List.length_append,List.length_cons,List.length_nil]
 refine An rfl (rt (rs ?_))
 have U:=T.pk [0]
 obtain rfl:_=(b++ [(UInt8.ofNat a)]):=hr.symm.trans (ae F)
 exact⟨R,S,rfl,U,(by first | omega | (simp only [List.length_cons,List.length_nil,List.length_append]; omega)),(by first | omega | (simp only [List.length_cons,List.length_nil,List.length_append]; omega))⟩
def dB (b:List UInt8):(List UInt8):=
 bnd (bq b.length) fun a=>(a++b)
theorem q8 (w:World) (D:Nat→Prop) (a:List UInt8) (g:List UInt8) (H:Own w D w []) (C:a.length≤140737488351232) (hr:dB a=g):
    Calls Tryz.prog 73 #[.string ⟨List.toArray a⟩] w (dE fun v w'=> ∃ (u:Option Addr) (x:Nat),v= .slice u g.length x∧Own w D w' [row u g.length x (List.flatMap eB g) 5 1]∧(g.length≤a.length+10)∧(a.length ≥ 128∨g.length=a.length+1)):=by
 refine zg (args:= [.string ⟨List.toArray a⟩]) Tryz.func73 rfl rfl rfl ?_
 show Wp _ _ _ [(0, .string ⟨List.toArray a⟩)] _ _
 refine sr (Ar rfl (Mz rfl (Kz (.int .i64 ((a.length:Nat):Int)) (fw (.int .u64 ((a.length:Nat):Int)) (zy (e:=IntKind.u64.wrap ((a.length:Nat):Int)) yk (IntWalk.u64_in _ (by omega))) ?_))))
 obtain⟨b,c⟩:∃ q,bq a.length=q:=⟨_,rfl⟩
 obtain⟨E,h,y,j,z⟩:=zt H
 refine cl Tryz.call68 (oH _ _ a.length b h (by omega) c) ?_
 rintro _ F ⟨G,I,rfl,l,d,f⟩
 have n:=j _ _ l
 have A:=n.rowC (i:=0) rfl
 replace d:1≤b.length∧b.length≤10:=d
 replace f:a.length ≥ 128∨b.length=1:=f
 refine Mz rfl ?_
 refine WL.do rfl (Aa (k:=b.length) (m:=a.length) (lD) n rfl rfl (vE Tryz.underlying9 rfl) rfl (by omega) (s:=List.length (b++a)) (by first | omega | (simp only [List.length_append,List.length_cons,List.length_nil] <;> omega)) (List.flatMap_append).symm ?_)
 intro o p J r
 have B:List.length (b++a)=b.length+a.length:=by simp only [List.length_append,List.length_cons,List.length_nil]
 refine An rfl (rt (rs ?_))
 have t:=r.pk [0]
 obtain rfl:_=(b++a):=hr.symm.trans (ae c)
 exact⟨o,p,rfl,t,(by first | omega | (simp only [List.length_cons,List.length_nil,List.length_append]; omega)),(by first | omega | (simp only [List.length_cons,List.length_nil,List.length_append]; omega))⟩
def aA (b:aQ) (p1:Nat):aQ:=
 bnd (bq p1) fun a=>aQ.mk (Ll.mk (b.xb.ls++a))
theorem aR (w:World) (D:Nat→Prop) (e:Nat) (d:aQ) (b:Option Addr) (c:Nat) (p1:Nat) (l:aQ) (H:Own w D w [blk e [.slice b d.xb.ls.length c] 57,row b d.xb.ls.length c (List.flatMap eB d.xb.ls) 5 1]) (L:d.xb.ls.length≤9000000000∧p1≤18446744073709551615) (hr:aA d p1=l):
    Calls Tryz.prog 21 #[.pointer (some ⟨e,0,none⟩), .int .u64 ((p1:Nat):Int)] w (dE fun v w'=> ∃ (B0ox0:Option Addr) (b0ox0:Nat),v= .tuple #[]∧Own w D w' [blk e [.slice B0ox0 l.xb.ls.length b0ox0] 57,row B0ox0 l.xb.ls.length b0ox0 (List.flatMap eB l.xb.ls) 5 1]∧(l.xb.ls.length≤d.xb.ls.length+10)):=by
 have A:=H.rowC (i:=1) rfl
 refine zg (args:= [.pointer (some ⟨e,0,none⟩), .int .u64 ((p1:Nat):Int)]) Tryz.func21 rfl rfl rfl ?_
 show Wp _ _ _ [(0, .pointer (some ⟨e,0,none⟩)),(1, .int .u64 ((p1:Nat):Int))] _ _
 have f:=H.drew
 refine zX [7,10] (fun W=> ∃ L',Own w D W ([blk e [.slice b d.xb.ls.length c] 57,row b d.xb.ls.length c (List.flatMap eB d.xb.ls) 5 1]++L')) (by kernel_rfl) (by kernel_rfl) z8 ⟨_,f⟩ ?_
 revert f
 generalize World.drew w=M
 intro f
 refine Ak (v:= .pointer (some ⟨e,0,none⟩)) 0 rfl (by kernel_rfl) (fun _=>zo rfl) (GX.take (v:= .pointer (some ⟨e,0,none⟩)) (rs:= [[4,3,2], []]) 1 rfl (by kernel_rfl) (fun _ _=>zo rfl) (GX.take (v:= .pointer (some ⟨e,0,none⟩)) (rs:= [[4,3], []]) 2 rfl (by kernel_rfl) (fun _ _=>yk) (GX.take (v:= .pointer (some ⟨e,0,none⟩)) (rs:= [[4], []]) 3 rfl (by kernel_rfl) (fun _ _=>yk) (GX.take (v:= .slice b d.xb.ls.length c) (rs:= [[], []]) 4 rfl (by kernel_rfl) (fun _ ⟨_,N⟩=>zi rfl (bf.one Tryz.isAgg37 (zJ (N.cls (i:=0) rfl) rfl))) (GX.take (v:= .int .u64 ((p1:Nat):Int)) (rs:= [[6], []]) 5 rfl (by kernel_rfl) (fun _ _=>zo rfl) ?_)))))
 obtain⟨a,g⟩:∃ q,bq p1=q:=⟨_,rfl⟩
 obtain⟨O,n,G,p,I⟩:=zt f
 refine GX.do 6 rfl (by kernel_rfl) (zI Tryz.call68 rfl (oH _ _ p1 a n (by omega) g) ?_)
 rintro _ P ⟨Q,R,rfl,r,h,j⟩
 have t:=p _ _ r
 have J:=t.rowC (i:=0) rfl
 replace h:1≤a.length∧a.length≤10:=h
 replace j:p1 ≥ 128∨a.length=1:=j
 have u:=t.pk [1,2,0]
 refine⟨.inr ⟨_,u⟩, ?_⟩
 have x:=u.pk [1,0,2]
 refine GX.do 7 rfl (by kernel_rfl) (Aa (k:=d.xb.ls.length) (m:=a.length) (lD) x rfl rfl (j3 Tryz.underlying37 (x.rds (i:=2) rfl) (jA p9 a)) rfl (by omega) (s:=List.length (d.xb.ls++a)) (by first | omega | (simp only [List.length_append,List.length_cons,List.length_nil] <;> omega)) (List.flatMap_append).symm ?_)
 intro y z S B
 have K:List.length (d.xb.ls++a)=d.xb.ls.length+a.length:=by simp only [List.length_append,List.length_cons,List.length_nil]
 refine⟨.inl (by kernel_rfl), ?_⟩
 refine Ak (v:= .pointer (some ⟨e,0,none⟩)) 8 rfl (by kernel_rfl) (fun _=>yk) (Ak (v:= .pointer (some ⟨e,0,none⟩)) 9 rfl (by kernel_rfl) (fun _=>yk) ?_)
 have C:=B.pk [1,0,2]
 refine Bl 10 rfl (by kernel_rfl) (Do.store (vs:= [.slice y (List.length (d.xb.ls++a)) z]) (o:=0) C rfl rfl Tryz.sizeOf37 rfl rfl rfl rfl ?_)
 intro T E
 refine⟨.inl (by kernel_rfl), ?_⟩
 refine zT (by kernel_rfl) (zC (res0 rfl) ?_)
 have F:=E.pk [0,1]
 obtain rfl:_=aQ.mk (Ll.mk (d.xb.ls++a)):=hr.symm.trans (ae g)
 exact⟨y,z,rfl,F,(by first | omega | (simp only [List.length_cons,List.length_nil,List.length_append]; omega))⟩
def bD (b:aQ) (p1:List UInt8):aQ:=
 bnd (dB p1) fun a=>aQ.mk (Ll.mk (b.xb.ls++a))
theorem dU (w:World) (D:Nat→Prop) (e:Nat) (d:aQ) (b:Option Addr) (c:Nat) (p1:List UInt8) (l:aQ) (H:Own w D w [blk e [.slice b d.xb.ls.length c] 57,row b d.xb.ls.length c (List.flatMap eB d.xb.ls) 5 1]) (L:d.xb.ls.length≤9000000000∧p1.length≤16) (hr:bD d p1=l):
    Calls Tryz.prog 28 #[.pointer (some ⟨e,0,none⟩), .string ⟨List.toArray p1⟩] w (dE fun v w'=> ∃ (B0ox0:Option Addr) (b0ox0:Nat),v= .tuple #[]∧Own w D w' [blk e [.slice B0ox0 l.xb.ls.length b0ox0] 57,row B0ox0 l.xb.ls.length b0ox0 (List.flatMap eB l.xb.ls) 5 1]∧(l.xb.ls.length≤d.xb.ls.length+26)):=by
 have A:=H.rowC (i:=1) rfl
 refine zg (args:= [.pointer (some ⟨e,0,none⟩), .string ⟨List.toArray p1⟩]) Tryz.func28 rfl rfl rfl ?_
 show Wp _ _ _ [(0, .pointer (some ⟨e,0,none⟩)),(1, .string ⟨List.toArray p1⟩)] _ _
 have f:=H.drew
 refine zX [7,10] (fun W=> ∃ L',Own w D W ([blk e [.slice b d.xb.ls.length c] 57,row b d.xb.ls.length c (List.flatMap eB d.xb.ls) 5 1]++L')) (by kernel_rfl) (by kernel_rfl) z8 ⟨_,f⟩ ?_
 revert f
 generalize World.drew w=M
 intro f
 refine Ak (v:= .pointer (some ⟨e,0,none⟩)) 0 rfl (by kernel_rfl) (fun _=>zo rfl) (GX.take (v:= .pointer (some ⟨e,0,none⟩)) (rs:= [[4,3,2], []]) 1 rfl (by kernel_rfl) (fun _ _=>zo rfl) (GX.take (v:= .pointer (some ⟨e,0,none⟩)) (rs:= [[4,3], []]) 2 rfl (by kernel_rfl) (fun _ _=>yk) (GX.take (v:= .pointer (some ⟨e,0,none⟩)) (rs:= [[4], []]) 3 rfl (by kernel_rfl) (fun _ _=>yk) (GX.take (v:= .slice b d.xb.ls.length c) (rs:= [[], []]) 4 rfl (by kernel_rfl) (fun _ ⟨_,N⟩=>zi rfl (bf.one Tryz.isAgg37 (zJ (N.cls (i:=0) rfl) rfl))) (GX.take (v:= .string ⟨List.toArray p1⟩) (rs:= [[6], []]) 5 rfl (by kernel_rfl) (fun _ _=>zo rfl) ?_)))))
 obtain⟨a,g⟩:∃ q,dB p1=q:=⟨_,rfl⟩
 obtain⟨O,n,G,p,I⟩:=zt f
 refine GX.do 6 rfl (by kernel_rfl) (zI Tryz.call73 rfl (q8 _ _ p1 a n (by omega) g) ?_)
 rintro _ P ⟨Q,R,rfl,r,h,j⟩
 have t:=p _ _ r
 have J:=t.rowC (i:=0) rfl
 replace h:a.length≤p1.length+10:=h
 replace j:p1.length ≥ 128∨a.length=p1.length+1:=j
 have u:=t.pk [1,2,0]
 refine⟨.inr ⟨_,u⟩, ?_⟩
 have x:=u.pk [1,0,2]
 refine GX.do 7 rfl (by kernel_rfl) (Aa (k:=d.xb.ls.length) (m:=a.length) (lD) x rfl rfl (j3 Tryz.underlying37 (x.rds (i:=2) rfl) (jA p9 a)) rfl (by omega) (s:=List.length (d.xb.ls++a)) (by first | omega | (simp only [List.length_append,List.length_cons,List.length_nil] <;> omega)) (List.flatMap_append).symm ?_)
 intro y z S B
 have K:List.length (d.xb.ls++a)=d.xb.ls.length+a.length:=by simp only [List.length_append,List.length_cons,List.length_nil]
 refine⟨.inl (by kernel_rfl), ?_⟩
 refine Ak (v:= .pointer (some ⟨e,0,none⟩)) 8 rfl (by kernel_rfl) (fun _=>yk) (Ak (v:= .pointer (some ⟨e,0,none⟩)) 9 rfl (by kernel_rfl) (fun _=>yk) ?_)
 have C:=B.pk [1,0,2]
 refine Bl 10 rfl (by kernel_rfl) (Do.store (vs:= [.slice y (List.length (d.xb.ls++a)) z]) (o:=0) C rfl rfl Tryz.sizeOf37 rfl rfl rfl rfl ?_)
 intro T E
 refine⟨.inl (by kernel_rfl), ?_⟩
 refine zT (by kernel_rfl) (zC (res0 rfl) ?_)
 have F:=E.pk [0,1]
 obtain rfl:_=aQ.mk (Ll.mk (d.xb.ls++a)):=hr.symm.trans (ae g)
 exact⟨y,z,rfl,F,(by first | omega | (simp only [List.length_cons,List.length_nil,List.length_append]; omega))⟩
def iy (c:aQ) (p1:aH):aQ:=
 bnd (bD c p1.aJ) fun a=>bnd (aA a (Int.toNat (IntKind.u64.wrap p1.fI))) fun b=>b
set_option maxHeartbeats 1000000 in
theorem kT (w:World) (D:Nat→Prop) (d:Nat) (f:aQ) (a:Option Addr) (b:Nat) (p1:aH) (o:aQ) (H:Own w D w [blk d [.slice a f.xb.ls.length b] 57,row a f.xb.ls.length b (List.flatMap eB f.xb.ls) 5 1]) (R:f.xb.ls.length≤8000000000) (S:(p1.aJ.length≤12)) (hr:iy f p1=o):
    Calls Tryz.prog 23 #[.pointer (some ⟨d,0,none⟩), .agg (aH.cells p1).toArray] w (dE fun v w'=> ∃ (B0ox0:Option Addr) (b0ox0:Nat),v= .tuple #[]∧Own w D w' [blk d [.slice B0ox0 o.xb.ls.length b0ox0] 57,row B0ox0 o.xb.ls.length b0ox0 (List.flatMap eB o.xb.ls) 5 1]∧(o.xb.ls.length≤f.xb.ls.length+40)):=by
 have B:=H.rowC (i:=1) rfl
 refine zg (args:= [.pointer (some ⟨d,0,none⟩), .agg (aH.cells p1).toArray]) Tryz.func23 rfl rfl rfl ?_
 show Wp _ _ _ [(0, .pointer (some ⟨d,0,none⟩)),(1, .agg (aH.cells p1).toArray)] _ _
 refine sr ?_
 refine dC (aH.cells p1) 54 H ?_
 intro p T r
 refine ns (Mz rfl (Kz (.pointer (some ⟨p,0,none⟩)) (Lz (.string ⟨List.toArray p1.aJ⟩) r 0 Tryz.isAgg9 ?_)))
 have C:=r.pk [1,2,0]
 obtain⟨c,g⟩:∃ q,bD f p1.aJ=q:=⟨_,rfl⟩
 obtain⟨U,s,K,t,L⟩:=zB C
 refine cl Tryz.call28 (dU _ _ d f a b p1.aJ c s (by first | omega | (dsimp only; omega) | (dsimp only [List.length_cons,List.length_nil]; omega)) g) ?_
 rintro _ V ⟨E,F,rfl,u,h⟩
 have m:=t _ _ u
 have M:=m.rowC (i:=1) rfl
 replace h:c.xb.ls.length≤f.xb.ls.length+26:=h
 refine nt (zb (Mz rfl (Kz (.pointer (some ⟨p,1,none⟩)) (Lz (.int .i64 p1.fI) m 2 Tryz.isAgg3 ?_))))
 refine WL.do rfl (zI Tryz.call19 rfl ?_ (fun _ _ k=>k))
 refine zg (args:= [.pointer (some ⟨d,0,none⟩), .int .i64 p1.fI]) Tryz.func19 rfl rfl rfl ?_
 show Wp _ _ _ [(0, .pointer (some ⟨d,0,none⟩)),(1, .int .i64 p1.fI)] _ _
 refine zb (Mz rfl (Mz rfl ?_))
 have N:Int.toNat (IntKind.u64.wrap p1.fI)≤18446744073709551615:=jW _
 refine fw (.int .u64 ((Int.toNat (IntKind.u64.wrap p1.fI):Nat):Int)) (zy (e:=IntKind.u64.wrap p1.fI) yk (gI _)) ?_
 obtain⟨n,j⟩:∃ q,aA c (Int.toNat (IntKind.u64.wrap p1.fI))=q:=⟨_,rfl⟩
 obtain⟨W,x,O,y,P⟩:=zB m
 refine cl Tryz.call21 (aR _ _ d c E F (Int.toNat (IntKind.u64.wrap p1.fI)) n x (by first | omega | (dsimp only; omega) | (dsimp only [List.length_cons,List.length_nil]; omega)) j) ?_
 rintro _ X ⟨G,I,rfl,z,l⟩
 have A:=y _ _ z
 have Q:=A.rowC (i:=1) rfl
 replace l:n.xb.ls.length≤c.xb.ls.length+10:=l
 refine zq (zC (res0 rfl) (zq (zC (res0 rfl) ?_)))
 have J:=A.pk [0,1]
 obtain rfl:_=n:=hr.symm.trans (et (ae g) (ae j))
 exact⟨G,I,rfl,J,(by first | omega | (simp only [List.length_cons,List.length_nil,List.length_append]; omega))⟩
def jP (g:aQ) (p1:aW):aQ:=
 bnd (aA g (Int.toNat (IntKind.u64.wrap p1.aV))) fun b=>bnd (bD b p1.aX) fun c=>bnd (bD c p1.aB) fun d=>bnd (bD d p1.aJ) fun e=>bnd (bD e p1.aN) fun f=>bnd (aA f (Int.toNat (IntKind.u64.wrap p1.bF))) fun a=>a
set_option maxHeartbeats 1000000 in
theorem oh (w:World) (D:Nat→Prop) (b:Nat) (u:aQ) (f:Option Addr) (g:Nat) (p1:aW) (R:aQ) (H:Own w D w [blk b [.slice f u.xb.ls.length g] 57,row f u.xb.ls.length g (List.flatMap eB u.xb.ls) 5 1]) (bM:u.xb.ls.length≤8000000000) (bO:(p1.aX.length≤12∧p1.aB.length≤16∧p1.aJ.length≤12∧p1.aN.length≤12)) (hr:jP u p1=R):
    Calls Tryz.prog 72 #[.pointer (some ⟨b,0,none⟩), .agg (aW.cells p1).toArray] w (dE fun v w'=> ∃ (B0ox0:Option Addr) (b0ox0:Nat),v= .tuple #[]∧Own w D w' [blk b [.slice B0ox0 R.xb.ls.length b0ox0] 57,row B0ox0 R.xb.ls.length b0ox0 (List.flatMap eB R.xb.ls) 5 1]∧(R.xb.ls.length≤u.xb.ls.length+130)):=by
 have aI:=H.rowC (i:=1) rfl
 refine zg (args:= [.pointer (some ⟨b,0,none⟩), .agg (aW.cells p1).toArray]) Tryz.func72 rfl rfl rfl ?_
 show Wp _ _ _ [(0, .pointer (some ⟨b,0,none⟩)),(1, .agg (aW.cells p1).toArray)] _ _
 refine sr ?_
 refine dC (aW.cells p1) 74 H ?_
 intro c bP S
 refine ns (Mz rfl (Kz (.pointer (some ⟨c,0,none⟩)) (Lz (.int .i64 p1.aV) S 0 Tryz.isAgg3 ?_)))
 refine WL.do rfl (zI Tryz.call19 rfl ?_ (fun _ _ k=>k))
 refine zg (args:= [.pointer (some ⟨b,0,none⟩), .int .i64 p1.aV]) Tryz.func19 rfl rfl rfl ?_
 show Wp _ _ _ [(0, .pointer (some ⟨b,0,none⟩)),(1, .int .i64 p1.aV)] _ _
 refine zb (Mz rfl (Mz rfl ?_))
 have bi:Int.toNat (IntKind.u64.wrap p1.aV)≤18446744073709551615:=jW _
 refine fw (.int .u64 ((Int.toNat (IntKind.u64.wrap p1.aV):Nat):Int)) (zy (e:=IntKind.u64.wrap p1.aV) yk (gI _)) ?_
 have aJ:=S.pk [1,2,0]
 obtain⟨h,B⟩:∃ q,aA u (Int.toNat (IntKind.u64.wrap p1.aV))=q:=⟨_,rfl⟩
 obtain⟨bQ,T,bn,U,bq⟩:=zB aJ
 refine cl Tryz.call21 (aR _ _ b u f g (Int.toNat (IntKind.u64.wrap p1.aV)) h T (by first | omega | (dsimp only; omega) | (dsimp only [List.length_cons,List.length_nil]; omega)) B) ?_
 rintro _ bR ⟨aK,aL,rfl,V,C⟩
 have d:=U _ _ V
 have bu:=d.rowC (i:=1) rfl
 replace C:h.xb.ls.length≤u.xb.ls.length+10:=C
 refine zq (zC (res0 rfl) (ns (Mz rfl (Kz (.func (.func 28) #[.pointer (some ⟨b,0,none⟩)] #[]) (Kz (.pointer (some ⟨c,1,none⟩)) (Lz (.string ⟨List.toArray p1.aX⟩) d 2 Tryz.isAgg9 (Kz (.pointer (some ⟨c,2,none⟩)) (Lz (.string ⟨List.toArray p1.aB⟩) d 2 Tryz.isAgg9 (Kz (.pointer (some ⟨c,3,none⟩)) (Lz (.string ⟨List.toArray p1.aJ⟩) d 2 Tryz.isAgg9 (Kz (.pointer (some ⟨c,4,none⟩)) (Lz (.string ⟨List.toArray p1.aN⟩) d 2 Tryz.isAgg9 ?_))))))))))))
 refine kF [.string ⟨List.toArray p1.aX⟩, .string ⟨List.toArray p1.aB⟩, .string ⟨List.toArray p1.aJ⟩, .string ⟨List.toArray p1.aN⟩] 9 1 4 d ?_
 intro a bS j
 replace j:=zY (y:=row a 4 4 (List.flatMap eS ([p1.aX,p1.aB,p1.aJ,p1.aN])) 9 1) rfl j
 refine WL.do rfl (zI Tryz.call27 rfl ?_ (fun _ _ k=>k))
 refine zg (args:= [.func (.func 28) #[.pointer (some ⟨b,0,none⟩)] #[], .slice a 4 4]) Tryz.func27 rfl rfl rfl ?_
 show Wp _ _ _ [(0, .func (.func 28) #[.pointer (some ⟨b,0,none⟩)] #[]),(1, .slice a 4 4)] _ _
 refine sr (Mz rfl (Kz (.int .i64 4) (Mn rfl (bo (Ah 200 (sr (Kz (.bool true) (nt (ze (jt (sk (ze (bo (sr ?_))))))))))))))
 have W:([p1.aX,p1.aB,p1.aJ,p1.aN]:List (List UInt8))[0]? =some p1.aX:=rfl
 refine fw (.pointer (some ⟨ab a,ao a+0 *1,none⟩)) (zn (lW) rfl rfl ((j.rds (i:=0) rfl).addr (i:=0) (by omega)) (by omega)) (fw (.string ⟨List.toArray p1.aX⟩) (zi rfl (bf.one Tryz.isAgg9 (((j.rds (i:=0) rfl).elem kG W (by decide)).at_ (k:=0) rfl))) (An rfl (zb (Mz rfl (Mz rfl ?_)))))
 have aM:=j.pk [1,2,0,3]
 obtain⟨l,E⟩:∃ q,bD h p1.aX=q:=⟨_,rfl⟩
 obtain⟨bT,X,bv,Y,bz⟩:=zB aM
 refine WL.do rfl (zK Tryz.call28 rfl rfl (dU _ _ b h aK aL p1.aX l X (by first | omega | (dsimp only; omega) | (dsimp only [List.length_cons,List.length_nil]; omega)) E) ?_)
 rintro _ bU ⟨aN,aO,rfl,Z,F⟩
 have x:=Y _ _ Z
 have bA:=x.rowC (i:=1) rfl
 replace F:l.xb.ls.length≤h.xb.ls.length+26:=F
 refine zq (bN (zu (zb (Kz (.int .i64 1) (Mz rfl (zq (zR [(8, .int .i64 1),(7, .int .i64 4),(6, .slice a 4 4),(0, .func (.func 28) #[.pointer (some ⟨b,0,none⟩)] #[])] ⟨rfl,rfl,rfl,rfl,trivial⟩ (sr (Kz (.bool true) (nt (ze (jt (sk (ze (bo (sr ?_))))))))))))))))
 have aa:([p1.aX,p1.aB,p1.aJ,p1.aN]:List (List UInt8))[1]? =some p1.aB:=rfl
 refine fw (.pointer (some ⟨ab a,ao a+1 *1,none⟩)) (zn (lW) rfl rfl ((x.rds (i:=2) rfl).addr (i:=1) (by omega)) (by omega)) (fw (.string ⟨List.toArray p1.aB⟩) (zi rfl (bf.one Tryz.isAgg9 (((x.rds (i:=2) rfl).elem kG aa (by decide)).at_ (k:=0) rfl))) (An rfl (zb (Mz rfl (Mz rfl ?_)))))
 obtain⟨m,G⟩:∃ q,bD l p1.aB=q:=⟨_,rfl⟩
 obtain⟨bV,af,bB,ag,bC⟩:=zB x
 refine WL.do rfl (zK Tryz.call28 rfl rfl (dU _ _ b l aN aO p1.aB m af (by first | omega | (dsimp only; omega) | (dsimp only [List.length_cons,List.length_nil]; omega)) G) ?_)
 rintro _ bW ⟨aP,aS,rfl,ah,I⟩
 have z:=ag _ _ ah
 have bE:=z.rowC (i:=1) rfl
 replace I:m.xb.ls.length≤l.xb.ls.length+26:=I
 refine zq (bN (zu (zb (Kz (.int .i64 2) (Mz rfl (zq (zR [(8, .int .i64 2),(7, .int .i64 4),(6, .slice a 4 4),(0, .func (.func 28) #[.pointer (some ⟨b,0,none⟩)] #[])] ⟨rfl,rfl,rfl,rfl,trivial⟩ (sr (Kz (.bool true) (nt (ze (jt (sk (ze (bo (sr ?_))))))))))))))))
 have ai:([p1.aX,p1.aB,p1.aJ,p1.aN]:List (List UInt8))[2]? =some p1.aJ:=rfl
 refine fw (.pointer (some ⟨ab a,ao a+2 *1,none⟩)) (zn (lW) rfl rfl ((z.rds (i:=2) rfl).addr (i:=2) (by omega)) (by omega)) (fw (.string ⟨List.toArray p1.aJ⟩) (zi rfl (bf.one Tryz.isAgg9 (((z.rds (i:=2) rfl).elem kG ai (by decide)).at_ (k:=0) rfl))) (An rfl (zb (Mz rfl (Mz rfl ?_)))))
 obtain⟨n,J⟩:∃ q,bD m p1.aJ=q:=⟨_,rfl⟩
 obtain⟨bX,aj,bF,ak,bG⟩:=zB z
 refine WL.do rfl (zK Tryz.call28 rfl rfl (dU _ _ b m aP aS p1.aJ n aj (by first | omega | (dsimp only; omega) | (dsimp only [List.length_cons,List.length_nil]; omega)) J) ?_)
 rintro _ bY ⟨aT,aU,rfl,au,K⟩
 have A:=ak _ _ au
 have bH:=A.rowC (i:=1) rfl
 replace K:n.xb.ls.length≤m.xb.ls.length+26:=K
 refine zq (bN (zu (zb (Kz (.int .i64 3) (Mz rfl (zq (zR [(8, .int .i64 3),(7, .int .i64 4),(6, .slice a 4 4),(0, .func (.func 28) #[.pointer (some ⟨b,0,none⟩)] #[])] ⟨rfl,rfl,rfl,rfl,trivial⟩ (sr (Kz (.bool true) (nt (ze (jt (sk (ze (bo (sr ?_))))))))))))))))
 have av:([p1.aX,p1.aB,p1.aJ,p1.aN]:List (List UInt8))[3]? =some p1.aN:=rfl
 refine fw (.pointer (some ⟨ab a,ao a+3 *1,none⟩)) (zn (lW) rfl rfl ((A.rds (i:=2) rfl).addr (i:=3) (by omega)) (by omega)) (fw (.string ⟨List.toArray p1.aN⟩) (zi rfl (bf.one Tryz.isAgg9 (((A.rds (i:=2) rfl).elem kG av (by decide)).at_ (k:=0) rfl))) (An rfl (zb (Mz rfl (Mz rfl ?_)))))
 obtain⟨o,L⟩:∃ q,bD n p1.aN=q:=⟨_,rfl⟩
 obtain⟨bZ,ax,bI,ay,bJ⟩:=zB A
 refine WL.do rfl (zK Tryz.call28 rfl rfl (dU _ _ b n aT aU p1.aN o ax (by first | omega | (dsimp only; omega) | (dsimp only [List.length_cons,List.length_nil]; omega)) L) ?_)
 rintro _ cu ⟨az,aB,rfl,aC,p⟩
 have aD:=ay _ _ aC
 have aV:=aD.rowC (i:=1) rfl
 replace p:o.xb.ls.length≤n.xb.ls.length+26:=p
 refine zq (bN (zu (zb (Kz (.int .i64 4) (Mz rfl (zq (zR [(8, .int .i64 4),(7, .int .i64 4),(6, .slice a 4 4),(0, .func (.func 28) #[.pointer (some ⟨b,0,none⟩)] #[])] ⟨rfl,rfl,rfl,rfl,trivial⟩ (sr (Kz (.bool false) (nt (ze (jf (Wp.exit (zk (zk (zA (zC (res0 rfl) (nt ?_))))))))))))))))))
 have M:=aD.pk [0,1,3]
 refine zb (Mz rfl (Kz (.pointer (some ⟨c,5,none⟩)) (Lz (.int .i64 p1.bF) M 2 Tryz.isAgg3 ?_)))
 refine WL.do rfl (zI Tryz.call19 rfl ?_ (fun _ _ k=>k))
 refine zg (args:= [.pointer (some ⟨b,0,none⟩), .int .i64 p1.bF]) Tryz.func19 rfl rfl rfl ?_
 show Wp _ _ _ [(0, .pointer (some ⟨b,0,none⟩)),(1, .int .i64 p1.bF)] _ _
 refine zb (Mz rfl (Mz rfl ?_))
 have aX:Int.toNat (IntKind.u64.wrap p1.bF)≤18446744073709551615:=jW _
 refine fw (.int .u64 ((Int.toNat (IntKind.u64.wrap p1.bF):Nat):Int)) (zy (e:=IntKind.u64.wrap p1.bF) yk (gI _)) ?_
 obtain⟨r,s⟩:∃ q,aA o (Int.toNat (IntKind.u64.wrap p1.bF))=q:=⟨_,rfl⟩
 obtain⟨bK,O,aY,P,aZ⟩:=zB M
 refine cl Tryz.call21 (aR _ _ b o az aB (Int.toNat (IntKind.u64.wrap p1.bF)) r O (by first | omega | (dsimp only; omega) | (dsimp only [List.length_cons,List.length_nil]; omega)) s) ?_
 rintro _ bL ⟨aF,aG,rfl,Q,t⟩
 have N:=P _ _ Q
 have bg:=N.rowC (i:=1) rfl
 replace t:r.xb.ls.length≤o.xb.ls.length+10:=t
 refine zq (zC (res0 rfl) (zq (zC (res0 rfl) ?_)))
 have aH:=N.pk [0,1]
 obtain rfl:_=r:=hr.symm.trans (et (ae B) (et (ae E) (et (ae G) (et (ae J) (et (ae L) (ae s))))))
 exact⟨aF,aG,rfl,aH,(by first | omega | (simp only [List.length_cons,List.length_nil,List.length_append]; omega))⟩
def iJ (c:aQ) (p1:bu):aQ:=
 bnd (bD c p1.aX) fun a=>bnd (bD a p1.aB) fun b=>b
set_option maxHeartbeats 1000000 in
theorem lu (w:World) (D:Nat→Prop) (b:Nat) (g:aQ) (c:Option Addr) (d:Nat) (p1:bu) (r:aQ) (H:Own w D w [blk b [.slice c g.xb.ls.length d] 57,row c g.xb.ls.length d (List.flatMap eB g.xb.ls) 5 1]) (U:g.xb.ls.length≤8000000000) (V:(p1.aX.length≤12∧p1.aB.length≤16)) (hr:iJ g p1=r):
    Calls Tryz.prog 110 #[.pointer (some ⟨b,0,none⟩), .agg (bu.cells p1).toArray] w (dE fun v w'=> ∃ (B0ox0:Option Addr) (b0ox0:Nat),v= .tuple #[]∧Own w D w' [blk b [.slice B0ox0 r.xb.ls.length b0ox0] 57,row B0ox0 r.xb.ls.length b0ox0 (List.flatMap eB r.xb.ls) 5 1]∧(r.xb.ls.length≤g.xb.ls.length+60)):=by
 have G:=H.rowC (i:=1) rfl
 refine zg (args:= [.pointer (some ⟨b,0,none⟩), .agg (bu.cells p1).toArray]) Tryz.func110 rfl rfl rfl ?_
 show Wp _ _ _ [(0, .pointer (some ⟨b,0,none⟩)),(1, .agg (bu.cells p1).toArray)] _ _
 refine sr ?_
 refine dC (bu.cells p1) 133 H ?_
 intro s W o
 refine nt (zb (Mz rfl (Kz (.func (.func 28) #[.pointer (some ⟨b,0,none⟩)] #[]) (Kz (.pointer (some ⟨s,0,none⟩)) (Lz (.string ⟨List.toArray p1.aX⟩) o 0 Tryz.isAgg9 (Kz (.pointer (some ⟨s,1,none⟩)) (Lz (.string ⟨List.toArray p1.aB⟩) o 0 Tryz.isAgg9 ?_)))))))
 refine kF [.string ⟨List.toArray p1.aX⟩, .string ⟨List.toArray p1.aB⟩] 9 1 2 o ?_
 intro a X e
 replace e:=zY (y:=row a 2 2 (List.flatMap eS ([p1.aX,p1.aB])) 9 1) rfl e
 refine WL.do rfl (zI Tryz.call27 rfl ?_ (fun _ _ k=>k))
 refine zg (args:= [.func (.func 28) #[.pointer (some ⟨b,0,none⟩)] #[], .slice a 2 2]) Tryz.func27 rfl rfl rfl ?_
 show Wp _ _ _ [(0, .func (.func 28) #[.pointer (some ⟨b,0,none⟩)] #[]),(1, .slice a 2 2)] _ _
 refine sr (Mz rfl (Kz (.int .i64 2) (Mn rfl (bo (Ah 200 (sr (Kz (.bool true) (nt (ze (jt (sk (ze (bo (sr ?_))))))))))))))
 have t:([p1.aX,p1.aB]:List (List UInt8))[0]? =some p1.aX:=rfl
 refine fw (.pointer (some ⟨ab a,ao a+0 *1,none⟩)) (zn (lW) rfl rfl ((e.rds (i:=0) rfl).addr (i:=0) (by omega)) (by omega)) (fw (.string ⟨List.toArray p1.aX⟩) (zi rfl (bf.one Tryz.isAgg9 (((e.rds (i:=0) rfl).elem kG t (by decide)).at_ (k:=0) rfl))) (An rfl (zb (Mz rfl (Mz rfl ?_)))))
 have I:=e.pk [2,3,0,1]
 obtain⟨f,j⟩:∃ q,bD g p1.aX=q:=⟨_,rfl⟩
 obtain⟨Y,u,O,x,P⟩:=zB I
 refine WL.do rfl (zK Tryz.call28 rfl rfl (dU _ _ b g c d p1.aX f u (by first | omega | (dsimp only; omega) | (dsimp only [List.length_cons,List.length_nil]; omega)) j) ?_)
 rintro _ Z ⟨J,K,rfl,z,l⟩
 have h:=x _ _ z
 have Q:=h.rowC (i:=1) rfl
 replace l:f.xb.ls.length≤g.xb.ls.length+26:=l
 refine zq (bN (zu (zb (Kz (.int .i64 1) (Mz rfl (zq (zR [(8, .int .i64 1),(7, .int .i64 2),(6, .slice a 2 2),(0, .func (.func 28) #[.pointer (some ⟨b,0,none⟩)] #[])] ⟨rfl,rfl,rfl,rfl,trivial⟩ (sr (Kz (.bool true) (nt (ze (jt (sk (ze (bo (sr ?_))))))))))))))))
 have A:([p1.aX,p1.aB]:List (List UInt8))[1]? =some p1.aB:=rfl
 refine fw (.pointer (some ⟨ab a,ao a+1 *1,none⟩)) (zn (lW) rfl rfl ((h.rds (i:=2) rfl).addr (i:=1) (by omega)) (by omega)) (fw (.string ⟨List.toArray p1.aB⟩) (zi rfl (bf.one Tryz.isAgg9 (((h.rds (i:=2) rfl).elem kG A (by decide)).at_ (k:=0) rfl))) (An rfl (zb (Mz rfl (Mz rfl ?_)))))
 obtain⟨p,m⟩:∃ q,bD f p1.aB=q:=⟨_,rfl⟩
 obtain⟨aa,B,R,C,S⟩:=zB h
 refine WL.do rfl (zK Tryz.call28 rfl rfl (dU _ _ b f J K p1.aB p B (by first | omega | (dsimp only; omega) | (dsimp only [List.length_cons,List.length_nil]; omega)) m) ?_)
 rintro _ af ⟨L,M,rfl,E,n⟩
 have F:=C _ _ E
 have T:=F.rowC (i:=1) rfl
 replace n:p.xb.ls.length≤f.xb.ls.length+26:=n
 refine zq (bN (zu (zb (Kz (.int .i64 2) (Mz rfl (zq (zR [(8, .int .i64 2),(7, .int .i64 2),(6, .slice a 2 2),(0, .func (.func 28) #[.pointer (some ⟨b,0,none⟩)] #[])] ⟨rfl,rfl,rfl,rfl,trivial⟩ (sr (Kz (.bool false) (nt (ze (jf (Wp.exit (zk (zk (zA (zC (res0 rfl) (zq (zC (res0 rfl) ?_)))))))))))))))))))
 have N:=F.pk [0,1]
 obtain rfl:_=p:=hr.symm.trans (et (ae j) (ae m))
 exact⟨L,M,rfl,N,(by first | omega | (simp only [List.length_cons,List.length_nil,List.length_append]; omega))⟩
def ek:List bu→List UInt8→(List UInt8)
  | [],a=>a
  | c::d,a=>bnd (iJ (aQ.mk (Ll.mk a)) c) fun b=>ek d b.xb.ls
def eu:List bu→List UInt8→(List UInt8)
  | [],a=>a
  | c::d,a=>bnd (iJ (aQ.mk (Ll.mk a)) c) fun b=>eu d b.xb.ls
def jr (g:aQ) (p1:bX):aQ:=
 if p1.dm=true then bnd (aA g 1) fun d=>bnd (bD d p1.aB) fun e=>bnd (aA e p1.ax.ls.length) fun f=>bnd (ek p1.ax.ls f.xb.ls) fun sLrtbbbL=>aQ.mk (Ll.mk sLrtbbbL) else bnd (aA g 0) fun a=>bnd (bD a p1.aB) fun b=>bnd (aA b p1.ax.ls.length) fun c=>bnd (eu p1.ax.ls c.xb.ls) fun sLrfbbbL=>aQ.mk (Ll.mk sLrfbbbL)
set_option maxHeartbeats 1000000 in
theorem mR (w:World) (D:Nat→Prop) (f:Nat) (F:aQ) (A:Option Addr) (B:Nat) (p1:bX) (a:Option Addr) (ag b:Nat) (r0:aQ) (H:Own w D w [blk f [.slice A F.xb.ls.length B] 57,row A F.xb.ls.length B (List.flatMap eB F.xb.ls) 5 1]) (aG:ag=p1.ax.ls.length) (j:Ro w D fun w'=>bn w' 2 a p1.ax.ls.length (List.flatMap bu.cells p1.ax.ls)) (dD:p1.ax.ls.length≤b∧p1.ax.ls.length≤9223372036854775807) (gp:F.xb.ls.length≤7000000000) (af:(p1.aB.length≤16∧p1.ax.ls.length≤4∧∀ q ∈ p1.ax.ls,q.aX.length≤12∧q.aB.length≤16)) (hr:jr F p1=r0):
    Calls Tryz.prog 80 #[.pointer (some ⟨f,0,none⟩), .agg #[.bool p1.dm, .string ⟨List.toArray p1.aB⟩, .slice a ag b]] w (dE fun v w'=> ∃ (B0ox0:Option Addr) (b0ox0:Nat),v= .tuple #[]∧Own w D w' [blk f [.slice B0ox0 r0.xb.ls.length b0ox0] 57,row B0ox0 r0.xb.ls.length b0ox0 (List.flatMap eB r0.xb.ls) 5 1]∧(r0.xb.ls.length≤F.xb.ls.length+300)):=by
 subst aG
 have dG:=H.rowC (i:=1) rfl
 have eU:=af.1
 have eX:=af.2.1
 refine zg (args:= [.pointer (some ⟨f,0,none⟩), .agg #[.bool p1.dm, .string ⟨List.toArray p1.aB⟩, .slice a p1.ax.ls.length b]]) Tryz.func80 rfl rfl rfl ?_
 show Wp _ _ _ [(0, .pointer (some ⟨f,0,none⟩)),(1, .agg #[.bool p1.dm, .string ⟨List.toArray p1.aB⟩, .slice a p1.ax.ls.length b])] _ _
 refine sr ?_
 refine dC [.bool p1.dm, .string ⟨List.toArray p1.aB⟩, .slice a p1.ax.ls.length b] 129 H ?_
 intro p gq aH
 refine ns (An rfl (ze (sr (Kz (.pointer (some ⟨p,0,none⟩)) (Lz (.bool p1.dm) aH 0 Tryz.isAgg4 (nt ?_))))))
 rcases Cf (p1.dm) with G | G
 refine jT G (zb (Ar rfl (Mz rfl (Mz rfl ?_))))
 refine WL.do rfl (zI Tryz.call19 rfl ?_ (fun _ _ k=>k))
 refine zg (args:= [.pointer (some ⟨f,0,none⟩), .int .i64 1]) Tryz.func19 rfl rfl rfl ?_
 show Wp _ _ _ [(0, .pointer (some ⟨f,0,none⟩)),(1, .int .i64 1)] _ _
 refine zb (Mz rfl (Mz rfl (fw (.int .u64 1) (zy (e:=IntKind.u64.wrap 1) yk (IntWalk.u64_in _ (by omega))) ?_)))
 have dH:=aH.pk [1,2,0]
 obtain⟨I,ah⟩:∃ q,aA F 1=q:=⟨_,rfl⟩
 obtain⟨gu,bB,eY,bC,eZ⟩:=zB dH
 refine cl Tryz.call21 (aR _ _ f F A B 1 I bB (by first | omega | (dsimp only; omega) | (dsimp only [List.length_cons,List.length_nil]; omega)) ah) ?_
 rintro _ gy ⟨dI,dJ,rfl,bE,ai⟩
 have aI:=bC _ _ bE
 have fe:=aI.rowC (i:=1) rfl
 replace ai:I.xb.ls.length≤F.xb.ls.length+10:=ai
 refine zq (zC (res0 rfl) (ns (Mz rfl (Kz (.pointer (some ⟨p,1,none⟩)) (Lz (.string ⟨List.toArray p1.aB⟩) aI 2 Tryz.isAgg9 ?_)))))
 obtain⟨J,aj⟩:∃ q,bD I p1.aB=q:=⟨_,rfl⟩
 obtain⟨gz,bF,fo,bG,fq⟩:=zB aI
 refine cl Tryz.call28 (dU _ _ f I dI dJ p1.aB J bF (by first | omega | (dsimp only; omega) | (dsimp only [List.length_cons,List.length_nil]; omega)) aj) ?_
 rintro _ gB ⟨dK,dL,rfl,bH,ak⟩
 have aJ:=bG _ _ bH
 have fu:=aJ.rowC (i:=1) rfl
 replace ak:J.xb.ls.length≤I.xb.ls.length+26:=ak
 refine nt (zb (Mz rfl (Kz (.pointer (some ⟨p,2,none⟩)) (Lz (.slice a p1.ax.ls.length b) aJ 2 Tryz.isAgg127 (Mz rfl (Kz (.func (.func 110) #[.pointer (some ⟨f,0,none⟩)] #[]) ?_))))))
 refine WL.do rfl (zI Tryz.call109 rfl ?_ (fun _ _ k=>k))
 refine zg (args:= [.pointer (some ⟨f,0,none⟩), .slice a p1.ax.ls.length b, .func (.func 110) #[.pointer (some ⟨f,0,none⟩)] #[]]) Tryz.func109 rfl rfl rfl ?_
 show Wp _ _ _ [(0, .pointer (some ⟨f,0,none⟩)),(1, .slice a p1.ax.ls.length b),(2, .func (.func 110) #[.pointer (some ⟨f,0,none⟩)] #[])] _ _
 refine sr (Mz rfl (Mz rfl (Kz (.int .i64 ((p1.ax.ls.length:Nat):Int)) ?_)))
 refine WL.do rfl (zI Tryz.call19 rfl ?_ (fun _ _ k=>k))
 refine zg (args:= [.pointer (some ⟨f,0,none⟩), .int .i64 ((p1.ax.ls.length:Nat):Int)]) Tryz.func19 rfl rfl rfl ?_
 show Wp _ _ _ [(0, .pointer (some ⟨f,0,none⟩)),(1, .int .i64 ((p1.ax.ls.length:Nat):Int))] _ _
 refine zb (Mz rfl (Mz rfl (fw (.int .u64 ((p1.ax.ls.length:Nat):Int)) (zy (e:=IntKind.u64.wrap ((p1.ax.ls.length:Nat):Int)) yk (IntWalk.u64_in _ (by omega))) ?_)))
 obtain⟨r,au⟩:∃ q,aA J p1.ax.ls.length=q:=⟨_,rfl⟩
 obtain⟨gD,bI,fA,bJ,fB⟩:=zB aJ
 refine cl Tryz.call21 (aR _ _ f J dK dL p1.ax.ls.length r bI (by first | omega | (dsimp only; omega) | (dsimp only [List.length_cons,List.length_nil]; omega)) au) ?_
 rintro _ gF ⟨dM,dN,rfl,bK,av⟩
 have bL:=bJ _ _ bK
 have fC:=bL.rowC (i:=1) rfl
 replace av:r.xb.ls.length≤J.xb.ls.length+10:=av
 refine zq (zC (res0 rfl) (nt (zb (Mz rfl (Mz rfl ?_)))))
 refine WL.do rfl (zI Tryz.call119 rfl ?_ (fun _ _ k=>k))
 refine zg (args:= [.func (.func 110) #[.pointer (some ⟨f,0,none⟩)] #[], .slice a p1.ax.ls.length b]) Tryz.func119 rfl rfl rfl ?_
 show Wp _ _ _ [(0, .func (.func 110) #[.pointer (some ⟨f,0,none⟩)] #[]),(1, .slice a p1.ax.ls.length b)] _ _
 refine sr (Mz rfl (Kz (.int .i64 ((p1.ax.ls.length:Nat):Int)) (Mn rfl (bo ?_))))
 have dO:=bL.pk [0,2,1]
 obtain⟨bM,bO⟩:∃ q:(Nat × (Option Addr) × Nat × (List UInt8))→World→Prop,q=fun(i:Nat × (Option Addr) × Nat × (List UInt8)) w'=>Own w D w' [blk f [.slice i.2.1 i.2.2.2.length i.2.2.1] 57,blk p [.bool p1.dm, .string ⟨List.toArray p1.aB⟩, .slice a p1.ax.ls.length b] 129,row i.2.1 i.2.2.2.length i.2.2.1 (List.flatMap eB i.2.2.2) 5 1]∧(i.1≤p1.ax.ls.length∧((i.2.2.2.length:Nat):Int)≤((r.xb.ls.length:Nat):Int)+60 *((i.1:Nat):Int)∧ek p1.ax.ls r.xb.ls=ek (List.drop i.1 p1.ax.ls) i.2.2.2):=⟨_,rfl⟩
 have K:∀ {g:Nat} {C:Option Addr} {E:Nat} {h:List UInt8} {w':World},bM (g,C,E,h) w'↔Own w D w' [blk f [.slice C h.length E] 57,blk p [.bool p1.dm, .string ⟨List.toArray p1.aB⟩, .slice a p1.ax.ls.length b] 129,row C h.length E (List.flatMap eB h) 5 1]∧g≤p1.ax.ls.length∧((h.length:Nat):Int)≤((r.xb.ls.length:Nat):Int)+60 *((g:Nat):Int)∧ek p1.ax.ls r.xb.ls=ek (List.drop g p1.ax.ls) h:=by intros; subst bO; exact Iff.rfl
 refine Wp.loop (fun i:Nat × (Option Addr) × Nat × (List UInt8)=> [(8, .int .i64 ((i.1:Nat):Int)),(7, .int .i64 ((p1.ax.ls.length:Nat):Int)),(6, .slice a p1.ax.ls.length b),(0, .func (.func 110) #[.pointer (some ⟨f,0,none⟩)] #[])]) bM (fun i=>p1.ax.ls.length - i.1) (0,dM,dN,r.xb.ls) ⟨rfl,rfl,rfl,rfl,trivial⟩ (K.2 ⟨dO,by omega,by omega,rfl⟩) ?_
 rintro ⟨g,C,E,h⟩ gG bP
 show Wp _ _ _ [(8, .int .i64 ((g:Nat):Int)),(7, .int .i64 ((p1.ax.ls.length:Nat):Int)),(6, .slice a p1.ax.ls.length b),(0, .func (.func 110) #[.pointer (some ⟨f,0,none⟩)] #[])] _ _
 obtain⟨L,fD,fE,ax⟩:=K.1 bP
 refine sr (Kz (.bool (decide (((g:Nat):Int) < ((p1.ax.ls.length:Nat):Int)))) (nt (ze ?_)))
 by_cases bQ:((g:Nat):Int) < ((p1.ax.ls.length:Nat):Int)
 obtain⟨s,M⟩:=eH (ls:=p1.ax.ls) (i:=g) bu.len (by decide) (L.ro j) (by first | omega | (simp; done) | (simp; omega))
 have bR:s.aX.length≤12∧s.aB.length≤16:=af.2.2 _ (List.mem_of_getElem? M)
 have bS:=drop_at M
 refine jT (dT bQ) (sk (ze (bo (sr (fw (.pointer (some ⟨ab a,ao a+g *2,none⟩)) (zn (oU) rfl rfl ((L.ro j).addr (i:=g) (by omega)) (by omega)) (fw (.agg (bu.cells s).toArray) (zi rfl (zD (cs:=(bu.cells s)) Tryz.isAgg133 Tryz.sizeOf133 ((L.ro j).elem bu.len M (by decide)))) ?_))))))
 refine dC [.string ⟨List.toArray ([])⟩, .string ⟨List.toArray ([])⟩] 133 L ?_
 intro gH gI dP
 refine df (bu.cells s) 0 dP Tryz.sizeOf133 ?_
 intro gJ bT
 refine nt (zb (Mz rfl (La (bu.cells s) bT 0 Tryz.isAgg133 Tryz.sizeOf133 ?_)))
 have dQ:=bT.pk [1,3,0,2]
 obtain⟨aK,N⟩:∃ q,iJ (aQ.mk (Ll.mk h)) s=q:=⟨_,rfl⟩
 obtain⟨gK,bU,fF,bV,fG⟩:=zB dQ
 refine WL.do rfl (zK Tryz.call110 rfl rfl (lu _ _ f (aQ.mk (Ll.mk h)) C E s aK bU (by first | omega | (dsimp only; omega) | (dsimp only [List.length_cons,List.length_nil]; omega)) (by exact bR) N) ?_)
 rintro _ fH ⟨bW,bY,rfl,aL,O⟩
 have ay:=bV _ _ aL
 have dR:=ay.rowC (i:=1) rfl
 replace O:aK.xb.ls.length≤h.length+60:=O
 refine zq (bN (zu (zb (fw (.int .i64 ((g+1:Nat):Int)) (zy (e:=IntKind.i64.wrap (((g:Nat):Int)+1)) yk (by rw [Cb _ (by omega)]; omega)) (Mz rfl (zq ?_))))))
 have bZ:=ay.pk [0,3,1]
 exact zH (g+1,bW,bY,aK.xb.ls) ⟨rfl,rfl,rfl,rfl,trivial⟩ (K.2 ⟨bZ,by omega,by omega,et (ax) (et (congrArg (fun q=>ek q h) bS) (ae N))⟩) (by show p1.ax.ls.length - (g+1) < p1.ax.ls.length - g; omega)
 refine jF (dF bQ) (Wp.exit (zk ?_))
 have aM:ek p1.ax.ls r.xb.ls=h:=et (ax) (et (congrArg (fun q=>ek q h) (eF (ls:=p1.ax.ls) (i:=g) (by omega))) rfl)
 refine zk (zA (zC (res0 rfl) (zq (zC (res0 rfl) (zq (zC (res0 rfl) ?_))))))
 have cu:=L.pk [0,2]
 obtain rfl:_=aQ.mk (Ll.mk h):=hr.symm.trans (et (ip G) (et (ae ah) (et (ae aj) (et (ae au) (ae aM)))))
 exact⟨C,E,rfl,cu,(by first | omega | (simp only [List.length_cons,List.length_nil,List.length_append]; omega))⟩
 refine jF G (sk (sr (Mz rfl (Mz rfl ?_))))
 refine WL.do rfl (zI Tryz.call19 rfl ?_ (fun _ _ k=>k))
 refine zg (args:= [.pointer (some ⟨f,0,none⟩), .int .i64 0]) Tryz.func19 rfl rfl rfl ?_
 show Wp _ _ _ [(0, .pointer (some ⟨f,0,none⟩)),(1, .int .i64 0)] _ _
 refine zb (Mz rfl (Mz rfl (fw (.int .u64 0) (zy (e:=IntKind.u64.wrap 0) yk (IntWalk.u64_in _ (by omega))) ?_)))
 have cz:=aH.pk [1,2,0]
 obtain⟨t,P⟩:∃ q,aA F 0=q:=⟨_,rfl⟩
 obtain⟨fI,aN,dS,aO,dV⟩:=zB cz
 refine cl Tryz.call21 (aR _ _ f F A B 0 t aN (by first | omega | (dsimp only; omega) | (dsimp only [List.length_cons,List.length_nil]; omega)) P) ?_
 rintro _ fJ ⟨cB,cK,rfl,aP,Q⟩
 have R:=aO _ _ aP
 have dW:=R.rowC (i:=1) rfl
 replace Q:t.xb.ls.length≤F.xb.ls.length+10:=Q
 refine zq (zC (res0 rfl) (ns (Mz rfl (Kz (.pointer (some ⟨p,1,none⟩)) (Lz (.string ⟨List.toArray p1.aB⟩) R 2 Tryz.isAgg9 ?_)))))
 obtain⟨u,S⟩:∃ q,bD t p1.aB=q:=⟨_,rfl⟩
 obtain⟨fK,aS,dX,aT,dY⟩:=zB R
 refine cl Tryz.call28 (dU _ _ f t cB cK p1.aB u aS (by first | omega | (dsimp only; omega) | (dsimp only [List.length_cons,List.length_nil]; omega)) S) ?_
 rintro _ fM ⟨cO,cZ,rfl,aU,T⟩
 have U:=aT _ _ aU
 have dZ:=U.rowC (i:=1) rfl
 replace T:u.xb.ls.length≤t.xb.ls.length+26:=T
 refine nt (zb (Mz rfl (Kz (.pointer (some ⟨p,2,none⟩)) (Lz (.slice a p1.ax.ls.length b) U 2 Tryz.isAgg127 (Mz rfl (Kz (.func (.func 110) #[.pointer (some ⟨f,0,none⟩)] #[]) ?_))))))
 refine WL.do rfl (zI Tryz.call109 rfl ?_ (fun _ _ k=>k))
 refine zg (args:= [.pointer (some ⟨f,0,none⟩), .slice a p1.ax.ls.length b, .func (.func 110) #[.pointer (some ⟨f,0,none⟩)] #[]]) Tryz.func109 rfl rfl rfl ?_
 show Wp _ _ _ [(0, .pointer (some ⟨f,0,none⟩)),(1, .slice a p1.ax.ls.length b),(2, .func (.func 110) #[.pointer (some ⟨f,0,none⟩)] #[])] _ _
 refine sr (Mz rfl (Mz rfl (Kz (.int .i64 ((p1.ax.ls.length:Nat):Int)) ?_)))
 refine WL.do rfl (zI Tryz.call19 rfl ?_ (fun _ _ k=>k))
 refine zg (args:= [.pointer (some ⟨f,0,none⟩), .int .i64 ((p1.ax.ls.length:Nat):Int)]) Tryz.func19 rfl rfl rfl ?_
 show Wp _ _ _ [(0, .pointer (some ⟨f,0,none⟩)),(1, .int .i64 ((p1.ax.ls.length:Nat):Int))] _ _
 refine zb (Mz rfl (Mz rfl (fw (.int .u64 ((p1.ax.ls.length:Nat):Int)) (zy (e:=IntKind.u64.wrap ((p1.ax.ls.length:Nat):Int)) yk (IntWalk.u64_in _ (by omega))) ?_)))
 obtain⟨l,V⟩:∃ q,aA u p1.ax.ls.length=q:=⟨_,rfl⟩
 obtain⟨fO,aV,d9,aW,ed⟩:=zB U
 refine cl Tryz.call21 (aR _ _ f u cO cZ p1.ax.ls.length l aV (by first | omega | (dsimp only; omega) | (dsimp only [List.length_cons,List.length_nil]; omega)) V) ?_
 rintro _ fP ⟨dh,di,rfl,aX,W⟩
 have az:=aW _ _ aX
 have eD:=az.rowC (i:=1) rfl
 replace W:l.xb.ls.length≤u.xb.ls.length+10:=W
 refine zq (zC (res0 rfl) (nt (zb (Mz rfl (Mz rfl ?_)))))
 refine WL.do rfl (zI Tryz.call119 rfl ?_ (fun _ _ k=>k))
 refine zg (args:= [.func (.func 110) #[.pointer (some ⟨f,0,none⟩)] #[], .slice a p1.ax.ls.length b]) Tryz.func119 rfl rfl rfl ?_
 show Wp _ _ _ [(0, .func (.func 110) #[.pointer (some ⟨f,0,none⟩)] #[]),(1, .slice a p1.ax.ls.length b)] _ _
 refine sr (Mz rfl (Kz (.int .i64 ((p1.ax.ls.length:Nat):Int)) (Mn rfl (bo ?_))))
 have dm:=az.pk [0,2,1]
 obtain⟨aB,aY⟩:∃ q:(Nat × (Option Addr) × Nat × (List UInt8))→World→Prop,q=fun(i:Nat × (Option Addr) × Nat × (List UInt8)) w'=>Own w D w' [blk f [.slice i.2.1 i.2.2.2.length i.2.2.1] 57,blk p [.bool p1.dm, .string ⟨List.toArray p1.aB⟩, .slice a p1.ax.ls.length b] 129,row i.2.1 i.2.2.2.length i.2.2.1 (List.flatMap eB i.2.2.2) 5 1]∧(i.1≤p1.ax.ls.length∧((i.2.2.2.length:Nat):Int)≤((l.xb.ls.length:Nat):Int)+60 *((i.1:Nat):Int)∧eu p1.ax.ls l.xb.ls=eu (List.drop i.1 p1.ax.ls) i.2.2.2):=⟨_,rfl⟩
 have y:∀ {c:Nat} {n:Option Addr} {o:Nat} {d:List UInt8} {w':World},aB (c,n,o,d) w'↔Own w D w' [blk f [.slice n d.length o] 57,blk p [.bool p1.dm, .string ⟨List.toArray p1.aB⟩, .slice a p1.ax.ls.length b] 129,row n d.length o (List.flatMap eB d) 5 1]∧c≤p1.ax.ls.length∧((d.length:Nat):Int)≤((l.xb.ls.length:Nat):Int)+60 *((c:Nat):Int)∧eu p1.ax.ls l.xb.ls=eu (List.drop c p1.ax.ls) d:=by intros; subst aY; exact Iff.rfl
 refine Wp.loop (fun i:Nat × (Option Addr) × Nat × (List UInt8)=> [(8, .int .i64 ((i.1:Nat):Int)),(7, .int .i64 ((p1.ax.ls.length:Nat):Int)),(6, .slice a p1.ax.ls.length b),(0, .func (.func 110) #[.pointer (some ⟨f,0,none⟩)] #[])]) aB (fun i=>p1.ax.ls.length - i.1) (0,dh,di,l.xb.ls) ⟨rfl,rfl,rfl,rfl,trivial⟩ (y.2 ⟨dm,by omega,by omega,rfl⟩) ?_
 rintro ⟨c,n,o,d⟩ fQ aZ
 show Wp _ _ _ [(8, .int .i64 ((c:Nat):Int)),(7, .int .i64 ((p1.ax.ls.length:Nat):Int)),(6, .slice a p1.ax.ls.length b),(0, .func (.func 110) #[.pointer (some ⟨f,0,none⟩)] #[])] _ _
 obtain⟨x,eG,eO,X⟩:=y.1 aZ
 refine sr (Kz (.bool (decide (((c:Nat):Int) < ((p1.ax.ls.length:Nat):Int)))) (nt (ze ?_)))
 by_cases aC:((c:Nat):Int) < ((p1.ax.ls.length:Nat):Int)
 obtain⟨m,z⟩:=eH (ls:=p1.ax.ls) (i:=c) bu.len (by decide) (x.ro j) (by first | omega | (simp; done) | (simp; omega))
 have bf:m.aX.length≤12∧m.aB.length≤16:=af.2.2 _ (List.mem_of_getElem? z)
 have bg:=drop_at z
 refine jT (dT aC) (sk (ze (bo (sr (fw (.pointer (some ⟨ab a,ao a+c *2,none⟩)) (zn (oU) rfl rfl ((x.ro j).addr (i:=c) (by omega)) (by omega)) (fw (.agg (bu.cells m).toArray) (zi rfl (zD (cs:=(bu.cells m)) Tryz.isAgg133 Tryz.sizeOf133 ((x.ro j).elem bu.len z (by decide)))) ?_))))))
 refine dC [.string ⟨List.toArray ([])⟩, .string ⟨List.toArray ([])⟩] 133 x ?_
 intro fT fU dn
 refine df (bu.cells m) 0 dn Tryz.sizeOf133 ?_
 intro fV aD
 refine nt (zb (Mz rfl (La (bu.cells m) aD 0 Tryz.isAgg133 Tryz.sizeOf133 ?_)))
 have dw:=aD.pk [1,3,0,2]
 obtain⟨Y,Z⟩:∃ q,iJ (aQ.mk (Ll.mk d)) m=q:=⟨_,rfl⟩
 obtain⟨fZ,bi,eP,bq,eQ⟩:=zB dw
 refine WL.do rfl (zK Tryz.call110 rfl rfl (lu _ _ f (aQ.mk (Ll.mk d)) n o m Y bi (by first | omega | (dsimp only; omega) | (dsimp only [List.length_cons,List.length_nil]; omega)) (by exact bf) Z) ?_)
 rintro _ gm ⟨dx,dz,rfl,bv,aa⟩
 have aF:=bq _ _ bv
 have eT:=aF.rowC (i:=1) rfl
 replace aa:Y.xb.ls.length≤d.length+60:=aa
 refine zq (bN (zu (zb (fw (.int .i64 ((c+1:Nat):Int)) (zy (e:=IntKind.i64.wrap (((c:Nat):Int)+1)) yk (by rw [Cb _ (by omega)]; omega)) (Mz rfl (zq ?_))))))
 have dA:=aF.pk [0,3,1]
 exact zH (c+1,dx,dz,Y.xb.ls) ⟨rfl,rfl,rfl,rfl,trivial⟩ (y.2 ⟨dA,by omega,by omega,et (X) (et (congrArg (fun q=>eu q d) bg) (ae Z))⟩) (by show p1.ax.ls.length - (c+1) < p1.ax.ls.length - c; omega)
 refine jF (dF aC) (Wp.exit (zk ?_))
 have bz:eu p1.ax.ls l.xb.ls=d:=et (X) (et (congrArg (fun q=>eu q d) (eF (ls:=p1.ax.ls) (i:=c) (by omega))) rfl)
 refine zk (zA (zC (res0 rfl) (zq (zC (res0 rfl) (zq (zC (res0 rfl) ?_))))))
 have dB:=x.pk [0,2]
 obtain rfl:_=aQ.mk (Ll.mk d):=hr.symm.trans (et (jV G) (et (ae P) (et (ae S) (et (ae V) (ae bz)))))
 exact⟨n,o,rfl,dB,(by first | omega | (simp only [List.length_cons,List.length_nil,List.length_append]; omega))⟩
def fe:List aW→List UInt8→(List UInt8)
  | [],a=>a
  | c::d,a=>bnd (jP (aQ.mk (Ll.mk a)) c) fun b=>fe d b.xb.ls
def jE (c:aQ) (p1:fK):aQ:=
 bnd (aA c p1.aS) fun a=>bnd (aA a p1.aL.ls.length) fun b=>bnd (fe p1.aL.ls b.xb.ls) fun sLrbbL=>aQ.mk (Ll.mk sLrbbL)
set_option maxHeartbeats 1000000 in
theorem nH (w:World) (D:Nat→Prop) (f:Nat) (u:aQ) (n:Option Addr) (o:Nat) (p1:fK) (a:Option Addr) (y b:Nat) (M:aQ) (H:Own w D w [blk f [.slice n u.xb.ls.length o] 57,row n u.xb.ls.length o (List.flatMap eB u.xb.ls) 5 1]) (I:y=p1.aL.ls.length) (j:Ro w D fun w'=>bn w' 6 a p1.aL.ls.length (List.flatMap aW.cells p1.aL.ls)) (au:p1.aL.ls.length≤b∧p1.aL.ls.length≤9223372036854775807) (bg:u.xb.ls.length≤7000000000) (J:(p1.aS≤18446744073709551615∧p1.aL.ls.length≤24∧∀ q ∈ p1.aL.ls,q.aX.length≤12∧q.aB.length≤16∧q.aJ.length≤12∧q.aN.length≤12)) (hr:jE u p1=M):
    Calls Tryz.prog 25 #[.pointer (some ⟨f,0,none⟩), .agg #[.int .u64 ((p1.aS:Nat):Int), .slice a y b]] w (dE fun v w'=> ∃ (B0ox0:Option Addr) (b0ox0:Nat),v= .tuple #[]∧Own w D w' [blk f [.slice B0ox0 M.xb.ls.length b0ox0] 57,row B0ox0 M.xb.ls.length b0ox0 (List.flatMap eB M.xb.ls) 5 1]∧(M.xb.ls.length≤u.xb.ls.length+3300)):=by
 subst I
 have av:=H.rowC (i:=1) rfl
 have aL:=J.1
 have aM:=J.2.1
 refine zg (args:= [.pointer (some ⟨f,0,none⟩), .agg #[.int .u64 ((p1.aS:Nat):Int), .slice a p1.aL.ls.length b]]) Tryz.func25 rfl rfl rfl ?_
 show Wp _ _ _ [(0, .pointer (some ⟨f,0,none⟩)),(1, .agg #[.int .u64 ((p1.aS:Nat):Int), .slice a p1.aL.ls.length b])] _ _
 refine sr ?_
 refine dC [.int .u64 ((p1.aS:Nat):Int), .slice a p1.aL.ls.length b] 66 H ?_
 intro x bi N
 refine ns (Mz rfl (Kz (.pointer (some ⟨x,0,none⟩)) (Lz (.int .u64 ((p1.aS:Nat):Int)) N 0 Tryz.isAgg22 ?_)))
 have ax:=N.pk [1,2,0]
 obtain⟨p,z⟩:∃ q,aA u p1.aS=q:=⟨_,rfl⟩
 obtain⟨bq,O,aN,P,aO⟩:=zB ax
 refine cl Tryz.call21 (aR _ _ f u n o p1.aS p O (by first | omega | (dsimp only; omega) | (dsimp only [List.length_cons,List.length_nil]; omega)) z) ?_
 rintro _ bu ⟨ay,az,rfl,Q,A⟩
 have K:=P _ _ Q
 have aP:=K.rowC (i:=1) rfl
 replace A:p.xb.ls.length≤u.xb.ls.length+10:=A
 refine nt (zb (Mz rfl (Kz (.pointer (some ⟨x,1,none⟩)) (Lz (.slice a p1.aL.ls.length b) K 2 Tryz.isAgg64 (Mz rfl (Kz (.func (.func 72) #[.pointer (some ⟨f,0,none⟩)] #[]) ?_))))))
 refine WL.do rfl (zI Tryz.call71 rfl ?_ (fun _ _ k=>k))
 refine zg (args:= [.pointer (some ⟨f,0,none⟩), .slice a p1.aL.ls.length b, .func (.func 72) #[.pointer (some ⟨f,0,none⟩)] #[]]) Tryz.func71 rfl rfl rfl ?_
 show Wp _ _ _ [(0, .pointer (some ⟨f,0,none⟩)),(1, .slice a p1.aL.ls.length b),(2, .func (.func 72) #[.pointer (some ⟨f,0,none⟩)] #[])] _ _
 refine sr (Mz rfl (Mz rfl (Kz (.int .i64 ((p1.aL.ls.length:Nat):Int)) ?_)))
 refine WL.do rfl (zI Tryz.call19 rfl ?_ (fun _ _ k=>k))
 refine zg (args:= [.pointer (some ⟨f,0,none⟩), .int .i64 ((p1.aL.ls.length:Nat):Int)]) Tryz.func19 rfl rfl rfl ?_
 show Wp _ _ _ [(0, .pointer (some ⟨f,0,none⟩)),(1, .int .i64 ((p1.aL.ls.length:Nat):Int))] _ _
 refine zb (Mz rfl (Mz rfl (fw (.int .u64 ((p1.aL.ls.length:Nat):Int)) (zy (e:=IntKind.u64.wrap ((p1.aL.ls.length:Nat):Int)) yk (IntWalk.u64_in _ (by omega))) ?_)))
 obtain⟨h,B⟩:∃ q,aA p p1.aL.ls.length=q:=⟨_,rfl⟩
 obtain⟨bv,R,aS,S,aT⟩:=zB K
 refine cl Tryz.call21 (aR _ _ f p ay az p1.aL.ls.length h R (by first | omega | (dsimp only; omega) | (dsimp only [List.length_cons,List.length_nil]; omega)) B) ?_
 rintro _ bz ⟨aB,aC,rfl,T,C⟩
 have U:=S _ _ T
 have aU:=U.rowC (i:=1) rfl
 replace C:h.xb.ls.length≤p.xb.ls.length+10:=C
 refine zq (zC (res0 rfl) (nt (zb (Mz rfl (Mz rfl ?_)))))
 refine WL.do rfl (zI Tryz.call106 rfl ?_ (fun _ _ k=>k))
 refine zg (args:= [.func (.func 72) #[.pointer (some ⟨f,0,none⟩)] #[], .slice a p1.aL.ls.length b]) Tryz.func106 rfl rfl rfl ?_
 show Wp _ _ _ [(0, .func (.func 72) #[.pointer (some ⟨f,0,none⟩)] #[]),(1, .slice a p1.aL.ls.length b)] _ _
 refine sr (Mz rfl (Kz (.int .i64 ((p1.aL.ls.length:Nat):Int)) (Mn rfl (bo ?_))))
 have aD:=U.pk [0,2,1]
 obtain⟨V,W⟩:∃ q:(Nat × (Option Addr) × Nat × (List UInt8))→World→Prop,q=fun(i:Nat × (Option Addr) × Nat × (List UInt8)) w'=>Own w D w' [blk f [.slice i.2.1 i.2.2.2.length i.2.2.1] 57,blk x [.int .u64 ((p1.aS:Nat):Int), .slice a p1.aL.ls.length b] 66,row i.2.1 i.2.2.2.length i.2.2.1 (List.flatMap eB i.2.2.2) 5 1]∧(i.1≤p1.aL.ls.length∧((i.2.2.2.length:Nat):Int)≤((h.xb.ls.length:Nat):Int)+130 *((i.1:Nat):Int)∧fe p1.aL.ls h.xb.ls=fe (List.drop i.1 p1.aL.ls) i.2.2.2):=⟨_,rfl⟩
 have r:∀ {c:Nat} {l:Option Addr} {m:Nat} {d:List UInt8} {w':World},V (c,l,m,d) w'↔Own w D w' [blk f [.slice l d.length m] 57,blk x [.int .u64 ((p1.aS:Nat):Int), .slice a p1.aL.ls.length b] 66,row l d.length m (List.flatMap eB d) 5 1]∧c≤p1.aL.ls.length∧((d.length:Nat):Int)≤((h.xb.ls.length:Nat):Int)+130 *((c:Nat):Int)∧fe p1.aL.ls h.xb.ls=fe (List.drop c p1.aL.ls) d:=by intros; subst W; exact Iff.rfl
 refine Wp.loop (fun i:Nat × (Option Addr) × Nat × (List UInt8)=> [(8, .int .i64 ((i.1:Nat):Int)),(7, .int .i64 ((p1.aL.ls.length:Nat):Int)),(6, .slice a p1.aL.ls.length b),(0, .func (.func 72) #[.pointer (some ⟨f,0,none⟩)] #[])]) V (fun i=>p1.aL.ls.length - i.1) (0,aB,aC,h.xb.ls) ⟨rfl,rfl,rfl,rfl,trivial⟩ (r.2 ⟨aD,by omega,by omega,rfl⟩) ?_
 rintro ⟨c,l,m,d⟩ bA X
 show Wp _ _ _ [(8, .int .i64 ((c:Nat):Int)),(7, .int .i64 ((p1.aL.ls.length:Nat):Int)),(6, .slice a p1.aL.ls.length b),(0, .func (.func 72) #[.pointer (some ⟨f,0,none⟩)] #[])] _ _
 obtain⟨s,aV,aX,E⟩:=r.1 X
 refine sr (Kz (.bool (decide (((c:Nat):Int) < ((p1.aL.ls.length:Nat):Int)))) (nt (ze ?_)))
 by_cases Y:((c:Nat):Int) < ((p1.aL.ls.length:Nat):Int)
 obtain⟨g,t⟩:=eH (ls:=p1.aL.ls) (i:=c) aW.len (by decide) (s.ro j) (by first | omega | (simp; done) | (simp; omega))
 have Z:g.aX.length≤12∧g.aB.length≤16∧g.aJ.length≤12∧g.aN.length≤12:=J.2.2 _ (List.mem_of_getElem? t)
 have aa:=drop_at t
 refine jT (dT Y) (sk (ze (bo (sr (fw (.pointer (some ⟨ab a,ao a+c *6,none⟩)) (zn (qD) rfl rfl ((s.ro j).addr (i:=c) (by omega)) (by omega)) (fw (.agg (aW.cells g).toArray) (zi rfl (zD (cs:=(aW.cells g)) Tryz.isAgg74 Tryz.sizeOf74 ((s.ro j).elem aW.len t (by decide)))) ?_))))))
 refine dC [.int .i64 0, .string ⟨List.toArray ([])⟩, .string ⟨List.toArray ([])⟩, .string ⟨List.toArray ([])⟩, .string ⟨List.toArray ([])⟩, .int .i64 0] 74 s ?_
 intro bB bC aF
 refine df (aW.cells g) 0 aF Tryz.sizeOf74 ?_
 intro bD af
 refine nt (zb (Mz rfl (La (aW.cells g) af 0 Tryz.isAgg74 Tryz.sizeOf74 ?_)))
 have aG:=af.pk [1,3,0,2]
 obtain⟨L,F⟩:∃ q,jP (aQ.mk (Ll.mk d)) g=q:=⟨_,rfl⟩
 obtain⟨bE,ag,aY,ah,aZ⟩:=zB aG
 refine WL.do rfl (zK Tryz.call72 rfl rfl (oh _ _ f (aQ.mk (Ll.mk d)) l m g L ag (by first | omega | (dsimp only; omega) | (dsimp only [List.length_cons,List.length_nil]; omega)) (by exact Z) F) ?_)
 rintro _ bF ⟨aH,aI,rfl,ai,G⟩
 have aj:=ah _ _ ai
 have bf:=aj.rowC (i:=1) rfl
 replace G:L.xb.ls.length≤d.length+130:=G
 refine zq (bN (zu (zb (fw (.int .i64 ((c+1:Nat):Int)) (zy (e:=IntKind.i64.wrap (((c:Nat):Int)+1)) yk (by rw [Cb _ (by omega)]; omega)) (Mz rfl (zq ?_))))))
 have aJ:=aj.pk [0,3,1]
 exact zH (c+1,aH,aI,L.xb.ls) ⟨rfl,rfl,rfl,rfl,trivial⟩ (r.2 ⟨aJ,by omega,by omega,et (E) (et (congrArg (fun q=>fe q d) aa) (ae F))⟩) (by show p1.aL.ls.length - (c+1) < p1.aL.ls.length - c; omega)
 refine jF (dF Y) (Wp.exit (zk ?_))
 have ak:fe p1.aL.ls h.xb.ls=d:=et (E) (et (congrArg (fun q=>fe q d) (eF (ls:=p1.aL.ls) (i:=c) (by omega))) rfl)
 refine zk (zA (zC (res0 rfl) (zq (zC (res0 rfl) (zq (zC (res0 rfl) ?_))))))
 have aK:=s.pk [0,2]
 obtain rfl:_=aQ.mk (Ll.mk d):=hr.symm.trans (et (ae z) (et (ae B) (ae ak)))
 exact⟨l,m,rfl,aK,(by first | omega | (simp only [List.length_cons,List.length_nil,List.length_append]; omega))⟩
def dQ:List Int→List UInt8→(List UInt8)
  | [],a=>a
  | c::d,a=>bnd (aA (aQ.mk (Ll.mk a)) (Int.toNat (IntKind.u64.wrap c))) fun b=>dQ d b.xb.ls
def iZ (f:aQ) (p1:bO):aQ:=
 bnd (aA f p1.aS) fun a=>bnd (aA a (Int.toNat (IntKind.u64.wrap p1.aC))) fun b=>bnd (aA b p1.au) fun c=>bnd (aA c p1.bB) fun d=>bnd (aA d p1.af.ls.length) fun e=>bnd (dQ p1.af.ls e.xb.ls) fun sLrbbbbbL=>aQ.mk (Ll.mk sLrbbbbbL)
set_option maxHeartbeats 1000000 in
theorem mo (w:World) (D:Nat→Prop) (f:Nat) (K:aQ) (s:Option Addr) (t:Nat) (p1:bO) (b:Option Addr) (O c:Nat) (r0:aQ) (H:Own w D w [blk f [.slice s K.xb.ls.length t] 57,row s K.xb.ls.length t (List.flatMap eB K.xb.ls) 5 1]) (af:O=p1.af.ls.length) (o:Ro w D fun w'=>bn w' 1 b p1.af.ls.length (List.flatMap (eI .i64) p1.af.ls)) (bz:p1.af.ls.length≤c∧p1.af.ls.length≤9223372036854775807) (dG:K.xb.ls.length≤7000000000) (L:(p1.aS≤18446744073709551615∧p1.au≤18446744073709551615∧p1.bB≤18446744073709551615∧p1.af.ls.length≤4)) (hr:iZ K p1=r0):
    Calls Tryz.prog 33 #[.pointer (some ⟨f,0,none⟩), .agg #[.int .u64 ((p1.aS:Nat):Int), .int .i64 p1.aC, .int .u64 ((p1.au:Nat):Int), .int .u64 ((p1.bB:Nat):Int), .slice b O c]] w (dE fun v w'=> ∃ (B0ox0:Option Addr) (b0ox0:Nat),v= .tuple #[]∧Own w D w' [blk f [.slice B0ox0 r0.xb.ls.length b0ox0] 57,row B0ox0 r0.xb.ls.length b0ox0 (List.flatMap eB r0.xb.ls) 5 1]∧(r0.xb.ls.length≤K.xb.ls.length+100)):=by
 subst af
 have bA:=H.rowC (i:=1) rfl
 have bV:=L.1
 have bW:=L.2.1
 have bX:=L.2.2.1
 have bY:=L.2.2.2
 refine zg (args:= [.pointer (some ⟨f,0,none⟩), .agg #[.int .u64 ((p1.aS:Nat):Int), .int .i64 p1.aC, .int .u64 ((p1.au:Nat):Int), .int .u64 ((p1.bB:Nat):Int), .slice b p1.af.ls.length c]]) Tryz.func33 rfl rfl rfl ?_
 show Wp _ _ _ [(0, .pointer (some ⟨f,0,none⟩)),(1, .agg #[.int .u64 ((p1.aS:Nat):Int), .int .i64 p1.aC, .int .u64 ((p1.au:Nat):Int), .int .u64 ((p1.bB:Nat):Int), .slice b p1.af.ls.length c])] _ _
 refine sr ?_
 refine dC [.int .u64 ((p1.aS:Nat):Int), .int .i64 p1.aC, .int .u64 ((p1.au:Nat):Int), .int .u64 ((p1.bB:Nat):Int), .slice b p1.af.ls.length c] 79 H ?_
 intro p dH az
 refine ns (Mz rfl (Kz (.pointer (some ⟨p,0,none⟩)) (Lz (.int .u64 ((p1.aS:Nat):Int)) az 0 Tryz.isAgg22 ?_)))
 have bB:=az.pk [1,2,0]
 obtain⟨u,P⟩:∃ q,aA K p1.aS=q:=⟨_,rfl⟩
 obtain⟨dI,aB,bZ,aC,cu⟩:=zB bB
 refine cl Tryz.call21 (aR _ _ f K s t p1.aS u aB (by first | omega | (dsimp only; omega) | (dsimp only [List.length_cons,List.length_nil]; omega)) P) ?_
 rintro _ dJ ⟨bC,bD,rfl,aD,Q⟩
 have ag:=aC _ _ aD
 have cz:=ag.rowC (i:=1) rfl
 replace Q:u.xb.ls.length≤K.xb.ls.length+10:=Q
 refine ns (Mz rfl (Kz (.pointer (some ⟨p,1,none⟩)) (Lz (.int .i64 p1.aC) ag 2 Tryz.isAgg3 ?_)))
 refine WL.do rfl (zI Tryz.call19 rfl ?_ (fun _ _ k=>k))
 refine zg (args:= [.pointer (some ⟨f,0,none⟩), .int .i64 p1.aC]) Tryz.func19 rfl rfl rfl ?_
 show Wp _ _ _ [(0, .pointer (some ⟨f,0,none⟩)),(1, .int .i64 p1.aC)] _ _
 refine zb (Mz rfl (Mz rfl ?_))
 have cB:Int.toNat (IntKind.u64.wrap p1.aC)≤18446744073709551615:=jW _
 refine fw (.int .u64 ((Int.toNat (IntKind.u64.wrap p1.aC):Nat):Int)) (zy (e:=IntKind.u64.wrap p1.aC) yk (gI _)) ?_
 obtain⟨x,R⟩:∃ q,aA u (Int.toNat (IntKind.u64.wrap p1.aC))=q:=⟨_,rfl⟩
 obtain⟨dK,aF,cK,aG,cO⟩:=zB ag
 refine cl Tryz.call21 (aR _ _ f u bC bD (Int.toNat (IntKind.u64.wrap p1.aC)) x aF (by first | omega | (dsimp only; omega) | (dsimp only [List.length_cons,List.length_nil]; omega)) R) ?_
 rintro _ dL ⟨bE,bF,rfl,aH,S⟩
 have M:=aG _ _ aH
 have cZ:=M.rowC (i:=1) rfl
 replace S:x.xb.ls.length≤u.xb.ls.length+10:=S
 refine zq (zC (res0 rfl) (ns (Mz rfl (Kz (.func (.func 21) #[.pointer (some ⟨f,0,none⟩)] #[]) (Kz (.pointer (some ⟨p,2,none⟩)) (Lz (.int .u64 ((p1.au:Nat):Int)) M 2 Tryz.isAgg22 (Kz (.pointer (some ⟨p,3,none⟩)) (Lz (.int .u64 ((p1.bB:Nat):Int)) M 2 Tryz.isAgg22 ?_))))))))
 refine kF [.int .u64 ((p1.au:Nat):Int), .int .u64 ((p1.bB:Nat):Int)] 22 1 2 M ?_
 intro l dM z
 replace z:=zY (y:=row l 2 2 (List.flatMap (eN .u64) ([p1.au,p1.bB])) 22 1) rfl z
 refine WL.do rfl (zI Tryz.call20 rfl ?_ (fun _ _ k=>k))
 refine zg (args:= [.func (.func 21) #[.pointer (some ⟨f,0,none⟩)] #[], .slice l 2 2]) Tryz.func20 rfl rfl rfl ?_
 show Wp _ _ _ [(0, .func (.func 21) #[.pointer (some ⟨f,0,none⟩)] #[]),(1, .slice l 2 2)] _ _
 refine sr (Mz rfl (Kz (.int .i64 2) (Mn rfl (bo (Ah 200 (sr (Kz (.bool true) (nt (ze (jt (sk (ze (bo (sr ?_))))))))))))))
 have aI:([p1.au,p1.bB]:List Nat)[0]? =some p1.au:=rfl
 refine fw (.pointer (some ⟨ab l,ao l+0 *1,none⟩)) (zn (jR) rfl rfl ((z.rds (i:=0) rfl).addr (i:=0) (by omega)) (by omega)) (fw (.int .u64 ((p1.au:Nat):Int)) (zi rfl (bf.one Tryz.isAgg22 (((z.rds (i:=0) rfl).elem ib aI (by decide)).at_ (k:=0) rfl))) (An rfl (zb (Mz rfl (Mz rfl ?_)))))
 have bG:=z.pk [1,2,0,3]
 obtain⟨A,T⟩:∃ q,aA x p1.au=q:=⟨_,rfl⟩
 obtain⟨dN,aJ,df,aK,dh⟩:=zB bG
 refine WL.do rfl (zK Tryz.call21 rfl rfl (aR _ _ f x bE bF p1.au A aJ (by first | omega | (dsimp only; omega) | (dsimp only [List.length_cons,List.length_nil]; omega)) T) ?_)
 rintro _ dO ⟨bH,bI,rfl,aL,U⟩
 have N:=aK _ _ aL
 have di:=N.rowC (i:=1) rfl
 replace U:A.xb.ls.length≤x.xb.ls.length+10:=U
 refine zq (bN (zu (zb (Kz (.int .i64 1) (Mz rfl (zq (zR [(8, .int .i64 1),(7, .int .i64 2),(6, .slice l 2 2),(0, .func (.func 21) #[.pointer (some ⟨f,0,none⟩)] #[])] ⟨rfl,rfl,rfl,rfl,trivial⟩ (sr (Kz (.bool true) (nt (ze (jt (sk (ze (bo (sr ?_))))))))))))))))
 have aM:([p1.au,p1.bB]:List Nat)[1]? =some p1.bB:=rfl
 refine fw (.pointer (some ⟨ab l,ao l+1 *1,none⟩)) (zn (jR) rfl rfl ((N.rds (i:=2) rfl).addr (i:=1) (by omega)) (by omega)) (fw (.int .u64 ((p1.bB:Nat):Int)) (zi rfl (bf.one Tryz.isAgg22 (((N.rds (i:=2) rfl).elem ib aM (by decide)).at_ (k:=0) rfl))) (An rfl (zb (Mz rfl (Mz rfl ?_)))))
 obtain⟨B,V⟩:∃ q,aA A p1.bB=q:=⟨_,rfl⟩
 obtain⟨dP,aN,dm,aO,dn⟩:=zB N
 refine WL.do rfl (zK Tryz.call21 rfl rfl (aR _ _ f A bH bI p1.bB B aN (by first | omega | (dsimp only; omega) | (dsimp only [List.length_cons,List.length_nil]; omega)) V) ?_)
 rintro _ dR ⟨bJ,bK,rfl,aP,W⟩
 have aS:=aO _ _ aP
 have dw:=aS.rowC (i:=1) rfl
 replace W:B.xb.ls.length≤A.xb.ls.length+10:=W
 refine zq (bN (zu (zb (Kz (.int .i64 2) (Mz rfl (zq (zR [(8, .int .i64 2),(7, .int .i64 2),(6, .slice l 2 2),(0, .func (.func 21) #[.pointer (some ⟨f,0,none⟩)] #[])] ⟨rfl,rfl,rfl,rfl,trivial⟩ (sr (Kz (.bool false) (nt (ze (jf (Wp.exit (zk (zk (zA (zC (res0 rfl) (nt ?_))))))))))))))))))
 have aT:=aS.pk [0,1,3]
 refine zb (Mz rfl (Kz (.pointer (some ⟨p,4,none⟩)) (Lz (.slice b p1.af.ls.length c) aT 2 Tryz.isAgg77 (Mz rfl (Kz (.func (.func 19) #[.pointer (some ⟨f,0,none⟩)] #[]) ?_)))))
 refine WL.do rfl (zI Tryz.call77 rfl ?_ (fun _ _ k=>k))
 refine zg (args:= [.pointer (some ⟨f,0,none⟩), .slice b p1.af.ls.length c, .func (.func 19) #[.pointer (some ⟨f,0,none⟩)] #[]]) Tryz.func77 rfl rfl rfl ?_
 show Wp _ _ _ [(0, .pointer (some ⟨f,0,none⟩)),(1, .slice b p1.af.ls.length c),(2, .func (.func 19) #[.pointer (some ⟨f,0,none⟩)] #[])] _ _
 refine sr (Mz rfl (Mz rfl (Kz (.int .i64 ((p1.af.ls.length:Nat):Int)) ?_)))
 refine WL.do rfl (zI Tryz.call19 rfl ?_ (fun _ _ k=>k))
 refine zg (args:= [.pointer (some ⟨f,0,none⟩), .int .i64 ((p1.af.ls.length:Nat):Int)]) Tryz.func19 rfl rfl rfl ?_
 show Wp _ _ _ [(0, .pointer (some ⟨f,0,none⟩)),(1, .int .i64 ((p1.af.ls.length:Nat):Int))] _ _
 refine zb (Mz rfl (Mz rfl (fw (.int .u64 ((p1.af.ls.length:Nat):Int)) (zy (e:=IntKind.u64.wrap ((p1.af.ls.length:Nat):Int)) yk (IntWalk.u64_in _ (by omega))) ?_)))
 obtain⟨m,X⟩:∃ q,aA B p1.af.ls.length=q:=⟨_,rfl⟩
 obtain⟨dS,aU,dx,aV,dz⟩:=zB aT
 refine cl Tryz.call21 (aR _ _ f B bJ bK p1.af.ls.length m aU (by first | omega | (dsimp only; omega) | (dsimp only [List.length_cons,List.length_nil]; omega)) X) ?_
 rintro _ dU ⟨bL,aW,rfl,aX,C⟩
 have aY:=aV _ _ aX
 have bM:=aY.rowC (i:=1) rfl
 replace C:m.xb.ls.length≤B.xb.ls.length+10:=C
 refine zq (zC (res0 rfl) (nt (zb (Mz rfl (Mz rfl ?_)))))
 refine WL.do rfl (zI Tryz.call107 rfl ?_ (fun _ _ k=>k))
 refine zg (args:= [.func (.func 19) #[.pointer (some ⟨f,0,none⟩)] #[], .slice b p1.af.ls.length c]) Tryz.func107 rfl rfl rfl ?_
 show Wp _ _ _ [(0, .func (.func 19) #[.pointer (some ⟨f,0,none⟩)] #[]),(1, .slice b p1.af.ls.length c)] _ _
 refine sr (Mz rfl (Kz (.int .i64 ((p1.af.ls.length:Nat):Int)) (Mn rfl (bo ?_))))
 have aZ:=aY.pk [0,2,1]
 obtain⟨Y,ah⟩:∃ q:(Nat × (Option Addr) × Nat × (List UInt8))→World→Prop,q=fun(i:Nat × (Option Addr) × Nat × (List UInt8)) w'=>Own w D w' [blk f [.slice i.2.1 i.2.2.2.length i.2.2.1] 57,blk p [.int .u64 ((p1.aS:Nat):Int), .int .i64 p1.aC, .int .u64 ((p1.au:Nat):Int), .int .u64 ((p1.bB:Nat):Int), .slice b p1.af.ls.length c] 79,row i.2.1 i.2.2.2.length i.2.2.1 (List.flatMap eB i.2.2.2) 5 1]∧(i.1≤p1.af.ls.length∧((i.2.2.2.length:Nat):Int)≤((m.xb.ls.length:Nat):Int)+10 *((i.1:Nat):Int)∧dQ p1.af.ls m.xb.ls=dQ (List.drop i.1 p1.af.ls) i.2.2.2):=⟨_,rfl⟩
 have r:∀ {a:Nat} {h:Option Addr} {j:Nat} {d:List UInt8} {w':World},Y (a,h,j,d) w'↔Own w D w' [blk f [.slice h d.length j] 57,blk p [.int .u64 ((p1.aS:Nat):Int), .int .i64 p1.aC, .int .u64 ((p1.au:Nat):Int), .int .u64 ((p1.bB:Nat):Int), .slice b p1.af.ls.length c] 79,row h d.length j (List.flatMap eB d) 5 1]∧a≤p1.af.ls.length∧((d.length:Nat):Int)≤((m.xb.ls.length:Nat):Int)+10 *((a:Nat):Int)∧dQ p1.af.ls m.xb.ls=dQ (List.drop a p1.af.ls) d:=by intros; subst ah; exact Iff.rfl
 refine Wp.loop (fun i:Nat × (Option Addr) × Nat × (List UInt8)=> [(8, .int .i64 ((i.1:Nat):Int)),(7, .int .i64 ((p1.af.ls.length:Nat):Int)),(6, .slice b p1.af.ls.length c),(0, .func (.func 19) #[.pointer (some ⟨f,0,none⟩)] #[])]) Y (fun i=>p1.af.ls.length - i.1) (0,bL,aW,m.xb.ls) ⟨rfl,rfl,rfl,rfl,trivial⟩ (r.2 ⟨aZ,by omega,by omega,rfl⟩) ?_
 rintro ⟨a,h,j,d⟩ dA ai
 show Wp _ _ _ [(8, .int .i64 ((a:Nat):Int)),(7, .int .i64 ((p1.af.ls.length:Nat):Int)),(6, .slice b p1.af.ls.length c),(0, .func (.func 19) #[.pointer (some ⟨f,0,none⟩)] #[])] _ _
 obtain⟨n,bP,bQ,E⟩:=r.1 ai
 refine sr (Kz (.bool (decide (((a:Nat):Int) < ((p1.af.ls.length:Nat):Int)))) (nt (ze ?_)))
 by_cases Z:((a:Nat):Int) < ((p1.af.ls.length:Nat):Int)
 obtain⟨g,F⟩:=eH (ls:=p1.af.ls) (i:=a) jU (by decide) (n.ro o) (by first | omega | (simp; done) | (simp; omega))
 have aj:=drop_at F
 refine jT (dT Z) (sk (ze (bo (sr (fw (.pointer (some ⟨ab b,ao b+a *1,none⟩)) (zn (oF) rfl rfl ((n.ro o).addr (i:=a) (by omega)) (by omega)) (fw (.int .i64 g) (zi rfl (bf.one Tryz.isAgg3 (((n.ro o).elem jU F (by decide)).at_ (k:=0) rfl))) (An rfl (zb (Mz rfl (Mz rfl ?_))))))))))
 refine WL.do rfl (zK Tryz.call19 rfl rfl ?_ (fun _ _ k=>k))
 refine zg (args:= [.pointer (some ⟨f,0,none⟩), .int .i64 g]) Tryz.func19 rfl rfl rfl ?_
 show Wp _ _ _ [(0, .pointer (some ⟨f,0,none⟩)),(1, .int .i64 g)] _ _
 refine zb (Mz rfl (Mz rfl ?_))
 have bR:Int.toNat (IntKind.u64.wrap g)≤18446744073709551615:=jW _
 refine fw (.int .u64 ((Int.toNat (IntKind.u64.wrap g):Nat):Int)) (zy (e:=IntKind.u64.wrap g) yk (gI _)) ?_
 have bg:=n.pk [0,2,1]
 obtain⟨G,I⟩:∃ q,aA (aQ.mk (Ll.mk d)) (Int.toNat (IntKind.u64.wrap g))=q:=⟨_,rfl⟩
 obtain⟨dB,ak,bS,au,bT⟩:=zB bg
 refine cl Tryz.call21 (aR _ _ f (aQ.mk (Ll.mk d)) h j (Int.toNat (IntKind.u64.wrap g)) G ak (by first | omega | (dsimp only; omega) | (dsimp only [List.length_cons,List.length_nil]; omega)) I) ?_
 rintro _ dD ⟨bi,bq,rfl,av,J⟩
 have aa:=au _ _ av
 have bU:=aa.rowC (i:=1) rfl
 replace J:G.xb.ls.length≤d.length+10:=J
 refine zq (zC (res0 rfl) (zq (bN (zu (zb (fw (.int .i64 ((a+1:Nat):Int)) (zy (e:=IntKind.i64.wrap (((a:Nat):Int)+1)) yk (by rw [Cb _ (by omega)]; omega)) (Mz rfl (zq ?_))))))))
 have bu:=aa.pk [0,2,1]
 exact zH (a+1,bi,bq,G.xb.ls) ⟨rfl,rfl,rfl,rfl,trivial⟩ (r.2 ⟨bu,by omega,by omega,et (E) (et (congrArg (fun q=>dQ q d) aj) (ae I))⟩) (by show p1.af.ls.length - (a+1) < p1.af.ls.length - a; omega)
 refine jF (dF Z) (Wp.exit (zk ?_))
 have ax:dQ p1.af.ls m.xb.ls=d:=et (E) (et (congrArg (fun q=>dQ q d) (eF (ls:=p1.af.ls) (i:=a) (by omega))) rfl)
 refine zk (zA (zC (res0 rfl) (zq (zC (res0 rfl) (zq (zC (res0 rfl) ?_))))))
 have bv:=n.pk [0,2]
 obtain rfl:_=aQ.mk (Ll.mk d):=hr.symm.trans (et (ae P) (et (ae R) (et (ae T) (et (ae V) (et (ae X) (ae ax))))))
 exact⟨h,j,rfl,bv,(by first | omega | (simp only [List.length_cons,List.length_nil,List.length_append]; omega))⟩
def fo:List bX→List UInt8→(List UInt8)
  | [],b=>b
  | a::d,b=>bnd (jr (aQ.mk (Ll.mk b)) (bX.mk a.dm a.aB (Ll.mk a.ax.ls))) fun c=>fo d c.xb.ls
def jG (e:aQ) (p1:eD):aQ:=
 bnd (aA e (Int.toNat (IntKind.u64.wrap p1.aC))) fun a=>bnd (aA a p1.au) fun b=>bnd (aA b p1.bB) fun c=>bnd (aA c p1.ah.ls.length) fun d=>bnd (fo p1.ah.ls d.xb.ls) fun sLrbbbbL=>aQ.mk (Ll.mk sLrbbbbL)
set_option maxHeartbeats 1000000 in
theorem nI (w:World) (D:Nat→Prop) (g:Nat) (R:aQ) (B:Option Addr) (C:Nat) (p1:eD) (b:Option Addr) (V d:Nat) (r:List az) (r0:aQ) (H:Own w D w [blk g [.slice B R.xb.ls.length C] 57,row B R.xb.ls.length C (List.flatMap eB R.xb.ls) 5 1]) (E:List.map zm r=p1.ah.ls) (au:V=p1.ah.ls.length) (n:Ro w D fun w'=>bn w' 3 b p1.ah.ls.length (List.flatMap az.cells r)) (bH:p1.ah.ls.length≤d∧p1.ah.ls.length≤9223372036854775807) (F:∀ x ∈ r,Ro w D (fun w'=>bn w' 2 x.ax.A x.ax.ls.length (List.flatMap bu.cells x.ax.ls))∧(x.ax.ls.length≤x.ax.c∧x.ax.ls.length≤9223372036854775807)) (dN:R.xb.ls.length≤6000000000) (S:(p1.au≤18446744073709551615∧p1.bB≤18446744073709551615∧p1.ah.ls.length≤24∧∀ z ∈ p1.ah.ls,z.aB.length≤16∧z.ax.ls.length≤4∧∀ q ∈ z.ax.ls,q.aX.length≤12∧q.aB.length≤16)) (hr:jG R p1=r0):
    Calls Tryz.prog 35 #[.pointer (some ⟨g,0,none⟩), .agg #[.int .i64 p1.aC, .int .u64 ((p1.au:Nat):Int), .int .u64 ((p1.bB:Nat):Int), .slice b V d]] w (dE fun v w'=> ∃ (B0ox0:Option Addr) (b0ox0:Nat),v= .tuple #[]∧Own w D w' [blk g [.slice B0ox0 r0.xb.ls.length b0ox0] 57,row B0ox0 r0.xb.ls.length b0ox0 (List.flatMap eB r0.xb.ls) 5 1]∧(r0.xb.ls.length≤R.xb.ls.length+8000)):=by
 subst au
 have hdl1x0:=bS E
 have bI:=H.rowC (i:=1) rfl
 have cB:=S.1
 have cK:=S.2.1
 have cO:=S.2.2.1
 refine zg (args:= [.pointer (some ⟨g,0,none⟩), .agg #[.int .i64 p1.aC, .int .u64 ((p1.au:Nat):Int), .int .u64 ((p1.bB:Nat):Int), .slice b p1.ah.ls.length d]]) Tryz.func35 rfl rfl rfl ?_
 show Wp _ _ _ [(0, .pointer (some ⟨g,0,none⟩)),(1, .agg #[.int .i64 p1.aC, .int .u64 ((p1.au:Nat):Int), .int .u64 ((p1.bB:Nat):Int), .slice b p1.ah.ls.length d])] _ _
 refine sr ?_
 refine dC [.int .i64 p1.aC, .int .u64 ((p1.au:Nat):Int), .int .u64 ((p1.bB:Nat):Int), .slice b p1.ah.ls.length d] 84 H ?_
 intro s dO aJ
 refine ns (Mz rfl (Kz (.pointer (some ⟨s,0,none⟩)) (Lz (.int .i64 p1.aC) aJ 0 Tryz.isAgg3 ?_)))
 refine WL.do rfl (zI Tryz.call19 rfl ?_ (fun _ _ k=>k))
 refine zg (args:= [.pointer (some ⟨g,0,none⟩), .int .i64 p1.aC]) Tryz.func19 rfl rfl rfl ?_
 show Wp _ _ _ [(0, .pointer (some ⟨g,0,none⟩)),(1, .int .i64 p1.aC)] _ _
 refine zb (Mz rfl (Mz rfl ?_))
 have cZ:Int.toNat (IntKind.u64.wrap p1.aC)≤18446744073709551615:=jW _
 refine fw (.int .u64 ((Int.toNat (IntKind.u64.wrap p1.aC):Nat):Int)) (zy (e:=IntKind.u64.wrap p1.aC) yk (gI _)) ?_
 have bJ:=aJ.pk [1,2,0]
 obtain⟨G,W⟩:∃ q,aA R (Int.toNat (IntKind.u64.wrap p1.aC))=q:=⟨_,rfl⟩
 obtain⟨dP,aK,dh,aL,di⟩:=zB bJ
 refine cl Tryz.call21 (aR _ _ g R B C (Int.toNat (IntKind.u64.wrap p1.aC)) G aK (by first | omega | (dsimp only; omega) | (dsimp only [List.length_cons,List.length_nil]; omega)) W) ?_
 rintro _ dQ ⟨bK,bL,rfl,aM,X⟩
 have T:=aL _ _ aM
 have dm:=T.rowC (i:=1) rfl
 replace X:G.xb.ls.length≤R.xb.ls.length+10:=X
 refine zq (zC (res0 rfl) (ns (Mz rfl (Kz (.func (.func 21) #[.pointer (some ⟨g,0,none⟩)] #[]) (Kz (.pointer (some ⟨s,1,none⟩)) (Lz (.int .u64 ((p1.au:Nat):Int)) T 2 Tryz.isAgg22 (Kz (.pointer (some ⟨s,2,none⟩)) (Lz (.int .u64 ((p1.bB:Nat):Int)) T 2 Tryz.isAgg22 ?_))))))))
 refine kF [.int .u64 ((p1.au:Nat):Int), .int .u64 ((p1.bB:Nat):Int)] 22 1 2 T ?_
 intro j dR I
 replace I:=zY (y:=row j 2 2 (List.flatMap (eN .u64) ([p1.au,p1.bB])) 22 1) rfl I
 refine WL.do rfl (zI Tryz.call20 rfl ?_ (fun _ _ k=>k))
 refine zg (args:= [.func (.func 21) #[.pointer (some ⟨g,0,none⟩)] #[], .slice j 2 2]) Tryz.func20 rfl rfl rfl ?_
 show Wp _ _ _ [(0, .func (.func 21) #[.pointer (some ⟨g,0,none⟩)] #[]),(1, .slice j 2 2)] _ _
 refine sr (Mz rfl (Kz (.int .i64 2) (Mn rfl (bo (Ah 200 (sr (Kz (.bool true) (nt (ze (jt (sk (ze (bo (sr ?_))))))))))))))
 have aN:([p1.au,p1.bB]:List Nat)[0]? =some p1.au:=rfl
 refine fw (.pointer (some ⟨ab j,ao j+0 *1,none⟩)) (zn (jR) rfl rfl ((I.rds (i:=0) rfl).addr (i:=0) (by omega)) (by omega)) (fw (.int .u64 ((p1.au:Nat):Int)) (zi rfl (bf.one Tryz.isAgg22 (((I.rds (i:=0) rfl).elem ib aN (by decide)).at_ (k:=0) rfl))) (An rfl (zb (Mz rfl (Mz rfl ?_)))))
 have bM:=I.pk [1,2,0,3]
 obtain⟨J,Y⟩:∃ q,aA G p1.au=q:=⟨_,rfl⟩
 obtain⟨dS,aO,dn,aP,dw⟩:=zB bM
 refine WL.do rfl (zK Tryz.call21 rfl rfl (aR _ _ g G bK bL p1.au J aO (by first | omega | (dsimp only; omega) | (dsimp only [List.length_cons,List.length_nil]; omega)) Y) ?_)
 rintro _ dU ⟨bO,bP,rfl,aS,Z⟩
 have U:=aP _ _ aS
 have dx:=U.rowC (i:=1) rfl
 replace Z:J.xb.ls.length≤G.xb.ls.length+10:=Z
 refine zq (bN (zu (zb (Kz (.int .i64 1) (Mz rfl (zq (zR [(8, .int .i64 1),(7, .int .i64 2),(6, .slice j 2 2),(0, .func (.func 21) #[.pointer (some ⟨g,0,none⟩)] #[])] ⟨rfl,rfl,rfl,rfl,trivial⟩ (sr (Kz (.bool true) (nt (ze (jt (sk (ze (bo (sr ?_))))))))))))))))
 have aT:([p1.au,p1.bB]:List Nat)[1]? =some p1.bB:=rfl
 refine fw (.pointer (some ⟨ab j,ao j+1 *1,none⟩)) (zn (jR) rfl rfl ((U.rds (i:=2) rfl).addr (i:=1) (by omega)) (by omega)) (fw (.int .u64 ((p1.bB:Nat):Int)) (zi rfl (bf.one Tryz.isAgg22 (((U.rds (i:=2) rfl).elem ib aT (by decide)).at_ (k:=0) rfl))) (An rfl (zb (Mz rfl (Mz rfl ?_)))))
 obtain⟨K,aa⟩:∃ q,aA J p1.bB=q:=⟨_,rfl⟩
 obtain⟨dV,aU,dz,aV,dA⟩:=zB U
 refine WL.do rfl (zK Tryz.call21 rfl rfl (aR _ _ g J bO bP p1.bB K aU (by first | omega | (dsimp only; omega) | (dsimp only [List.length_cons,List.length_nil]; omega)) aa) ?_)
 rintro _ dW ⟨bQ,bR,rfl,aW,af⟩
 have aX:=aV _ _ aW
 have dB:=aX.rowC (i:=1) rfl
 replace af:K.xb.ls.length≤J.xb.ls.length+10:=af
 refine zq (bN (zu (zb (Kz (.int .i64 2) (Mz rfl (zq (zR [(8, .int .i64 2),(7, .int .i64 2),(6, .slice j 2 2),(0, .func (.func 21) #[.pointer (some ⟨g,0,none⟩)] #[])] ⟨rfl,rfl,rfl,rfl,trivial⟩ (sr (Kz (.bool false) (nt (ze (jf (Wp.exit (zk (zk (zA (zC (res0 rfl) (nt ?_))))))))))))))))))
 have aY:=aX.pk [0,1,3]
 refine zb (Mz rfl (Kz (.pointer (some ⟨s,3,none⟩)) (Lz (.slice b p1.ah.ls.length d) aY 2 Tryz.isAgg82 (Mz rfl (Kz (.func (.func 80) #[.pointer (some ⟨g,0,none⟩)] #[]) ?_)))))
 refine WL.do rfl (zI Tryz.call79 rfl ?_ (fun _ _ k=>k))
 refine zg (args:= [.pointer (some ⟨g,0,none⟩), .slice b p1.ah.ls.length d, .func (.func 80) #[.pointer (some ⟨g,0,none⟩)] #[]]) Tryz.func79 rfl rfl rfl ?_
 show Wp _ _ _ [(0, .pointer (some ⟨g,0,none⟩)),(1, .slice b p1.ah.ls.length d),(2, .func (.func 80) #[.pointer (some ⟨g,0,none⟩)] #[])] _ _
 refine sr (Mz rfl (Mz rfl (Kz (.int .i64 ((p1.ah.ls.length:Nat):Int)) ?_)))
 refine WL.do rfl (zI Tryz.call19 rfl ?_ (fun _ _ k=>k))
 refine zg (args:= [.pointer (some ⟨g,0,none⟩), .int .i64 ((p1.ah.ls.length:Nat):Int)]) Tryz.func19 rfl rfl rfl ?_
 show Wp _ _ _ [(0, .pointer (some ⟨g,0,none⟩)),(1, .int .i64 ((p1.ah.ls.length:Nat):Int))] _ _
 refine zb (Mz rfl (Mz rfl (fw (.int .u64 ((p1.ah.ls.length:Nat):Int)) (zy (e:=IntKind.u64.wrap ((p1.ah.ls.length:Nat):Int)) yk (IntWalk.u64_in _ (by omega))) ?_)))
 obtain⟨m,ag⟩:∃ q,aA K p1.ah.ls.length=q:=⟨_,rfl⟩
 obtain⟨dX,aZ,dD,bg,dG⟩:=zB aY
 refine cl Tryz.call21 (aR _ _ g K bQ bR p1.ah.ls.length m aZ (by first | omega | (dsimp only; omega) | (dsimp only [List.length_cons,List.length_nil]; omega)) ag) ?_
 rintro _ dY ⟨bT,bU,rfl,bi,ah⟩
 have bq:=bg _ _ bi
 have dH:=bq.rowC (i:=1) rfl
 replace ah:m.xb.ls.length≤K.xb.ls.length+10:=ah
 refine zq (zC (res0 rfl) (nt (zb (Mz rfl (Mz rfl ?_)))))
 refine WL.do rfl (zI Tryz.call108 rfl ?_ (fun _ _ k=>k))
 refine zg (args:= [.func (.func 80) #[.pointer (some ⟨g,0,none⟩)] #[], .slice b p1.ah.ls.length d]) Tryz.func108 rfl rfl rfl ?_
 show Wp _ _ _ [(0, .func (.func 80) #[.pointer (some ⟨g,0,none⟩)] #[]),(1, .slice b p1.ah.ls.length d)] _ _
 refine sr (Mz rfl (Kz (.int .i64 ((p1.ah.ls.length:Nat):Int)) (Mn rfl (bo ?_))))
 have bV:=bq.pk [0,2,1]
 obtain⟨bv,bz⟩:∃ q:(Nat × (Option Addr) × Nat × (List UInt8))→World→Prop,q=fun(i:Nat × (Option Addr) × Nat × (List UInt8)) w'=>Own w D w' [blk g [.slice i.2.1 i.2.2.2.length i.2.2.1] 57,blk s [.int .i64 p1.aC, .int .u64 ((p1.au:Nat):Int), .int .u64 ((p1.bB:Nat):Int), .slice b p1.ah.ls.length d] 84,row i.2.1 i.2.2.2.length i.2.2.1 (List.flatMap eB i.2.2.2) 5 1]∧(i.1≤p1.ah.ls.length∧((i.2.2.2.length:Nat):Int)≤((m.xb.ls.length:Nat):Int)+300 *((i.1:Nat):Int)∧fo p1.ah.ls m.xb.ls=fo (List.drop i.1 p1.ah.ls) i.2.2.2):=⟨_,rfl⟩
 have o:∀ {f:Nat} {t:Option Addr} {u:Nat} {h:List UInt8} {w':World},bv (f,t,u,h) w'↔Own w D w' [blk g [.slice t h.length u] 57,blk s [.int .i64 p1.aC, .int .u64 ((p1.au:Nat):Int), .int .u64 ((p1.bB:Nat):Int), .slice b p1.ah.ls.length d] 84,row t h.length u (List.flatMap eB h) 5 1]∧f≤p1.ah.ls.length∧((h.length:Nat):Int)≤((m.xb.ls.length:Nat):Int)+300 *((f:Nat):Int)∧fo p1.ah.ls m.xb.ls=fo (List.drop f p1.ah.ls) h:=by intros; subst bz; exact Iff.rfl
 refine Wp.loop (fun i:Nat × (Option Addr) × Nat × (List UInt8)=> [(8, .int .i64 ((i.1:Nat):Int)),(7, .int .i64 ((p1.ah.ls.length:Nat):Int)),(6, .slice b p1.ah.ls.length d),(0, .func (.func 80) #[.pointer (some ⟨g,0,none⟩)] #[])]) bv (fun i=>p1.ah.ls.length - i.1) (0,bT,bU,m.xb.ls) ⟨rfl,rfl,rfl,rfl,trivial⟩ (o.2 ⟨bV,by omega,by omega,rfl⟩) ?_
 rintro ⟨f,t,u,h⟩ dZ bA
 show Wp _ _ _ [(8, .int .i64 ((f:Nat):Int)),(7, .int .i64 ((p1.ah.ls.length:Nat):Int)),(6, .slice b p1.ah.ls.length d),(0, .func (.func 80) #[.pointer (some ⟨g,0,none⟩)] #[])] _ _
 obtain⟨L,bW,bY,M⟩:=o.1 bA
 refine sr (Kz (.bool (decide (((f:Nat):Int) < ((p1.ah.ls.length:Nat):Int)))) (nt (ze ?_)))
 by_cases ai:((f:Nat):Int) < ((p1.ah.ls.length:Nat):Int)
 obtain⟨a,l⟩:=eH (ls:=r) (i:=f) az.len (by decide) (L.ro n) (by first | omega | (simp; done) | (simp; omega))
 have N:=iY E l
 have bZ:=(F _ (List.mem_of_getElem? l)).2
 have p:List.length (zm a).aB≤16∧List.length (zm a).ax.ls≤4∧∀ q ∈ (zm a).ax.ls,q.aX.length≤12∧q.aB.length≤16:=S.2.2.2 _ (List.mem_of_getElem? N)
 have hz109p0:a.aB.length≤16:=by have q9:=p.1; first | exact q9 | (simp only [zm,List.length_map] at q9; exact q9)
 have hz109p1:a.ax.ls.length≤4:=by have q9:=p.2.1; first | exact q9 | (simp only [zm,List.length_map] at q9; exact q9)
 have ay:=drop_at N
 refine jT (dT ai) (sk (ze (bo (sr (fw (.pointer (some ⟨ab b,ao b+f *3,none⟩)) (zn (nk) rfl rfl ((L.ro n).addr (i:=f) (by omega)) (by omega)) (fw (.agg (az.cells a).toArray) (zi rfl (zD (cs:=(az.cells a)) Tryz.isAgg129 Tryz.sizeOf129 ((L.ro n).elem az.len l (by decide)))) ?_))))))
 refine dC [.bool false, .string ⟨List.toArray ([])⟩, .slice none 0 0] 129 L ?_
 intro dI dJ bB
 refine df (az.cells a) 0 bB Tryz.sizeOf129 ?_
 intro dK aj
 refine nt (zb (Mz rfl (La (az.cells a) aj 0 Tryz.isAgg129 Tryz.sizeOf129 ?_)))
 have bC:=aj.pk [1,3,0,2]
 obtain⟨O,P⟩:∃ q,jr (aQ.mk (Ll.mk h)) (bX.mk a.dm a.aB (Ll.mk a.ax.ls))=q:=⟨_,rfl⟩
 obtain⟨dL,aC,aD,aF,cu⟩:=zB bC
 refine WL.do rfl (zK Tryz.call80 rfl rfl (mR _ _ g (aQ.mk (Ll.mk h)) t u (bX.mk a.dm a.aB (Ll.mk a.ax.ls)) a.ax.A a.ax.ls.length a.ax.c O aC rfl (aD _ (F _ (List.mem_of_getElem? l)).1) (show a.ax.ls.length≤a.ax.c∧a.ax.ls.length≤9223372036854775807 from by omega) (by first | omega | (dsimp only; omega) | (dsimp only [List.length_cons,List.length_nil]; omega)) (by exact p) P) ?_)
 rintro _ dM ⟨bD,bE,rfl,aG,Q⟩
 have ak:=aF _ _ aG
 have cz:=ak.rowC (i:=1) rfl
 replace Q:O.xb.ls.length≤h.length+300:=Q
 refine zq (bN (zu (zb (fw (.int .i64 ((f+1:Nat):Int)) (zy (e:=IntKind.i64.wrap (((f:Nat):Int)+1)) yk (by rw [Cb _ (by omega)]; omega)) (Mz rfl (zq ?_))))))
 have bF:=ak.pk [0,3,1]
 exact zH (f+1,bD,bE,O.xb.ls) ⟨rfl,rfl,rfl,rfl,trivial⟩ (o.2 ⟨bF,by omega,by omega,et (M) (et (congrArg (fun q=>fo q h) ay) (ae P))⟩) (by show p1.ah.ls.length - (f+1) < p1.ah.ls.length - f; omega)
 refine jF (dF ai) (Wp.exit (zk ?_))
 have aH:fo p1.ah.ls m.xb.ls=h:=et (M) (et (congrArg (fun q=>fo q h) (eF (ls:=p1.ah.ls) (i:=f) (by omega))) rfl)
 refine zk (zA (zC (res0 rfl) (zq (zC (res0 rfl) (zq (zC (res0 rfl) ?_))))))
 have bG:=L.pk [0,2]
 obtain rfl:_=aQ.mk (Ll.mk h):=hr.symm.trans (et (ae W) (et (ae Y) (et (ae aa) (et (ae ag) (ae aH)))))
 exact⟨t,u,rfl,bG,(by first | omega | (simp only [List.length_cons,List.length_nil,List.length_append]; omega))⟩
end Go.Proofs.YtcnkpjheifkgnaaGreat
