/-
 record: what is written.
-/
import Derived.Test.YtcnkpjheifkgnaaGreatRcA
namespace Go.Proofs.YtcnkpjheifkgnaaGreat
set_option maxRecDepth 100000
open Go.RowKit
set_option linter.unusedVariables false
set_option linter.unusedSectionVars false
set_option linter.unusedSimpArgs false
def gF:Nat→Nat→List UInt8→Nat × (List UInt8)
  | 0,a,b=>default
  | c+1,a,b=>if((a:Nat):Int) ≥ 128 then gF c (a / 128) (b++ [((UInt8.ofNat a) ||| (128:UInt8))]) else(a,b)
def aX (a:Nat):(List UInt8):=
 bnd (gF (a+1) a ([])) fun sLrL=>(sLrL.2++ [(UInt8.ofNat sLrL.1)])
theorem nO (w:World) (D:Nat→Prop) (c:Nat) (n:List UInt8) (H:Own w D w []) (t:c≤18446744073709551615) (hr:aX c=n):
    Calls Tryz.prog 68 #[.int .u64 ((c:Nat):Int)] w (dC fun v w'=> ∃ (V:Option Addr) (W:Nat),v= .slice V n.length W∧Own w D w' [row V n.length W (List.flatMap eB n) 5 1]∧(1≤n.length∧n.length≤10)∧(c ≥ 128∨n.length=1)):=by
 refine xU (args:= [.int .u64 ((c:Nat):Int)]) Tryz.func68 rfl rfl rfl ?_
 show Wp _ _ _ [(0, .int .u64 ((c:Nat):Int))] _ _
 refine sr (Ar rfl ?_)
 refine WL.do rfl (Aj (m:=10) (size:=1) (bytes:=1) (z:= .int .u8 0) Tryz.underlying37 (by kernel_rfl) H rfl rfl (by omega) (by unfold maxLen; omega) ?_)
 intro I ah J
 refine An rfl (xV (bo ?_))
 have K:=J.pk [0]
 obtain⟨u,x⟩:∃ q:(Nat × (Option Addr) × Nat × (List UInt8) × Nat)→World→Prop,q=fun(i:Nat × (Option Addr) × Nat × (List UInt8) × Nat) w'=>Own w D w' [row i.2.1 i.2.2.2.1.length i.2.2.1 (List.flatMap eB i.2.2.2.1) 5 1]∧(iT i.2.2.2.1.length i.1∧i.2.2.2.1.length≤9∧(c ≥ 128∨(i.2.2.2.1.length=0∧i.1=c))∧i.1 < i.2.2.2.2∧gF (c+1) c ([])=gF i.2.2.2.2 i.1 i.2.2.2.1):=⟨_,rfl⟩
 have f:∀ {a:Nat} {g:Option Addr} {h:Nat} {b:List UInt8} {d:Nat} {w':World},u (a,g,h,b,d) w'↔Own w D w' [row g b.length h (List.flatMap eB b) 5 1]∧iT b.length a∧b.length≤9∧(c ≥ 128∨(b.length=0∧a=c))∧a < d∧gF (c+1) c ([])=gF d a b:=by intros; subst x; exact Iff.rfl
 refine Wp.loop (fun i:Nat × (Option Addr) × Nat × (List UInt8) × Nat=> [(0, .int .u64 ((i.1:Nat):Int)),(3, .slice i.2.1 i.2.2.2.1.length i.2.2.1),(2, .slice none 0 0)]) u (fun i=>i.2.2.2.2) (c,I,10, [],c+1) ⟨rfl,rfl,rfl,trivial⟩ (f.2 ⟨K,(show iT (0) c∧0≤9∧(c ≥ 128∨(0=0∧c=c))∧c < (c+1)∧gF (c+1) c ([])=gF (c+1) c ([]) from ⟨by first | exact iT.zero t | exact iT.step (by assumption) (by simp only [List.length_append,List.length_cons,List.length_nil]),by first | exact A9 _ | (have q9:=iT.le (by assumption) (by omega); simp only [List.length_append,List.length_cons,List.length_nil]; omega),by omega,by omega,rfl⟩)⟩) ?_
 rintro ⟨a,g,h,b,d⟩ aj A
 show Wp _ _ _ [(0, .int .u64 ((a:Nat):Int)),(3, .slice g b.length h),(2, .slice none 0 0)] _ _
 obtain⟨B,X,Y,Z,aa,l⟩:=f.1 A
 obtain⟨o,C⟩:∃ q,d=q+1:=⟨d - 1,by omega⟩
 subst C
 refine xV (sr (Mz rfl (Kz (.bool (decide (((a:Nat):Int) ≥ 128))) (nt ?_))))
 by_cases j:((a:Nat):Int) ≥ 128
 refine jT (dT j) (sk (bo (sr (Mz rfl (Mz rfl (fw (.int .u8 (((UInt8.ofNat a).toNat:Nat):Int)) (ym (e:=IntKind.u8.wrap ((a:Nat):Int)) yk (nY _)) (fw (.int .u8 ((((UInt8.ofNat a) ||| (128:UInt8)).toNat:Nat):Int)) (ym (e:=IntKind.u8.wrap (((BitVec.ofInt 8 (((UInt8.ofNat a).toNat:Nat):Int) ||| BitVec.ofInt 8 128).toNat:Nat):Int)) yk (u8_or (UInt8.ofNat a) (128:UInt8))) ?_)))))))
 refine jR [.int .u8 ((((UInt8.ofNat a) ||| (128:UInt8)).toNat:Nat):Int)] 5 1 1 B ?_
 intro L ak p
 replace p:=yR (y:=row L 1 1 (List.flatMap eB ([((UInt8.ofNat a) ||| (128:UInt8))])) 5 1) rfl p
 have E:=p.pk [1,0]
 refine WL.do rfl (yQ (k:=b.length) (m:=1) (jM) E rfl rfl (jg Tryz.underlying37 (E.rds (i:=1) rfl) (gV lD ([((UInt8.ofNat a) ||| (128:UInt8))]))) rfl (by omega) (s:=List.length (b++ [((UInt8.ofNat a) ||| (128:UInt8))])) (by first | omega | (simp only [List.length_append,List.length_cons,List.length_nil] <;> omega)) (List.flatMap_append).symm ?_)
 intro M N au O
 have af:List.length (b++ [((UInt8.ofNat a) ||| (128:UInt8))])=b.length+1:=by simp only [List.length_append,List.length_cons,List.length_nil]
 refine An rfl (xS (Mz rfl (fw (.int .u64 ((a / 128:Nat):Int)) (ym (e:=Int.fdiv ((a:Nat):Int) 128) yk (uM _ 7 _ (by decide))) (Az rfl (xY (bN ?_))))))
 have P:=O.pk [0]
 exact yE (a / 128,M,N,(b++ [((UInt8.ofNat a) ||| (128:UInt8))]),o) ⟨rfl,rfl,rfl,trivial⟩ (f.2 ⟨P,by first | exact iT.zero t | exact iT.step (by assumption) (by simp only [List.length_append,List.length_cons,List.length_nil]),by first | exact A9 _ | (have q9:=iT.le (by assumption) (by omega); simp only [List.length_append,List.length_cons,List.length_nil]; omega),by omega,by omega,Eq.trans (l) (if_pos j)⟩) (by show o < o+1; omega)
 refine jF (dF j) (Wp.exit (xX ?_))
 have F:gF (c+1) c ([])=(a,b):=et (l) (iN j)
 refine xX (yx (yg (sr (Mz rfl (Mz rfl (fw (.int .u8 (((UInt8.ofNat a).toNat:Nat):Int)) (ym (e:=IntKind.u8.wrap ((a:Nat):Int)) yk (nY _)) ?_))))))
 refine jR [.int .u8 (((UInt8.ofNat a).toNat:Nat):Int)] 5 1 1 B ?_
 intro Q av r
 replace r:=yR (y:=row Q 1 1 (List.flatMap eB ([(UInt8.ofNat a)])) 5 1) rfl r
 have G:=r.pk [1,0]
 refine WL.do rfl (yQ (k:=b.length) (m:=1) (jM) G rfl rfl (jg Tryz.underlying37 (G.rds (i:=1) rfl) (gV lD ([(UInt8.ofNat a)]))) rfl (by omega) (s:=List.length (b++ [(UInt8.ofNat a)])) (by first | omega | (simp only [List.length_append,List.length_cons,List.length_nil] <;> omega)) (List.flatMap_append).symm ?_)
 intro R S ax T
 have ag:List.length (b++ [(UInt8.ofNat a)])=b.length+1:=by simp only [List.length_append,List.length_cons,List.length_nil]
 refine An rfl (rt (rs ?_))
 have U:=T.pk [0]
 obtain rfl:_=(b++ [(UInt8.ofNat a)]):=hr.symm.trans (ae F)
 exact⟨R,S,rfl,U,(by first | omega | (simp only [List.length_cons,List.length_nil,List.length_append]; omega)),(by first | omega | (simp only [List.length_cons,List.length_nil,List.length_append]; omega))⟩
def di (b:List UInt8):(List UInt8):=
 bnd (aX b.length) fun a=>(a++b)
theorem qo (w:World) (D:Nat→Prop) (a:List UInt8) (g:List UInt8) (H:Own w D w []) (C:a.length≤140737488351232) (hr:di a=g):
    Calls Tryz.prog 73 #[.string ⟨List.toArray a⟩] w (dC fun v w'=> ∃ (u:Option Addr) (x:Nat),v= .slice u g.length x∧Own w D w' [row u g.length x (List.flatMap eB g) 5 1]∧(g.length≤a.length+10)∧(a.length ≥ 128∨g.length=a.length+1)):=by
 refine xU (args:= [.string ⟨List.toArray a⟩]) Tryz.func73 rfl rfl rfl ?_
 show Wp _ _ _ [(0, .string ⟨List.toArray a⟩)] _ _
 refine sr (Ar rfl (Mz rfl (Kz (.int .i64 ((a.length:Nat):Int)) (fw (.int .u64 ((a.length:Nat):Int)) (ym (e:=IntKind.u64.wrap ((a.length:Nat):Int)) yk (IntWalk.u64_in _ (by omega))) ?_))))
 obtain⟨b,c⟩:∃ q,aX a.length=q:=⟨_,rfl⟩
 obtain⟨E,h,y,j,z⟩:=yc H
 refine cl Tryz.call68 (nO _ _ a.length b h (by omega) c) ?_
 rintro _ F ⟨G,I,rfl,l,d,f⟩
 have n:=j _ _ l
 have A:=n.rowC (i:=0) rfl
 replace d:1≤b.length∧b.length≤10:=d
 replace f:a.length ≥ 128∨b.length=1:=f
 refine Mz rfl ?_
 refine WL.do rfl (yQ (k:=b.length) (m:=a.length) (jM) n rfl rfl (uN Tryz.underlying9 rfl) rfl (by omega) (s:=List.length (b++a)) (by first | omega | (simp only [List.length_append,List.length_cons,List.length_nil] <;> omega)) (List.flatMap_append).symm ?_)
 intro o p J r
 have B:List.length (b++a)=b.length+a.length:=by simp only [List.length_append,List.length_cons,List.length_nil]
 refine An rfl (rt (rs ?_))
 have t:=r.pk [0]
 obtain rfl:_=(b++a):=hr.symm.trans (ae c)
 exact⟨o,p,rfl,t,(by first | omega | (simp only [List.length_cons,List.length_nil,List.length_append]; omega)),(by first | omega | (simp only [List.length_cons,List.length_nil,List.length_append]; omega))⟩
def av (b:aK) (p1:Nat):aK:=
 bnd (aX p1) fun a=>aK.mk (Ll.mk (b.xb.ls++a))
theorem aN (w:World) (D:Nat→Prop) (e:Nat) (d:aK) (b:Option Addr) (c:Nat) (p1:Nat) (l:aK) (H:Own w D w [blk e [.slice b d.xb.ls.length c] 57,row b d.xb.ls.length c (List.flatMap eB d.xb.ls) 5 1]) (L:d.xb.ls.length≤9000000000∧p1≤18446744073709551615) (hr:av d p1=l):
    Calls Tryz.prog 21 #[.pointer (some ⟨e,0,none⟩), .int .u64 ((p1:Nat):Int)] w (dC fun v w'=> ∃ (B0ox0:Option Addr) (b0ox0:Nat),v= .tuple #[]∧Own w D w' [blk e [.slice B0ox0 l.xb.ls.length b0ox0] 57,row B0ox0 l.xb.ls.length b0ox0 (List.flatMap eB l.xb.ls) 5 1]∧(l.xb.ls.length≤d.xb.ls.length+10)):=by
 have A:=H.rowC (i:=1) rfl
 refine xU (args:= [.pointer (some ⟨e,0,none⟩), .int .u64 ((p1:Nat):Int)]) Tryz.func21 rfl rfl rfl ?_
 show Wp _ _ _ [(0, .pointer (some ⟨e,0,none⟩)),(1, .int .u64 ((p1:Nat):Int))] _ _
 have f:=H.drew
 refine yY [7,10] (fun W=> ∃ L',Own w D W ([blk e [.slice b d.xb.ls.length c] 57,row b d.xb.ls.length c (List.flatMap eB d.xb.ls) 5 1]++L')) (by kernel_rfl) (by kernel_rfl) yZ ⟨_,f⟩ ?_
 revert f
 generalize World.drew w=M
 intro f
 refine zh (v:= .pointer (some ⟨e,0,none⟩)) 0 rfl (by kernel_rfl) (fun _=>yj rfl) (GX.take (v:= .pointer (some ⟨e,0,none⟩)) (rs:= [[4,3,2], []]) 1 rfl (by kernel_rfl) (fun _ _=>yj rfl) (GX.take (v:= .pointer (some ⟨e,0,none⟩)) (rs:= [[4,3], []]) 2 rfl (by kernel_rfl) (fun _ _=>yk) (GX.take (v:= .pointer (some ⟨e,0,none⟩)) (rs:= [[4], []]) 3 rfl (by kernel_rfl) (fun _ _=>yk) (GX.take (v:= .slice b d.xb.ls.length c) (rs:= [[], []]) 4 rfl (by kernel_rfl) (fun _ ⟨_,N⟩=>yl rfl (bH.one Tryz.isAgg37 (yT (N.cls (i:=0) rfl) rfl))) (GX.take (v:= .int .u64 ((p1:Nat):Int)) (rs:= [[6], []]) 5 rfl (by kernel_rfl) (fun _ _=>yj rfl) ?_)))))
 obtain⟨a,g⟩:∃ q,aX p1=q:=⟨_,rfl⟩
 obtain⟨O,n,G,p,I⟩:=yc f
 refine GX.do 6 rfl (by kernel_rfl) (yC Tryz.call68 rfl (nO _ _ p1 a n (by omega) g) ?_)
 rintro _ P ⟨Q,R,rfl,r,h,j⟩
 have t:=p _ _ r
 have J:=t.rowC (i:=0) rfl
 replace h:1≤a.length∧a.length≤10:=h
 replace j:p1 ≥ 128∨a.length=1:=j
 have u:=t.pk [1,2,0]
 refine⟨.inr ⟨_,u⟩, ?_⟩
 have x:=u.pk [1,0,2]
 refine GX.do 7 rfl (by kernel_rfl) (yQ (k:=d.xb.ls.length) (m:=a.length) (jM) x rfl rfl (jg Tryz.underlying37 (x.rds (i:=2) rfl) (gV lD a)) rfl (by omega) (s:=List.length (d.xb.ls++a)) (by first | omega | (simp only [List.length_append,List.length_cons,List.length_nil] <;> omega)) (List.flatMap_append).symm ?_)
 intro y z S B
 have K:List.length (d.xb.ls++a)=d.xb.ls.length+a.length:=by simp only [List.length_append,List.length_cons,List.length_nil]
 refine⟨.inl (by kernel_rfl), ?_⟩
 refine zh (v:= .pointer (some ⟨e,0,none⟩)) 8 rfl (by kernel_rfl) (fun _=>yk) (zh (v:= .pointer (some ⟨e,0,none⟩)) 9 rfl (by kernel_rfl) (fun _=>yk) ?_)
 have C:=B.pk [1,0,2]
 refine z8 10 rfl (by kernel_rfl) (Do.store (vs:= [.slice y (List.length (d.xb.ls++a)) z]) (o:=0) C rfl rfl Tryz.sizeOf37 rfl rfl rfl rfl ?_)
 intro T E
 refine⟨.inl (by kernel_rfl), ?_⟩
 refine yX (by kernel_rfl) (yA (res0 rfl) ?_)
 have F:=E.pk [0,1]
 obtain rfl:_=aK.mk (Ll.mk (d.xb.ls++a)):=hr.symm.trans (ae g)
 exact⟨y,z,rfl,F,(by first | omega | (simp only [List.length_cons,List.length_nil,List.length_append]; omega))⟩
def bv (b:aK) (p1:List UInt8):aK:=
 bnd (di p1) fun a=>aK.mk (Ll.mk (b.xb.ls++a))
theorem dK (w:World) (D:Nat→Prop) (e:Nat) (d:aK) (b:Option Addr) (c:Nat) (p1:List UInt8) (l:aK) (H:Own w D w [blk e [.slice b d.xb.ls.length c] 57,row b d.xb.ls.length c (List.flatMap eB d.xb.ls) 5 1]) (L:d.xb.ls.length≤9000000000∧p1.length≤16) (hr:bv d p1=l):
    Calls Tryz.prog 28 #[.pointer (some ⟨e,0,none⟩), .string ⟨List.toArray p1⟩] w (dC fun v w'=> ∃ (B0ox0:Option Addr) (b0ox0:Nat),v= .tuple #[]∧Own w D w' [blk e [.slice B0ox0 l.xb.ls.length b0ox0] 57,row B0ox0 l.xb.ls.length b0ox0 (List.flatMap eB l.xb.ls) 5 1]∧(l.xb.ls.length≤d.xb.ls.length+26)):=by
 have A:=H.rowC (i:=1) rfl
 refine xU (args:= [.pointer (some ⟨e,0,none⟩), .string ⟨List.toArray p1⟩]) Tryz.func28 rfl rfl rfl ?_
 show Wp _ _ _ [(0, .pointer (some ⟨e,0,none⟩)),(1, .string ⟨List.toArray p1⟩)] _ _
 have f:=H.drew
 refine yY [7,10] (fun W=> ∃ L',Own w D W ([blk e [.slice b d.xb.ls.length c] 57,row b d.xb.ls.length c (List.flatMap eB d.xb.ls) 5 1]++L')) (by kernel_rfl) (by kernel_rfl) yZ ⟨_,f⟩ ?_
 revert f
 generalize World.drew w=M
 intro f
 refine zh (v:= .pointer (some ⟨e,0,none⟩)) 0 rfl (by kernel_rfl) (fun _=>yj rfl) (GX.take (v:= .pointer (some ⟨e,0,none⟩)) (rs:= [[4,3,2], []]) 1 rfl (by kernel_rfl) (fun _ _=>yj rfl) (GX.take (v:= .pointer (some ⟨e,0,none⟩)) (rs:= [[4,3], []]) 2 rfl (by kernel_rfl) (fun _ _=>yk) (GX.take (v:= .pointer (some ⟨e,0,none⟩)) (rs:= [[4], []]) 3 rfl (by kernel_rfl) (fun _ _=>yk) (GX.take (v:= .slice b d.xb.ls.length c) (rs:= [[], []]) 4 rfl (by kernel_rfl) (fun _ ⟨_,N⟩=>yl rfl (bH.one Tryz.isAgg37 (yT (N.cls (i:=0) rfl) rfl))) (GX.take (v:= .string ⟨List.toArray p1⟩) (rs:= [[6], []]) 5 rfl (by kernel_rfl) (fun _ _=>yj rfl) ?_)))))
 obtain⟨a,g⟩:∃ q,di p1=q:=⟨_,rfl⟩
 obtain⟨O,n,G,p,I⟩:=yc f
 refine GX.do 6 rfl (by kernel_rfl) (yC Tryz.call73 rfl (qo _ _ p1 a n (by omega) g) ?_)
 rintro _ P ⟨Q,R,rfl,r,h,j⟩
 have t:=p _ _ r
 have J:=t.rowC (i:=0) rfl
 replace h:a.length≤p1.length+10:=h
 replace j:p1.length ≥ 128∨a.length=p1.length+1:=j
 have u:=t.pk [1,2,0]
 refine⟨.inr ⟨_,u⟩, ?_⟩
 have x:=u.pk [1,0,2]
 refine GX.do 7 rfl (by kernel_rfl) (yQ (k:=d.xb.ls.length) (m:=a.length) (jM) x rfl rfl (jg Tryz.underlying37 (x.rds (i:=2) rfl) (gV lD a)) rfl (by omega) (s:=List.length (d.xb.ls++a)) (by first | omega | (simp only [List.length_append,List.length_cons,List.length_nil] <;> omega)) (List.flatMap_append).symm ?_)
 intro y z S B
 have K:List.length (d.xb.ls++a)=d.xb.ls.length+a.length:=by simp only [List.length_append,List.length_cons,List.length_nil]
 refine⟨.inl (by kernel_rfl), ?_⟩
 refine zh (v:= .pointer (some ⟨e,0,none⟩)) 8 rfl (by kernel_rfl) (fun _=>yk) (zh (v:= .pointer (some ⟨e,0,none⟩)) 9 rfl (by kernel_rfl) (fun _=>yk) ?_)
 have C:=B.pk [1,0,2]
 refine z8 10 rfl (by kernel_rfl) (Do.store (vs:= [.slice y (List.length (d.xb.ls++a)) z]) (o:=0) C rfl rfl Tryz.sizeOf37 rfl rfl rfl rfl ?_)
 intro T E
 refine⟨.inl (by kernel_rfl), ?_⟩
 refine yX (by kernel_rfl) (yA (res0 rfl) ?_)
 have F:=E.pk [0,1]
 obtain rfl:_=aK.mk (Ll.mk (d.xb.ls++a)):=hr.symm.trans (ae g)
 exact⟨y,z,rfl,F,(by first | omega | (simp only [List.length_cons,List.length_nil,List.length_append]; omega))⟩
def gJ (c:aK) (p1:aC):aK:=
 bnd (bv c p1.aJ) fun a=>bnd (av a (Int.toNat (IntKind.u64.wrap p1.gm))) fun b=>b
set_option maxHeartbeats 1000000 in
theorem kz (w:World) (D:Nat→Prop) (d:Nat) (f:aK) (a:Option Addr) (b:Nat) (p1:aC) (o:aK) (H:Own w D w [blk d [.slice a f.xb.ls.length b] 57,row a f.xb.ls.length b (List.flatMap eB f.xb.ls) 5 1]) (R:f.xb.ls.length≤8000000000) (S:(p1.aJ.length≤12)) (hr:gJ f p1=o):
    Calls Tryz.prog 23 #[.pointer (some ⟨d,0,none⟩), .agg (aC.cells p1).toArray] w (dC fun v w'=> ∃ (B0ox0:Option Addr) (b0ox0:Nat),v= .tuple #[]∧Own w D w' [blk d [.slice B0ox0 o.xb.ls.length b0ox0] 57,row B0ox0 o.xb.ls.length b0ox0 (List.flatMap eB o.xb.ls) 5 1]∧(o.xb.ls.length≤f.xb.ls.length+40)):=by
 have B:=H.rowC (i:=1) rfl
 refine xU (args:= [.pointer (some ⟨d,0,none⟩), .agg (aC.cells p1).toArray]) Tryz.func23 rfl rfl rfl ?_
 show Wp _ _ _ [(0, .pointer (some ⟨d,0,none⟩)),(1, .agg (aC.cells p1).toArray)] _ _
 refine sr ?_
 refine dG (aC.cells p1) 54 H ?_
 intro p T r
 refine ns (Mz rfl (Kz (.pointer (some ⟨p,0,none⟩)) (Lz (.string ⟨List.toArray p1.aJ⟩) r 0 Tryz.isAgg9 ?_)))
 have C:=r.pk [1,2,0]
 obtain⟨c,g⟩:∃ q,bv f p1.aJ=q:=⟨_,rfl⟩
 obtain⟨U,s,K,t,L⟩:=yu C
 refine cl Tryz.call28 (dK _ _ d f a b p1.aJ c s (by first | omega | (dsimp only; omega) | (dsimp only [List.length_cons,List.length_nil]; omega)) g) ?_
 rintro _ V ⟨E,F,rfl,u,h⟩
 have m:=t _ _ u
 have M:=m.rowC (i:=1) rfl
 replace h:c.xb.ls.length≤f.xb.ls.length+26:=h
 refine nt (xS (Mz rfl (Kz (.pointer (some ⟨p,1,none⟩)) (Lz (.int .i64 p1.gm) m 2 Tryz.isAgg3 ?_))))
 refine WL.do rfl (yC Tryz.call19 rfl ?_ (fun _ _ k=>k))
 refine xU (args:= [.pointer (some ⟨d,0,none⟩), .int .i64 p1.gm]) Tryz.func19 rfl rfl rfl ?_
 show Wp _ _ _ [(0, .pointer (some ⟨d,0,none⟩)),(1, .int .i64 p1.gm)] _ _
 refine xS (Mz rfl (Mz rfl ?_))
 have N:Int.toNat (IntKind.u64.wrap p1.gm)≤18446744073709551615:=jG _
 refine fw (.int .u64 ((Int.toNat (IntKind.u64.wrap p1.gm):Nat):Int)) (ym (e:=IntKind.u64.wrap p1.gm) yk (fJ _)) ?_
 obtain⟨n,j⟩:∃ q,av c (Int.toNat (IntKind.u64.wrap p1.gm))=q:=⟨_,rfl⟩
 obtain⟨W,x,O,y,P⟩:=yu m
 refine cl Tryz.call21 (aN _ _ d c E F (Int.toNat (IntKind.u64.wrap p1.gm)) n x (by first | omega | (dsimp only; omega) | (dsimp only [List.length_cons,List.length_nil]; omega)) j) ?_
 rintro _ X ⟨G,I,rfl,z,l⟩
 have A:=y _ _ z
 have Q:=A.rowC (i:=1) rfl
 replace l:n.xb.ls.length≤c.xb.ls.length+10:=l
 refine xY (yA (res0 rfl) (xY (yA (res0 rfl) ?_)))
 have J:=A.pk [0,1]
 obtain rfl:_=n:=hr.symm.trans (et (ae g) (ae j))
 exact⟨G,I,rfl,J,(by first | omega | (simp only [List.length_cons,List.length_nil,List.length_append]; omega))⟩
def jA (g:aK) (p1:aW):aK:=
 bnd (av g (Int.toNat (IntKind.u64.wrap p1.aT))) fun b=>bnd (bv b p1.aY) fun c=>bnd (bv c p1.aB) fun d=>bnd (bv d p1.aJ) fun e=>bnd (bv e p1.aO) fun f=>bnd (av f (Int.toNat (IntKind.u64.wrap p1.bD))) fun a=>a
set_option maxHeartbeats 1000000 in
theorem nA (w:World) (D:Nat→Prop) (b:Nat) (u:aK) (f:Option Addr) (g:Nat) (p1:aW) (R:aK) (H:Own w D w [blk b [.slice f u.xb.ls.length g] 57,row f u.xb.ls.length g (List.flatMap eB u.xb.ls) 5 1]) (bM:u.xb.ls.length≤8000000000) (bO:(p1.aY.length≤12∧p1.aB.length≤16∧p1.aJ.length≤12∧p1.aO.length≤12)) (hr:jA u p1=R):
    Calls Tryz.prog 72 #[.pointer (some ⟨b,0,none⟩), .agg (aW.cells p1).toArray] w (dC fun v w'=> ∃ (B0ox0:Option Addr) (b0ox0:Nat),v= .tuple #[]∧Own w D w' [blk b [.slice B0ox0 R.xb.ls.length b0ox0] 57,row B0ox0 R.xb.ls.length b0ox0 (List.flatMap eB R.xb.ls) 5 1]∧(R.xb.ls.length≤u.xb.ls.length+130)):=by
 have aI:=H.rowC (i:=1) rfl
 refine xU (args:= [.pointer (some ⟨b,0,none⟩), .agg (aW.cells p1).toArray]) Tryz.func72 rfl rfl rfl ?_
 show Wp _ _ _ [(0, .pointer (some ⟨b,0,none⟩)),(1, .agg (aW.cells p1).toArray)] _ _
 refine sr ?_
 refine dG (aW.cells p1) 74 H ?_
 intro c bP S
 refine ns (Mz rfl (Kz (.pointer (some ⟨c,0,none⟩)) (Lz (.int .i64 p1.aT) S 0 Tryz.isAgg3 ?_)))
 refine WL.do rfl (yC Tryz.call19 rfl ?_ (fun _ _ k=>k))
 refine xU (args:= [.pointer (some ⟨b,0,none⟩), .int .i64 p1.aT]) Tryz.func19 rfl rfl rfl ?_
 show Wp _ _ _ [(0, .pointer (some ⟨b,0,none⟩)),(1, .int .i64 p1.aT)] _ _
 refine xS (Mz rfl (Mz rfl ?_))
 have bg:Int.toNat (IntKind.u64.wrap p1.aT)≤18446744073709551615:=jG _
 refine fw (.int .u64 ((Int.toNat (IntKind.u64.wrap p1.aT):Nat):Int)) (ym (e:=IntKind.u64.wrap p1.aT) yk (fJ _)) ?_
 have aJ:=S.pk [1,2,0]
 obtain⟨h,B⟩:∃ q,av u (Int.toNat (IntKind.u64.wrap p1.aT))=q:=⟨_,rfl⟩
 obtain⟨bQ,T,bi,U,bn⟩:=yu aJ
 refine cl Tryz.call21 (aN _ _ b u f g (Int.toNat (IntKind.u64.wrap p1.aT)) h T (by first | omega | (dsimp only; omega) | (dsimp only [List.length_cons,List.length_nil]; omega)) B) ?_
 rintro _ bR ⟨aL,aM,rfl,V,C⟩
 have d:=U _ _ V
 have bq:=d.rowC (i:=1) rfl
 replace C:h.xb.ls.length≤u.xb.ls.length+10:=C
 refine xY (yA (res0 rfl) (ns (Mz rfl (Kz (.func (.func 28) #[.pointer (some ⟨b,0,none⟩)] #[]) (Kz (.pointer (some ⟨c,1,none⟩)) (Lz (.string ⟨List.toArray p1.aY⟩) d 2 Tryz.isAgg9 (Kz (.pointer (some ⟨c,2,none⟩)) (Lz (.string ⟨List.toArray p1.aB⟩) d 2 Tryz.isAgg9 (Kz (.pointer (some ⟨c,3,none⟩)) (Lz (.string ⟨List.toArray p1.aJ⟩) d 2 Tryz.isAgg9 (Kz (.pointer (some ⟨c,4,none⟩)) (Lz (.string ⟨List.toArray p1.aO⟩) d 2 Tryz.isAgg9 ?_))))))))))))
 refine jR [.string ⟨List.toArray p1.aY⟩, .string ⟨List.toArray p1.aB⟩, .string ⟨List.toArray p1.aJ⟩, .string ⟨List.toArray p1.aO⟩] 9 1 4 d ?_
 intro a bS j
 replace j:=yR (y:=row a 4 4 (List.flatMap eS ([p1.aY,p1.aB,p1.aJ,p1.aO])) 9 1) rfl j
 refine WL.do rfl (yC Tryz.call27 rfl ?_ (fun _ _ k=>k))
 refine xU (args:= [.func (.func 28) #[.pointer (some ⟨b,0,none⟩)] #[], .slice a 4 4]) Tryz.func27 rfl rfl rfl ?_
 show Wp _ _ _ [(0, .func (.func 28) #[.pointer (some ⟨b,0,none⟩)] #[]),(1, .slice a 4 4)] _ _
 refine sr (Mz rfl (Kz (.int .i64 4) (Mn rfl (bo (zb 200 (sr (Kz (.bool true) (nt (xV (jt (sk (xV (bo (sr ?_))))))))))))))
 have W:([p1.aY,p1.aB,p1.aJ,p1.aO]:List (List UInt8))[0]? =some p1.aY:=rfl
 refine fw (.pointer (some ⟨ab a,ao a+0 *1,none⟩)) (yh (lv) rfl rfl ((j.rds (i:=0) rfl).addr (i:=0) (by omega)) (by omega)) (fw (.string ⟨List.toArray p1.aY⟩) (yl rfl (bH.one Tryz.isAgg9 (((j.rds (i:=0) rfl).elem jZ W (by decide)).at_ (k:=0) rfl))) (An rfl (xS (Mz rfl (Mz rfl ?_)))))
 have aO:=j.pk [1,2,0,3]
 obtain⟨l,E⟩:∃ q,bv h p1.aY=q:=⟨_,rfl⟩
 obtain⟨bT,X,bu,Y,bz⟩:=yu aO
 refine WL.do rfl (yB Tryz.call28 rfl rfl (dK _ _ b h aL aM p1.aY l X (by first | omega | (dsimp only; omega) | (dsimp only [List.length_cons,List.length_nil]; omega)) E) ?_)
 rintro _ bU ⟨aP,aQ,rfl,Z,F⟩
 have x:=Y _ _ Z
 have bA:=x.rowC (i:=1) rfl
 replace F:l.xb.ls.length≤h.xb.ls.length+26:=F
 refine xY (bN (yg (xS (Kz (.int .i64 1) (Mz rfl (xY (yN [(8, .int .i64 1),(7, .int .i64 4),(6, .slice a 4 4),(0, .func (.func 28) #[.pointer (some ⟨b,0,none⟩)] #[])] ⟨rfl,rfl,rfl,rfl,trivial⟩ (sr (Kz (.bool true) (nt (xV (jt (sk (xV (bo (sr ?_))))))))))))))))
 have aa:([p1.aY,p1.aB,p1.aJ,p1.aO]:List (List UInt8))[1]? =some p1.aB:=rfl
 refine fw (.pointer (some ⟨ab a,ao a+1 *1,none⟩)) (yh (lv) rfl rfl ((x.rds (i:=2) rfl).addr (i:=1) (by omega)) (by omega)) (fw (.string ⟨List.toArray p1.aB⟩) (yl rfl (bH.one Tryz.isAgg9 (((x.rds (i:=2) rfl).elem jZ aa (by decide)).at_ (k:=0) rfl))) (An rfl (xS (Mz rfl (Mz rfl ?_)))))
 obtain⟨m,G⟩:∃ q,bv l p1.aB=q:=⟨_,rfl⟩
 obtain⟨bV,af,bB,ag,bC⟩:=yu x
 refine WL.do rfl (yB Tryz.call28 rfl rfl (dK _ _ b l aP aQ p1.aB m af (by first | omega | (dsimp only; omega) | (dsimp only [List.length_cons,List.length_nil]; omega)) G) ?_)
 rintro _ bW ⟨aR,aS,rfl,ah,I⟩
 have z:=ag _ _ ah
 have bD:=z.rowC (i:=1) rfl
 replace I:m.xb.ls.length≤l.xb.ls.length+26:=I
 refine xY (bN (yg (xS (Kz (.int .i64 2) (Mz rfl (xY (yN [(8, .int .i64 2),(7, .int .i64 4),(6, .slice a 4 4),(0, .func (.func 28) #[.pointer (some ⟨b,0,none⟩)] #[])] ⟨rfl,rfl,rfl,rfl,trivial⟩ (sr (Kz (.bool true) (nt (xV (jt (sk (xV (bo (sr ?_))))))))))))))))
 have ai:([p1.aY,p1.aB,p1.aJ,p1.aO]:List (List UInt8))[2]? =some p1.aJ:=rfl
 refine fw (.pointer (some ⟨ab a,ao a+2 *1,none⟩)) (yh (lv) rfl rfl ((z.rds (i:=2) rfl).addr (i:=2) (by omega)) (by omega)) (fw (.string ⟨List.toArray p1.aJ⟩) (yl rfl (bH.one Tryz.isAgg9 (((z.rds (i:=2) rfl).elem jZ ai (by decide)).at_ (k:=0) rfl))) (An rfl (xS (Mz rfl (Mz rfl ?_)))))
 obtain⟨n,J⟩:∃ q,bv m p1.aJ=q:=⟨_,rfl⟩
 obtain⟨bX,aj,bE,ak,bF⟩:=yu z
 refine WL.do rfl (yB Tryz.call28 rfl rfl (dK _ _ b m aR aS p1.aJ n aj (by first | omega | (dsimp only; omega) | (dsimp only [List.length_cons,List.length_nil]; omega)) J) ?_)
 rintro _ bY ⟨aT,aU,rfl,au,K⟩
 have A:=ak _ _ au
 have bG:=A.rowC (i:=1) rfl
 replace K:n.xb.ls.length≤m.xb.ls.length+26:=K
 refine xY (bN (yg (xS (Kz (.int .i64 3) (Mz rfl (xY (yN [(8, .int .i64 3),(7, .int .i64 4),(6, .slice a 4 4),(0, .func (.func 28) #[.pointer (some ⟨b,0,none⟩)] #[])] ⟨rfl,rfl,rfl,rfl,trivial⟩ (sr (Kz (.bool true) (nt (xV (jt (sk (xV (bo (sr ?_))))))))))))))))
 have ax:([p1.aY,p1.aB,p1.aJ,p1.aO]:List (List UInt8))[3]? =some p1.aO:=rfl
 refine fw (.pointer (some ⟨ab a,ao a+3 *1,none⟩)) (yh (lv) rfl rfl ((A.rds (i:=2) rfl).addr (i:=3) (by omega)) (by omega)) (fw (.string ⟨List.toArray p1.aO⟩) (yl rfl (bH.one Tryz.isAgg9 (((A.rds (i:=2) rfl).elem jZ ax (by decide)).at_ (k:=0) rfl))) (An rfl (xS (Mz rfl (Mz rfl ?_)))))
 obtain⟨o,L⟩:∃ q,bv n p1.aO=q:=⟨_,rfl⟩
 obtain⟨bZ,ay,bI,az,bJ⟩:=yu A
 refine WL.do rfl (yB Tryz.call28 rfl rfl (dK _ _ b n aT aU p1.aO o ay (by first | omega | (dsimp only; omega) | (dsimp only [List.length_cons,List.length_nil]; omega)) L) ?_)
 rintro _ cu ⟨aA,aB,rfl,aC,p⟩
 have aD:=az _ _ aC
 have aV:=aD.rowC (i:=1) rfl
 replace p:o.xb.ls.length≤n.xb.ls.length+26:=p
 refine xY (bN (yg (xS (Kz (.int .i64 4) (Mz rfl (xY (yN [(8, .int .i64 4),(7, .int .i64 4),(6, .slice a 4 4),(0, .func (.func 28) #[.pointer (some ⟨b,0,none⟩)] #[])] ⟨rfl,rfl,rfl,rfl,trivial⟩ (sr (Kz (.bool false) (nt (xV (jf (Wp.exit (xX (xX (yx (yA (res0 rfl) (nt ?_))))))))))))))))))
 have M:=aD.pk [0,1,3]
 refine xS (Mz rfl (Kz (.pointer (some ⟨c,5,none⟩)) (Lz (.int .i64 p1.bD) M 2 Tryz.isAgg3 ?_)))
 refine WL.do rfl (yC Tryz.call19 rfl ?_ (fun _ _ k=>k))
 refine xU (args:= [.pointer (some ⟨b,0,none⟩), .int .i64 p1.bD]) Tryz.func19 rfl rfl rfl ?_
 show Wp _ _ _ [(0, .pointer (some ⟨b,0,none⟩)),(1, .int .i64 p1.bD)] _ _
 refine xS (Mz rfl (Mz rfl ?_))
 have aX:Int.toNat (IntKind.u64.wrap p1.bD)≤18446744073709551615:=jG _
 refine fw (.int .u64 ((Int.toNat (IntKind.u64.wrap p1.bD):Nat):Int)) (ym (e:=IntKind.u64.wrap p1.bD) yk (fJ _)) ?_
 obtain⟨r,s⟩:∃ q,av o (Int.toNat (IntKind.u64.wrap p1.bD))=q:=⟨_,rfl⟩
 obtain⟨bK,O,aY,P,aZ⟩:=yu M
 refine cl Tryz.call21 (aN _ _ b o aA aB (Int.toNat (IntKind.u64.wrap p1.bD)) r O (by first | omega | (dsimp only; omega) | (dsimp only [List.length_cons,List.length_nil]; omega)) s) ?_
 rintro _ bL ⟨aF,aG,rfl,Q,t⟩
 have N:=P _ _ Q
 have bf:=N.rowC (i:=1) rfl
 replace t:r.xb.ls.length≤o.xb.ls.length+10:=t
 refine xY (yA (res0 rfl) (xY (yA (res0 rfl) ?_)))
 have aH:=N.pk [0,1]
 obtain rfl:_=r:=hr.symm.trans (et (ae B) (et (ae E) (et (ae G) (et (ae J) (et (ae L) (ae s))))))
 exact⟨aF,aG,rfl,aH,(by first | omega | (simp only [List.length_cons,List.length_nil,List.length_append]; omega))⟩
def gZ (c:aK) (p1:bB):aK:=
 bnd (bv c p1.aY) fun a=>bnd (bv a p1.aB) fun b=>b
set_option maxHeartbeats 1000000 in
theorem kI (w:World) (D:Nat→Prop) (b:Nat) (g:aK) (c:Option Addr) (d:Nat) (p1:bB) (r:aK) (H:Own w D w [blk b [.slice c g.xb.ls.length d] 57,row c g.xb.ls.length d (List.flatMap eB g.xb.ls) 5 1]) (U:g.xb.ls.length≤8000000000) (V:(p1.aY.length≤12∧p1.aB.length≤16)) (hr:gZ g p1=r):
    Calls Tryz.prog 110 #[.pointer (some ⟨b,0,none⟩), .agg (bB.cells p1).toArray] w (dC fun v w'=> ∃ (B0ox0:Option Addr) (b0ox0:Nat),v= .tuple #[]∧Own w D w' [blk b [.slice B0ox0 r.xb.ls.length b0ox0] 57,row B0ox0 r.xb.ls.length b0ox0 (List.flatMap eB r.xb.ls) 5 1]∧(r.xb.ls.length≤g.xb.ls.length+60)):=by
 have G:=H.rowC (i:=1) rfl
 refine xU (args:= [.pointer (some ⟨b,0,none⟩), .agg (bB.cells p1).toArray]) Tryz.func110 rfl rfl rfl ?_
 show Wp _ _ _ [(0, .pointer (some ⟨b,0,none⟩)),(1, .agg (bB.cells p1).toArray)] _ _
 refine sr ?_
 refine dG (bB.cells p1) 133 H ?_
 intro s W o
 refine nt (xS (Mz rfl (Kz (.func (.func 28) #[.pointer (some ⟨b,0,none⟩)] #[]) (Kz (.pointer (some ⟨s,0,none⟩)) (Lz (.string ⟨List.toArray p1.aY⟩) o 0 Tryz.isAgg9 (Kz (.pointer (some ⟨s,1,none⟩)) (Lz (.string ⟨List.toArray p1.aB⟩) o 0 Tryz.isAgg9 ?_)))))))
 refine jR [.string ⟨List.toArray p1.aY⟩, .string ⟨List.toArray p1.aB⟩] 9 1 2 o ?_
 intro a X e
 replace e:=yR (y:=row a 2 2 (List.flatMap eS ([p1.aY,p1.aB])) 9 1) rfl e
 refine WL.do rfl (yC Tryz.call27 rfl ?_ (fun _ _ k=>k))
 refine xU (args:= [.func (.func 28) #[.pointer (some ⟨b,0,none⟩)] #[], .slice a 2 2]) Tryz.func27 rfl rfl rfl ?_
 show Wp _ _ _ [(0, .func (.func 28) #[.pointer (some ⟨b,0,none⟩)] #[]),(1, .slice a 2 2)] _ _
 refine sr (Mz rfl (Kz (.int .i64 2) (Mn rfl (bo (zb 200 (sr (Kz (.bool true) (nt (xV (jt (sk (xV (bo (sr ?_))))))))))))))
 have t:([p1.aY,p1.aB]:List (List UInt8))[0]? =some p1.aY:=rfl
 refine fw (.pointer (some ⟨ab a,ao a+0 *1,none⟩)) (yh (lv) rfl rfl ((e.rds (i:=0) rfl).addr (i:=0) (by omega)) (by omega)) (fw (.string ⟨List.toArray p1.aY⟩) (yl rfl (bH.one Tryz.isAgg9 (((e.rds (i:=0) rfl).elem jZ t (by decide)).at_ (k:=0) rfl))) (An rfl (xS (Mz rfl (Mz rfl ?_)))))
 have I:=e.pk [2,3,0,1]
 obtain⟨f,j⟩:∃ q,bv g p1.aY=q:=⟨_,rfl⟩
 obtain⟨Y,u,O,x,P⟩:=yu I
 refine WL.do rfl (yB Tryz.call28 rfl rfl (dK _ _ b g c d p1.aY f u (by first | omega | (dsimp only; omega) | (dsimp only [List.length_cons,List.length_nil]; omega)) j) ?_)
 rintro _ Z ⟨J,K,rfl,z,l⟩
 have h:=x _ _ z
 have Q:=h.rowC (i:=1) rfl
 replace l:f.xb.ls.length≤g.xb.ls.length+26:=l
 refine xY (bN (yg (xS (Kz (.int .i64 1) (Mz rfl (xY (yN [(8, .int .i64 1),(7, .int .i64 2),(6, .slice a 2 2),(0, .func (.func 28) #[.pointer (some ⟨b,0,none⟩)] #[])] ⟨rfl,rfl,rfl,rfl,trivial⟩ (sr (Kz (.bool true) (nt (xV (jt (sk (xV (bo (sr ?_))))))))))))))))
 have A:([p1.aY,p1.aB]:List (List UInt8))[1]? =some p1.aB:=rfl
 refine fw (.pointer (some ⟨ab a,ao a+1 *1,none⟩)) (yh (lv) rfl rfl ((h.rds (i:=2) rfl).addr (i:=1) (by omega)) (by omega)) (fw (.string ⟨List.toArray p1.aB⟩) (yl rfl (bH.one Tryz.isAgg9 (((h.rds (i:=2) rfl).elem jZ A (by decide)).at_ (k:=0) rfl))) (An rfl (xS (Mz rfl (Mz rfl ?_)))))
 obtain⟨p,m⟩:∃ q,bv f p1.aB=q:=⟨_,rfl⟩
 obtain⟨aa,B,R,C,S⟩:=yu h
 refine WL.do rfl (yB Tryz.call28 rfl rfl (dK _ _ b f J K p1.aB p B (by first | omega | (dsimp only; omega) | (dsimp only [List.length_cons,List.length_nil]; omega)) m) ?_)
 rintro _ af ⟨L,M,rfl,E,n⟩
 have F:=C _ _ E
 have T:=F.rowC (i:=1) rfl
 replace n:p.xb.ls.length≤f.xb.ls.length+26:=n
 refine xY (bN (yg (xS (Kz (.int .i64 2) (Mz rfl (xY (yN [(8, .int .i64 2),(7, .int .i64 2),(6, .slice a 2 2),(0, .func (.func 28) #[.pointer (some ⟨b,0,none⟩)] #[])] ⟨rfl,rfl,rfl,rfl,trivial⟩ (sr (Kz (.bool false) (nt (xV (jf (Wp.exit (xX (xX (yx (yA (res0 rfl) (xY (yA (res0 rfl) ?_)))))))))))))))))))
 have N:=F.pk [0,1]
 obtain rfl:_=p:=hr.symm.trans (et (ae j) (ae m))
 exact⟨L,M,rfl,N,(by first | omega | (simp only [List.length_cons,List.length_nil,List.length_append]; omega))⟩
def dS:List bB→List UInt8→(List UInt8)
  | [],a=>a
  | c::d,a=>bnd (gZ (aK.mk (Ll.mk a)) c) fun b=>dS d b.xb.ls
def dU:List bB→List UInt8→(List UInt8)
  | [],a=>a
  | c::d,a=>bnd (gZ (aK.mk (Ll.mk a)) c) fun b=>dU d b.xb.ls
def iV (g:aK) (p1:df):aK:=
 if p1.dZ=true then bnd (av g 1) fun d=>bnd (bv d p1.aB) fun e=>bnd (av e p1.ay.ls.length) fun f=>bnd (dS p1.ay.ls f.xb.ls) fun sLrtbbbL=>aK.mk (Ll.mk sLrtbbbL) else bnd (av g 0) fun a=>bnd (bv a p1.aB) fun b=>bnd (av b p1.ay.ls.length) fun c=>bnd (dU p1.ay.ls c.xb.ls) fun sLrfbbbL=>aK.mk (Ll.mk sLrfbbbL)
set_option maxHeartbeats 1000000 in
theorem lZ (w:World) (D:Nat→Prop) (f:Nat) (F:aK) (A:Option Addr) (B:Nat) (p1:df) (a:Option Addr) (ag b:Nat) (r0:aK) (H:Own w D w [blk f [.slice A F.xb.ls.length B] 57,row A F.xb.ls.length B (List.flatMap eB F.xb.ls) 5 1]) (aG:ag=p1.ay.ls.length) (j:Ro w D fun w'=>bu w' 2 a p1.ay.ls.length (List.flatMap bB.cells p1.ay.ls)) (dD:p1.ay.ls.length≤b∧p1.ay.ls.length≤9223372036854775807) (gp:F.xb.ls.length≤7000000000) (af:(p1.aB.length≤16∧p1.ay.ls.length≤4∧∀ q ∈ p1.ay.ls,q.aY.length≤12∧q.aB.length≤16)) (hr:iV F p1=r0):
    Calls Tryz.prog 80 #[.pointer (some ⟨f,0,none⟩), .agg #[.bool p1.dZ, .string ⟨List.toArray p1.aB⟩, .slice a ag b]] w (dC fun v w'=> ∃ (B0ox0:Option Addr) (b0ox0:Nat),v= .tuple #[]∧Own w D w' [blk f [.slice B0ox0 r0.xb.ls.length b0ox0] 57,row B0ox0 r0.xb.ls.length b0ox0 (List.flatMap eB r0.xb.ls) 5 1]∧(r0.xb.ls.length≤F.xb.ls.length+300)):=by
 subst aG
 have dE:=H.rowC (i:=1) rfl
 have eQ:=af.1
 have eT:=af.2.1
 refine xU (args:= [.pointer (some ⟨f,0,none⟩), .agg #[.bool p1.dZ, .string ⟨List.toArray p1.aB⟩, .slice a p1.ay.ls.length b]]) Tryz.func80 rfl rfl rfl ?_
 show Wp _ _ _ [(0, .pointer (some ⟨f,0,none⟩)),(1, .agg #[.bool p1.dZ, .string ⟨List.toArray p1.aB⟩, .slice a p1.ay.ls.length b])] _ _
 refine sr ?_
 refine dG [.bool p1.dZ, .string ⟨List.toArray p1.aB⟩, .slice a p1.ay.ls.length b] 129 H ?_
 intro p gq aH
 refine ns (An rfl (xV (sr (Kz (.pointer (some ⟨p,0,none⟩)) (Lz (.bool p1.dZ) aH 0 Tryz.isAgg4 (nt ?_))))))
 rcases Bb (p1.dZ) with G | G
 refine jT G (xS (Ar rfl (Mz rfl (Mz rfl ?_))))
 refine WL.do rfl (yC Tryz.call19 rfl ?_ (fun _ _ k=>k))
 refine xU (args:= [.pointer (some ⟨f,0,none⟩), .int .i64 1]) Tryz.func19 rfl rfl rfl ?_
 show Wp _ _ _ [(0, .pointer (some ⟨f,0,none⟩)),(1, .int .i64 1)] _ _
 refine xS (Mz rfl (Mz rfl (fw (.int .u64 1) (ym (e:=IntKind.u64.wrap 1) yk (IntWalk.u64_in _ (by omega))) ?_)))
 have dH:=aH.pk [1,2,0]
 obtain⟨I,ah⟩:∃ q,av F 1=q:=⟨_,rfl⟩
 obtain⟨gu,bC,eU,bD,eX⟩:=yu dH
 refine cl Tryz.call21 (aN _ _ f F A B 1 I bC (by first | omega | (dsimp only; omega) | (dsimp only [List.length_cons,List.length_nil]; omega)) ah) ?_
 rintro _ gy ⟨dI,dJ,rfl,bE,ai⟩
 have aI:=bD _ _ bE
 have eY:=aI.rowC (i:=1) rfl
 replace ai:I.xb.ls.length≤F.xb.ls.length+10:=ai
 refine xY (yA (res0 rfl) (ns (Mz rfl (Kz (.pointer (some ⟨p,1,none⟩)) (Lz (.string ⟨List.toArray p1.aB⟩) aI 2 Tryz.isAgg9 ?_)))))
 obtain⟨J,aj⟩:∃ q,bv I p1.aB=q:=⟨_,rfl⟩
 obtain⟨gz,bF,eZ,bG,fe⟩:=yu aI
 refine cl Tryz.call28 (dK _ _ f I dI dJ p1.aB J bF (by first | omega | (dsimp only; omega) | (dsimp only [List.length_cons,List.length_nil]; omega)) aj) ?_
 rintro _ gB ⟨dL,dM,rfl,bH,ak⟩
 have aJ:=bG _ _ bH
 have fo:=aJ.rowC (i:=1) rfl
 replace ak:J.xb.ls.length≤I.xb.ls.length+26:=ak
 refine nt (xS (Mz rfl (Kz (.pointer (some ⟨p,2,none⟩)) (Lz (.slice a p1.ay.ls.length b) aJ 2 Tryz.isAgg127 (Mz rfl (Kz (.func (.func 110) #[.pointer (some ⟨f,0,none⟩)] #[]) ?_))))))
 refine WL.do rfl (yC Tryz.call109 rfl ?_ (fun _ _ k=>k))
 refine xU (args:= [.pointer (some ⟨f,0,none⟩), .slice a p1.ay.ls.length b, .func (.func 110) #[.pointer (some ⟨f,0,none⟩)] #[]]) Tryz.func109 rfl rfl rfl ?_
 show Wp _ _ _ [(0, .pointer (some ⟨f,0,none⟩)),(1, .slice a p1.ay.ls.length b),(2, .func (.func 110) #[.pointer (some ⟨f,0,none⟩)] #[])] _ _
 refine sr (Mz rfl (Mz rfl (Kz (.int .i64 ((p1.ay.ls.length:Nat):Int)) ?_)))
 refine WL.do rfl (yC Tryz.call19 rfl ?_ (fun _ _ k=>k))
 refine xU (args:= [.pointer (some ⟨f,0,none⟩), .int .i64 ((p1.ay.ls.length:Nat):Int)]) Tryz.func19 rfl rfl rfl ?_
 show Wp _ _ _ [(0, .pointer (some ⟨f,0,none⟩)),(1, .int .i64 ((p1.ay.ls.length:Nat):Int))] _ _
 refine xS (Mz rfl (Mz rfl (fw (.int .u64 ((p1.ay.ls.length:Nat):Int)) (ym (e:=IntKind.u64.wrap ((p1.ay.ls.length:Nat):Int)) yk (IntWalk.u64_in _ (by omega))) ?_)))
 obtain⟨r,au⟩:∃ q,av J p1.ay.ls.length=q:=⟨_,rfl⟩
 obtain⟨gD,bI,fq,bJ,fu⟩:=yu aJ
 refine cl Tryz.call21 (aN _ _ f J dL dM p1.ay.ls.length r bI (by first | omega | (dsimp only; omega) | (dsimp only [List.length_cons,List.length_nil]; omega)) au) ?_
 rintro _ gF ⟨dN,dO,rfl,bK,ax⟩
 have bL:=bJ _ _ bK
 have fA:=bL.rowC (i:=1) rfl
 replace ax:r.xb.ls.length≤J.xb.ls.length+10:=ax
 refine xY (yA (res0 rfl) (nt (xS (Mz rfl (Mz rfl ?_)))))
 refine WL.do rfl (yC Tryz.call119 rfl ?_ (fun _ _ k=>k))
 refine xU (args:= [.func (.func 110) #[.pointer (some ⟨f,0,none⟩)] #[], .slice a p1.ay.ls.length b]) Tryz.func119 rfl rfl rfl ?_
 show Wp _ _ _ [(0, .func (.func 110) #[.pointer (some ⟨f,0,none⟩)] #[]),(1, .slice a p1.ay.ls.length b)] _ _
 refine sr (Mz rfl (Kz (.int .i64 ((p1.ay.ls.length:Nat):Int)) (Mn rfl (bo ?_))))
 have dP:=bL.pk [0,2,1]
 obtain⟨bM,bO⟩:∃ q:(Nat × (Option Addr) × Nat × (List UInt8))→World→Prop,q=fun(i:Nat × (Option Addr) × Nat × (List UInt8)) w'=>Own w D w' [blk f [.slice i.2.1 i.2.2.2.length i.2.2.1] 57,blk p [.bool p1.dZ, .string ⟨List.toArray p1.aB⟩, .slice a p1.ay.ls.length b] 129,row i.2.1 i.2.2.2.length i.2.2.1 (List.flatMap eB i.2.2.2) 5 1]∧(i.1≤p1.ay.ls.length∧((i.2.2.2.length:Nat):Int)≤((r.xb.ls.length:Nat):Int)+60 *((i.1:Nat):Int)∧dS p1.ay.ls r.xb.ls=dS (List.drop i.1 p1.ay.ls) i.2.2.2):=⟨_,rfl⟩
 have K:∀ {g:Nat} {C:Option Addr} {E:Nat} {h:List UInt8} {w':World},bM (g,C,E,h) w'↔Own w D w' [blk f [.slice C h.length E] 57,blk p [.bool p1.dZ, .string ⟨List.toArray p1.aB⟩, .slice a p1.ay.ls.length b] 129,row C h.length E (List.flatMap eB h) 5 1]∧g≤p1.ay.ls.length∧((h.length:Nat):Int)≤((r.xb.ls.length:Nat):Int)+60 *((g:Nat):Int)∧dS p1.ay.ls r.xb.ls=dS (List.drop g p1.ay.ls) h:=by intros; subst bO; exact Iff.rfl
 refine Wp.loop (fun i:Nat × (Option Addr) × Nat × (List UInt8)=> [(8, .int .i64 ((i.1:Nat):Int)),(7, .int .i64 ((p1.ay.ls.length:Nat):Int)),(6, .slice a p1.ay.ls.length b),(0, .func (.func 110) #[.pointer (some ⟨f,0,none⟩)] #[])]) bM (fun i=>p1.ay.ls.length - i.1) (0,dN,dO,r.xb.ls) ⟨rfl,rfl,rfl,rfl,trivial⟩ (K.2 ⟨dP,by omega,by omega,rfl⟩) ?_
 rintro ⟨g,C,E,h⟩ gG bP
 show Wp _ _ _ [(8, .int .i64 ((g:Nat):Int)),(7, .int .i64 ((p1.ay.ls.length:Nat):Int)),(6, .slice a p1.ay.ls.length b),(0, .func (.func 110) #[.pointer (some ⟨f,0,none⟩)] #[])] _ _
 obtain⟨L,fB,fC,ay⟩:=K.1 bP
 refine sr (Kz (.bool (decide (((g:Nat):Int) < ((p1.ay.ls.length:Nat):Int)))) (nt (xV ?_)))
 by_cases bQ:((g:Nat):Int) < ((p1.ay.ls.length:Nat):Int)
 obtain⟨s,M⟩:=fE (ls:=p1.ay.ls) (i:=g) bB.len (by decide) (L.ro j) (by first | omega | (simp; done) | (simp; omega))
 have bR:s.aY.length≤12∧s.aB.length≤16:=af.2.2 _ (List.mem_of_getElem? M)
 have bS:=drop_at M
 refine jT (dT bQ) (sk (xV (bo (sr (fw (.pointer (some ⟨ab a,ao a+g *2,none⟩)) (yh (qx) rfl rfl ((L.ro j).addr (i:=g) (by omega)) (by omega)) (fw (.agg (bB.cells s).toArray) (yl rfl (yD (cs:=(bB.cells s)) Tryz.isAgg133 Tryz.sizeOf133 ((L.ro j).elem bB.len M (by decide)))) ?_))))))
 refine dG [.string ⟨List.toArray ([])⟩, .string ⟨List.toArray ([])⟩] 133 L ?_
 intro gH gI dQ
 refine cZ (bB.cells s) 0 dQ Tryz.sizeOf133 ?_
 intro gJ bT
 refine nt (xS (Mz rfl (La (bB.cells s) bT 0 Tryz.isAgg133 Tryz.sizeOf133 ?_)))
 have dR:=bT.pk [1,3,0,2]
 obtain⟨aL,N⟩:∃ q,gZ (aK.mk (Ll.mk h)) s=q:=⟨_,rfl⟩
 obtain⟨gK,bU,fD,bV,fF⟩:=yu dR
 refine WL.do rfl (yB Tryz.call110 rfl rfl (kI _ _ f (aK.mk (Ll.mk h)) C E s aL bU (by first | omega | (dsimp only; omega) | (dsimp only [List.length_cons,List.length_nil]; omega)) (by exact bR) N) ?_)
 rintro _ fH ⟨bW,bX,rfl,aM,O⟩
 have az:=bV _ _ aM
 have dV:=az.rowC (i:=1) rfl
 replace O:aL.xb.ls.length≤h.length+60:=O
 refine xY (bN (yg (xS (fw (.int .i64 ((g+1:Nat):Int)) (ym (e:=IntKind.i64.wrap (((g:Nat):Int)+1)) yk (by rw [A8 _ (by omega)]; omega)) (Mz rfl (xY ?_))))))
 have bY:=az.pk [0,3,1]
 exact yE (g+1,bW,bX,aL.xb.ls) ⟨rfl,rfl,rfl,rfl,trivial⟩ (K.2 ⟨bY,by omega,by omega,et (ay) (et (congrArg (fun q=>dS q h) bS) (ae N))⟩) (by show p1.ay.ls.length - (g+1) < p1.ay.ls.length - g; omega)
 refine jF (dF bQ) (Wp.exit (xX ?_))
 have aO:dS p1.ay.ls r.xb.ls=h:=et (ay) (et (congrArg (fun q=>dS q h) (fG (ls:=p1.ay.ls) (i:=g) (by omega))) rfl)
 refine xX (yx (yA (res0 rfl) (xY (yA (res0 rfl) (xY (yA (res0 rfl) ?_))))))
 have bZ:=L.pk [0,2]
 obtain rfl:_=aK.mk (Ll.mk h):=hr.symm.trans (et (ip G) (et (ae ah) (et (ae aj) (et (ae au) (ae aO)))))
 exact⟨C,E,rfl,bZ,(by first | omega | (simp only [List.length_cons,List.length_nil,List.length_append]; omega))⟩
 refine jF G (sk (sr (Mz rfl (Mz rfl ?_))))
 refine WL.do rfl (yC Tryz.call19 rfl ?_ (fun _ _ k=>k))
 refine xU (args:= [.pointer (some ⟨f,0,none⟩), .int .i64 0]) Tryz.func19 rfl rfl rfl ?_
 show Wp _ _ _ [(0, .pointer (some ⟨f,0,none⟩)),(1, .int .i64 0)] _ _
 refine xS (Mz rfl (Mz rfl (fw (.int .u64 0) (ym (e:=IntKind.u64.wrap 0) yk (IntWalk.u64_in _ (by omega))) ?_)))
 have cu:=aH.pk [1,2,0]
 obtain⟨t,P⟩:∃ q,av F 0=q:=⟨_,rfl⟩
 obtain⟨fI,aP,dW,aQ,dX⟩:=yu cu
 refine cl Tryz.call21 (aN _ _ f F A B 0 t aP (by first | omega | (dsimp only; omega) | (dsimp only [List.length_cons,List.length_nil]; omega)) P) ?_
 rintro _ fJ ⟨cz,cB,rfl,aR,Q⟩
 have R:=aQ _ _ aR
 have dY:=R.rowC (i:=1) rfl
 replace Q:t.xb.ls.length≤F.xb.ls.length+10:=Q
 refine xY (yA (res0 rfl) (ns (Mz rfl (Kz (.pointer (some ⟨p,1,none⟩)) (Lz (.string ⟨List.toArray p1.aB⟩) R 2 Tryz.isAgg9 ?_)))))
 obtain⟨u,S⟩:∃ q,bv t p1.aB=q:=⟨_,rfl⟩
 obtain⟨fK,aS,dZ,aT,d9⟩:=yu R
 refine cl Tryz.call28 (dK _ _ f t cz cB p1.aB u aS (by first | omega | (dsimp only; omega) | (dsimp only [List.length_cons,List.length_nil]; omega)) S) ?_
 rintro _ fM ⟨cK,cO,rfl,aU,T⟩
 have U:=aT _ _ aU
 have ed:=U.rowC (i:=1) rfl
 replace T:u.xb.ls.length≤t.xb.ls.length+26:=T
 refine nt (xS (Mz rfl (Kz (.pointer (some ⟨p,2,none⟩)) (Lz (.slice a p1.ay.ls.length b) U 2 Tryz.isAgg127 (Mz rfl (Kz (.func (.func 110) #[.pointer (some ⟨f,0,none⟩)] #[]) ?_))))))
 refine WL.do rfl (yC Tryz.call109 rfl ?_ (fun _ _ k=>k))
 refine xU (args:= [.pointer (some ⟨f,0,none⟩), .slice a p1.ay.ls.length b, .func (.func 110) #[.pointer (some ⟨f,0,none⟩)] #[]]) Tryz.func109 rfl rfl rfl ?_
 show Wp _ _ _ [(0, .pointer (some ⟨f,0,none⟩)),(1, .slice a p1.ay.ls.length b),(2, .func (.func 110) #[.pointer (some ⟨f,0,none⟩)] #[])] _ _
 refine sr (Mz rfl (Mz rfl (Kz (.int .i64 ((p1.ay.ls.length:Nat):Int)) ?_)))
 refine WL.do rfl (yC Tryz.call19 rfl ?_ (fun _ _ k=>k))
 refine xU (args:= [.pointer (some ⟨f,0,none⟩), .int .i64 ((p1.ay.ls.length:Nat):Int)]) Tryz.func19 rfl rfl rfl ?_
 show Wp _ _ _ [(0, .pointer (some ⟨f,0,none⟩)),(1, .int .i64 ((p1.ay.ls.length:Nat):Int))] _ _
 refine xS (Mz rfl (Mz rfl (fw (.int .u64 ((p1.ay.ls.length:Nat):Int)) (ym (e:=IntKind.u64.wrap ((p1.ay.ls.length:Nat):Int)) yk (IntWalk.u64_in _ (by omega))) ?_)))
 obtain⟨l,V⟩:∃ q,av u p1.ay.ls.length=q:=⟨_,rfl⟩
 obtain⟨fO,aV,ek,aW,eu⟩:=yu U
 refine cl Tryz.call21 (aN _ _ f u cK cO p1.ay.ls.length l aV (by first | omega | (dsimp only; omega) | (dsimp only [List.length_cons,List.length_nil]; omega)) V) ?_
 rintro _ fP ⟨dh,di,rfl,aX,W⟩
 have aA:=aW _ _ aX
 have eD:=aA.rowC (i:=1) rfl
 replace W:l.xb.ls.length≤u.xb.ls.length+10:=W
 refine xY (yA (res0 rfl) (nt (xS (Mz rfl (Mz rfl ?_)))))
 refine WL.do rfl (yC Tryz.call119 rfl ?_ (fun _ _ k=>k))
 refine xU (args:= [.func (.func 110) #[.pointer (some ⟨f,0,none⟩)] #[], .slice a p1.ay.ls.length b]) Tryz.func119 rfl rfl rfl ?_
 show Wp _ _ _ [(0, .func (.func 110) #[.pointer (some ⟨f,0,none⟩)] #[]),(1, .slice a p1.ay.ls.length b)] _ _
 refine sr (Mz rfl (Kz (.int .i64 ((p1.ay.ls.length:Nat):Int)) (Mn rfl (bo ?_))))
 have dm:=aA.pk [0,2,1]
 obtain⟨aB,aY⟩:∃ q:(Nat × (Option Addr) × Nat × (List UInt8))→World→Prop,q=fun(i:Nat × (Option Addr) × Nat × (List UInt8)) w'=>Own w D w' [blk f [.slice i.2.1 i.2.2.2.length i.2.2.1] 57,blk p [.bool p1.dZ, .string ⟨List.toArray p1.aB⟩, .slice a p1.ay.ls.length b] 129,row i.2.1 i.2.2.2.length i.2.2.1 (List.flatMap eB i.2.2.2) 5 1]∧(i.1≤p1.ay.ls.length∧((i.2.2.2.length:Nat):Int)≤((l.xb.ls.length:Nat):Int)+60 *((i.1:Nat):Int)∧dU p1.ay.ls l.xb.ls=dU (List.drop i.1 p1.ay.ls) i.2.2.2):=⟨_,rfl⟩
 have y:∀ {c:Nat} {n:Option Addr} {o:Nat} {d:List UInt8} {w':World},aB (c,n,o,d) w'↔Own w D w' [blk f [.slice n d.length o] 57,blk p [.bool p1.dZ, .string ⟨List.toArray p1.aB⟩, .slice a p1.ay.ls.length b] 129,row n d.length o (List.flatMap eB d) 5 1]∧c≤p1.ay.ls.length∧((d.length:Nat):Int)≤((l.xb.ls.length:Nat):Int)+60 *((c:Nat):Int)∧dU p1.ay.ls l.xb.ls=dU (List.drop c p1.ay.ls) d:=by intros; subst aY; exact Iff.rfl
 refine Wp.loop (fun i:Nat × (Option Addr) × Nat × (List UInt8)=> [(8, .int .i64 ((i.1:Nat):Int)),(7, .int .i64 ((p1.ay.ls.length:Nat):Int)),(6, .slice a p1.ay.ls.length b),(0, .func (.func 110) #[.pointer (some ⟨f,0,none⟩)] #[])]) aB (fun i=>p1.ay.ls.length - i.1) (0,dh,di,l.xb.ls) ⟨rfl,rfl,rfl,rfl,trivial⟩ (y.2 ⟨dm,by omega,by omega,rfl⟩) ?_
 rintro ⟨c,n,o,d⟩ fQ aZ
 show Wp _ _ _ [(8, .int .i64 ((c:Nat):Int)),(7, .int .i64 ((p1.ay.ls.length:Nat):Int)),(6, .slice a p1.ay.ls.length b),(0, .func (.func 110) #[.pointer (some ⟨f,0,none⟩)] #[])] _ _
 obtain⟨x,eF,eG,X⟩:=y.1 aZ
 refine sr (Kz (.bool (decide (((c:Nat):Int) < ((p1.ay.ls.length:Nat):Int)))) (nt (xV ?_)))
 by_cases aC:((c:Nat):Int) < ((p1.ay.ls.length:Nat):Int)
 obtain⟨m,z⟩:=fE (ls:=p1.ay.ls) (i:=c) bB.len (by decide) (x.ro j) (by first | omega | (simp; done) | (simp; omega))
 have bf:m.aY.length≤12∧m.aB.length≤16:=af.2.2 _ (List.mem_of_getElem? z)
 have bg:=drop_at z
 refine jT (dT aC) (sk (xV (bo (sr (fw (.pointer (some ⟨ab a,ao a+c *2,none⟩)) (yh (qx) rfl rfl ((x.ro j).addr (i:=c) (by omega)) (by omega)) (fw (.agg (bB.cells m).toArray) (yl rfl (yD (cs:=(bB.cells m)) Tryz.isAgg133 Tryz.sizeOf133 ((x.ro j).elem bB.len z (by decide)))) ?_))))))
 refine dG [.string ⟨List.toArray ([])⟩, .string ⟨List.toArray ([])⟩] 133 x ?_
 intro fT fU dn
 refine cZ (bB.cells m) 0 dn Tryz.sizeOf133 ?_
 intro fV aD
 refine nt (xS (Mz rfl (La (bB.cells m) aD 0 Tryz.isAgg133 Tryz.sizeOf133 ?_)))
 have dw:=aD.pk [1,3,0,2]
 obtain⟨Y,Z⟩:∃ q,gZ (aK.mk (Ll.mk d)) m=q:=⟨_,rfl⟩
 obtain⟨fZ,bi,eH,bn,eO⟩:=yu dw
 refine WL.do rfl (yB Tryz.call110 rfl rfl (kI _ _ f (aK.mk (Ll.mk d)) n o m Y bi (by first | omega | (dsimp only; omega) | (dsimp only [List.length_cons,List.length_nil]; omega)) (by exact bf) Z) ?_)
 rintro _ gm ⟨dx,dz,rfl,bq,aa⟩
 have aF:=bn _ _ bq
 have eP:=aF.rowC (i:=1) rfl
 replace aa:Y.xb.ls.length≤d.length+60:=aa
 refine xY (bN (yg (xS (fw (.int .i64 ((c+1:Nat):Int)) (ym (e:=IntKind.i64.wrap (((c:Nat):Int)+1)) yk (by rw [A8 _ (by omega)]; omega)) (Mz rfl (xY ?_))))))
 have dA:=aF.pk [0,3,1]
 exact yE (c+1,dx,dz,Y.xb.ls) ⟨rfl,rfl,rfl,rfl,trivial⟩ (y.2 ⟨dA,by omega,by omega,et (X) (et (congrArg (fun q=>dU q d) bg) (ae Z))⟩) (by show p1.ay.ls.length - (c+1) < p1.ay.ls.length - c; omega)
 refine jF (dF aC) (Wp.exit (xX ?_))
 have bz:dU p1.ay.ls l.xb.ls=d:=et (X) (et (congrArg (fun q=>dU q d) (fG (ls:=p1.ay.ls) (i:=c) (by omega))) rfl)
 refine xX (yx (yA (res0 rfl) (xY (yA (res0 rfl) (xY (yA (res0 rfl) ?_))))))
 have dB:=x.pk [0,2]
 obtain rfl:_=aK.mk (Ll.mk d):=hr.symm.trans (et (kG G) (et (ae P) (et (ae S) (et (ae V) (ae bz)))))
 exact⟨n,o,rfl,dB,(by first | omega | (simp only [List.length_cons,List.length_nil,List.length_append]; omega))⟩
def ek:List aW→List UInt8→(List UInt8)
  | [],a=>a
  | c::d,a=>bnd (jA (aK.mk (Ll.mk a)) c) fun b=>ek d b.xb.ls
def jh (c:aK) (p1:fo):aK:=
 bnd (av c p1.aV) fun a=>bnd (av a p1.aI.ls.length) fun b=>bnd (ek p1.aI.ls b.xb.ls) fun sLrbbL=>aK.mk (Ll.mk sLrbbL)
set_option maxHeartbeats 1000000 in
theorem mK (w:World) (D:Nat→Prop) (f:Nat) (u:aK) (n:Option Addr) (o:Nat) (p1:fo) (a:Option Addr) (y b:Nat) (M:aK) (H:Own w D w [blk f [.slice n u.xb.ls.length o] 57,row n u.xb.ls.length o (List.flatMap eB u.xb.ls) 5 1]) (I:y=p1.aI.ls.length) (j:Ro w D fun w'=>bu w' 6 a p1.aI.ls.length (List.flatMap aW.cells p1.aI.ls)) (au:p1.aI.ls.length≤b∧p1.aI.ls.length≤9223372036854775807) (bg:u.xb.ls.length≤7000000000) (J:(p1.aV≤18446744073709551615∧p1.aI.ls.length≤24∧∀ q ∈ p1.aI.ls,q.aY.length≤12∧q.aB.length≤16∧q.aJ.length≤12∧q.aO.length≤12)) (hr:jh u p1=M):
    Calls Tryz.prog 25 #[.pointer (some ⟨f,0,none⟩), .agg #[.int .u64 ((p1.aV:Nat):Int), .slice a y b]] w (dC fun v w'=> ∃ (B0ox0:Option Addr) (b0ox0:Nat),v= .tuple #[]∧Own w D w' [blk f [.slice B0ox0 M.xb.ls.length b0ox0] 57,row B0ox0 M.xb.ls.length b0ox0 (List.flatMap eB M.xb.ls) 5 1]∧(M.xb.ls.length≤u.xb.ls.length+3300)):=by
 subst I
 have ax:=H.rowC (i:=1) rfl
 have aM:=J.1
 have aO:=J.2.1
 refine xU (args:= [.pointer (some ⟨f,0,none⟩), .agg #[.int .u64 ((p1.aV:Nat):Int), .slice a p1.aI.ls.length b]]) Tryz.func25 rfl rfl rfl ?_
 show Wp _ _ _ [(0, .pointer (some ⟨f,0,none⟩)),(1, .agg #[.int .u64 ((p1.aV:Nat):Int), .slice a p1.aI.ls.length b])] _ _
 refine sr ?_
 refine dG [.int .u64 ((p1.aV:Nat):Int), .slice a p1.aI.ls.length b] 66 H ?_
 intro x bi N
 refine ns (Mz rfl (Kz (.pointer (some ⟨x,0,none⟩)) (Lz (.int .u64 ((p1.aV:Nat):Int)) N 0 Tryz.isAgg22 ?_)))
 have ay:=N.pk [1,2,0]
 obtain⟨p,z⟩:∃ q,av u p1.aV=q:=⟨_,rfl⟩
 obtain⟨bn,O,aP,P,aQ⟩:=yu ay
 refine cl Tryz.call21 (aN _ _ f u n o p1.aV p O (by first | omega | (dsimp only; omega) | (dsimp only [List.length_cons,List.length_nil]; omega)) z) ?_
 rintro _ bq ⟨az,aA,rfl,Q,A⟩
 have K:=P _ _ Q
 have aR:=K.rowC (i:=1) rfl
 replace A:p.xb.ls.length≤u.xb.ls.length+10:=A
 refine nt (xS (Mz rfl (Kz (.pointer (some ⟨x,1,none⟩)) (Lz (.slice a p1.aI.ls.length b) K 2 Tryz.isAgg64 (Mz rfl (Kz (.func (.func 72) #[.pointer (some ⟨f,0,none⟩)] #[]) ?_))))))
 refine WL.do rfl (yC Tryz.call71 rfl ?_ (fun _ _ k=>k))
 refine xU (args:= [.pointer (some ⟨f,0,none⟩), .slice a p1.aI.ls.length b, .func (.func 72) #[.pointer (some ⟨f,0,none⟩)] #[]]) Tryz.func71 rfl rfl rfl ?_
 show Wp _ _ _ [(0, .pointer (some ⟨f,0,none⟩)),(1, .slice a p1.aI.ls.length b),(2, .func (.func 72) #[.pointer (some ⟨f,0,none⟩)] #[])] _ _
 refine sr (Mz rfl (Mz rfl (Kz (.int .i64 ((p1.aI.ls.length:Nat):Int)) ?_)))
 refine WL.do rfl (yC Tryz.call19 rfl ?_ (fun _ _ k=>k))
 refine xU (args:= [.pointer (some ⟨f,0,none⟩), .int .i64 ((p1.aI.ls.length:Nat):Int)]) Tryz.func19 rfl rfl rfl ?_
 show Wp _ _ _ [(0, .pointer (some ⟨f,0,none⟩)),(1, .int .i64 ((p1.aI.ls.length:Nat):Int))] _ _
 refine xS (Mz rfl (Mz rfl (fw (.int .u64 ((p1.aI.ls.length:Nat):Int)) (ym (e:=IntKind.u64.wrap ((p1.aI.ls.length:Nat):Int)) yk (IntWalk.u64_in _ (by omega))) ?_)))
 obtain⟨h,B⟩:∃ q,av p p1.aI.ls.length=q:=⟨_,rfl⟩
 obtain⟨bv,R,aS,S,aT⟩:=yu K
 refine cl Tryz.call21 (aN _ _ f p az aA p1.aI.ls.length h R (by first | omega | (dsimp only; omega) | (dsimp only [List.length_cons,List.length_nil]; omega)) B) ?_
 rintro _ bz ⟨aB,aC,rfl,T,C⟩
 have U:=S _ _ T
 have aU:=U.rowC (i:=1) rfl
 replace C:h.xb.ls.length≤p.xb.ls.length+10:=C
 refine xY (yA (res0 rfl) (nt (xS (Mz rfl (Mz rfl ?_)))))
 refine WL.do rfl (yC Tryz.call106 rfl ?_ (fun _ _ k=>k))
 refine xU (args:= [.func (.func 72) #[.pointer (some ⟨f,0,none⟩)] #[], .slice a p1.aI.ls.length b]) Tryz.func106 rfl rfl rfl ?_
 show Wp _ _ _ [(0, .func (.func 72) #[.pointer (some ⟨f,0,none⟩)] #[]),(1, .slice a p1.aI.ls.length b)] _ _
 refine sr (Mz rfl (Kz (.int .i64 ((p1.aI.ls.length:Nat):Int)) (Mn rfl (bo ?_))))
 have aD:=U.pk [0,2,1]
 obtain⟨V,W⟩:∃ q:(Nat × (Option Addr) × Nat × (List UInt8))→World→Prop,q=fun(i:Nat × (Option Addr) × Nat × (List UInt8)) w'=>Own w D w' [blk f [.slice i.2.1 i.2.2.2.length i.2.2.1] 57,blk x [.int .u64 ((p1.aV:Nat):Int), .slice a p1.aI.ls.length b] 66,row i.2.1 i.2.2.2.length i.2.2.1 (List.flatMap eB i.2.2.2) 5 1]∧(i.1≤p1.aI.ls.length∧((i.2.2.2.length:Nat):Int)≤((h.xb.ls.length:Nat):Int)+130 *((i.1:Nat):Int)∧ek p1.aI.ls h.xb.ls=ek (List.drop i.1 p1.aI.ls) i.2.2.2):=⟨_,rfl⟩
 have r:∀ {c:Nat} {l:Option Addr} {m:Nat} {d:List UInt8} {w':World},V (c,l,m,d) w'↔Own w D w' [blk f [.slice l d.length m] 57,blk x [.int .u64 ((p1.aV:Nat):Int), .slice a p1.aI.ls.length b] 66,row l d.length m (List.flatMap eB d) 5 1]∧c≤p1.aI.ls.length∧((d.length:Nat):Int)≤((h.xb.ls.length:Nat):Int)+130 *((c:Nat):Int)∧ek p1.aI.ls h.xb.ls=ek (List.drop c p1.aI.ls) d:=by intros; subst W; exact Iff.rfl
 refine Wp.loop (fun i:Nat × (Option Addr) × Nat × (List UInt8)=> [(8, .int .i64 ((i.1:Nat):Int)),(7, .int .i64 ((p1.aI.ls.length:Nat):Int)),(6, .slice a p1.aI.ls.length b),(0, .func (.func 72) #[.pointer (some ⟨f,0,none⟩)] #[])]) V (fun i=>p1.aI.ls.length - i.1) (0,aB,aC,h.xb.ls) ⟨rfl,rfl,rfl,rfl,trivial⟩ (r.2 ⟨aD,by omega,by omega,rfl⟩) ?_
 rintro ⟨c,l,m,d⟩ bA X
 show Wp _ _ _ [(8, .int .i64 ((c:Nat):Int)),(7, .int .i64 ((p1.aI.ls.length:Nat):Int)),(6, .slice a p1.aI.ls.length b),(0, .func (.func 72) #[.pointer (some ⟨f,0,none⟩)] #[])] _ _
 obtain⟨s,aV,aX,E⟩:=r.1 X
 refine sr (Kz (.bool (decide (((c:Nat):Int) < ((p1.aI.ls.length:Nat):Int)))) (nt (xV ?_)))
 by_cases Y:((c:Nat):Int) < ((p1.aI.ls.length:Nat):Int)
 obtain⟨g,t⟩:=fE (ls:=p1.aI.ls) (i:=c) aW.len (by decide) (s.ro j) (by first | omega | (simp; done) | (simp; omega))
 have Z:g.aY.length≤12∧g.aB.length≤16∧g.aJ.length≤12∧g.aO.length≤12:=J.2.2 _ (List.mem_of_getElem? t)
 have aa:=drop_at t
 refine jT (dT Y) (sk (xV (bo (sr (fw (.pointer (some ⟨ab a,ao a+c *6,none⟩)) (yh (rF) rfl rfl ((s.ro j).addr (i:=c) (by omega)) (by omega)) (fw (.agg (aW.cells g).toArray) (yl rfl (yD (cs:=(aW.cells g)) Tryz.isAgg74 Tryz.sizeOf74 ((s.ro j).elem aW.len t (by decide)))) ?_))))))
 refine dG [.int .i64 0, .string ⟨List.toArray ([])⟩, .string ⟨List.toArray ([])⟩, .string ⟨List.toArray ([])⟩, .string ⟨List.toArray ([])⟩, .int .i64 0] 74 s ?_
 intro bB bC aF
 refine cZ (aW.cells g) 0 aF Tryz.sizeOf74 ?_
 intro bD af
 refine nt (xS (Mz rfl (La (aW.cells g) af 0 Tryz.isAgg74 Tryz.sizeOf74 ?_)))
 have aG:=af.pk [1,3,0,2]
 obtain⟨L,F⟩:∃ q,jA (aK.mk (Ll.mk d)) g=q:=⟨_,rfl⟩
 obtain⟨bE,ag,aY,ah,aZ⟩:=yu aG
 refine WL.do rfl (yB Tryz.call72 rfl rfl (nA _ _ f (aK.mk (Ll.mk d)) l m g L ag (by first | omega | (dsimp only; omega) | (dsimp only [List.length_cons,List.length_nil]; omega)) (by exact Z) F) ?_)
 rintro _ bF ⟨aH,aI,rfl,ai,G⟩
 have aj:=ah _ _ ai
 have bf:=aj.rowC (i:=1) rfl
 replace G:L.xb.ls.length≤d.length+130:=G
 refine xY (bN (yg (xS (fw (.int .i64 ((c+1:Nat):Int)) (ym (e:=IntKind.i64.wrap (((c:Nat):Int)+1)) yk (by rw [A8 _ (by omega)]; omega)) (Mz rfl (xY ?_))))))
 have aJ:=aj.pk [0,3,1]
 exact yE (c+1,aH,aI,L.xb.ls) ⟨rfl,rfl,rfl,rfl,trivial⟩ (r.2 ⟨aJ,by omega,by omega,et (E) (et (congrArg (fun q=>ek q d) aa) (ae F))⟩) (by show p1.aI.ls.length - (c+1) < p1.aI.ls.length - c; omega)
 refine jF (dF Y) (Wp.exit (xX ?_))
 have ak:ek p1.aI.ls h.xb.ls=d:=et (E) (et (congrArg (fun q=>ek q d) (fG (ls:=p1.aI.ls) (i:=c) (by omega))) rfl)
 refine xX (yx (yA (res0 rfl) (xY (yA (res0 rfl) (xY (yA (res0 rfl) ?_))))))
 have aL:=s.pk [0,2]
 obtain rfl:_=aK.mk (Ll.mk d):=hr.symm.trans (et (ae z) (et (ae B) (ae ak)))
 exact⟨l,m,rfl,aL,(by first | omega | (simp only [List.length_cons,List.length_nil,List.length_append]; omega))⟩
def dH:List Int→List UInt8→(List UInt8)
  | [],a=>a
  | c::d,a=>bnd (av (aK.mk (Ll.mk a)) (Int.toNat (IntKind.u64.wrap c))) fun b=>dH d b.xb.ls
def iC (f:aK) (p1:bJ):aK:=
 bnd (av f p1.aV) fun a=>bnd (av a (Int.toNat (IntKind.u64.wrap p1.aG))) fun b=>bnd (av b p1.az) fun c=>bnd (av c p1.bU) fun d=>bnd (av d p1.af.ls.length) fun e=>bnd (dH p1.af.ls e.xb.ls) fun sLrbbbbbL=>aK.mk (Ll.mk sLrbbbbbL)
set_option maxHeartbeats 1000000 in
theorem lI (w:World) (D:Nat→Prop) (f:Nat) (K:aK) (s:Option Addr) (t:Nat) (p1:bJ) (b:Option Addr) (O c:Nat) (r0:aK) (H:Own w D w [blk f [.slice s K.xb.ls.length t] 57,row s K.xb.ls.length t (List.flatMap eB K.xb.ls) 5 1]) (af:O=p1.af.ls.length) (o:Ro w D fun w'=>bu w' 1 b p1.af.ls.length (List.flatMap (eI .i64) p1.af.ls)) (bv:p1.af.ls.length≤c∧p1.af.ls.length≤9223372036854775807) (dE:K.xb.ls.length≤7000000000) (L:(p1.aV≤18446744073709551615∧p1.az≤18446744073709551615∧p1.bU≤18446744073709551615∧p1.af.ls.length≤4)) (hr:iC K p1=r0):
    Calls Tryz.prog 33 #[.pointer (some ⟨f,0,none⟩), .agg #[.int .u64 ((p1.aV:Nat):Int), .int .i64 p1.aG, .int .u64 ((p1.az:Nat):Int), .int .u64 ((p1.bU:Nat):Int), .slice b O c]] w (dC fun v w'=> ∃ (B0ox0:Option Addr) (b0ox0:Nat),v= .tuple #[]∧Own w D w' [blk f [.slice B0ox0 r0.xb.ls.length b0ox0] 57,row B0ox0 r0.xb.ls.length b0ox0 (List.flatMap eB r0.xb.ls) 5 1]∧(r0.xb.ls.length≤K.xb.ls.length+100)):=by
 subst af
 have bz:=H.rowC (i:=1) rfl
 have bV:=L.1
 have bW:=L.2.1
 have bX:=L.2.2.1
 have bY:=L.2.2.2
 refine xU (args:= [.pointer (some ⟨f,0,none⟩), .agg #[.int .u64 ((p1.aV:Nat):Int), .int .i64 p1.aG, .int .u64 ((p1.az:Nat):Int), .int .u64 ((p1.bU:Nat):Int), .slice b p1.af.ls.length c]]) Tryz.func33 rfl rfl rfl ?_
 show Wp _ _ _ [(0, .pointer (some ⟨f,0,none⟩)),(1, .agg #[.int .u64 ((p1.aV:Nat):Int), .int .i64 p1.aG, .int .u64 ((p1.az:Nat):Int), .int .u64 ((p1.bU:Nat):Int), .slice b p1.af.ls.length c])] _ _
 refine sr ?_
 refine dG [.int .u64 ((p1.aV:Nat):Int), .int .i64 p1.aG, .int .u64 ((p1.az:Nat):Int), .int .u64 ((p1.bU:Nat):Int), .slice b p1.af.ls.length c] 79 H ?_
 intro p dI aA
 refine ns (Mz rfl (Kz (.pointer (some ⟨p,0,none⟩)) (Lz (.int .u64 ((p1.aV:Nat):Int)) aA 0 Tryz.isAgg22 ?_)))
 have bA:=aA.pk [1,2,0]
 obtain⟨u,P⟩:∃ q,av K p1.aV=q:=⟨_,rfl⟩
 obtain⟨dJ,aB,bZ,aC,cu⟩:=yu bA
 refine cl Tryz.call21 (aN _ _ f K s t p1.aV u aB (by first | omega | (dsimp only; omega) | (dsimp only [List.length_cons,List.length_nil]; omega)) P) ?_
 rintro _ dK ⟨bB,bC,rfl,aD,Q⟩
 have ag:=aC _ _ aD
 have cz:=ag.rowC (i:=1) rfl
 replace Q:u.xb.ls.length≤K.xb.ls.length+10:=Q
 refine ns (Mz rfl (Kz (.pointer (some ⟨p,1,none⟩)) (Lz (.int .i64 p1.aG) ag 2 Tryz.isAgg3 ?_)))
 refine WL.do rfl (yC Tryz.call19 rfl ?_ (fun _ _ k=>k))
 refine xU (args:= [.pointer (some ⟨f,0,none⟩), .int .i64 p1.aG]) Tryz.func19 rfl rfl rfl ?_
 show Wp _ _ _ [(0, .pointer (some ⟨f,0,none⟩)),(1, .int .i64 p1.aG)] _ _
 refine xS (Mz rfl (Mz rfl ?_))
 have cB:Int.toNat (IntKind.u64.wrap p1.aG)≤18446744073709551615:=jG _
 refine fw (.int .u64 ((Int.toNat (IntKind.u64.wrap p1.aG):Nat):Int)) (ym (e:=IntKind.u64.wrap p1.aG) yk (fJ _)) ?_
 obtain⟨x,R⟩:∃ q,av u (Int.toNat (IntKind.u64.wrap p1.aG))=q:=⟨_,rfl⟩
 obtain⟨dL,aF,cK,aG,cO⟩:=yu ag
 refine cl Tryz.call21 (aN _ _ f u bB bC (Int.toNat (IntKind.u64.wrap p1.aG)) x aF (by first | omega | (dsimp only; omega) | (dsimp only [List.length_cons,List.length_nil]; omega)) R) ?_
 rintro _ dM ⟨bD,bE,rfl,aH,S⟩
 have M:=aG _ _ aH
 have cZ:=M.rowC (i:=1) rfl
 replace S:x.xb.ls.length≤u.xb.ls.length+10:=S
 refine xY (yA (res0 rfl) (ns (Mz rfl (Kz (.func (.func 21) #[.pointer (some ⟨f,0,none⟩)] #[]) (Kz (.pointer (some ⟨p,2,none⟩)) (Lz (.int .u64 ((p1.az:Nat):Int)) M 2 Tryz.isAgg22 (Kz (.pointer (some ⟨p,3,none⟩)) (Lz (.int .u64 ((p1.bU:Nat):Int)) M 2 Tryz.isAgg22 ?_))))))))
 refine jR [.int .u64 ((p1.az:Nat):Int), .int .u64 ((p1.bU:Nat):Int)] 22 1 2 M ?_
 intro l dN z
 replace z:=yR (y:=row l 2 2 (List.flatMap (eN .u64) ([p1.az,p1.bU])) 22 1) rfl z
 refine WL.do rfl (yC Tryz.call20 rfl ?_ (fun _ _ k=>k))
 refine xU (args:= [.func (.func 21) #[.pointer (some ⟨f,0,none⟩)] #[], .slice l 2 2]) Tryz.func20 rfl rfl rfl ?_
 show Wp _ _ _ [(0, .func (.func 21) #[.pointer (some ⟨f,0,none⟩)] #[]),(1, .slice l 2 2)] _ _
 refine sr (Mz rfl (Kz (.int .i64 2) (Mn rfl (bo (zb 200 (sr (Kz (.bool true) (nt (xV (jt (sk (xV (bo (sr ?_))))))))))))))
 have aI:([p1.az,p1.bU]:List Nat)[0]? =some p1.az:=rfl
 refine fw (.pointer (some ⟨ab l,ao l+0 *1,none⟩)) (yh (jL) rfl rfl ((z.rds (i:=0) rfl).addr (i:=0) (by omega)) (by omega)) (fw (.int .u64 ((p1.az:Nat):Int)) (yl rfl (bH.one Tryz.isAgg22 (((z.rds (i:=0) rfl).elem gW aI (by decide)).at_ (k:=0) rfl))) (An rfl (xS (Mz rfl (Mz rfl ?_)))))
 have bF:=z.pk [1,2,0,3]
 obtain⟨A,T⟩:∃ q,av x p1.az=q:=⟨_,rfl⟩
 obtain⟨dO,aJ,df,aL,dh⟩:=yu bF
 refine WL.do rfl (yB Tryz.call21 rfl rfl (aN _ _ f x bD bE p1.az A aJ (by first | omega | (dsimp only; omega) | (dsimp only [List.length_cons,List.length_nil]; omega)) T) ?_)
 rintro _ dP ⟨bG,bI,rfl,aM,U⟩
 have N:=aL _ _ aM
 have di:=N.rowC (i:=1) rfl
 replace U:A.xb.ls.length≤x.xb.ls.length+10:=U
 refine xY (bN (yg (xS (Kz (.int .i64 1) (Mz rfl (xY (yN [(8, .int .i64 1),(7, .int .i64 2),(6, .slice l 2 2),(0, .func (.func 21) #[.pointer (some ⟨f,0,none⟩)] #[])] ⟨rfl,rfl,rfl,rfl,trivial⟩ (sr (Kz (.bool true) (nt (xV (jt (sk (xV (bo (sr ?_))))))))))))))))
 have aO:([p1.az,p1.bU]:List Nat)[1]? =some p1.bU:=rfl
 refine fw (.pointer (some ⟨ab l,ao l+1 *1,none⟩)) (yh (jL) rfl rfl ((N.rds (i:=2) rfl).addr (i:=1) (by omega)) (by omega)) (fw (.int .u64 ((p1.bU:Nat):Int)) (yl rfl (bH.one Tryz.isAgg22 (((N.rds (i:=2) rfl).elem gW aO (by decide)).at_ (k:=0) rfl))) (An rfl (xS (Mz rfl (Mz rfl ?_)))))
 obtain⟨B,V⟩:∃ q,av A p1.bU=q:=⟨_,rfl⟩
 obtain⟨dQ,aP,dm,aQ,dn⟩:=yu N
 refine WL.do rfl (yB Tryz.call21 rfl rfl (aN _ _ f A bG bI p1.bU B aP (by first | omega | (dsimp only; omega) | (dsimp only [List.length_cons,List.length_nil]; omega)) V) ?_)
 rintro _ dR ⟨bK,bL,rfl,aR,W⟩
 have aS:=aQ _ _ aR
 have dw:=aS.rowC (i:=1) rfl
 replace W:B.xb.ls.length≤A.xb.ls.length+10:=W
 refine xY (bN (yg (xS (Kz (.int .i64 2) (Mz rfl (xY (yN [(8, .int .i64 2),(7, .int .i64 2),(6, .slice l 2 2),(0, .func (.func 21) #[.pointer (some ⟨f,0,none⟩)] #[])] ⟨rfl,rfl,rfl,rfl,trivial⟩ (sr (Kz (.bool false) (nt (xV (jf (Wp.exit (xX (xX (yx (yA (res0 rfl) (nt ?_))))))))))))))))))
 have aT:=aS.pk [0,1,3]
 refine xS (Mz rfl (Kz (.pointer (some ⟨p,4,none⟩)) (Lz (.slice b p1.af.ls.length c) aT 2 Tryz.isAgg77 (Mz rfl (Kz (.func (.func 19) #[.pointer (some ⟨f,0,none⟩)] #[]) ?_)))))
 refine WL.do rfl (yC Tryz.call77 rfl ?_ (fun _ _ k=>k))
 refine xU (args:= [.pointer (some ⟨f,0,none⟩), .slice b p1.af.ls.length c, .func (.func 19) #[.pointer (some ⟨f,0,none⟩)] #[]]) Tryz.func77 rfl rfl rfl ?_
 show Wp _ _ _ [(0, .pointer (some ⟨f,0,none⟩)),(1, .slice b p1.af.ls.length c),(2, .func (.func 19) #[.pointer (some ⟨f,0,none⟩)] #[])] _ _
 refine sr (Mz rfl (Mz rfl (Kz (.int .i64 ((p1.af.ls.length:Nat):Int)) ?_)))
 refine WL.do rfl (yC Tryz.call19 rfl ?_ (fun _ _ k=>k))
 refine xU (args:= [.pointer (some ⟨f,0,none⟩), .int .i64 ((p1.af.ls.length:Nat):Int)]) Tryz.func19 rfl rfl rfl ?_
 show Wp _ _ _ [(0, .pointer (some ⟨f,0,none⟩)),(1, .int .i64 ((p1.af.ls.length:Nat):Int))] _ _
 refine xS (Mz rfl (Mz rfl (fw (.int .u64 ((p1.af.ls.length:Nat):Int)) (ym (e:=IntKind.u64.wrap ((p1.af.ls.length:Nat):Int)) yk (IntWalk.u64_in _ (by omega))) ?_)))
 obtain⟨m,X⟩:∃ q,av B p1.af.ls.length=q:=⟨_,rfl⟩
 obtain⟨dS,aU,dx,aV,dz⟩:=yu aT
 refine cl Tryz.call21 (aN _ _ f B bK bL p1.af.ls.length m aU (by first | omega | (dsimp only; omega) | (dsimp only [List.length_cons,List.length_nil]; omega)) X) ?_
 rintro _ dU ⟨bM,aW,rfl,aX,C⟩
 have aY:=aV _ _ aX
 have bO:=aY.rowC (i:=1) rfl
 replace C:m.xb.ls.length≤B.xb.ls.length+10:=C
 refine xY (yA (res0 rfl) (nt (xS (Mz rfl (Mz rfl ?_)))))
 refine WL.do rfl (yC Tryz.call107 rfl ?_ (fun _ _ k=>k))
 refine xU (args:= [.func (.func 19) #[.pointer (some ⟨f,0,none⟩)] #[], .slice b p1.af.ls.length c]) Tryz.func107 rfl rfl rfl ?_
 show Wp _ _ _ [(0, .func (.func 19) #[.pointer (some ⟨f,0,none⟩)] #[]),(1, .slice b p1.af.ls.length c)] _ _
 refine sr (Mz rfl (Kz (.int .i64 ((p1.af.ls.length:Nat):Int)) (Mn rfl (bo ?_))))
 have aZ:=aY.pk [0,2,1]
 obtain⟨Y,ah⟩:∃ q:(Nat × (Option Addr) × Nat × (List UInt8))→World→Prop,q=fun(i:Nat × (Option Addr) × Nat × (List UInt8)) w'=>Own w D w' [blk f [.slice i.2.1 i.2.2.2.length i.2.2.1] 57,blk p [.int .u64 ((p1.aV:Nat):Int), .int .i64 p1.aG, .int .u64 ((p1.az:Nat):Int), .int .u64 ((p1.bU:Nat):Int), .slice b p1.af.ls.length c] 79,row i.2.1 i.2.2.2.length i.2.2.1 (List.flatMap eB i.2.2.2) 5 1]∧(i.1≤p1.af.ls.length∧((i.2.2.2.length:Nat):Int)≤((m.xb.ls.length:Nat):Int)+10 *((i.1:Nat):Int)∧dH p1.af.ls m.xb.ls=dH (List.drop i.1 p1.af.ls) i.2.2.2):=⟨_,rfl⟩
 have r:∀ {a:Nat} {h:Option Addr} {j:Nat} {d:List UInt8} {w':World},Y (a,h,j,d) w'↔Own w D w' [blk f [.slice h d.length j] 57,blk p [.int .u64 ((p1.aV:Nat):Int), .int .i64 p1.aG, .int .u64 ((p1.az:Nat):Int), .int .u64 ((p1.bU:Nat):Int), .slice b p1.af.ls.length c] 79,row h d.length j (List.flatMap eB d) 5 1]∧a≤p1.af.ls.length∧((d.length:Nat):Int)≤((m.xb.ls.length:Nat):Int)+10 *((a:Nat):Int)∧dH p1.af.ls m.xb.ls=dH (List.drop a p1.af.ls) d:=by intros; subst ah; exact Iff.rfl
 refine Wp.loop (fun i:Nat × (Option Addr) × Nat × (List UInt8)=> [(8, .int .i64 ((i.1:Nat):Int)),(7, .int .i64 ((p1.af.ls.length:Nat):Int)),(6, .slice b p1.af.ls.length c),(0, .func (.func 19) #[.pointer (some ⟨f,0,none⟩)] #[])]) Y (fun i=>p1.af.ls.length - i.1) (0,bM,aW,m.xb.ls) ⟨rfl,rfl,rfl,rfl,trivial⟩ (r.2 ⟨aZ,by omega,by omega,rfl⟩) ?_
 rintro ⟨a,h,j,d⟩ dA ai
 show Wp _ _ _ [(8, .int .i64 ((a:Nat):Int)),(7, .int .i64 ((p1.af.ls.length:Nat):Int)),(6, .slice b p1.af.ls.length c),(0, .func (.func 19) #[.pointer (some ⟨f,0,none⟩)] #[])] _ _
 obtain⟨n,bP,bQ,E⟩:=r.1 ai
 refine sr (Kz (.bool (decide (((a:Nat):Int) < ((p1.af.ls.length:Nat):Int)))) (nt (xV ?_)))
 by_cases Z:((a:Nat):Int) < ((p1.af.ls.length:Nat):Int)
 obtain⟨g,F⟩:=fE (ls:=p1.af.ls) (i:=a) jY (by decide) (n.ro o) (by first | omega | (simp; done) | (simp; omega))
 have aj:=drop_at F
 refine jT (dT Z) (sk (xV (bo (sr (fw (.pointer (some ⟨ab b,ao b+a *1,none⟩)) (yh (pU) rfl rfl ((n.ro o).addr (i:=a) (by omega)) (by omega)) (fw (.int .i64 g) (yl rfl (bH.one Tryz.isAgg3 (((n.ro o).elem jY F (by decide)).at_ (k:=0) rfl))) (An rfl (xS (Mz rfl (Mz rfl ?_))))))))))
 refine WL.do rfl (yB Tryz.call19 rfl rfl ?_ (fun _ _ k=>k))
 refine xU (args:= [.pointer (some ⟨f,0,none⟩), .int .i64 g]) Tryz.func19 rfl rfl rfl ?_
 show Wp _ _ _ [(0, .pointer (some ⟨f,0,none⟩)),(1, .int .i64 g)] _ _
 refine xS (Mz rfl (Mz rfl ?_))
 have bR:Int.toNat (IntKind.u64.wrap g)≤18446744073709551615:=jG _
 refine fw (.int .u64 ((Int.toNat (IntKind.u64.wrap g):Nat):Int)) (ym (e:=IntKind.u64.wrap g) yk (fJ _)) ?_
 have bf:=n.pk [0,2,1]
 obtain⟨G,I⟩:∃ q,av (aK.mk (Ll.mk d)) (Int.toNat (IntKind.u64.wrap g))=q:=⟨_,rfl⟩
 obtain⟨dB,ak,bS,au,bT⟩:=yu bf
 refine cl Tryz.call21 (aN _ _ f (aK.mk (Ll.mk d)) h j (Int.toNat (IntKind.u64.wrap g)) G ak (by first | omega | (dsimp only; omega) | (dsimp only [List.length_cons,List.length_nil]; omega)) I) ?_
 rintro _ dD ⟨bg,bi,rfl,ax,J⟩
 have aa:=au _ _ ax
 have bU:=aa.rowC (i:=1) rfl
 replace J:G.xb.ls.length≤d.length+10:=J
 refine xY (yA (res0 rfl) (xY (bN (yg (xS (fw (.int .i64 ((a+1:Nat):Int)) (ym (e:=IntKind.i64.wrap (((a:Nat):Int)+1)) yk (by rw [A8 _ (by omega)]; omega)) (Mz rfl (xY ?_))))))))
 have bn:=aa.pk [0,2,1]
 exact yE (a+1,bg,bi,G.xb.ls) ⟨rfl,rfl,rfl,rfl,trivial⟩ (r.2 ⟨bn,by omega,by omega,et (E) (et (congrArg (fun q=>dH q d) aj) (ae I))⟩) (by show p1.af.ls.length - (a+1) < p1.af.ls.length - a; omega)
 refine jF (dF Z) (Wp.exit (xX ?_))
 have ay:dH p1.af.ls m.xb.ls=d:=et (E) (et (congrArg (fun q=>dH q d) (fG (ls:=p1.af.ls) (i:=a) (by omega))) rfl)
 refine xX (yx (yA (res0 rfl) (xY (yA (res0 rfl) (xY (yA (res0 rfl) ?_))))))
 have bq:=n.pk [0,2]
 obtain rfl:_=aK.mk (Ll.mk d):=hr.symm.trans (et (ae P) (et (ae R) (et (ae T) (et (ae V) (et (ae X) (ae ay))))))
 exact⟨h,j,rfl,bq,(by first | omega | (simp only [List.length_cons,List.length_nil,List.length_append]; omega))⟩
def eu:List df→List UInt8→(List UInt8)
  | [],b=>b
  | a::d,b=>bnd (iV (aK.mk (Ll.mk b)) (df.mk a.dZ a.aB (Ll.mk a.ay.ls))) fun c=>eu d c.xb.ls
def ji (e:aK) (p1:dX):aK:=
 bnd (av e (Int.toNat (IntKind.u64.wrap p1.aG))) fun a=>bnd (av a p1.az) fun b=>bnd (av b p1.bU) fun c=>bnd (av c p1.ah.ls.length) fun d=>bnd (eu p1.ah.ls d.xb.ls) fun sLrbbbbL=>aK.mk (Ll.mk sLrbbbbL)
set_option maxHeartbeats 1000000 in
theorem mM (w:World) (D:Nat→Prop) (g:Nat) (R:aK) (B:Option Addr) (C:Nat) (p1:dX) (b:Option Addr) (V d:Nat) (r:List aA) (r0:aK) (H:Own w D w [blk g [.slice B R.xb.ls.length C] 57,row B R.xb.ls.length C (List.flatMap eB R.xb.ls) 5 1]) (E:List.map xZ r=p1.ah.ls) (au:V=p1.ah.ls.length) (n:Ro w D fun w'=>bu w' 3 b p1.ah.ls.length (List.flatMap aA.cells r)) (bG:p1.ah.ls.length≤d∧p1.ah.ls.length≤9223372036854775807) (F:∀ x ∈ r,Ro w D (fun w'=>bu w' 2 x.ay.A x.ay.ls.length (List.flatMap bB.cells x.ay.ls))∧(x.ay.ls.length≤x.ay.c∧x.ay.ls.length≤9223372036854775807)) (dN:R.xb.ls.length≤6000000000) (S:(p1.az≤18446744073709551615∧p1.bU≤18446744073709551615∧p1.ah.ls.length≤24∧∀ z ∈ p1.ah.ls,z.aB.length≤16∧z.ay.ls.length≤4∧∀ q ∈ z.ay.ls,q.aY.length≤12∧q.aB.length≤16)) (hr:ji R p1=r0):
    Calls Tryz.prog 35 #[.pointer (some ⟨g,0,none⟩), .agg #[.int .i64 p1.aG, .int .u64 ((p1.az:Nat):Int), .int .u64 ((p1.bU:Nat):Int), .slice b V d]] w (dC fun v w'=> ∃ (B0ox0:Option Addr) (b0ox0:Nat),v= .tuple #[]∧Own w D w' [blk g [.slice B0ox0 r0.xb.ls.length b0ox0] 57,row B0ox0 r0.xb.ls.length b0ox0 (List.flatMap eB r0.xb.ls) 5 1]∧(r0.xb.ls.length≤R.xb.ls.length+8000)):=by
 subst au
 have hdl1x0:=bV E
 have bI:=H.rowC (i:=1) rfl
 have cz:=S.1
 have cB:=S.2.1
 have cK:=S.2.2.1
 refine xU (args:= [.pointer (some ⟨g,0,none⟩), .agg #[.int .i64 p1.aG, .int .u64 ((p1.az:Nat):Int), .int .u64 ((p1.bU:Nat):Int), .slice b p1.ah.ls.length d]]) Tryz.func35 rfl rfl rfl ?_
 show Wp _ _ _ [(0, .pointer (some ⟨g,0,none⟩)),(1, .agg #[.int .i64 p1.aG, .int .u64 ((p1.az:Nat):Int), .int .u64 ((p1.bU:Nat):Int), .slice b p1.ah.ls.length d])] _ _
 refine sr ?_
 refine dG [.int .i64 p1.aG, .int .u64 ((p1.az:Nat):Int), .int .u64 ((p1.bU:Nat):Int), .slice b p1.ah.ls.length d] 84 H ?_
 intro s dO aJ
 refine ns (Mz rfl (Kz (.pointer (some ⟨s,0,none⟩)) (Lz (.int .i64 p1.aG) aJ 0 Tryz.isAgg3 ?_)))
 refine WL.do rfl (yC Tryz.call19 rfl ?_ (fun _ _ k=>k))
 refine xU (args:= [.pointer (some ⟨g,0,none⟩), .int .i64 p1.aG]) Tryz.func19 rfl rfl rfl ?_
 show Wp _ _ _ [(0, .pointer (some ⟨g,0,none⟩)),(1, .int .i64 p1.aG)] _ _
 refine xS (Mz rfl (Mz rfl ?_))
 have cO:Int.toNat (IntKind.u64.wrap p1.aG)≤18446744073709551615:=jG _
 refine fw (.int .u64 ((Int.toNat (IntKind.u64.wrap p1.aG):Nat):Int)) (ym (e:=IntKind.u64.wrap p1.aG) yk (fJ _)) ?_
 have bJ:=aJ.pk [1,2,0]
 obtain⟨G,W⟩:∃ q,av R (Int.toNat (IntKind.u64.wrap p1.aG))=q:=⟨_,rfl⟩
 obtain⟨dP,aL,dh,aM,di⟩:=yu bJ
 refine cl Tryz.call21 (aN _ _ g R B C (Int.toNat (IntKind.u64.wrap p1.aG)) G aL (by first | omega | (dsimp only; omega) | (dsimp only [List.length_cons,List.length_nil]; omega)) W) ?_
 rintro _ dQ ⟨bK,bL,rfl,aO,X⟩
 have T:=aM _ _ aO
 have dm:=T.rowC (i:=1) rfl
 replace X:G.xb.ls.length≤R.xb.ls.length+10:=X
 refine xY (yA (res0 rfl) (ns (Mz rfl (Kz (.func (.func 21) #[.pointer (some ⟨g,0,none⟩)] #[]) (Kz (.pointer (some ⟨s,1,none⟩)) (Lz (.int .u64 ((p1.az:Nat):Int)) T 2 Tryz.isAgg22 (Kz (.pointer (some ⟨s,2,none⟩)) (Lz (.int .u64 ((p1.bU:Nat):Int)) T 2 Tryz.isAgg22 ?_))))))))
 refine jR [.int .u64 ((p1.az:Nat):Int), .int .u64 ((p1.bU:Nat):Int)] 22 1 2 T ?_
 intro j dR I
 replace I:=yR (y:=row j 2 2 (List.flatMap (eN .u64) ([p1.az,p1.bU])) 22 1) rfl I
 refine WL.do rfl (yC Tryz.call20 rfl ?_ (fun _ _ k=>k))
 refine xU (args:= [.func (.func 21) #[.pointer (some ⟨g,0,none⟩)] #[], .slice j 2 2]) Tryz.func20 rfl rfl rfl ?_
 show Wp _ _ _ [(0, .func (.func 21) #[.pointer (some ⟨g,0,none⟩)] #[]),(1, .slice j 2 2)] _ _
 refine sr (Mz rfl (Kz (.int .i64 2) (Mn rfl (bo (zb 200 (sr (Kz (.bool true) (nt (xV (jt (sk (xV (bo (sr ?_))))))))))))))
 have aP:([p1.az,p1.bU]:List Nat)[0]? =some p1.az:=rfl
 refine fw (.pointer (some ⟨ab j,ao j+0 *1,none⟩)) (yh (jL) rfl rfl ((I.rds (i:=0) rfl).addr (i:=0) (by omega)) (by omega)) (fw (.int .u64 ((p1.az:Nat):Int)) (yl rfl (bH.one Tryz.isAgg22 (((I.rds (i:=0) rfl).elem gW aP (by decide)).at_ (k:=0) rfl))) (An rfl (xS (Mz rfl (Mz rfl ?_)))))
 have bM:=I.pk [1,2,0,3]
 obtain⟨J,Y⟩:∃ q,av G p1.az=q:=⟨_,rfl⟩
 obtain⟨dS,aQ,dn,aR,dw⟩:=yu bM
 refine WL.do rfl (yB Tryz.call21 rfl rfl (aN _ _ g G bK bL p1.az J aQ (by first | omega | (dsimp only; omega) | (dsimp only [List.length_cons,List.length_nil]; omega)) Y) ?_)
 rintro _ dU ⟨bO,bP,rfl,aS,Z⟩
 have U:=aR _ _ aS
 have dx:=U.rowC (i:=1) rfl
 replace Z:J.xb.ls.length≤G.xb.ls.length+10:=Z
 refine xY (bN (yg (xS (Kz (.int .i64 1) (Mz rfl (xY (yN [(8, .int .i64 1),(7, .int .i64 2),(6, .slice j 2 2),(0, .func (.func 21) #[.pointer (some ⟨g,0,none⟩)] #[])] ⟨rfl,rfl,rfl,rfl,trivial⟩ (sr (Kz (.bool true) (nt (xV (jt (sk (xV (bo (sr ?_))))))))))))))))
 have aT:([p1.az,p1.bU]:List Nat)[1]? =some p1.bU:=rfl
 refine fw (.pointer (some ⟨ab j,ao j+1 *1,none⟩)) (yh (jL) rfl rfl ((U.rds (i:=2) rfl).addr (i:=1) (by omega)) (by omega)) (fw (.int .u64 ((p1.bU:Nat):Int)) (yl rfl (bH.one Tryz.isAgg22 (((U.rds (i:=2) rfl).elem gW aT (by decide)).at_ (k:=0) rfl))) (An rfl (xS (Mz rfl (Mz rfl ?_)))))
 obtain⟨K,aa⟩:∃ q,av J p1.bU=q:=⟨_,rfl⟩
 obtain⟨dV,aU,dz,aV,dA⟩:=yu U
 refine WL.do rfl (yB Tryz.call21 rfl rfl (aN _ _ g J bO bP p1.bU K aU (by first | omega | (dsimp only; omega) | (dsimp only [List.length_cons,List.length_nil]; omega)) aa) ?_)
 rintro _ dW ⟨bQ,bR,rfl,aW,af⟩
 have aX:=aV _ _ aW
 have dB:=aX.rowC (i:=1) rfl
 replace af:K.xb.ls.length≤J.xb.ls.length+10:=af
 refine xY (bN (yg (xS (Kz (.int .i64 2) (Mz rfl (xY (yN [(8, .int .i64 2),(7, .int .i64 2),(6, .slice j 2 2),(0, .func (.func 21) #[.pointer (some ⟨g,0,none⟩)] #[])] ⟨rfl,rfl,rfl,rfl,trivial⟩ (sr (Kz (.bool false) (nt (xV (jf (Wp.exit (xX (xX (yx (yA (res0 rfl) (nt ?_))))))))))))))))))
 have aY:=aX.pk [0,1,3]
 refine xS (Mz rfl (Kz (.pointer (some ⟨s,3,none⟩)) (Lz (.slice b p1.ah.ls.length d) aY 2 Tryz.isAgg82 (Mz rfl (Kz (.func (.func 80) #[.pointer (some ⟨g,0,none⟩)] #[]) ?_)))))
 refine WL.do rfl (yC Tryz.call79 rfl ?_ (fun _ _ k=>k))
 refine xU (args:= [.pointer (some ⟨g,0,none⟩), .slice b p1.ah.ls.length d, .func (.func 80) #[.pointer (some ⟨g,0,none⟩)] #[]]) Tryz.func79 rfl rfl rfl ?_
 show Wp _ _ _ [(0, .pointer (some ⟨g,0,none⟩)),(1, .slice b p1.ah.ls.length d),(2, .func (.func 80) #[.pointer (some ⟨g,0,none⟩)] #[])] _ _
 refine sr (Mz rfl (Mz rfl (Kz (.int .i64 ((p1.ah.ls.length:Nat):Int)) ?_)))
 refine WL.do rfl (yC Tryz.call19 rfl ?_ (fun _ _ k=>k))
 refine xU (args:= [.pointer (some ⟨g,0,none⟩), .int .i64 ((p1.ah.ls.length:Nat):Int)]) Tryz.func19 rfl rfl rfl ?_
 show Wp _ _ _ [(0, .pointer (some ⟨g,0,none⟩)),(1, .int .i64 ((p1.ah.ls.length:Nat):Int))] _ _
 refine xS (Mz rfl (Mz rfl (fw (.int .u64 ((p1.ah.ls.length:Nat):Int)) (ym (e:=IntKind.u64.wrap ((p1.ah.ls.length:Nat):Int)) yk (IntWalk.u64_in _ (by omega))) ?_)))
 obtain⟨m,ag⟩:∃ q,av K p1.ah.ls.length=q:=⟨_,rfl⟩
 obtain⟨dY,aZ,dD,bf,dE⟩:=yu aY
 refine cl Tryz.call21 (aN _ _ g K bQ bR p1.ah.ls.length m aZ (by first | omega | (dsimp only; omega) | (dsimp only [List.length_cons,List.length_nil]; omega)) ag) ?_
 rintro _ dZ ⟨bS,bT,rfl,bg,ah⟩
 have bi:=bf _ _ bg
 have dH:=bi.rowC (i:=1) rfl
 replace ah:m.xb.ls.length≤K.xb.ls.length+10:=ah
 refine xY (yA (res0 rfl) (nt (xS (Mz rfl (Mz rfl ?_)))))
 refine WL.do rfl (yC Tryz.call108 rfl ?_ (fun _ _ k=>k))
 refine xU (args:= [.func (.func 80) #[.pointer (some ⟨g,0,none⟩)] #[], .slice b p1.ah.ls.length d]) Tryz.func108 rfl rfl rfl ?_
 show Wp _ _ _ [(0, .func (.func 80) #[.pointer (some ⟨g,0,none⟩)] #[]),(1, .slice b p1.ah.ls.length d)] _ _
 refine sr (Mz rfl (Kz (.int .i64 ((p1.ah.ls.length:Nat):Int)) (Mn rfl (bo ?_))))
 have bU:=bi.pk [0,2,1]
 obtain⟨bn,bq⟩:∃ q:(Nat × (Option Addr) × Nat × (List UInt8))→World→Prop,q=fun(i:Nat × (Option Addr) × Nat × (List UInt8)) w'=>Own w D w' [blk g [.slice i.2.1 i.2.2.2.length i.2.2.1] 57,blk s [.int .i64 p1.aG, .int .u64 ((p1.az:Nat):Int), .int .u64 ((p1.bU:Nat):Int), .slice b p1.ah.ls.length d] 84,row i.2.1 i.2.2.2.length i.2.2.1 (List.flatMap eB i.2.2.2) 5 1]∧(i.1≤p1.ah.ls.length∧((i.2.2.2.length:Nat):Int)≤((m.xb.ls.length:Nat):Int)+300 *((i.1:Nat):Int)∧eu p1.ah.ls m.xb.ls=eu (List.drop i.1 p1.ah.ls) i.2.2.2):=⟨_,rfl⟩
 have o:∀ {f:Nat} {t:Option Addr} {u:Nat} {h:List UInt8} {w':World},bn (f,t,u,h) w'↔Own w D w' [blk g [.slice t h.length u] 57,blk s [.int .i64 p1.aG, .int .u64 ((p1.az:Nat):Int), .int .u64 ((p1.bU:Nat):Int), .slice b p1.ah.ls.length d] 84,row t h.length u (List.flatMap eB h) 5 1]∧f≤p1.ah.ls.length∧((h.length:Nat):Int)≤((m.xb.ls.length:Nat):Int)+300 *((f:Nat):Int)∧eu p1.ah.ls m.xb.ls=eu (List.drop f p1.ah.ls) h:=by intros; subst bq; exact Iff.rfl
 refine Wp.loop (fun i:Nat × (Option Addr) × Nat × (List UInt8)=> [(8, .int .i64 ((i.1:Nat):Int)),(7, .int .i64 ((p1.ah.ls.length:Nat):Int)),(6, .slice b p1.ah.ls.length d),(0, .func (.func 80) #[.pointer (some ⟨g,0,none⟩)] #[])]) bn (fun i=>p1.ah.ls.length - i.1) (0,bS,bT,m.xb.ls) ⟨rfl,rfl,rfl,rfl,trivial⟩ (o.2 ⟨bU,by omega,by omega,rfl⟩) ?_
 rintro ⟨f,t,u,h⟩ d9 bv
 show Wp _ _ _ [(8, .int .i64 ((f:Nat):Int)),(7, .int .i64 ((p1.ah.ls.length:Nat):Int)),(6, .slice b p1.ah.ls.length d),(0, .func (.func 80) #[.pointer (some ⟨g,0,none⟩)] #[])] _ _
 obtain⟨L,bW,bX,M⟩:=o.1 bv
 refine sr (Kz (.bool (decide (((f:Nat):Int) < ((p1.ah.ls.length:Nat):Int)))) (nt (xV ?_)))
 by_cases ai:((f:Nat):Int) < ((p1.ah.ls.length:Nat):Int)
 obtain⟨a,l⟩:=fE (ls:=r) (i:=f) aA.len (by decide) (L.ro n) (by first | omega | (simp; done) | (simp; omega))
 have N:=jK E l
 have bY:=(F _ (List.mem_of_getElem? l)).2
 have p:List.length (xZ a).aB≤16∧List.length (xZ a).ay.ls≤4∧∀ q ∈ (xZ a).ay.ls,q.aY.length≤12∧q.aB.length≤16:=S.2.2.2 _ (List.mem_of_getElem? N)
 have hz109p0:a.aB.length≤16:=by have q9:=p.1; first | exact q9 | (simp only [xZ,List.length_map] at q9; exact q9)
 have hz109p1:a.ay.ls.length≤4:=by have q9:=p.2.1; first | exact q9 | (simp only [xZ,List.length_map] at q9; exact q9)
 have az:=drop_at N
 refine jT (dT ai) (sk (xV (bo (sr (fw (.pointer (some ⟨ab b,ao b+f *3,none⟩)) (yh (rJ) rfl rfl ((L.ro n).addr (i:=f) (by omega)) (by omega)) (fw (.agg (aA.cells a).toArray) (yl rfl (yD (cs:=(aA.cells a)) Tryz.isAgg129 Tryz.sizeOf129 ((L.ro n).elem aA.len l (by decide)))) ?_))))))
 refine dG [.bool false, .string ⟨List.toArray ([])⟩, .slice none 0 0] 129 L ?_
 intro dI dJ bz
 refine cZ (aA.cells a) 0 bz Tryz.sizeOf129 ?_
 intro dK aj
 refine nt (xS (Mz rfl (La (aA.cells a) aj 0 Tryz.isAgg129 Tryz.sizeOf129 ?_)))
 have bA:=aj.pk [1,3,0,2]
 obtain⟨O,P⟩:∃ q,iV (aK.mk (Ll.mk h)) (df.mk a.dZ a.aB (Ll.mk a.ay.ls))=q:=⟨_,rfl⟩
 obtain⟨dL,aC,aD,aF,bZ⟩:=yu bA
 refine WL.do rfl (yB Tryz.call80 rfl rfl (lZ _ _ g (aK.mk (Ll.mk h)) t u (df.mk a.dZ a.aB (Ll.mk a.ay.ls)) a.ay.A a.ay.ls.length a.ay.c O aC rfl (aD _ (F _ (List.mem_of_getElem? l)).1) (show a.ay.ls.length≤a.ay.c∧a.ay.ls.length≤9223372036854775807 from by omega) (by first | omega | (dsimp only; omega) | (dsimp only [List.length_cons,List.length_nil]; omega)) (by exact p) P) ?_)
 rintro _ dM ⟨bC,bD,rfl,aG,Q⟩
 have ak:=aF _ _ aG
 have cu:=ak.rowC (i:=1) rfl
 replace Q:O.xb.ls.length≤h.length+300:=Q
 refine xY (bN (yg (xS (fw (.int .i64 ((f+1:Nat):Int)) (ym (e:=IntKind.i64.wrap (((f:Nat):Int)+1)) yk (by rw [A8 _ (by omega)]; omega)) (Mz rfl (xY ?_))))))
 have bE:=ak.pk [0,3,1]
 exact yE (f+1,bC,bD,O.xb.ls) ⟨rfl,rfl,rfl,rfl,trivial⟩ (o.2 ⟨bE,by omega,by omega,et (M) (et (congrArg (fun q=>eu q h) az) (ae P))⟩) (by show p1.ah.ls.length - (f+1) < p1.ah.ls.length - f; omega)
 refine jF (dF ai) (Wp.exit (xX ?_))
 have aH:eu p1.ah.ls m.xb.ls=h:=et (M) (et (congrArg (fun q=>eu q h) (fG (ls:=p1.ah.ls) (i:=f) (by omega))) rfl)
 refine xX (yx (yA (res0 rfl) (xY (yA (res0 rfl) (xY (yA (res0 rfl) ?_))))))
 have bF:=L.pk [0,2]
 obtain rfl:_=aK.mk (Ll.mk h):=hr.symm.trans (et (ae W) (et (ae Y) (et (ae aa) (et (ae ag) (ae aH)))))
 exact⟨t,u,rfl,bF,(by first | omega | (simp only [List.length_cons,List.length_nil,List.length_append]; omega))⟩
end Go.Proofs.YtcnkpjheifkgnaaGreat
