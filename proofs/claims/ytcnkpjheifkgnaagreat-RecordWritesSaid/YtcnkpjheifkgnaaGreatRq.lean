/-
 record: the document's answer, which shards' states may be.
-/
import Derived.Test.YtcnkpjheifkgnaaGreatRcA
namespace Go.Proofs.YtcnkpjheifkgnaaGreat
set_option maxRecDepth 100000
open Go.RowKit
set_option linter.unusedVariables false
set_option linter.unusedSectionVars false
set_option linter.unusedSimpArgs false
def gz (a:bF):Int:=
 if((a.aK.length:Nat):Int) > 12 then 21 else if((a.aO.length:Nat):Int) > 12 then 21 else if a.aO≠([]) then if a.aO≤a.aK then 21 else 0 else 0
theorem ni (w:World) (D:Nat→Prop) (d:bF) (n:Int) (H:Own w D w []) (hr:gz d=n):
    Calls Tryz.prog 43 #[.agg (bF.cells d).toArray] w (dE fun v w'=>v= .int .i64 n∧Own w D w' []):=by
 refine Ce (args:= [.agg (bF.cells d).toArray]) Tryz.func43 rfl rfl rfl ?_
 show Wp _ _ _ [(0, .agg (bF.cells d).toArray)] _ _
 refine sr ?_
 refine dB (bF.cells d) 27 H ?_
 intro g o f
 refine An rfl (BS (sr (Kz (.pointer (some ⟨g,0,none⟩)) (Lz (.string ⟨List.toArray d.aK⟩) f 0 Tryz.isAgg9 (Kz (.int .i64 ((d.aK.length:Nat):Int)) (Kz (.bool (decide (((d.aK.length:Nat):Int) > 12))) (Mz rfl ?_)))))))
 by_cases b:((d.aK.length:Nat):Int) > 12
 refine Sz (dT b) (Sz (dT b) (Sz (dT b) (Sz (dT b) (fw (.bool true) (BZ rfl (dT b) rfl) (Mz rfl (Sz rfl (Sz rfl (Sz rfl (Sz rfl (BV rfl rfl rfl (BV rfl rfl rfl (BV rfl rfl rfl (BV rfl rfl rfl (BV rfl rfl rfl (Sz rfl (fw (.bool true) (BZ rfl rfl rfl) (nt (jt (sr (An rfl (rt (tR (rs ?_)))))))))))))))))))))))
 have i:=f.pk []
 obtain rfl:_=21:=hr.symm.trans (ip b)
 exact⟨rfl,i⟩
 refine Gz (.pointer (some ⟨g,1,none⟩)) (dF b) (Gl (.string ⟨List.toArray d.aO⟩) (dF b) f 0 Tryz.isAgg9 (Gz (.int .i64 ((d.aO.length:Nat):Int)) (dF b) (Gz (.bool (decide (((d.aO.length:Nat):Int) > 12))) (dF b) (fw (.bool (decide (((d.aO.length:Nat):Int) > 12))) (BQ rfl (dF b) rfl) (Mz rfl ?_)))))
 by_cases a:((d.aO.length:Nat):Int) > 12
 refine Sz (dT a) (Sz (dT a) (Sz (dT a) (Sz (dT a) (BV rfl rfl rfl (BV rfl rfl rfl (BV rfl rfl rfl (BV rfl rfl rfl (BV rfl rfl rfl (Sz (dT a) (fw (.bool true) (BZ rfl (dT a) rfl) (nt (jt (sr (An rfl (rt (tR (rs ?_)))))))))))))))))
 have j:=f.pk []
 obtain rfl:_=21:=hr.symm.trans (et (iN b) (ip a))
 exact⟨rfl,j⟩
 refine Gz (.pointer (some ⟨g,1,none⟩)) (dF a) (Gl (.string ⟨List.toArray d.aO⟩) (dF a) f 0 Tryz.isAgg9 (gw (.bool (decide (d.aO≠([])))) (dF a) (CX rfl rfl) (gw (.bool (decide (d.aO≠([])))) (dF a) (BX rfl) ?_)))
 by_cases c:d.aO≠([])
 refine Gz (.pointer (some ⟨g,0,none⟩)) (dT c) (Gl (.string ⟨List.toArray d.aK⟩) (dT c) f 0 Tryz.isAgg9 (Gz (.pointer (some ⟨g,1,none⟩)) (dT c) (Gl (.string ⟨List.toArray d.aO⟩) (dT c) f 0 Tryz.isAgg9 (gw (.bool (decide (d.aO≤d.aK))) (dT c) (Cy (e:= !(Op.bytesLess d.aK d.aO)) (DW rfl rfl) (wP _ _)) (gw (.bool (decide (d.aO≤d.aK))) (dF a) (BZ rfl (dT c) rfl) (fw (.bool (decide (d.aO≤d.aK))) (BQ rfl (dF a) rfl) (nt ?_)))))))
 by_cases h:d.aO≤d.aK
 refine jT (dT h) (sr (An rfl (rt (tR (rs ?_)))))
 have k:=f.pk []
 obtain rfl:_=21:=hr.symm.trans (et (iN b) (et (iN a) (et (ip c) (ip h))))
 exact⟨rfl,k⟩
 refine jF (dF h) (sk (sr (An rfl (rt (rs ?_)))))
 have l:=f.pk []
 obtain rfl:_=0:=hr.symm.trans (et (iN b) (et (iN a) (et (ip c) (iN h))))
 exact⟨rfl,l⟩
 refine Sz (dF c) (Sz (dF c) (Sz (dF c) (Sz (dF c) (Sz (dF c) (gw (.bool false) (dF a) (BQ rfl (dF c) rfl) (fw (.bool false) (BQ rfl (dF a) rfl) (nt (jf (sk (sr (An rfl (rt (rs ?_)))))))))))))
 have m:=f.pk []
 obtain rfl:_=0:=hr.symm.trans (et (iN b) (et (iN a) (iN c)))
 exact⟨rfl,m⟩
def jl (a:List UInt8):Int:=
 if((a.length:Nat):Int) < 1 then 20 else if((a.length:Nat):Int) > 12 then 20 else 0
theorem lK (w:World) (D:Nat→Prop) (b:List UInt8) (d:Int) (H:Own w D w []) (hr:jl b=d):
    Calls Tryz.prog 87 #[.string ⟨List.toArray b⟩] w (dE fun v w'=>v= .int .i64 d∧Own w D w' []∧(¬ (d=0)∨(1≤b.length∧b.length≤12))):=by
 refine Ce (args:= [.string ⟨List.toArray b⟩]) Tryz.func87 rfl rfl rfl ?_
 show Wp _ _ _ [(0, .string ⟨List.toArray b⟩)] _ _
 refine sr (An rfl (BS (sr (Mz rfl (Kz (.int .i64 ((b.length:Nat):Int)) (Kz (.bool (decide (((b.length:Nat):Int) < 1))) (Mz rfl ?_)))))))
 by_cases a:((b.length:Nat):Int) < 1
 refine Sz (dT a) (Sz (dT a) (Sz (dT a) (fw (.bool true) (BZ rfl (dT a) rfl) (nt (jt (sr (An rfl (rt (tR (rs ?_))))))))))
 have e:Own w D w []:=H.pk []
 obtain rfl:_=20:=hr.symm.trans (ip a)
 exact⟨rfl,e,(by omega)⟩
 refine gw (.string ⟨List.toArray b⟩) (dF a) (BX rfl) (Gz (.int .i64 ((b.length:Nat):Int)) (dF a) (Gz (.bool (decide (((b.length:Nat):Int) > 12))) (dF a) (fw (.bool (decide (((b.length:Nat):Int) > 12))) (BQ rfl (dF a) rfl) (nt ?_))))
 by_cases c:((b.length:Nat):Int) > 12
 refine jT (dT c) (sr (An rfl (rt (tR (rs ?_)))))
 have f:Own w D w []:=H.pk []
 obtain rfl:_=20:=hr.symm.trans (et (iN a) (ip c))
 exact⟨rfl,f,(by omega)⟩
 refine jF (dF c) (sk (sr (An rfl (rt (rs ?_)))))
 have g:Own w D w []:=H.pk []
 obtain rfl:_=0:=hr.symm.trans (et (iN a) (iN c))
 exact⟨rfl,g,(by omega)⟩
def gM (f:List aL):List aL→Nat→Unit ⊕ Int
  | [],a=>Sum.inl ()
  | b::c,a=>if b.bV < 1 then Sum.inr (170) else if b.bV > 4 then Sum.inr (170) else if((a:Nat):Int) > 0 then bnd (jl b.aK) fun d=>if d=0 then bnd (List.getD f (a - 1) default) fun e=>if b.aK≤e.aK then Sum.inr (170) else gM f c (a+1) else Sum.inr (170) else gM f c (a+1)
def jd (a:List aL):Int:=
 if((a.length:Nat):Int) < 1 then 170 else if((a.length:Nat):Int) > 6 then 170 else bnd (List.getD a 0 default) fun b=>if b.aK≠([]) then 170 else lp (gM a a 0) fun _=>0
theorem qz (w:World) (D:Nat→Prop) (o:Option Addr) (U F:Nat) (b:List aL) (r0:Int) (H:Own w D w []) (r:Ro w D fun w'=>bG w' 2 o U (List.flatMap aL.cells b)) (V:U=b.length) (aD:b.length≤9223372036854775807) (hr:jd b=r0):
    Calls Tryz.prog 42 #[.slice o U F] w (dE fun v w'=>v= .int .i64 r0∧Own w D w' []):=by
 subst V
 refine Ce (args:= [.slice o b.length F]) Tryz.func42 rfl rfl rfl ?_
 show Wp _ _ _ [(0, .slice o b.length F)] _ _
 refine sr (An rfl (BS (sr (Mz rfl (Kz (.int .i64 ((b.length:Nat):Int)) (Kz (.bool (decide (((b.length:Nat):Int) < 1))) (Mz rfl ?_)))))))
 by_cases j:((b.length:Nat):Int) < 1
 refine Sz (dT j) (Sz (dT j) (Sz (dT j) (fw (.bool true) (BZ rfl (dT j) rfl) (Mz rfl (Sz rfl (Sz rfl (Sz rfl (Sz rfl (Sz rfl (fw (.bool true) (BZ rfl rfl rfl) (nt (jt (sr (An rfl (rt (tR (rs ?_)))))))))))))))))
 have X:Own w D w []:=H.pk []
 obtain rfl:_=170:=hr.symm.trans (ip j)
 exact⟨rfl,X⟩
 refine gw (.slice o b.length F) (dF j) (BX rfl) (Gz (.int .i64 ((b.length:Nat):Int)) (dF j) (Gz (.bool (decide (((b.length:Nat):Int) > 6))) (dF j) (fw (.bool (decide (((b.length:Nat):Int) > 6))) (BQ rfl (dF j) rfl) (Mz rfl ?_))))
 by_cases g:((b.length:Nat):Int) > 6
 refine Sz (dT g) (Sz (dT g) (Sz (dT g) (Sz (dT g) (Sz (dT g) (fw (.bool true) (BZ rfl (dT g) rfl) (nt (jt (sr (An rfl (rt (tR (rs ?_))))))))))))
 have Y:Own w D w []:=H.pk []
 obtain rfl:_=170:=hr.symm.trans (et (iN j) (ip g))
 exact⟨rfl,Y⟩
 refine gw (.slice o b.length F) (dF g) (BX rfl) ?_
 obtain⟨G,m⟩:=bU (ls:=b) (i:=0) aL.len (by decide) (H.ro r) (by first | omega | (simp; done) | (simp; omega))
 refine gw (.pointer (some ⟨ab o,ao o+0 *2,none⟩)) (dF g) (Ch (ng) rfl rfl ((H.ro r).addr (i:=0) (by omega)) (by omega)) (Gz (.pointer (some ⟨ab o,ao o+0 *2,none⟩)) (dF g) (gw (.string ⟨List.toArray G.aK⟩) (dF g) (Cc rfl (bi.one Tryz.isAgg9 (((H.ro r).elem aL.len m (by decide)).at_ (k:=0) rfl))) (gw (.bool (decide (G.aK≠([])))) (dF g) (CX rfl rfl) (fw (.bool (decide (G.aK≠([])))) (BQ rfl (dF g) rfl) (nt ?_)))))
 by_cases s:G.aK≠([])
 refine jT (dT s) (sr (An rfl (rt (tR (rs ?_)))))
 have Z:Own w D w []:=H.pk []
 obtain rfl:_=170:=hr.symm.trans (et (iN j) (et (iN g) (et (ag (cu m)) (ip s))))
 exact⟨rfl,Z⟩
 refine jF (dF s) (sk (BS (sr (Mz rfl (Kz (.int .i64 ((b.length:Nat):Int)) (Mn rfl (bo ?_)))))))
 have aa:Own w D w []:=H.pk []
 obtain⟨M,N⟩:∃ q:Nat→World→Prop,q=fun(i:Nat) w'=>Own w D w' []∧(i≤b.length∧gM b b 0=gM b (List.drop i b) i):=⟨_,rfl⟩
 have x:∀ {a:Nat} {w':World},M a w'↔Own w D w' []∧a≤b.length∧gM b b 0=gM b (List.drop a b) a:=by intros; subst N; exact Iff.rfl
 refine Wp.loop (fun i:Nat=> [(2, .int .i64 0),(22, .int .i64 ((i:Nat):Int)),(21, .int .i64 ((b.length:Nat):Int)),(20, .slice o b.length F),(0, .slice o b.length F)]) M (fun i=>b.length - i) 0 ⟨rfl,rfl,rfl,rfl,rfl,trivial⟩ (x.2 ⟨aa,by omega,rfl⟩) ?_
 rintro a aF O
 obtain⟨A,aA,n⟩:=x.1 O
 refine sr (Kz (.bool (decide (((a:Nat):Int) < ((b.length:Nat):Int)))) (nt (BS ?_)))
 by_cases P:((a:Nat):Int) < ((b.length:Nat):Int)
 obtain⟨c,K⟩:=bU (ls:=b) (i:=a) aL.len (by decide) (A.ro r) (by first | omega | (simp; done) | (simp; omega))
 have p:=drop_at K
 refine jT (dT P) (sk (BS (bo (sr (Mz rfl (fw (.pointer (some ⟨ab o,ao o+a *2,none⟩)) (Ch (ng) rfl rfl ((A.ro r).addr (i:=a) (by omega)) (by omega)) (fw (.agg (aL.cells c).toArray) (Cc rfl (Cu (cs:=(aL.cells c)) Tryz.isAgg54 Tryz.sizeOf54 ((A.ro r).elem aL.len K (by decide)))) ?_)))))))
 refine dB [.string ⟨List.toArray ([])⟩, .int .i64 0] 54 A ?_
 intro B aG ae
 refine Az rfl ?_
 refine dw (aL.cells c) 0 ae Tryz.sizeOf54 ?_
 intro af ah
 refine nt (BS ?_)
 have t:=ah.drew
 refine CP [] (fun W=> ∃ L',Own w D W ([blk B (aL.cells c) 54]++L')) (by kernel_rfl) (by kernel_rfl) (Cs (bP.block (Cs (Cs (bP.block (Cs CR)))))) ⟨_,t⟩ ?_
 revert t
 generalize World.drew af=aH
 intro t
 refine GX.take (v:= .pointer (some ⟨B,1,none⟩)) (rs:= []) 0 rfl (by kernel_rfl) (fun _ _=>yk) (GX.take (v:= .int .i64 c.bV) (rs:= []) 1 rfl (by kernel_rfl) (fun _ ⟨_,C⟩=>Cc rfl (bi.one Tryz.isAgg3 (Cv (C.cls (i:=0) rfl) rfl))) (GX.take (v:= .bool (decide (c.bV < 1))) (rs:= []) 2 rfl (by kernel_rfl) (fun _ _=>yk) (GX.take (v:= .bool (decide (c.bV < 1))) (rs:= []) 3 rfl (by kernel_rfl) (fun _ _=>BX rfl) ?_)))
 by_cases l:c.bV < 1
 refine BP (rs:= []) 4 rfl rfl rfl (dT l) (by kernel_rfl) (BP (rs:= []) 5 rfl rfl rfl (dT l) (by kernel_rfl) (BP (rs:= []) 6 rfl rfl rfl (dT l) (by kernel_rfl) (GX.take (v:= .bool true) (rs:= []) 7 rfl (by kernel_rfl) (fun _ _=>BZ rfl (dT l) rfl) (GX.take (v:= .bool true) (rs:= []) 8 rfl (by kernel_rfl) (fun _ _=>BX rfl) (BP (rs:= []) 9 rfl rfl rfl rfl (by kernel_rfl) (BP (rs:= []) 10 rfl rfl rfl rfl (by kernel_rfl) (BP (rs:= []) 11 rfl rfl rfl rfl (by kernel_rfl) (Cr (rs:= []) 12 rfl rfl rfl (by kernel_rfl) (Cr (rs:= []) 13 rfl rfl rfl (by kernel_rfl) (Cr (rs:= []) 14 rfl rfl rfl (by kernel_rfl) (Cr (rs:= []) 15 rfl rfl rfl (by kernel_rfl) (Cr (rs:= []) 16 rfl rfl rfl (by kernel_rfl) (Cr (rs:= []) 17 rfl rfl rfl (by kernel_rfl) (Cr (rs:= []) 18 rfl rfl rfl (by kernel_rfl) (Cr (rs:= []) 19 rfl rfl rfl (by kernel_rfl) (Cr (rs:= []) 20 rfl rfl rfl (by kernel_rfl) (Cr (rs:= []) 21 rfl rfl rfl (by kernel_rfl) (Cr (rs:= []) 22 rfl rfl rfl (by kernel_rfl) (Cr (rs:= []) 23 rfl rfl rfl (by kernel_rfl) (Cr (rs:= []) 24 rfl rfl rfl (by kernel_rfl) (Cr (rs:= []) 25 rfl rfl rfl (by kernel_rfl) (Cr (rs:= []) 26 rfl rfl rfl (by kernel_rfl) (BP (rs:= []) 27 rfl rfl rfl rfl (by kernel_rfl) (GX.take (v:= .bool true) (rs:= []) 28 rfl (by kernel_rfl) (fun _ _=>BZ rfl rfl rfl) (Cx (by kernel_rfl) (Ca (jt (sr (An rfl (rt (bR (tR (tR (bR (tR (rs ?_))))))))))))))))))))))))))))))))))))
 have ai:=t.pk []
 obtain rfl:_=170:=hr.symm.trans (et (iN j) (et (iN g) (et (ag (cu m)) (et (iN s) (ic (et (n) (et (congrArg (fun q=>gM b q a) p) (ip l))))))))
 exact⟨rfl,ai⟩
 refine BU (v:= .pointer (some ⟨B,1,none⟩)) (rs:= []) 4 rfl rfl rfl (dF l) (by kernel_rfl) (fun _ _=>yk) (BU (v:= .int .i64 c.bV) (rs:= []) 5 rfl rfl rfl (dF l) (by kernel_rfl) (fun _ ⟨_,C⟩=>Cc rfl (bi.one Tryz.isAgg3 (Cv (C.cls (i:=0) rfl) rfl))) (BU (v:= .bool (decide (c.bV > 4))) (rs:= []) 6 rfl rfl rfl (dF l) (by kernel_rfl) (fun _ _=>yk) (GX.take (v:= .bool (decide (c.bV > 4))) (rs:= []) 7 rfl (by kernel_rfl) (fun _ _=>BQ rfl (dF l) rfl) (GX.take (v:= .bool (decide (c.bV > 4))) (rs:= []) 8 rfl (by kernel_rfl) (fun _ _=>BX rfl) ?_))))
 by_cases h:c.bV > 4
 refine BP (rs:= []) 9 rfl rfl rfl (dT h) (by kernel_rfl) (BP (rs:= []) 10 rfl rfl rfl (dT h) (by kernel_rfl) (BP (rs:= []) 11 rfl rfl rfl (dT h) (by kernel_rfl) (Cr (rs:= []) 12 rfl rfl rfl (by kernel_rfl) (Cr (rs:= []) 13 rfl rfl rfl (by kernel_rfl) (Cr (rs:= []) 14 rfl rfl rfl (by kernel_rfl) (Cr (rs:= []) 15 rfl rfl rfl (by kernel_rfl) (Cr (rs:= []) 16 rfl rfl rfl (by kernel_rfl) (Cr (rs:= []) 17 rfl rfl rfl (by kernel_rfl) (Cr (rs:= []) 18 rfl rfl rfl (by kernel_rfl) (Cr (rs:= []) 19 rfl rfl rfl (by kernel_rfl) (Cr (rs:= []) 20 rfl rfl rfl (by kernel_rfl) (Cr (rs:= []) 21 rfl rfl rfl (by kernel_rfl) (Cr (rs:= []) 22 rfl rfl rfl (by kernel_rfl) (Cr (rs:= []) 23 rfl rfl rfl (by kernel_rfl) (Cr (rs:= []) 24 rfl rfl rfl (by kernel_rfl) (Cr (rs:= []) 25 rfl rfl rfl (by kernel_rfl) (Cr (rs:= []) 26 rfl rfl rfl (by kernel_rfl) (BP (rs:= []) 27 rfl rfl rfl (dT h) (by kernel_rfl) (GX.take (v:= .bool true) (rs:= []) 28 rfl (by kernel_rfl) (fun _ _=>BZ rfl (dT h) rfl) (Cx (by kernel_rfl) (Ca (jt (sr (An rfl (rt (bR (tR (tR (bR (tR (rs ?_)))))))))))))))))))))))))))))))
 have aj:=t.pk []
 obtain rfl:_=170:=hr.symm.trans (et (iN j) (et (iN g) (et (ag (cu m)) (et (iN s) (ic (et (n) (et (congrArg (fun q=>gM b q a) p) (et (iN l) (ip h)))))))))
 exact⟨rfl,aj⟩
 refine BU (v:= .int .i64 ((a:Nat):Int)) (rs:= []) 9 rfl rfl rfl (dF h) (by kernel_rfl) (fun _ _=>BX rfl) (BU (v:= .bool (decide (((a:Nat):Int) > 0))) (rs:= []) 10 rfl rfl rfl (dF h) (by kernel_rfl) (fun _ _=>yk) (BU (v:= .bool (decide (((a:Nat):Int) > 0))) (rs:= []) 11 rfl rfl rfl (dF h) (by kernel_rfl) (fun _ _=>BX rfl) ?_))
 by_cases f:((a:Nat):Int) > 0
 refine BU (v:= .pointer (some ⟨B,0,none⟩)) (rs:= []) 12 rfl rfl rfl (dT f) (by kernel_rfl) (fun _ _=>yk) (BU (v:= .string ⟨List.toArray c.aK⟩) (rs:= []) 13 rfl rfl rfl (dT f) (by kernel_rfl) (fun _ ⟨_,C⟩=>Cc rfl (bi.one Tryz.isAgg9 (Cv (C.cls (i:=0) rfl) rfl))) ?_)
 obtain⟨z,y⟩:∃ q,jl c.aK=q:=⟨_,rfl⟩
 obtain⟨aI,Q,aB,R,aC⟩:=Ck t
 refine C8 14 rfl rfl rfl (dT f) (by kernel_rfl) (Cq Tryz.call87 rfl (lK _ _ c.aK z Q y) ?_)
 rintro _ aJ ⟨rfl,S,L⟩
 have I:=R _ _ S
 replace L: ¬ (z=0)∨(1≤c.aK.length∧c.aK.length≤12):=L
 refine⟨.inr ⟨_,I⟩, ?_⟩
 refine BU (v:= .bool (decide (¬ (z=0)))) (rs:= []) 15 rfl rfl rfl (dT f) (by kernel_rfl) (fun _ _=>Cy (e:= !(decide (z=0))) yk decide_not.symm) (BU (v:= .bool (decide (¬ (z=0)))) (rs:= []) 16 rfl rfl rfl (dT f) (by kernel_rfl) (fun _ _=>BX rfl) ?_)
 by_cases d:z=0
 refine BU (v:= .slice o b.length F) (rs:= []) 17 rfl rfl rfl (dF (EN d)) (by kernel_rfl) (fun _ _=>BX rfl) (BU (v:= .int .i64 ((a:Nat):Int)) (rs:= []) 18 rfl rfl rfl (dF (EN d)) (by kernel_rfl) (fun _ _=>BX rfl) (BU (v:= .int .i64 ((a - 1:Nat):Int)) (rs:= []) 19 rfl rfl rfl (dF (EN d)) (by kernel_rfl) (fun _ _=>Ci (e:=IntKind.i64.wrap (((a:Nat):Int) - 1)) yk (by rw [EL _ (by omega)]; omega)) ?_))
 obtain⟨u,E⟩:=oN (ls:=b) (i:=a - 1) (by first | omega | (simp; done) | (simp; omega))
 refine BU (v:= .pointer (some ⟨ab o,ao o+(a - 1) *2,none⟩)) (rs:= []) 20 rfl rfl rfl (dF (EN d)) (by kernel_rfl) (fun _ ⟨_,C⟩=>Ch (ng) rfl rfl ((C.ro r).addr (i:=a - 1) (by omega)) (by omega)) (BU (v:= .pointer (some ⟨ab o,ao o+(a - 1) *2,none⟩)) (rs:= []) 21 rfl rfl rfl (dF (EN d)) (by kernel_rfl) (fun _ _=>yk) (BU (v:= .string ⟨List.toArray u.aK⟩) (rs:= []) 22 rfl rfl rfl (dF (EN d)) (by kernel_rfl) (fun _ ⟨_,C⟩=>Cc rfl (bi.one Tryz.isAgg9 (((C.ro r).elem aL.len E (by decide)).at_ (k:=0) rfl))) (BU (v:= .pointer (some ⟨B,0,none⟩)) (rs:= []) 23 rfl rfl rfl (dF (EN d)) (by kernel_rfl) (fun _ _=>yk) (BU (v:= .string ⟨List.toArray c.aK⟩) (rs:= []) 24 rfl rfl rfl (dF (EN d)) (by kernel_rfl) (fun _ ⟨_,C⟩=>Cc rfl (bi.one Tryz.isAgg9 (Cv (C.cls (i:=0) rfl) rfl))) (BU (v:= .bool (decide (c.aK≤u.aK))) (rs:= []) 25 rfl rfl rfl (dF (EN d)) (by kernel_rfl) (fun _ _=>Cy (e:= !(Op.bytesLess u.aK c.aK)) (DW rfl rfl) (wP _ _)) (BU (v:= .bool (decide (c.aK≤u.aK))) (rs:= []) 26 rfl rfl rfl (dT f) (by kernel_rfl) (fun _ _=>BQ rfl (dF (EN d)) rfl) (BU (v:= .bool (decide (c.aK≤u.aK))) (rs:= []) 27 rfl rfl rfl (dF h) (by kernel_rfl) (fun _ _=>BZ rfl (dT f) rfl) (GX.take (v:= .bool (decide (c.aK≤u.aK))) (rs:= []) 28 rfl (by kernel_rfl) (fun _ _=>BQ rfl (dF h) rfl) (Cx (by kernel_rfl) (Ca ?_))))))))))
 by_cases J:c.aK≤u.aK
 refine jT (dT J) (sr (An rfl (rt (bR (tR (tR (bR (tR (rs ?_)))))))))
 have ak:=I.pk []
 obtain rfl:_=170:=hr.symm.trans (et (iN j) (et (iN g) (et (ag (cu m)) (et (iN s) (ic (et (n) (et (congrArg (fun q=>gM b q a) p) (et (iN l) (et (iN h) (et (ip f) (et (ag y) (et (ip d) (et (ag (cu E)) (ip J))))))))))))))
 exact⟨rfl,ak⟩
 refine jF (dF J) (CW (bN (Ca (BR (fw (.int .i64 ((a+1:Nat):Int)) (Ci (e:=IntKind.i64.wrap (((a:Nat):Int)+1)) yk (by rw [EL _ (by omega)]; omega)) (Mz rfl (Cf ?_)))))))
 have au:=I.pk []
 exact Cm (a+1) ⟨rfl,rfl,rfl,rfl,rfl,trivial⟩ (x.2 ⟨au,by omega,et (n) (et (congrArg (fun q=>gM b q a) p) (et (iN l) (et (iN h) (et (ip f) (et (ag y) (et (ip d) (et (ag (cu E)) (iN J))))))))⟩) (by show b.length - (a+1) < b.length - a; omega)
 refine BP (rs:= []) 17 rfl rfl rfl (dT d) (by kernel_rfl) (BP (rs:= []) 18 rfl rfl rfl (dT d) (by kernel_rfl) (BP (rs:= []) 19 rfl rfl rfl (dT d) (by kernel_rfl) (BP (rs:= []) 20 rfl rfl rfl (dT d) (by kernel_rfl) (BP (rs:= []) 21 rfl rfl rfl (dT d) (by kernel_rfl) (BP (rs:= []) 22 rfl rfl rfl (dT d) (by kernel_rfl) (BP (rs:= []) 23 rfl rfl rfl (dT d) (by kernel_rfl) (BP (rs:= []) 24 rfl rfl rfl (dT d) (by kernel_rfl) (BP (rs:= []) 25 rfl rfl rfl (dT d) (by kernel_rfl) (BU (v:= .bool true) (rs:= []) 26 rfl rfl rfl (dT f) (by kernel_rfl) (fun _ _=>BZ rfl (dT d) rfl) (BU (v:= .bool true) (rs:= []) 27 rfl rfl rfl (dF h) (by kernel_rfl) (fun _ _=>BZ rfl (dT f) rfl) (GX.take (v:= .bool true) (rs:= []) 28 rfl (by kernel_rfl) (fun _ _=>BQ rfl (dF h) rfl) (Cx (by kernel_rfl) (Ca (jt (sr (An rfl (rt (bR (tR (tR (bR (tR (rs ?_)))))))))))))))))))))))
 have av:=I.pk []
 obtain rfl:_=170:=hr.symm.trans (et (iN j) (et (iN g) (et (ag (cu m)) (et (iN s) (ic (et (n) (et (congrArg (fun q=>gM b q a) p) (et (iN l) (et (iN h) (et (ip f) (et (ag y) (iN d))))))))))))
 exact⟨rfl,av⟩
 refine BP (rs:= []) 12 rfl rfl rfl (dF f) (by kernel_rfl) (BP (rs:= []) 13 rfl rfl rfl (dF f) (by kernel_rfl) (BP (rs:= []) 14 rfl rfl rfl (dF f) (by kernel_rfl) (BP (rs:= []) 15 rfl rfl rfl (dF f) (by kernel_rfl) (BP (rs:= []) 16 rfl rfl rfl (dF f) (by kernel_rfl) (Cr (rs:= []) 17 rfl rfl rfl (by kernel_rfl) (Cr (rs:= []) 18 rfl rfl rfl (by kernel_rfl) (Cr (rs:= []) 19 rfl rfl rfl (by kernel_rfl) (Cr (rs:= []) 20 rfl rfl rfl (by kernel_rfl) (Cr (rs:= []) 21 rfl rfl rfl (by kernel_rfl) (Cr (rs:= []) 22 rfl rfl rfl (by kernel_rfl) (Cr (rs:= []) 23 rfl rfl rfl (by kernel_rfl) (Cr (rs:= []) 24 rfl rfl rfl (by kernel_rfl) (Cr (rs:= []) 25 rfl rfl rfl (by kernel_rfl) (BP (rs:= []) 26 rfl rfl rfl (dF f) (by kernel_rfl) (BU (v:= .bool false) (rs:= []) 27 rfl rfl rfl (dF h) (by kernel_rfl) (fun _ _=>BQ rfl (dF f) rfl) (GX.take (v:= .bool false) (rs:= []) 28 rfl (by kernel_rfl) (fun _ _=>BQ rfl (dF h) rfl) (Cx (by kernel_rfl) (Ca (jf (CW (bN (Ca (BR (fw (.int .i64 ((a+1:Nat):Int)) (Ci (e:=IntKind.i64.wrap (((a:Nat):Int)+1)) yk (by rw [EL _ (by omega)]; omega)) (Mz rfl (Cf ?_))))))))))))))))))))))))))
 have ax:=t.pk []
 exact Cm (a+1) ⟨rfl,rfl,rfl,rfl,rfl,trivial⟩ (x.2 ⟨ax,by omega,et (n) (et (congrArg (fun q=>gM b q a) p) (et (iN l) (et (iN h) (iN f))))⟩) (by show b.length - (a+1) < b.length - a; omega)
 refine jF (dF P) (Wp.exit (Cb ?_))
 have T:gM b b 0=Sum.inl ():=et (n) (et (congrArg (fun q=>gM b q a) (bM (ls:=b) (i:=a) (by omega))) rfl)
 refine Cb (Cn (Ca (sr (An rfl (rt (rs ?_))))))
 have ay:=A.pk []
 obtain rfl:_=0:=hr.symm.trans (et (iN j) (et (iN g) (et (ag (cu m)) (et (iN s) (mF T)))))
 exact⟨rfl,ay⟩
def kT (a:bq):Int:=
 if a.aI=1 then if a.aK≠([]) then 40 else if a.aO≠([]) then 40 else if a.aC≠([]) then 40 else if a.bn=0 then bnd (jl a.aV) fun d=>if d=0 then if((a.aC.length:Nat):Int) > 16 then 2 else 0 else 20 else 40 else if a.aI=2 then if a.aK≠([]) then 40 else if a.aO≠([]) then 40 else if a.bn=0 then bnd (jl a.aV) fun e=>if e=0 then if((a.aC.length:Nat):Int) > 16 then 2 else 0 else 20 else 40 else if a.aI=4 then if a.aV≠([]) then 40 else if a.aC≠([]) then 40 else if((a.aC.length:Nat):Int) > 16 then 2 else bnd (gz (bF.mk a.aK a.aO)) fun f=>if f=0 then if a.bn < 1 then 1 else if a.bn > 4 then 1 else 0 else 21 else if a.aI=3 then if a.aK≠([]) then 40 else if a.aO≠([]) then 40 else if a.aC≠([]) then 40 else if a.bn=0 then bnd (jl a.aV) fun b=>if b=0 then if((a.aC.length:Nat):Int) > 16 then 2 else 0 else 20 else 40 else if a.aI=5 then if a.aV≠([]) then 40 else if a.aC≠([]) then 40 else if a.bn=0 then if((a.aC.length:Nat):Int) > 16 then 2 else bnd (gz (bF.mk a.aK a.aO)) fun c=>if c=0 then 0 else 21 else 40 else 40
theorem sQ (w:World) (D:Nat→Prop) (a:bq) (r0:Int) (H:Own w D w []) (hr:kT a=r0):
    Calls Tryz.prog 88 #[.agg (bq.cells a).toArray] w (dE fun v w'=>v= .int .i64 r0∧Own w D w' []∧(¬ (r0=0)∨(1≤a.aI∧a.aI≤5))):=by
 refine Ce (args:= [.agg (bq.cells a).toArray]) Tryz.func88 rfl rfl rfl ?_
 show Wp _ _ _ [(0, .agg (bq.cells a).toArray)] _ _
 refine sr ?_
 refine dB (bq.cells a) 74 H ?_
 intro d dJ b
 refine Ar rfl (Kz (.pointer (some ⟨d,0,none⟩)) (Lz (.int .i64 a.aI) b 0 Tryz.isAgg3 (Kz (.bool (decide (a.aI=1))) (Mz rfl ?_))))
 by_cases g:a.aI=1
 refine Sz (dT g) (Sz (dT g) (Sz (dT g) (fw (.bool true) (BZ rfl (dT g) rfl) (Mz rfl (Sz rfl (Sz rfl (Sz rfl (fw (.bool true) (BZ rfl rfl rfl) (Ar rfl (Kz (.pointer (some ⟨d,0,none⟩)) (Lz (.int .i64 a.aI) b 0 Tryz.isAgg3 (Kz (.bool (decide (a.aI=4))) (Mz rfl ?_)))))))))))))
 have z:(decide (a.aI=4))=false:=(dF (by omega))
 refine Gz (.pointer (some ⟨d,0,none⟩)) z (Gl (.int .i64 a.aI) z b 0 Tryz.isAgg3 (Gz (.bool (decide (a.aI=5))) z (fw (.bool (decide (a.aI=5))) (BQ rfl z rfl) (An rfl (BS (sr (Mz rfl (Kz (.bool false) (Mz rfl (Sz rfl (Sz rfl (fw (.bool false) (BQ rfl rfl rfl) (Mz rfl (gw (.bool true) rfl (BX rfl) (gw (.bool true) rfl (BX rfl) (Gz (.pointer (some ⟨d,3,none⟩)) rfl (Gl (.string ⟨List.toArray a.aK⟩) rfl b 0 Tryz.isAgg9 (gw (.bool (decide (a.aK≠([])))) rfl (CX rfl rfl) (gw (.bool (decide (a.aK≠([])))) rfl (BX rfl) ?_)))))))))))))))))))
 by_cases B:a.aK≠([])
 refine Sz (dT B) (Sz (dT B) (Sz (dT B) (gw (.bool true) rfl (BZ rfl (dT B) rfl) (gw (.bool true) rfl (BZ rfl rfl rfl) (fw (.bool true) (BQ rfl rfl rfl) (Mz rfl (Sz rfl (Sz rfl (BV rfl rfl rfl (BV rfl rfl rfl (BV rfl rfl rfl (Sz rfl (fw (.bool true) (BZ rfl rfl rfl) (Mz rfl (Sz rfl (Sz rfl (Sz rfl (Sz rfl (BV rfl rfl rfl (BV rfl rfl rfl (BV rfl rfl rfl (Sz rfl (fw (.bool true) (BZ rfl rfl rfl) (Mz rfl (Sz rfl (Sz rfl (Sz rfl (Sz rfl (BV rfl rfl rfl (BV rfl rfl rfl (BV rfl rfl rfl (Sz rfl (fw (.bool true) (BZ rfl rfl rfl) (nt (jt (sr (Az rfl ?_)))))))))))))))))))))))))))))))))))))
 refine nt (rt (tR (rs ?_)))
 have bQ:=b.pk []
 obtain rfl:_=40:=hr.symm.trans (et (ip g) (ip B))
 exact⟨rfl,bQ,(by omega)⟩
 refine Gz (.pointer (some ⟨d,4,none⟩)) (dF B) (Gl (.string ⟨List.toArray a.aO⟩) (dF B) b 0 Tryz.isAgg9 (gw (.bool (decide (a.aO≠([])))) (dF B) (CX rfl rfl) (gw (.bool (decide (a.aO≠([])))) rfl (BQ rfl (dF B) rfl) (gw (.bool (decide (a.aO≠([])))) rfl (BZ rfl rfl rfl) (fw (.bool (decide (a.aO≠([])))) (BQ rfl rfl rfl) (Mz rfl ?_))))))
 by_cases C:a.aO≠([])
 refine Sz (dT C) (Sz (dT C) (BV rfl rfl rfl (BV rfl rfl rfl (BV rfl rfl rfl (Sz (dT C) (fw (.bool true) (BZ rfl (dT C) rfl) (Mz rfl (Sz rfl (Sz rfl (Sz rfl (Sz rfl (BV rfl rfl rfl (BV rfl rfl rfl (BV rfl rfl rfl (Sz rfl (fw (.bool true) (BZ rfl rfl rfl) (Mz rfl (Sz rfl (Sz rfl (Sz rfl (Sz rfl (BV rfl rfl rfl (BV rfl rfl rfl (BV rfl rfl rfl (Sz rfl (fw (.bool true) (BZ rfl rfl rfl) (nt (jt (sr (An rfl (rt (tR (rs ?_)))))))))))))))))))))))))))))))))
 have bR:=b.pk []
 obtain rfl:_=40:=hr.symm.trans (et (ip g) (et (iN B) (ip C)))
 exact⟨rfl,bR,(by omega)⟩
 refine gw (.bool (decide (a.aI=5))) (dF C) (BX rfl) (gw (.bool (decide (a.aI=5))) (dF C) (BX rfl) ?_)
 have r:(decide (a.aI=5))=false:=(dF (by omega))
 refine Sz r (Sz r (Sz r (gw (.bool false) (dF C) (BQ rfl r rfl) (fw (.bool false) (BQ rfl (dF C) rfl) (Mz rfl (Gz (.pointer (some ⟨d,0,none⟩)) rfl (Gl (.int .i64 a.aI) rfl b 0 Tryz.isAgg3 (gw (.bool (decide (¬ (a.aI=2)))) rfl (Cy (e:= !(decide (a.aI=2))) yk decide_not.symm) (gw (.bool (decide (¬ (a.aI=2)))) rfl (BX rfl) ?_)))))))))
 have Y:(decide (¬ (a.aI=2)))=true:=(dT (by omega))
 refine Gz (.pointer (some ⟨d,2,none⟩)) Y (Gl (.string ⟨List.toArray a.aC⟩) Y b 0 Tryz.isAgg9 (CO (v:= .bool (decide (a.aC≠([])))) rfl rfl Y rfl (CX rfl rfl) (gw (.bool (decide (a.aC≠([])))) rfl (BZ rfl Y rfl) (fw (.bool (decide (a.aC≠([])))) (BQ rfl rfl rfl) (Mz rfl ?_)))))
 by_cases u:a.aC≠([])
 refine Sz (dT u) (Sz (dT u) (Sz (dT u) (Sz (dT u) (BV rfl rfl rfl (BV rfl rfl rfl (BV rfl rfl rfl (Sz (dT u) (fw (.bool true) (BZ rfl (dT u) rfl) (nt (jt (sr (An rfl (rt (tR (rs ?_)))))))))))))))
 have bS:=b.pk []
 obtain rfl:_=40:=hr.symm.trans (et (ip g) (et (iN B) (et (iN C) (ip u))))
 exact⟨rfl,bS,(by omega)⟩
 refine Gz (.pointer (some ⟨d,0,none⟩)) (dF u) (Gl (.int .i64 a.aI) (dF u) b 0 Tryz.isAgg3 (gw (.bool (decide (¬ (a.aI=4)))) (dF u) (Cy (e:= !(decide (a.aI=4))) yk decide_not.symm) (gw (.bool (decide (¬ (a.aI=4)))) (dF u) (BX rfl) ?_)))
 have Z:(decide (¬ (a.aI=4)))=true:=(dT (by omega))
 refine Gz (.pointer (some ⟨d,5,none⟩)) Z (Gl (.int .i64 a.bn) Z b 0 Tryz.isAgg3 (CO (v:= .bool (decide (¬ (a.bn=0)))) rfl rfl Z rfl (Cy (e:= !(decide (a.bn=0))) yk decide_not.symm) (gw (.bool (decide (¬ (a.bn=0)))) (dF u) (BZ rfl Z rfl) (fw (.bool (decide (¬ (a.bn=0)))) (BQ rfl (dF u) rfl) (nt ?_)))))
 by_cases ax:a.bn=0
 refine jF (dF (EN ax)) (sk (BS (sr (Mz rfl (Mz rfl (Gz (.pointer (some ⟨d,1,none⟩)) rfl (Gl (.string ⟨List.toArray a.aV⟩) rfl b 0 Tryz.isAgg9 ?_)))))))
 obtain⟨ay,aa⟩:∃ q,jl a.aV=q:=⟨_,rfl⟩
 obtain⟨dK,aU,dn,aV,dw⟩:=Ck b
 refine nT rfl Tryz.call87 (lK _ _ a.aV ay aU aa) ?_
 rintro _ dL ⟨rfl,aW,aM⟩
 have aB:=aV _ _ aW
 replace aM: ¬ (ay=0)∨(1≤a.aV.length∧a.aV.length≤12):=aM
 refine gw (.bool (decide (¬ (ay=0)))) rfl (Cy (e:= !(decide (ay=0))) yk decide_not.symm) (fw (.bool (decide (¬ (ay=0)))) (BZ rfl rfl rfl) (nt ?_))
 by_cases aC:ay=0
 refine jF (dF (EN aC)) (sk (BS (sr (Kz (.pointer (some ⟨d,2,none⟩)) (Lz (.string ⟨List.toArray a.aC⟩) aB 0 Tryz.isAgg9 (Kz (.int .i64 ((a.aC.length:Nat):Int)) (Kz (.bool (decide (((a.aC.length:Nat):Int) > 16))) (nt ?_))))))))
 by_cases aK:((a.aC.length:Nat):Int) > 16
 refine jT (dT aK) (sr (An rfl (rt (tR (rs ?_)))))
 have bT:=aB.pk []
 obtain rfl:_=2:=hr.symm.trans (et (ip g) (et (iN B) (et (iN C) (et (iN u) (et (ip ax) (et (ag aa) (et (ip aC) (ip aK))))))))
 exact⟨rfl,bT,(by omega)⟩
 refine jF (dF aK) (sk (BS (sr (Mz rfl (Mz rfl (Sz r (Sz r (Sz r (Sz r (Sz r (Sz r (Sz r (fw (.bool false) (BQ rfl r rfl) (nt (jf (sk (BS (sr (Kz (.pointer (some ⟨d,0,none⟩)) (Lz (.int .i64 a.aI) aB 0 Tryz.isAgg3 (Kz (.bool (decide (a.aI=4))) (Mz rfl (Sz z (Sz z (Sz z (Sz z (BV rfl rfl rfl (BV rfl rfl rfl (BV rfl rfl rfl (Sz z (fw (.bool false) (BQ rfl z rfl) (nt (jf ?_)))))))))))))))))))))))))))))))))
 refine sk (sr (An rfl (rt (rs ?_))))
 have bU:=aB.pk []
 obtain rfl:_=0:=hr.symm.trans (et (ip g) (et (iN B) (et (iN C) (et (iN u) (et (ip ax) (et (ag aa) (et (ip aC) (iN aK))))))))
 exact⟨rfl,bU,(by omega)⟩
 refine jT (dT aC) (sr (An rfl (rt (tR (rs ?_)))))
 have bV:=aB.pk []
 obtain rfl:_=20:=hr.symm.trans (et (ip g) (et (iN B) (et (iN C) (et (iN u) (et (ip ax) (et (ag aa) (iN aC)))))))
 exact⟨rfl,bV,(by omega)⟩
 refine jT (dT ax) (sr (An rfl (rt (tR (rs ?_)))))
 have bW:=b.pk []
 obtain rfl:_=40:=hr.symm.trans (et (ip g) (et (iN B) (et (iN C) (et (iN u) (iN ax)))))
 exact⟨rfl,bW,(by omega)⟩
 refine Gz (.pointer (some ⟨d,0,none⟩)) (dF g) (Gl (.int .i64 a.aI) (dF g) b 0 Tryz.isAgg3 (Gz (.bool (decide (a.aI=2))) (dF g) (fw (.bool (decide (a.aI=2))) (BQ rfl (dF g) rfl) (Mz rfl ?_))))
 by_cases i:a.aI=2
 refine Sz (dT i) (Sz (dT i) (Sz (dT i) (fw (.bool true) (BZ rfl (dT i) rfl) (Ar rfl (Kz (.pointer (some ⟨d,0,none⟩)) (Lz (.int .i64 a.aI) b 0 Tryz.isAgg3 (Kz (.bool (decide (a.aI=4))) (Mz rfl ?_))))))))
 have A:(decide (a.aI=4))=false:=(dF (by omega))
 refine Gz (.pointer (some ⟨d,0,none⟩)) A (Gl (.int .i64 a.aI) A b 0 Tryz.isAgg3 (Gz (.bool (decide (a.aI=5))) A (fw (.bool (decide (a.aI=5))) (BQ rfl A rfl) (An rfl (BS (sr (Mz rfl (Kz (.bool false) (Mz rfl (Sz rfl (Sz rfl (fw (.bool false) (BQ rfl rfl rfl) (Mz rfl (gw (.bool true) rfl (BX rfl) (gw (.bool true) rfl (BX rfl) (Gz (.pointer (some ⟨d,3,none⟩)) rfl (Gl (.string ⟨List.toArray a.aK⟩) rfl b 0 Tryz.isAgg9 (gw (.bool (decide (a.aK≠([])))) rfl (CX rfl rfl) (gw (.bool (decide (a.aK≠([])))) rfl (BX rfl) ?_)))))))))))))))))))
 by_cases E:a.aK≠([])
 refine Sz (dT E) (Sz (dT E) (Sz (dT E) (gw (.bool true) rfl (BZ rfl (dT E) rfl) (gw (.bool true) rfl (BZ rfl rfl rfl) (fw (.bool true) (BQ rfl rfl rfl) (Mz rfl (Sz rfl (Sz rfl (BV rfl rfl rfl (BV rfl rfl rfl (BV rfl rfl rfl (Sz rfl (fw (.bool true) (BZ rfl rfl rfl) (Mz rfl (Sz rfl (Sz rfl (Sz rfl (Sz rfl (BV rfl rfl rfl (BV rfl rfl rfl (BV rfl rfl rfl (Sz rfl (fw (.bool true) (BZ rfl rfl rfl) (Mz rfl (Sz rfl (Sz rfl (Sz rfl (Sz rfl (BV rfl rfl rfl (BV rfl rfl rfl (BV rfl rfl rfl (Sz rfl (fw (.bool true) (BZ rfl rfl rfl) (nt (jt (sr (Az rfl ?_)))))))))))))))))))))))))))))))))))))
 refine nt (rt (tR (rs ?_)))
 have bX:=b.pk []
 obtain rfl:_=40:=hr.symm.trans (et (iN g) (et (ip i) (ip E)))
 exact⟨rfl,bX,(by omega)⟩
 refine Gz (.pointer (some ⟨d,4,none⟩)) (dF E) (Gl (.string ⟨List.toArray a.aO⟩) (dF E) b 0 Tryz.isAgg9 (gw (.bool (decide (a.aO≠([])))) (dF E) (CX rfl rfl) (gw (.bool (decide (a.aO≠([])))) rfl (BQ rfl (dF E) rfl) (gw (.bool (decide (a.aO≠([])))) rfl (BZ rfl rfl rfl) (fw (.bool (decide (a.aO≠([])))) (BQ rfl rfl rfl) (Mz rfl ?_))))))
 by_cases F:a.aO≠([])
 refine Sz (dT F) (Sz (dT F) (BV rfl rfl rfl (BV rfl rfl rfl (BV rfl rfl rfl (Sz (dT F) (fw (.bool true) (BZ rfl (dT F) rfl) (Mz rfl (Sz rfl (Sz rfl (Sz rfl (Sz rfl (BV rfl rfl rfl (BV rfl rfl rfl (BV rfl rfl rfl (Sz rfl (fw (.bool true) (BZ rfl rfl rfl) (Mz rfl (Sz rfl (Sz rfl (Sz rfl (Sz rfl (BV rfl rfl rfl (BV rfl rfl rfl (BV rfl rfl rfl (Sz rfl (fw (.bool true) (BZ rfl rfl rfl) (nt (jt (sr (An rfl (rt (tR (rs ?_)))))))))))))))))))))))))))))))))
 have bY:=b.pk []
 obtain rfl:_=40:=hr.symm.trans (et (iN g) (et (ip i) (et (iN E) (ip F))))
 exact⟨rfl,bY,(by omega)⟩
 refine gw (.bool (decide (a.aI=5))) (dF F) (BX rfl) (gw (.bool (decide (a.aI=5))) (dF F) (BX rfl) ?_)
 have s:(decide (a.aI=5))=false:=(dF (by omega))
 refine Sz s (Sz s (Sz s (gw (.bool false) (dF F) (BQ rfl s rfl) (fw (.bool false) (BQ rfl (dF F) rfl) (Mz rfl (Gz (.pointer (some ⟨d,0,none⟩)) rfl (Gl (.int .i64 a.aI) rfl b 0 Tryz.isAgg3 (gw (.bool (decide (¬ (a.aI=2)))) rfl (Cy (e:= !(decide (a.aI=2))) yk decide_not.symm) (gw (.bool (decide (¬ (a.aI=2)))) rfl (BX rfl) ?_)))))))))
 have ae:(decide (¬ (a.aI=2)))=false:=(dF (by omega))
 refine Sz ae (Sz ae (Sz ae (gw (.bool false) rfl (BQ rfl ae rfl) (fw (.bool false) (BQ rfl rfl rfl) (Mz rfl (Gz (.pointer (some ⟨d,0,none⟩)) rfl (Gl (.int .i64 a.aI) rfl b 0 Tryz.isAgg3 (gw (.bool (decide (¬ (a.aI=4)))) rfl (Cy (e:= !(decide (a.aI=4))) yk decide_not.symm) (gw (.bool (decide (¬ (a.aI=4)))) rfl (BX rfl) ?_)))))))))
 have af:(decide (¬ (a.aI=4)))=true:=(dT (by omega))
 refine Gz (.pointer (some ⟨d,5,none⟩)) af (Gl (.int .i64 a.bn) af b 0 Tryz.isAgg3 (CO (v:= .bool (decide (¬ (a.bn=0)))) rfl rfl af rfl (Cy (e:= !(decide (a.bn=0))) yk decide_not.symm) (gw (.bool (decide (¬ (a.bn=0)))) rfl (BZ rfl af rfl) (fw (.bool (decide (¬ (a.bn=0)))) (BQ rfl rfl rfl) (nt ?_)))))
 by_cases az:a.bn=0
 refine jF (dF (EN az)) (sk (BS (sr (Mz rfl (Mz rfl (Gz (.pointer (some ⟨d,1,none⟩)) rfl (Gl (.string ⟨List.toArray a.aV⟩) rfl b 0 Tryz.isAgg9 ?_)))))))
 obtain⟨aA,ah⟩:∃ q,jl a.aV=q:=⟨_,rfl⟩
 obtain⟨dM,aX,dx,aY,dz⟩:=Ck b
 refine nT rfl Tryz.call87 (lK _ _ a.aV aA aX ah) ?_
 rintro _ dN ⟨rfl,aZ,aN⟩
 have aD:=aY _ _ aZ
 replace aN: ¬ (aA=0)∨(1≤a.aV.length∧a.aV.length≤12):=aN
 refine gw (.bool (decide (¬ (aA=0)))) rfl (Cy (e:= !(decide (aA=0))) yk decide_not.symm) (fw (.bool (decide (¬ (aA=0)))) (BZ rfl rfl rfl) (nt ?_))
 by_cases aF:aA=0
 refine jF (dF (EN aF)) (sk (BS (sr (Kz (.pointer (some ⟨d,2,none⟩)) (Lz (.string ⟨List.toArray a.aC⟩) aD 0 Tryz.isAgg9 (Kz (.int .i64 ((a.aC.length:Nat):Int)) (Kz (.bool (decide (((a.aC.length:Nat):Int) > 16))) (nt ?_))))))))
 by_cases aL:((a.aC.length:Nat):Int) > 16
 refine jT (dT aL) (sr (An rfl (rt (tR (rs ?_)))))
 have bZ:=aD.pk []
 obtain rfl:_=2:=hr.symm.trans (et (iN g) (et (ip i) (et (iN E) (et (iN F) (et (ip az) (et (ag ah) (et (ip aF) (ip aL))))))))
 exact⟨rfl,bZ,(by omega)⟩
 refine jF (dF aL) (sk (BS (sr (Mz rfl (Mz rfl (Sz s (Sz s (Sz s (Sz s (Sz s (Sz s (Sz s (fw (.bool false) (BQ rfl s rfl) (nt (jf (sk (BS (sr (Kz (.pointer (some ⟨d,0,none⟩)) (Lz (.int .i64 a.aI) aD 0 Tryz.isAgg3 (Kz (.bool (decide (a.aI=4))) (Mz rfl (Sz A (Sz A (Sz A (Sz A (BV rfl rfl rfl (BV rfl rfl rfl (BV rfl rfl rfl (Sz A (fw (.bool false) (BQ rfl A rfl) (nt (jf ?_)))))))))))))))))))))))))))))))))
 refine sk (sr (An rfl (rt (rs ?_))))
 have cu:=aD.pk []
 obtain rfl:_=0:=hr.symm.trans (et (iN g) (et (ip i) (et (iN E) (et (iN F) (et (ip az) (et (ag ah) (et (ip aF) (iN aL))))))))
 exact⟨rfl,cu,(by omega)⟩
 refine jT (dT aF) (sr (An rfl (rt (tR (rs ?_)))))
 have cz:=aD.pk []
 obtain rfl:_=20:=hr.symm.trans (et (iN g) (et (ip i) (et (iN E) (et (iN F) (et (ip az) (et (ag ah) (iN aF)))))))
 exact⟨rfl,cz,(by omega)⟩
 refine jT (dT az) (sr (An rfl (rt (tR (rs ?_)))))
 have cB:=b.pk []
 obtain rfl:_=40:=hr.symm.trans (et (iN g) (et (ip i) (et (iN E) (et (iN F) (iN az)))))
 exact⟨rfl,cB,(by omega)⟩
 refine Gz (.pointer (some ⟨d,0,none⟩)) (dF i) (Gl (.int .i64 a.aI) (dF i) b 0 Tryz.isAgg3 (Gz (.bool (decide (a.aI=3))) (dF i) (fw (.bool (decide (a.aI=3))) (BQ rfl (dF i) rfl) (Ar rfl (Kz (.pointer (some ⟨d,0,none⟩)) (Lz (.int .i64 a.aI) b 0 Tryz.isAgg3 (Kz (.bool (decide (a.aI=4))) (Mz rfl ?_))))))))
 by_cases f:a.aI=4
 refine Sz (dT f) (Sz (dT f) (Sz (dT f) (fw (.bool true) (BZ rfl (dT f) rfl) (An rfl (BS (sr (Mz rfl (fw (.bool (decide (¬ (a.aI=3)))) (Cy (e:= !(decide (a.aI=3))) yk decide_not.symm) (Mz rfl ?_)))))))))
 have aG:(decide (¬ (a.aI=3)))=true:=(dT (by omega))
 refine CO (v:= .bool true) rfl rfl aG rfl (BX rfl) (Gz (.bool false) aG (fw (.bool false) (BZ rfl aG rfl) (Mz rfl (gw (.bool (decide (a.aI=3))) rfl (BX rfl) (gw (.bool (decide (a.aI=3))) rfl (BX rfl) ?_)))))
 have x:(decide (a.aI=3))=false:=(dF (by omega))
 refine Sz x (Sz x (Sz x (Sz x (BV rfl rfl rfl (BV rfl rfl rfl (BV rfl rfl rfl (Sz x (gw (.bool false) rfl (BQ rfl x rfl) (fw (.bool false) (BQ rfl rfl rfl) (Mz rfl (gw (.bool true) rfl (BX rfl) (gw (.bool true) rfl (BX rfl) (Gz (.pointer (some ⟨d,1,none⟩)) rfl (Gl (.string ⟨List.toArray a.aV⟩) rfl b 0 Tryz.isAgg9 (gw (.bool (decide (a.aV≠([])))) rfl (CX rfl rfl) (gw (.bool (decide (a.aV≠([])))) rfl (BZ rfl rfl rfl) (fw (.bool (decide (a.aV≠([])))) (BQ rfl rfl rfl) (Mz rfl ?_))))))))))))))))))
 by_cases p:a.aV≠([])
 refine Sz (dT p) (Sz (dT p) (Sz (dT p) (Sz (dT p) (BV rfl rfl rfl (BV rfl rfl rfl (BV rfl rfl rfl (Sz (dT p) (fw (.bool true) (BZ rfl (dT p) rfl) (Mz rfl (Sz rfl (Sz rfl (Sz rfl (Sz rfl (BV rfl rfl rfl (BV rfl rfl rfl (BV rfl rfl rfl (Sz rfl (fw (.bool true) (BZ rfl rfl rfl) (nt (jt (sr (An rfl (rt (tR (rs ?_)))))))))))))))))))))))))
 have cK:=b.pk []
 obtain rfl:_=40:=hr.symm.trans (et (iN g) (et (iN i) (et (ip f) (ip p))))
 exact⟨rfl,cK,(by omega)⟩
 refine Gz (.pointer (some ⟨d,0,none⟩)) (dF p) (Gl (.int .i64 a.aI) (dF p) b 0 Tryz.isAgg3 (gw (.bool (decide (¬ (a.aI=2)))) (dF p) (Cy (e:= !(decide (a.aI=2))) yk decide_not.symm) (gw (.bool (decide (¬ (a.aI=2)))) (dF p) (BX rfl) ?_)))
 have ai:(decide (¬ (a.aI=2)))=true:=(dT (by omega))
 refine Gz (.pointer (some ⟨d,2,none⟩)) ai (Gl (.string ⟨List.toArray a.aC⟩) ai b 0 Tryz.isAgg9 (CO (v:= .bool (decide (a.aC≠([])))) rfl rfl ai rfl (CX rfl rfl) (gw (.bool (decide (a.aC≠([])))) (dF p) (BZ rfl ai rfl) (fw (.bool (decide (a.aC≠([])))) (BQ rfl (dF p) rfl) (Mz rfl ?_)))))
 by_cases t:a.aC≠([])
 refine Sz (dT t) (Sz (dT t) (Sz (dT t) (Sz (dT t) (BV rfl rfl rfl (BV rfl rfl rfl (BV rfl rfl rfl (Sz (dT t) (fw (.bool true) (BZ rfl (dT t) rfl) (nt (jt (sr (An rfl (rt (tR (rs ?_)))))))))))))))
 have cO:=b.pk []
 obtain rfl:_=40:=hr.symm.trans (et (iN g) (et (iN i) (et (ip f) (et (iN p) (ip t)))))
 exact⟨rfl,cO,(by omega)⟩
 refine Gz (.pointer (some ⟨d,0,none⟩)) (dF t) (Gl (.int .i64 a.aI) (dF t) b 0 Tryz.isAgg3 (gw (.bool (decide (¬ (a.aI=4)))) (dF t) (Cy (e:= !(decide (a.aI=4))) yk decide_not.symm) (gw (.bool (decide (¬ (a.aI=4)))) (dF t) (BX rfl) ?_)))
 have aj:(decide (¬ (a.aI=4)))=false:=(dF (by omega))
 refine Sz aj (Sz aj (Sz aj (gw (.bool false) (dF t) (BQ rfl aj rfl) (fw (.bool false) (BQ rfl (dF t) rfl) (nt (jf (sk (BS (sr (Mz rfl (Mz rfl (Sz x (Sz x (Sz x (Sz x (fw (.bool false) (BQ rfl x rfl) (nt (jf (sk (BS (sr (Kz (.pointer (some ⟨d,2,none⟩)) (Lz (.string ⟨List.toArray a.aC⟩) b 0 Tryz.isAgg9 (Kz (.int .i64 ((a.aC.length:Nat):Int)) (Kz (.bool (decide (((a.aC.length:Nat):Int) > 16))) (nt ?_))))))))))))))))))))))))))
 by_cases W:((a.aC.length:Nat):Int) > 16
 refine jT (dT W) (sr (An rfl (rt (tR (rs ?_)))))
 have cZ:=b.pk []
 obtain rfl:_=2:=hr.symm.trans (et (iN g) (et (iN i) (et (ip f) (et (iN p) (et (iN t) (ip W))))))
 exact⟨rfl,cZ,(by omega)⟩
 refine jF (dF W) (sk (BS (sr (Mz rfl (Mz rfl (Gz (.pointer (some ⟨d,3,none⟩)) rfl (Gl (.string ⟨List.toArray a.aK⟩) rfl b 0 Tryz.isAgg9 (Gz (.pointer (some ⟨d,4,none⟩)) rfl (Gl (.string ⟨List.toArray a.aO⟩) rfl b 0 Tryz.isAgg9 (Gz (.agg #[.string ⟨List.toArray a.aK⟩, .string ⟨List.toArray a.aO⟩]) rfl ?_))))))))))
 obtain⟨aH,R⟩:∃ q,gz (bF.mk a.aK a.aO)=q:=⟨_,rfl⟩
 obtain⟨dO,bf,dA,bg,dC⟩:=Ck b
 refine nT rfl Tryz.call43 (ni _ _ (bF.mk a.aK a.aO) aH bf R) ?_
 rintro _ dP ⟨rfl,bi⟩
 have G:=bg _ _ bi
 refine gw (.bool (decide (¬ (aH=0)))) rfl (Cy (e:= !(decide (aH=0))) yk decide_not.symm) (fw (.bool (decide (¬ (aH=0)))) (BZ rfl rfl rfl) (nt ?_))
 by_cases I:aH=0
 refine jF (dF (EN I)) (sk (BS (sr (Kz (.pointer (some ⟨d,0,none⟩)) (Lz (.int .i64 a.aI) G 0 Tryz.isAgg3 (Kz (.bool (decide (a.aI=4))) (Mz rfl (Gz (.pointer (some ⟨d,5,none⟩)) (dT f) (Gl (.int .i64 a.bn) (dT f) G 0 Tryz.isAgg3 (Gz (.bool (decide (a.bn < 1))) (dT f) (gw (.bool (decide (a.bn < 1))) (dT f) (BX rfl) ?_)))))))))))
 by_cases y:a.bn < 1
 refine Sz (dT y) (Sz (dT y) (Sz (dT y) (gw (.bool true) (dT f) (BZ rfl (dT y) rfl) (fw (.bool true) (BZ rfl (dT f) rfl) (nt (jt (sr (An rfl (rt (tR (rs ?_)))))))))))
 have bn:=G.pk []
 obtain rfl:_=1:=hr.symm.trans (et (iN g) (et (iN i) (et (ip f) (et (iN p) (et (iN t) (et (iN W) (et (ag R) (et (ip I) (ip y)))))))))
 exact⟨rfl,bn,(by omega)⟩
 refine Gz (.pointer (some ⟨d,5,none⟩)) (dF y) (Gl (.int .i64 a.bn) (dF y) G 0 Tryz.isAgg3 (Gz (.bool (decide (a.bn > 4))) (dF y) (gw (.bool (decide (a.bn > 4))) (dT f) (BQ rfl (dF y) rfl) (fw (.bool (decide (a.bn > 4))) (BZ rfl (dT f) rfl) (nt ?_)))))
 by_cases ak:a.bn > 4
 refine jT (dT ak) (sr (An rfl (rt (tR (rs ?_)))))
 have bu:=G.pk []
 obtain rfl:_=1:=hr.symm.trans (et (iN g) (et (iN i) (et (ip f) (et (iN p) (et (iN t) (et (iN W) (et (ag R) (et (ip I) (et (iN y) (ip ak))))))))))
 exact⟨rfl,bu,(by omega)⟩
 refine jF (dF ak) (sk (sr (An rfl (rt (rs ?_)))))
 have bv:=G.pk []
 obtain rfl:_=0:=hr.symm.trans (et (iN g) (et (iN i) (et (ip f) (et (iN p) (et (iN t) (et (iN W) (et (ag R) (et (ip I) (et (iN y) (iN ak))))))))))
 exact⟨rfl,bv,(by omega)⟩
 refine jT (dT I) (sr (An rfl (rt (tR (rs ?_)))))
 have bz:=G.pk []
 obtain rfl:_=21:=hr.symm.trans (et (iN g) (et (iN i) (et (ip f) (et (iN p) (et (iN t) (et (iN W) (et (ag R) (iN I))))))))
 exact⟨rfl,bz,(by omega)⟩
 refine Gz (.pointer (some ⟨d,0,none⟩)) (dF f) (Gl (.int .i64 a.aI) (dF f) b 0 Tryz.isAgg3 (Gz (.bool (decide (a.aI=5))) (dF f) (fw (.bool (decide (a.aI=5))) (BQ rfl (dF f) rfl) (An rfl (BS (sr (Mz rfl (fw (.bool (decide (¬ (a.aI=3)))) (Cy (e:= !(decide (a.aI=3))) yk decide_not.symm) (Mz rfl ?_)))))))))
 by_cases c:a.aI=3
 refine Sk rfl rfl (dF (EN c)) rfl (Sk rfl rfl (dF (EN c)) rfl (fw (.bool false) (BQ rfl (dF (EN c)) rfl) (Mz rfl (gw (.bool (decide (a.aI=3))) rfl (BX rfl) (gw (.bool (decide (a.aI=3))) rfl (BX rfl) (Gz (.pointer (some ⟨d,3,none⟩)) (dT c) (Gl (.string ⟨List.toArray a.aK⟩) (dT c) b 0 Tryz.isAgg9 (gw (.bool (decide (a.aK≠([])))) (dT c) (CX rfl rfl) (gw (.bool (decide (a.aK≠([])))) (dT c) (BX rfl) ?_)))))))))
 by_cases n:a.aK≠([])
 refine Sz (dT n) (Sz (dT n) (Sz (dT n) (gw (.bool true) (dT c) (BZ rfl (dT n) rfl) (gw (.bool true) rfl (BZ rfl (dT c) rfl) (fw (.bool true) (BQ rfl rfl rfl) (Mz rfl (Sz rfl (Sz rfl (BV rfl rfl rfl (BV rfl rfl rfl (BV rfl rfl rfl (Sz rfl (fw (.bool true) (BZ rfl rfl rfl) (Mz rfl (Sz rfl (Sz rfl (Sz rfl (Sz rfl (BV rfl rfl rfl (BV rfl rfl rfl (BV rfl rfl rfl (Sz rfl (fw (.bool true) (BZ rfl rfl rfl) (Mz rfl (Sz rfl (Sz rfl (Sz rfl (Sz rfl (BV rfl rfl rfl (BV rfl rfl rfl (BV rfl rfl rfl (Sz rfl (fw (.bool true) (BZ rfl rfl rfl) (nt (jt (sr (Az rfl ?_)))))))))))))))))))))))))))))))))))))
 refine nt (rt (tR (rs ?_)))
 have bA:=b.pk []
 obtain rfl:_=40:=hr.symm.trans (et (iN g) (et (iN i) (et (iN f) (et (ip c) (ip n)))))
 exact⟨rfl,bA,(by omega)⟩
 refine Gz (.pointer (some ⟨d,4,none⟩)) (dF n) (Gl (.string ⟨List.toArray a.aO⟩) (dF n) b 0 Tryz.isAgg9 (gw (.bool (decide (a.aO≠([])))) (dF n) (CX rfl rfl) (gw (.bool (decide (a.aO≠([])))) (dT c) (BQ rfl (dF n) rfl) (gw (.bool (decide (a.aO≠([])))) rfl (BZ rfl (dT c) rfl) (fw (.bool (decide (a.aO≠([])))) (BQ rfl rfl rfl) (Mz rfl ?_))))))
 by_cases o:a.aO≠([])
 refine Sz (dT o) (Sz (dT o) (BV rfl rfl rfl (BV rfl rfl rfl (BV rfl rfl rfl (Sz (dT o) (fw (.bool true) (BZ rfl (dT o) rfl) (Mz rfl (Sz rfl (Sz rfl (Sz rfl (Sz rfl (BV rfl rfl rfl (BV rfl rfl rfl (BV rfl rfl rfl (Sz rfl (fw (.bool true) (BZ rfl rfl rfl) (Mz rfl (Sz rfl (Sz rfl (Sz rfl (Sz rfl (BV rfl rfl rfl (BV rfl rfl rfl (BV rfl rfl rfl (Sz rfl (fw (.bool true) (BZ rfl rfl rfl) (nt (jt (sr (An rfl (rt (tR (rs ?_)))))))))))))))))))))))))))))))))
 have bB:=b.pk []
 obtain rfl:_=40:=hr.symm.trans (et (iN g) (et (iN i) (et (iN f) (et (ip c) (et (iN n) (ip o))))))
 exact⟨rfl,bB,(by omega)⟩
 refine gw (.bool (decide (a.aI=5))) (dF o) (BX rfl) (gw (.bool (decide (a.aI=5))) (dF o) (BX rfl) ?_)
 have m:(decide (a.aI=5))=false:=(dF (by omega))
 refine Sz m (Sz m (Sz m (gw (.bool false) (dF o) (BQ rfl m rfl) (fw (.bool false) (BQ rfl (dF o) rfl) (Mz rfl (Gz (.pointer (some ⟨d,0,none⟩)) rfl (Gl (.int .i64 a.aI) rfl b 0 Tryz.isAgg3 (gw (.bool (decide (¬ (a.aI=2)))) rfl (Cy (e:= !(decide (a.aI=2))) yk decide_not.symm) (gw (.bool (decide (¬ (a.aI=2)))) rfl (BX rfl) ?_)))))))))
 have M:(decide (¬ (a.aI=2)))=true:=(dT (by omega))
 refine Gz (.pointer (some ⟨d,2,none⟩)) M (Gl (.string ⟨List.toArray a.aC⟩) M b 0 Tryz.isAgg9 (CO (v:= .bool (decide (a.aC≠([])))) rfl rfl M rfl (CX rfl rfl) (gw (.bool (decide (a.aC≠([])))) rfl (BZ rfl M rfl) (fw (.bool (decide (a.aC≠([])))) (BQ rfl rfl rfl) (Mz rfl ?_)))))
 by_cases k:a.aC≠([])
 refine Sz (dT k) (Sz (dT k) (Sz (dT k) (Sz (dT k) (BV rfl rfl rfl (BV rfl rfl rfl (BV rfl rfl rfl (Sz (dT k) (fw (.bool true) (BZ rfl (dT k) rfl) (nt (jt (sr (An rfl (rt (tR (rs ?_)))))))))))))))
 have bC:=b.pk []
 obtain rfl:_=40:=hr.symm.trans (et (iN g) (et (iN i) (et (iN f) (et (ip c) (et (iN n) (et (iN o) (ip k)))))))
 exact⟨rfl,bC,(by omega)⟩
 refine Gz (.pointer (some ⟨d,0,none⟩)) (dF k) (Gl (.int .i64 a.aI) (dF k) b 0 Tryz.isAgg3 (gw (.bool (decide (¬ (a.aI=4)))) (dF k) (Cy (e:= !(decide (a.aI=4))) yk decide_not.symm) (gw (.bool (decide (¬ (a.aI=4)))) (dF k) (BX rfl) ?_)))
 have N:(decide (¬ (a.aI=4)))=true:=(dT (by omega))
 refine Gz (.pointer (some ⟨d,5,none⟩)) N (Gl (.int .i64 a.bn) N b 0 Tryz.isAgg3 (CO (v:= .bool (decide (¬ (a.bn=0)))) rfl rfl N rfl (Cy (e:= !(decide (a.bn=0))) yk decide_not.symm) (gw (.bool (decide (¬ (a.bn=0)))) (dF k) (BZ rfl N rfl) (fw (.bool (decide (¬ (a.bn=0)))) (BQ rfl (dF k) rfl) (nt ?_)))))
 by_cases J:a.bn=0
 refine jF (dF (EN J)) (sk (BS (sr (Mz rfl (Mz rfl (Gz (.pointer (some ⟨d,1,none⟩)) (dT c) (Gl (.string ⟨List.toArray a.aV⟩) (dT c) b 0 Tryz.isAgg9 ?_)))))))
 obtain⟨K,O⟩:∃ q,jl a.aV=q:=⟨_,rfl⟩
 obtain⟨dD,aO,df,aP,dh⟩:=Ck b
 refine nT (dT c) Tryz.call87 (lK _ _ a.aV K aO O) ?_
 rintro _ dG ⟨rfl,aQ,aI⟩
 have S:=aP _ _ aQ
 replace aI: ¬ (K=0)∨(1≤a.aV.length∧a.aV.length≤12):=aI
 refine gw (.bool (decide (¬ (K=0)))) (dT c) (Cy (e:= !(decide (K=0))) yk decide_not.symm) (fw (.bool (decide (¬ (K=0)))) (BZ rfl (dT c) rfl) (nt ?_))
 by_cases T:K=0
 refine jF (dF (EN T)) (sk (BS (sr (Kz (.pointer (some ⟨d,2,none⟩)) (Lz (.string ⟨List.toArray a.aC⟩) S 0 Tryz.isAgg9 (Kz (.int .i64 ((a.aC.length:Nat):Int)) (Kz (.bool (decide (((a.aC.length:Nat):Int) > 16))) (nt ?_))))))))
 by_cases au:((a.aC.length:Nat):Int) > 16
 refine jT (dT au) (sr (An rfl (rt (tR (rs ?_)))))
 have bD:=S.pk []
 obtain rfl:_=2:=hr.symm.trans (et (iN g) (et (iN i) (et (iN f) (et (ip c) (et (iN n) (et (iN o) (et (iN k) (et (ip J) (et (ag O) (et (ip T) (ip au)))))))))))
 exact⟨rfl,bD,(by omega)⟩
 refine jF (dF au) (sk (BS (sr (Mz rfl (Mz rfl (Sz m (Sz m (Sz m (Sz m (Sz m (Sz m (Sz m (fw (.bool false) (BQ rfl m rfl) (nt (jf (sk (BS (sr (Kz (.pointer (some ⟨d,0,none⟩)) (Lz (.int .i64 a.aI) S 0 Tryz.isAgg3 (Kz (.bool (decide (a.aI=4))) (Mz rfl (Sz (dF f) (Sz (dF f) (Sz (dF f) (Sz (dF f) (BV rfl rfl rfl (BV rfl rfl rfl (BV rfl rfl rfl (Sz (dF f) (fw (.bool false) (BQ rfl (dF f) rfl) (nt (jf ?_)))))))))))))))))))))))))))))))))
 refine sk (sr (An rfl (rt (rs ?_))))
 have bE:=S.pk []
 obtain rfl:_=0:=hr.symm.trans (et (iN g) (et (iN i) (et (iN f) (et (ip c) (et (iN n) (et (iN o) (et (iN k) (et (ip J) (et (ag O) (et (ip T) (iN au)))))))))))
 exact⟨rfl,bE,(by omega)⟩
 refine jT (dT T) (sr (An rfl (rt (tR (rs ?_)))))
 have bG:=S.pk []
 obtain rfl:_=20:=hr.symm.trans (et (iN g) (et (iN i) (et (iN f) (et (ip c) (et (iN n) (et (iN o) (et (iN k) (et (ip J) (et (ag O) (iN T))))))))))
 exact⟨rfl,bG,(by omega)⟩
 refine jT (dT J) (sr (An rfl (rt (tR (rs ?_)))))
 have bH:=b.pk []
 obtain rfl:_=40:=hr.symm.trans (et (iN g) (et (iN i) (et (iN f) (et (ip c) (et (iN n) (et (iN o) (et (iN k) (iN J))))))))
 exact⟨rfl,bH,(by omega)⟩
 refine gw (.bool (decide (a.aI=5))) (dT c) (BX rfl) (gw (.bool (decide (¬ (a.aI=5)))) (dT c) (Cy (e:= !(decide (a.aI=5))) yk decide_not.symm) (fw (.bool (decide (¬ (a.aI=5)))) (BZ rfl (dT c) rfl) (Mz rfl ?_)))
 by_cases h:a.aI=5
 refine gw (.bool (decide (a.aI=3))) (dF (EN h)) (BX rfl) (gw (.bool (decide (a.aI=3))) (dF (EN h)) (BX rfl) (Sz (dF c) (Sz (dF c) (Sz (dF c) (Sz (dF c) (BV rfl rfl rfl (BV rfl rfl rfl (BV rfl rfl rfl (Sz (dF c) (gw (.bool false) (dF (EN h)) (BQ rfl (dF c) rfl) (fw (.bool false) (BQ rfl (dF (EN h)) rfl) (Mz rfl (gw (.bool (decide (a.aI=5))) rfl (BX rfl) (gw (.bool (decide (a.aI=5))) rfl (BX rfl) (Gz (.pointer (some ⟨d,1,none⟩)) (dT h) (Gl (.string ⟨List.toArray a.aV⟩) (dT h) b 0 Tryz.isAgg9 (gw (.bool (decide (a.aV≠([])))) (dT h) (CX rfl rfl) (gw (.bool (decide (a.aV≠([])))) rfl (BZ rfl (dT h) rfl) (fw (.bool (decide (a.aV≠([])))) (BQ rfl rfl rfl) (Mz rfl ?_))))))))))))))))))))
 by_cases j:a.aV≠([])
 refine Sz (dT j) (Sz (dT j) (Sz (dT j) (Sz (dT j) (BV rfl rfl rfl (BV rfl rfl rfl (BV rfl rfl rfl (Sz (dT j) (fw (.bool true) (BZ rfl (dT j) rfl) (Mz rfl (Sz rfl (Sz rfl (Sz rfl (Sz rfl (BV rfl rfl rfl (BV rfl rfl rfl (BV rfl rfl rfl (Sz rfl (fw (.bool true) (BZ rfl rfl rfl) (nt (jt (sr (An rfl (rt (tR (rs ?_)))))))))))))))))))))))))
 have bI:=b.pk []
 obtain rfl:_=40:=hr.symm.trans (et (iN g) (et (iN i) (et (iN f) (et (iN c) (et (ip h) (ip j))))))
 exact⟨rfl,bI,(by omega)⟩
 refine Gz (.pointer (some ⟨d,0,none⟩)) (dF j) (Gl (.int .i64 a.aI) (dF j) b 0 Tryz.isAgg3 (gw (.bool (decide (¬ (a.aI=2)))) (dF j) (Cy (e:= !(decide (a.aI=2))) yk decide_not.symm) (gw (.bool (decide (¬ (a.aI=2)))) (dF j) (BX rfl) ?_)))
 have P:(decide (¬ (a.aI=2)))=true:=(dT (by omega))
 refine Gz (.pointer (some ⟨d,2,none⟩)) P (Gl (.string ⟨List.toArray a.aC⟩) P b 0 Tryz.isAgg9 (CO (v:= .bool (decide (a.aC≠([])))) rfl rfl P rfl (CX rfl rfl) (gw (.bool (decide (a.aC≠([])))) (dF j) (BZ rfl P rfl) (fw (.bool (decide (a.aC≠([])))) (BQ rfl (dF j) rfl) (Mz rfl ?_)))))
 by_cases l:a.aC≠([])
 refine Sz (dT l) (Sz (dT l) (Sz (dT l) (Sz (dT l) (BV rfl rfl rfl (BV rfl rfl rfl (BV rfl rfl rfl (Sz (dT l) (fw (.bool true) (BZ rfl (dT l) rfl) (nt (jt (sr (An rfl (rt (tR (rs ?_)))))))))))))))
 have bJ:=b.pk []
 obtain rfl:_=40:=hr.symm.trans (et (iN g) (et (iN i) (et (iN f) (et (iN c) (et (ip h) (et (iN j) (ip l)))))))
 exact⟨rfl,bJ,(by omega)⟩
 refine Gz (.pointer (some ⟨d,0,none⟩)) (dF l) (Gl (.int .i64 a.aI) (dF l) b 0 Tryz.isAgg3 (gw (.bool (decide (¬ (a.aI=4)))) (dF l) (Cy (e:= !(decide (a.aI=4))) yk decide_not.symm) (gw (.bool (decide (¬ (a.aI=4)))) (dF l) (BX rfl) ?_)))
 have Q:(decide (¬ (a.aI=4)))=true:=(dT (by omega))
 refine Gz (.pointer (some ⟨d,5,none⟩)) Q (Gl (.int .i64 a.bn) Q b 0 Tryz.isAgg3 (CO (v:= .bool (decide (¬ (a.bn=0)))) rfl rfl Q rfl (Cy (e:= !(decide (a.bn=0))) yk decide_not.symm) (gw (.bool (decide (¬ (a.bn=0)))) (dF l) (BZ rfl Q rfl) (fw (.bool (decide (¬ (a.bn=0)))) (BQ rfl (dF l) rfl) (nt ?_)))))
 by_cases L:a.bn=0
 refine jF (dF (EN L)) (sk (BS (sr (Mz rfl (Mz rfl (Sz (dF c) (Sz (dF c) (Sz (dF c) (Sz (dF c) (fw (.bool false) (BQ rfl (dF c) rfl) (nt (jf (sk (BS (sr (Kz (.pointer (some ⟨d,2,none⟩)) (Lz (.string ⟨List.toArray a.aC⟩) b 0 Tryz.isAgg9 (Kz (.int .i64 ((a.aC.length:Nat):Int)) (Kz (.bool (decide (((a.aC.length:Nat):Int) > 16))) (nt ?_))))))))))))))))))))
 by_cases U:((a.aC.length:Nat):Int) > 16
 refine jT (dT U) (sr (An rfl (rt (tR (rs ?_)))))
 have bK:=b.pk []
 obtain rfl:_=2:=hr.symm.trans (et (iN g) (et (iN i) (et (iN f) (et (iN c) (et (ip h) (et (iN j) (et (iN l) (et (ip L) (ip U)))))))))
 exact⟨rfl,bK,(by omega)⟩
 refine jF (dF U) (sk (BS (sr (Mz rfl (Mz rfl (Gz (.pointer (some ⟨d,3,none⟩)) (dT h) (Gl (.string ⟨List.toArray a.aK⟩) (dT h) b 0 Tryz.isAgg9 (Gz (.pointer (some ⟨d,4,none⟩)) (dT h) (Gl (.string ⟨List.toArray a.aO⟩) (dT h) b 0 Tryz.isAgg9 (Gz (.agg #[.string ⟨List.toArray a.aK⟩, .string ⟨List.toArray a.aO⟩]) (dT h) ?_))))))))))
 obtain⟨V,X⟩:∃ q,gz (bF.mk a.aK a.aO)=q:=⟨_,rfl⟩
 obtain⟨dH,aR,di,aS,dm⟩:=Ck b
 refine nT (dT h) Tryz.call43 (ni _ _ (bF.mk a.aK a.aO) V aR X) ?_
 rintro _ dI ⟨rfl,aT⟩
 have aJ:=aS _ _ aT
 refine gw (.bool (decide (¬ (V=0)))) (dT h) (Cy (e:= !(decide (V=0))) yk decide_not.symm) (fw (.bool (decide (¬ (V=0)))) (BZ rfl (dT h) rfl) (nt ?_))
 by_cases av:V=0
 refine jF (dF (EN av)) (sk (BS (sr (Kz (.pointer (some ⟨d,0,none⟩)) (Lz (.int .i64 a.aI) aJ 0 Tryz.isAgg3 (Kz (.bool (decide (a.aI=4))) (Mz rfl (Sz (dF f) (Sz (dF f) (Sz (dF f) (Sz (dF f) (BV rfl rfl rfl (BV rfl rfl rfl (BV rfl rfl rfl (Sz (dF f) (fw (.bool false) (BQ rfl (dF f) rfl) (nt (jf (sk (sr (An rfl (rt (rs ?_)))))))))))))))))))))))
 have bL:=aJ.pk []
 obtain rfl:_=0:=hr.symm.trans (et (iN g) (et (iN i) (et (iN f) (et (iN c) (et (ip h) (et (iN j) (et (iN l) (et (ip L) (et (iN U) (et (ag X) (ip av)))))))))))
 exact⟨rfl,bL,(by omega)⟩
 refine jT (dT av) (sr (An rfl (rt (tR (rs ?_)))))
 have bM:=aJ.pk []
 obtain rfl:_=21:=hr.symm.trans (et (iN g) (et (iN i) (et (iN f) (et (iN c) (et (ip h) (et (iN j) (et (iN l) (et (ip L) (et (iN U) (et (ag X) (iN av)))))))))))
 exact⟨rfl,bM,(by omega)⟩
 refine jT (dT L) (sr (An rfl (rt (tR (rs ?_)))))
 have bN:=b.pk []
 obtain rfl:_=40:=hr.symm.trans (et (iN g) (et (iN i) (et (iN f) (et (iN c) (et (ip h) (et (iN j) (et (iN l) (iN L))))))))
 exact⟨rfl,bN,(by omega)⟩
 refine Sz (dT h) (Sz (dT h) (BV rfl rfl rfl (BV rfl rfl rfl (BV rfl rfl rfl (BV rfl rfl rfl (BV rfl rfl rfl (BV rfl rfl rfl (BV rfl rfl rfl (BV rfl rfl rfl (Sz (dT h) (fw (.bool true) (BZ rfl (dT h) rfl) (Mz rfl (Sz rfl (Sz rfl (BV rfl rfl rfl (BV rfl rfl rfl (BV rfl rfl rfl (Sz rfl (fw (.bool true) (BZ rfl rfl rfl) (Mz rfl (Sz rfl (Sz rfl (Sz rfl (Sz rfl (BV rfl rfl rfl (BV rfl rfl rfl (BV rfl rfl rfl (Sz rfl (fw (.bool true) (BZ rfl rfl rfl) (Mz rfl (Sz rfl (Sz rfl (Sz rfl (Sz rfl (BV rfl rfl rfl (BV rfl rfl rfl (BV rfl rfl rfl (Sz rfl (fw (.bool true) (BZ rfl rfl rfl) ?_)))))))))))))))))))))))))))))))))))))))
 refine nt (jt (sr (An rfl (rt (tR (rs ?_))))))
 have bO:=b.pk []
 obtain rfl:_=40:=hr.symm.trans (et (iN g) (et (iN i) (et (iN f) (et (iN c) (iN h)))))
 exact⟨rfl,bO,(by omega)⟩
def jX:List bq→Unit ⊕ Int
  | []=>Sum.inl ()
  | b::c=>bnd (kT b) fun a=>if a=0 then jX c else Sum.inr (a)
def nG (a:List bq):Int:=
 lp (jX a) fun _=>0
theorem sj (w:World) (D:Nat→Prop) (l:Option Addr) (F r:Nat) (b:List bq) (N:Int) (H:Own w D w []) (p:Ro w D fun w'=>bG w' 6 l F (List.flatMap bq.cells b)) (G:F=b.length) (R:b.length≤9223372036854775807) (hr:nG b=N):
    Calls Tryz.prog 44 #[.slice l F r] w (dE fun v w'=>v= .int .i64 N∧Own w D w' []):=by
 subst G
 refine Ce (args:= [.slice l b.length r]) Tryz.func44 rfl rfl rfl ?_
 show Wp _ _ _ [(0, .slice l b.length r)] _ _
 refine sr (An rfl (BS (sr (Mz rfl (Kz (.int .i64 ((b.length:Nat):Int)) (Mn rfl (bo ?_)))))))
 have I:Own w D w []:=H.pk []
 obtain⟨s,t⟩:∃ q:Nat→World→Prop,q=fun(i:Nat) w'=>Own w D w' []∧(i≤b.length∧jX b=jX (List.drop i b)):=⟨_,rfl⟩
 have f:∀ {a:Nat} {w':World},s a w'↔Own w D w' []∧a≤b.length∧jX b=jX (List.drop a b):=by intros; subst t; exact Iff.rfl
 refine Wp.loop (fun i:Nat=> [(2, .int .i64 0),(8, .int .i64 ((i:Nat):Int)),(7, .int .i64 ((b.length:Nat):Int)),(6, .slice l b.length r)]) s (fun i=>b.length - i) 0 ⟨rfl,rfl,rfl,rfl,trivial⟩ (f.2 ⟨I,by omega,rfl⟩) ?_
 rintro a S u
 obtain⟨g,O,h⟩:=f.1 u
 refine sr (Kz (.bool (decide (((a:Nat):Int) < ((b.length:Nat):Int)))) (nt (BS ?_)))
 by_cases x:((a:Nat):Int) < ((b.length:Nat):Int)
 obtain⟨c,m⟩:=bU (ls:=b) (i:=a) bq.len (by decide) (g.ro p) (by first | omega | (simp; done) | (simp; omega))
 have n:=drop_at m
 refine jT (dT x) (sk (BS (bo (sr (fw (.pointer (some ⟨ab l,ao l+a *6,none⟩)) (Ch (rF) rfl rfl ((g.ro p).addr (i:=a) (by omega)) (by omega)) (fw (.agg (bq.cells c).toArray) (Cc rfl (Cu (cs:=(bq.cells c)) Tryz.isAgg74 Tryz.sizeOf74 ((g.ro p).elem bq.len m (by decide)))) ?_))))))
 refine dB [.int .i64 0, .string ⟨List.toArray ([])⟩, .string ⟨List.toArray ([])⟩, .string ⟨List.toArray ([])⟩, .string ⟨List.toArray ([])⟩, .int .i64 0] 74 g ?_
 intro T U J
 refine dw (bq.cells c) 0 J Tryz.sizeOf74 ?_
 intro V y
 refine ns (La (bq.cells c) y 0 Tryz.isAgg74 Tryz.sizeOf74 ?_)
 obtain⟨d,j⟩:∃ q,kT c=q:=⟨_,rfl⟩
 obtain⟨W,z,P,A,Q⟩:=Ck y
 refine cl Tryz.call88 (sQ _ _ c d z j) ?_
 rintro _ X ⟨rfl,B,o⟩
 have C:=A _ _ B
 replace o: ¬ (d=0)∨(1≤c.aI∧c.aI≤5):=o
 refine Ar rfl (Mz rfl (fw (.bool (decide (¬ (d=0)))) (Cy (e:= !(decide (d=0))) yk decide_not.symm) (nt ?_)))
 by_cases k:d=0
 refine jF (dF (EN k)) (CW (bN (Ca (BR (fw (.int .i64 ((a+1:Nat):Int)) (Ci (e:=IntKind.i64.wrap (((a:Nat):Int)+1)) yk (by rw [EL _ (by omega)]; omega)) (Mz rfl (Cf ?_)))))))
 have K:=C.pk []
 exact Cm (a+1) ⟨rfl,rfl,rfl,rfl,trivial⟩ (f.2 ⟨K,by omega,et (h) (et (congrArg (fun q=>jX q) n) (et (ag j) (ip k)))⟩) (by show b.length - (a+1) < b.length - a; omega)
 refine jT (dT k) (sr (Mz rfl (An rfl (rt (bR (tR (tR (bR (tR (rs ?_))))))))))
 have L:=C.pk []
 obtain rfl:_=d:=hr.symm.trans (ic (et (h) (et (congrArg (fun q=>jX q) n) (et (ag j) (iN k)))))
 exact⟨rfl,L⟩
 refine jF (dF x) (Wp.exit (Cb ?_))
 have E:jX b=Sum.inl ():=et (h) (et (congrArg (fun q=>jX q) (bM (ls:=b) (i:=a) (by omega))) rfl)
 refine Cb (Cn (Ca (sr (An rfl (rt (rs ?_))))))
 have M:=g.pk []
 obtain rfl:_=0:=hr.symm.trans (mF E)
 exact⟨rfl,M⟩
def fG (c:Nat) (b:eZ):List Nat→Bool→Bool
  | [],a=>a
  | d::e,a=>bnd (if a=true then decide (¬ (((d:Nat):Int)=((b.av:Nat):Int))) else false) fun sJrRaRaRaRaRaRaRaRaLsttttbLsR=>fG c b e sJrRaRaRaRaRaRaRaRaLsttttbLsR
def iK (a:Nat):List Nat→Unit
  | []=>()
  | c::b=>iK a b
def iL (a:Nat):List Nat→Unit
  | []=>()
  | c::b=>iL a b
def gX (c:Nat) (b:eZ):List Nat→Bool→Bool
  | [],a=>a
  | d::e,a=>bnd (if a=true then decide (¬ (((d:Nat):Int)=((b.av:Nat):Int))) else false) fun sJrRaRaRaRaRaRaRaRaLstfbtttbLsR=>gX c b e sJrRaRaRaRaRaRaRaRaLstfbtttbLsR
def iM (a:Nat):List Nat→Unit
  | []=>()
  | c::b=>iM a b
def iO (a:Nat):List Nat→Unit
  | []=>()
  | c::b=>iO a b
def iQ (a:Nat):List Nat→Unit
  | []=>()
  | c::b=>iQ a b
def iR (a:Nat):List Nat→Unit
  | []=>()
  | c::b=>iR a b
def bz (d:bQ):List eZ→Bool→Nat→Bool
  | [],e,a=>e
  | b::c,e,a=>if e=true then if((a:Nat):Int)=0 then if((b.ay.ls.length:Nat):Int) ≥ 1 then if((b.ay.ls.length:Nat):Int)≤24 then bnd (nG b.ay.ls) fun f=>bnd (fG a b d.ah.ls (decide (f=0))) fun sLrRaRaRaRaRaRaRaRaLsttttbL=>bz d c sLrRaRaRaRaRaRaRaRaLsttttbL (a+1) else bnd (iK a d.ah.ls) fun _=>bz d c false (a+1) else bnd (iL a d.ah.ls) fun _=>bz d c false (a+1) else bnd (List.getD d.az.ls (a - 1) default) fun g=>if((g.av:Nat):Int) < ((b.av:Nat):Int) then if((b.ay.ls.length:Nat):Int) ≥ 1 then if((b.ay.ls.length:Nat):Int)≤24 then bnd (nG b.ay.ls) fun h=>bnd (gX a b d.ah.ls (decide (h=0))) fun sLrRaRaRaRaRaRaRaRaLstfbtttbL=>bz d c sLrRaRaRaRaRaRaRaRaLstfbtttbL (a+1) else bnd (iM a d.ah.ls) fun _=>bz d c false (a+1) else bnd (iO a d.ah.ls) fun _=>bz d c false (a+1) else bnd (iQ a d.ah.ls) fun _=>bz d c false (a+1) else bnd (iR a d.ah.ls) fun _=>bz d c false (a+1)
def gJ (f:bQ):List Nat→Bool→Nat→Bool
  | [],b,a=>b
  | d::e,b,a=>bnd (if b=true then if((a:Nat):Int)=0 then true else bnd (List.getD f.ah.ls (a - 1) default) fun c=>decide (((c:Nat):Int) < ((d:Nat):Int)) else false) fun sJrRaRaRaRaRaRaRaRaLaLsR=>gJ f e sJrRaRaRaRaRaRaRaRaLaLsR (a+1)
def kQ (a:bQ):Int:=
 bnd (if a.cO ≥ 1 then decide (a.cO≤4) else false) fun sJrR=>bnd (if sJrR=true then bnd (jd a.ai.ls) fun c=>decide (c=0) else false) fun sJrRaR=>bnd (if sJrRaR=true then decide (((a.az.ls.length:Nat):Int)≤6) else false) fun sJrRaRaR=>bnd (if sJrRaRaR=true then decide (((a.az.ls.length+a.ah.ls.length:Nat):Int)≤64) else false) fun sJrRaRaRaR=>bnd (if sJrRaRaRaR=true then bnd (gz a.aS.aP) fun d=>decide (d=0) else false) fun sJrRaRaRaRaR=>bnd (if sJrRaRaRaRaR=true then if((a.aS.aZ:Nat):Int)=0 then decide ((((a.aS.aZ:Nat):Int)=0)∧(((a.aS.bB:Nat):Int)=0)∧(((a.aS.cz:Nat):Int)=0)∧((a.aS.aP.aK=([]))∧(a.aS.aP.aO=([])))) else true else false) fun sJrRaRaRaRaRaR=>bnd (if sJrRaRaRaRaRaR=true then bnd (gz a.bf) fun b=>decide (b=0) else false) fun sJrRaRaRaRaRaRaR=>bnd (if sJrRaRaRaRaRaRaR=true then if((a.bS:Nat):Int)=0 then decide ((a.bf.aK=([]))∧(a.bf.aO=([]))) else true else false) fun sJrRaRaRaRaRaRaRaR=>bnd (bz a a.az.ls sJrRaRaRaRaRaRaRaR 0) fun sLrRaRaRaRaRaRaRaRaL=>bnd (gJ a a.ah.ls sLrRaRaRaRaRaRaRaRaL 0) fun sLrRaRaRaRaRaRaRaRaLaL=>if sLrRaRaRaRaRaRaRaRaLaL=true then 0 else 1
set_option maxHeartbeats 4000000 in
theorem nU (w:World) (D:Nat→Prop) (d:bQ) (r:Option Addr) (fB s:Nat) (f:Option Addr) (fC l:Nat) (bD:List aM) (g:Option Addr) (fD n:Nat) (r0:Int) (H:Own w D w []) (gV:fB=d.ai.ls.length) (gW:Ro w D fun w'=>bG w' 2 r d.ai.ls.length (List.flatMap aL.cells d.ai.ls)) (lL:d.ai.ls.length≤s∧d.ai.ls.length≤9223372036854775807) (bT:List.map CE bD=d.az.ls) (gY:fC=d.az.ls.length) (aT:Ro w D fun w'=>bG w' 2 f d.az.ls.length (List.flatMap aM.cells bD)) (lM:d.az.ls.length≤l∧d.az.ls.length≤9223372036854775807) (bu:∀ x ∈ bD,Ro w D (fun w'=>bG w' 6 x.ay.A x.ay.ls.length (List.flatMap bq.cells x.ay.ls))∧(x.ay.ls.length≤x.ay.c∧x.ay.ls.length≤9223372036854775807)) (gZ:fD=d.ah.ls.length) (y:Ro w D fun w'=>bG w' 1 g d.ah.ls.length (List.flatMap (eN .u64) d.ah.ls)) (lN:d.ah.ls.length≤n∧d.ah.ls.length≤9223372036854775807) (nO:d.ai.ls.length≤140737488355328∧d.az.ls.length≤140737488355328∧d.ah.ls.length≤140737488355328) (hr:kQ d=r0):
    Calls Tryz.prog 12 #[.agg (bZ d.cO d.aj d.aR d.aH d.aZ r fB s f fC l g fD n d.iq d.bS d.bf.aK d.bf.aO d.aS.aZ d.aS.bB d.aS.cz d.aS.aP.aK d.aS.aP.aO).toArray] w (dE fun v w'=>v= .int .i64 r0∧Own w D w' []):=by
 subst gV gY gZ
 have hdl0x1:=dm bT
 refine Ce (args:= [.agg (aX d r s f l g n).toArray]) Tryz.func12 rfl rfl rfl ?_
 show Wp _ _ _ [(0, .agg (aX d r s f l g n).toArray)] _ _
 refine sr ?_
 refine dB (aX d r s f l g n) 31 H ?_
 intro h nP fq
 refine Ar rfl (Kz (.pointer (some ⟨h,0,none⟩)) (Lz (.int .i64 d.cO) fq 0 Tryz.isAgg3 (Kz (.bool (decide (d.cO ≥ 1))) (Mz rfl ?_))))
 refine CY (ι:=Bool) 4 (fun i=> [(17, .bool i),(13, .bool (decide (d.cO ≥ 1))),(12, .bool (decide (d.cO ≥ 1))),(11, .int .i64 d.cO),(10, .pointer (some ⟨h,0,none⟩)),(2, .int .i64 0),(1, .pointer (some ⟨h,0,none⟩)),(0, .agg (aX d r s f l g n).toArray)]) (fun i w'=>Own w D w' [blk h (aX d r s f l g n) 31]∧((if d.cO ≥ 1 then decide (d.cO≤4) else false)=i)) ?_ ?_
 intro fH
 by_cases bf:d.cO ≥ 1
 refine Gz (.pointer (some ⟨h,0,none⟩)) (dT bf) (Gl (.int .i64 d.cO) (dT bf) fq 0 Tryz.isAgg3 (Gz (.bool (decide (d.cO≤4))) (dT bf) (fw (.bool (decide (d.cO≤4))) (BZ rfl (dT bf) rfl) ?_)))
 have lQ:=fq.pk [0]
 exact fH (decide (d.cO≤4)) _ _ ⟨lQ,(show (if d.cO ≥ 1 then decide (d.cO≤4) else false)=decide (d.cO≤4) from ip bf)⟩ ⟨rfl,rfl,rfl,rfl,rfl,rfl,rfl,rfl,trivial⟩
 refine Sz (dF bf) (Sz (dF bf) (Sz (dF bf) (fw (.bool false) (BQ rfl (dF bf) rfl) ?_)))
 have lS:=fq.pk [0]
 exact fH false _ _ ⟨lS,(show (if d.cO ≥ 1 then decide (d.cO≤4) else false)=false from iN bf)⟩ ⟨rfl,rfl,rfl,rfl,rfl,rfl,rfl,rfl,trivial⟩
 rintro B nQ ⟨ib,dA⟩
 show WL _ _ _ (List.drop 4 _) _ [(17, .bool B),(13, .bool (decide (d.cO ≥ 1))),(12, .bool (decide (d.cO ≥ 1))),(11, .int .i64 d.cO),(10, .pointer (some ⟨h,0,none⟩)),(2, .int .i64 0),(1, .pointer (some ⟨h,0,none⟩)),(0, .agg (aX d r s f l g n).toArray)] _
 replace dA:(if d.cO ≥ 1 then decide (d.cO≤4) else false)=B:=dA
 refine Mz rfl ?_
 refine CY (ι:=Bool) 5 (fun i=> [(23, .bool i),(18, .bool B),(17, .bool B),(13, .bool (decide (d.cO ≥ 1))),(12, .bool (decide (d.cO ≥ 1))),(11, .int .i64 d.cO),(10, .pointer (some ⟨h,0,none⟩)),(2, .int .i64 0),(1, .pointer (some ⟨h,0,none⟩)),(0, .agg (aX d r s f l g n).toArray)]) (fun i w'=>Own w D w' [blk h (aX d r s f l g n) 31]∧((if B=true then bnd (jd d.ai.ls) fun aU=>decide (aU=0) else false)=i)) ?_ ?_
 intro fI
 rcases EO (B) with aO | aO
 refine Gz (.pointer (some ⟨h,5,none⟩)) aO (Gl (.slice r d.ai.ls.length s) aO ib 0 Tryz.isAgg23 ?_)
 obtain⟨dJ,fJ⟩:∃ q,jd d.ai.ls=q:=⟨_,rfl⟩
 obtain⟨nR,jM,jN,jO,mO⟩:=Ck ib
 refine Di rfl rfl aO rfl (Cq Tryz.call42 rfl (qz _ _ r d.ai.ls.length s d.ai.ls dJ jM (jN _ gW) rfl (by omega) fJ) ?_)
 rintro _ nS ⟨rfl,jP⟩
 have lT:=jO _ _ jP
 refine Gz (.bool (decide (dJ=0))) aO (fw (.bool (decide (dJ=0))) (BZ rfl aO rfl) ?_)
 have lU:=lT.pk [0]
 exact fI (decide (dJ=0)) _ _ ⟨lU,(show (if B=true then bnd (jd d.ai.ls) fun aU=>decide (aU=0) else false)=decide (dJ=0) from et (ip aO) (ag fJ))⟩ ⟨rfl,rfl,rfl,rfl,rfl,rfl,rfl,rfl,rfl,rfl,trivial⟩
 refine Sz aO (Sz aO (Sz aO (Sz aO (fw (.bool false) (BQ rfl aO rfl) ?_))))
 have lV:=ib.pk [0]
 exact fI false _ _ ⟨lV,(show (if B=true then bnd (jd d.ai.ls) fun aU=>decide (aU=0) else false)=false from jE aO)⟩ ⟨rfl,rfl,rfl,rfl,rfl,rfl,rfl,rfl,rfl,rfl,trivial⟩
 rintro I nT ⟨ic,dC⟩
 show WL _ _ _ (List.drop 5 _) _ [(23, .bool I),(18, .bool B),(17, .bool B),(13, .bool (decide (d.cO ≥ 1))),(12, .bool (decide (d.cO ≥ 1))),(11, .int .i64 d.cO),(10, .pointer (some ⟨h,0,none⟩)),(2, .int .i64 0),(1, .pointer (some ⟨h,0,none⟩)),(0, .agg (aX d r s f l g n).toArray)] _
 replace dC:(if B=true then bnd (jd d.ai.ls) fun aU=>decide (aU=0) else false)=I:=dC
 refine Mz rfl ?_
 refine CY (ι:=Bool) 5 (fun i=> [(29, .bool i),(24, .bool I),(23, .bool I),(18, .bool B),(17, .bool B),(13, .bool (decide (d.cO ≥ 1))),(12, .bool (decide (d.cO ≥ 1))),(11, .int .i64 d.cO),(10, .pointer (some ⟨h,0,none⟩)),(2, .int .i64 0),(1, .pointer (some ⟨h,0,none⟩)),(0, .agg (aX d r s f l g n).toArray)]) (fun i w'=>Own w D w' [blk h (aX d r s f l g n) 31]∧((if I=true then decide (((d.az.ls.length:Nat):Int)≤6) else false)=i)) ?_ ?_
 intro fK
 rcases EO (I) with aP | aP
 refine Gz (.pointer (some ⟨h,6,none⟩)) aP (Gl (.slice f d.az.ls.length l) aP ic 0 Tryz.isAgg24 (Gz (.int .i64 ((d.az.ls.length:Nat):Int)) aP (Gz (.bool (decide (((d.az.ls.length:Nat):Int)≤6))) aP (fw (.bool (decide (((d.az.ls.length:Nat):Int)≤6))) (BZ rfl aP rfl) ?_))))
 have lW:=ic.pk [0]
 exact fK (decide (((d.az.ls.length:Nat):Int)≤6)) _ _ ⟨lW,(show (if I=true then decide (((d.az.ls.length:Nat):Int)≤6) else false)=decide (((d.az.ls.length:Nat):Int)≤6) from ip aP)⟩ ⟨rfl,rfl,rfl,rfl,rfl,rfl,rfl,rfl,rfl,rfl,rfl,rfl,trivial⟩
 refine Sz aP (Sz aP (Sz aP (Sz aP (fw (.bool false) (BQ rfl aP rfl) ?_))))
 have lX:=ic.pk [0]
 exact fK false _ _ ⟨lX,(show (if I=true then decide (((d.az.ls.length:Nat):Int)≤6) else false)=false from jE aP)⟩ ⟨rfl,rfl,rfl,rfl,rfl,rfl,rfl,rfl,rfl,rfl,rfl,rfl,trivial⟩
 rintro P nV ⟨fA,dD⟩
 show WL _ _ _ (List.drop 5 _) _ [(29, .bool P),(24, .bool I),(23, .bool I),(18, .bool B),(17, .bool B),(13, .bool (decide (d.cO ≥ 1))),(12, .bool (decide (d.cO ≥ 1))),(11, .int .i64 d.cO),(10, .pointer (some ⟨h,0,none⟩)),(2, .int .i64 0),(1, .pointer (some ⟨h,0,none⟩)),(0, .agg (aX d r s f l g n).toArray)] _
 replace dD:(if I=true then decide (((d.az.ls.length:Nat):Int)≤6) else false)=P:=dD
 refine Mz rfl ?_
 refine CY (ι:=Bool) 9 (fun i=> [(39, .bool i),(30, .bool P),(29, .bool P),(24, .bool I),(23, .bool I),(18, .bool B),(17, .bool B),(13, .bool (decide (d.cO ≥ 1))),(12, .bool (decide (d.cO ≥ 1))),(11, .int .i64 d.cO),(10, .pointer (some ⟨h,0,none⟩)),(2, .int .i64 0),(1, .pointer (some ⟨h,0,none⟩)),(0, .agg (aX d r s f l g n).toArray)]) (fun i w'=>Own w D w' [blk h (aX d r s f l g n) 31]∧((if P=true then decide (((d.az.ls.length+d.ah.ls.length:Nat):Int)≤64) else false)=i)) ?_ ?_
 intro fM
 rcases EO (P) with ai | ai
 refine Gz (.pointer (some ⟨h,6,none⟩)) ai (Gl (.slice f d.az.ls.length l) ai fA 0 Tryz.isAgg24 (Gz (.int .i64 ((d.az.ls.length:Nat):Int)) ai (Gz (.pointer (some ⟨h,7,none⟩)) ai (Gl (.slice g d.ah.ls.length n) ai fA 0 Tryz.isAgg25 (Gz (.int .i64 ((d.ah.ls.length:Nat):Int)) ai (CO (v:= .int .i64 ((d.az.ls.length+d.ah.ls.length:Nat):Int)) rfl rfl ai rfl (Ci (e:=IntKind.i64.wrap (((d.az.ls.length:Nat):Int)+((d.ah.ls.length:Nat):Int))) yk (by rw [EL _ (by omega)]; omega)) (Gz (.bool (decide (((d.az.ls.length+d.ah.ls.length:Nat):Int)≤64))) ai (fw (.bool (decide (((d.az.ls.length+d.ah.ls.length:Nat):Int)≤64))) (BZ rfl ai rfl) ?_))))))))
 have lY:=fA.pk [0]
 exact fM (decide (((d.az.ls.length+d.ah.ls.length:Nat):Int)≤64)) _ _ ⟨lY,(show (if P=true then decide (((d.az.ls.length+d.ah.ls.length:Nat):Int)≤64) else false)=decide (((d.az.ls.length+d.ah.ls.length:Nat):Int)≤64) from ip ai)⟩ ⟨rfl,rfl,rfl,rfl,rfl,rfl,rfl,rfl,rfl,rfl,rfl,rfl,rfl,rfl,trivial⟩
 refine Sz ai (Sz ai (Sz ai (Sz ai (Sz ai (Sz ai (Sz ai (Sz ai (fw (.bool false) (BQ rfl ai rfl) ?_))))))))
 have lZ:=fA.pk [0]
 exact fM false _ _ ⟨lZ,(show (if P=true then decide (((d.az.ls.length+d.ah.ls.length:Nat):Int)≤64) else false)=false from jE ai)⟩ ⟨rfl,rfl,rfl,rfl,rfl,rfl,rfl,rfl,rfl,rfl,rfl,rfl,rfl,rfl,trivial⟩
 rintro aa nW ⟨ig,dG⟩
 show WL _ _ _ (List.drop 9 _) _ [(39, .bool aa),(30, .bool P),(29, .bool P),(24, .bool I),(23, .bool I),(18, .bool B),(17, .bool B),(13, .bool (decide (d.cO ≥ 1))),(12, .bool (decide (d.cO ≥ 1))),(11, .int .i64 d.cO),(10, .pointer (some ⟨h,0,none⟩)),(2, .int .i64 0),(1, .pointer (some ⟨h,0,none⟩)),(0, .agg (aX d r s f l g n).toArray)] _
 replace dG:(if P=true then decide (((d.az.ls.length+d.ah.ls.length:Nat):Int)≤64) else false)=aa:=dG
 refine Mz rfl ?_
 refine CY (ι:=Bool) 6 (fun i=> [(46, .bool i),(40, .bool aa),(39, .bool aa),(30, .bool P),(29, .bool P),(24, .bool I),(23, .bool I),(18, .bool B),(17, .bool B),(13, .bool (decide (d.cO ≥ 1))),(12, .bool (decide (d.cO ≥ 1))),(11, .int .i64 d.cO),(10, .pointer (some ⟨h,0,none⟩)),(2, .int .i64 0),(1, .pointer (some ⟨h,0,none⟩)),(0, .agg (aX d r s f l g n).toArray)]) (fun i w'=>Own w D w' [blk h (aX d r s f l g n) 31]∧((if aa=true then bnd (gz d.aS.aP) fun aV=>decide (aV=0) else false)=i)) ?_ ?_
 intro fO
 rcases EO (aa) with aJ | aJ
 refine Gz (.pointer (some ⟨h,12,none⟩)) aJ (Gz (.pointer (some ⟨h,15,none⟩)) aJ (Ga (bF.cells d.aS.aP) aJ ig 0 Tryz.isAgg27 Tryz.sizeOf27 ?_))
 obtain⟨dK,fP⟩:∃ q,gz d.aS.aP=q:=⟨_,rfl⟩
 obtain⟨nX,jQ,mP,jR,mQ⟩:=Ck ig
 refine Di rfl rfl aJ rfl (Cq Tryz.call43 rfl (ni _ _ d.aS.aP dK jQ fP) ?_)
 rintro _ nY ⟨rfl,jS⟩
 have l5:=jR _ _ jS
 refine Gz (.bool (decide (dK=0))) aJ (fw (.bool (decide (dK=0))) (BZ rfl aJ rfl) ?_)
 have l6:=l5.pk [0]
 exact fO (decide (dK=0)) _ _ ⟨l6,(show (if aa=true then bnd (gz d.aS.aP) fun aV=>decide (aV=0) else false)=decide (dK=0) from et (ip aJ) (ag fP))⟩ ⟨rfl,rfl,rfl,rfl,rfl,rfl,rfl,rfl,rfl,rfl,rfl,rfl,rfl,rfl,rfl,rfl,trivial⟩
 refine Sz aJ (Sz aJ (Sz aJ (Sz aJ (Sz aJ (fw (.bool false) (BQ rfl aJ rfl) ?_)))))
 have l7:=ig.pk [0]
 exact fO false _ _ ⟨l7,(show (if aa=true then bnd (gz d.aS.aP) fun aV=>decide (aV=0) else false)=false from jE aJ)⟩ ⟨rfl,rfl,rfl,rfl,rfl,rfl,rfl,rfl,rfl,rfl,rfl,rfl,rfl,rfl,rfl,rfl,trivial⟩
 rintro ak nZ ⟨dL,dH⟩
 show WL _ _ _ (List.drop 6 _) _ [(46, .bool ak),(40, .bool aa),(39, .bool aa),(30, .bool P),(29, .bool P),(24, .bool I),(23, .bool I),(18, .bool B),(17, .bool B),(13, .bool (decide (d.cO ≥ 1))),(12, .bool (decide (d.cO ≥ 1))),(11, .int .i64 d.cO),(10, .pointer (some ⟨h,0,none⟩)),(2, .int .i64 0),(1, .pointer (some ⟨h,0,none⟩)),(0, .agg (aX d r s f l g n).toArray)] _
 replace dH:(if aa=true then bnd (gz d.aS.aP) fun aV=>decide (aV=0) else false)=ak:=dH
 refine Mz rfl ?_
 refine CY (ι:=Bool) 11 (fun i=> [(58, .bool i),(47, .bool ak),(46, .bool ak),(40, .bool aa),(39, .bool aa),(30, .bool P),(29, .bool P),(24, .bool I),(23, .bool I),(18, .bool B),(17, .bool B),(13, .bool (decide (d.cO ≥ 1))),(12, .bool (decide (d.cO ≥ 1))),(11, .int .i64 d.cO),(10, .pointer (some ⟨h,0,none⟩)),(2, .int .i64 0),(1, .pointer (some ⟨h,0,none⟩)),(0, .agg (aX d r s f l g n).toArray)]) (fun i w'=>Own w D w' [blk h (aX d r s f l g n) 31]∧((if ak=true then if((d.aS.aZ:Nat):Int)=0 then decide ((((d.aS.aZ:Nat):Int)=0)∧(((d.aS.bB:Nat):Int)=0)∧(((d.aS.cz:Nat):Int)=0)∧((d.aS.aP.aK=([]))∧(d.aS.aP.aO=([])))) else true else false)=i)) ?_ ?_
 intro dM
 rcases EO (ak) with au | au
 refine Gz (.pointer (some ⟨h,12,none⟩)) au (Gz (.pointer (some ⟨h,12,none⟩)) au (Gl (.int .u64 ((d.aS.aZ:Nat):Int)) au dL 0 Tryz.isAgg22 (CO (v:= .bool (decide (¬ (((d.aS.aZ:Nat):Int)=0)))) rfl rfl au rfl (Cy (e:= !(decide (((d.aS.aZ:Nat):Int)=0))) yk decide_not.symm) (CO (v:= .bool (decide (¬ (((d.aS.aZ:Nat):Int)=0)))) rfl rfl au rfl (BX rfl) ?_))))
 by_cases aR:((d.aS.aZ:Nat):Int)=0
 refine gw (.pointer (some ⟨h,12,none⟩)) (dF (EN aR)) yk (gw (.agg (gp.cells d.aS).toArray) (dF (EN aR)) (Cc rfl (Cu (cs:=(gp.cells d.aS)) Tryz.isAgg29 Tryz.sizeOf29 ((dL.cls (i:=0) rfl).lit (k:=12) (m:=5) rfl))) (gw (.agg #[.int .u64 0, .int .u64 0, .int .u64 0, .string ⟨List.toArray ([])⟩, .string ⟨List.toArray ([])⟩]) (dF (EN aR)) yk (gw (.bool (decide ((((d.aS.aZ:Nat):Int)=0)∧(((d.aS.bB:Nat):Int)=0)∧(((d.aS.cz:Nat):Int)=0)∧((d.aS.aP.aK=([]))∧(d.aS.aP.aO=([])))))) (dF (EN aR)) (DX rfl rfl (by kernel_rfl) rfl (gL.struct Tryz.underlying29 (by kernel_rfl) (Dc (fF.cons (u:= .int .u64 ((d.aS.aZ:Nat):Int)) (v:= .int .u64 0) (by decide) (fun _=>by kernel_rfl) (fun _=>by kernel_rfl) ((gL.int Tryz.underlying22).up (by decide)) (fF.cons (u:= .int .u64 ((d.aS.bB:Nat):Int)) (v:= .int .u64 0) (by decide) (fun _=>by kernel_rfl) (fun _=>by kernel_rfl) ((gL.int Tryz.underlying22).up (by decide)) (fF.cons (u:= .int .u64 ((d.aS.cz:Nat):Int)) (v:= .int .u64 0) (by decide) (fun _=>by kernel_rfl) (fun _=>by kernel_rfl) ((gL.int Tryz.underlying22).up (by decide)) (fF.cons (u:= .agg (bF.cells d.aS.aP).toArray) (v:= .agg #[.string ⟨List.toArray ([])⟩, .string ⟨List.toArray ([])⟩]) (by decide) (fun _=>by kernel_rfl) (fun _=>by kernel_rfl) (gL.struct Tryz.underlying27 (by kernel_rfl) (Dc (fF.cons (u:= .string ⟨List.toArray d.aS.aP.aK⟩) (v:= .string ⟨List.toArray ([])⟩) (by decide) (fun _=>by kernel_rfl) (fun _=>by kernel_rfl) (gL.string Tryz.underlying9) (fF.cons (u:= .string ⟨List.toArray d.aS.aP.aO⟩) (v:= .string ⟨List.toArray ([])⟩) (by decide) (fun _=>by kernel_rfl) (fun _=>by kernel_rfl) (gL.string Tryz.underlying9) (fF.nil.up (EM _)))) ((congrArg (decide (d.aS.aP.aK=([])) && ·) lm).trans fE))) (fF.nil.up (EM _)))))) ((congrArg (decide (((d.aS.aZ:Nat):Int)=0) && ·) ((congrArg (decide (((d.aS.bB:Nat):Int)=0) && ·) ((congrArg (decide (((d.aS.cz:Nat):Int)=0) && ·) lm).trans fE)).trans fE)).trans fE)))) (CO (v:= .bool (decide ((((d.aS.aZ:Nat):Int)=0)∧(((d.aS.bB:Nat):Int)=0)∧(((d.aS.cz:Nat):Int)=0)∧((d.aS.aP.aK=([]))∧(d.aS.aP.aO=([])))))) rfl rfl au rfl (BQ rfl (dF (EN aR)) rfl) (fw (.bool (decide ((((d.aS.aZ:Nat):Int)=0)∧(((d.aS.bB:Nat):Int)=0)∧(((d.aS.cz:Nat):Int)=0)∧((d.aS.aP.aK=([]))∧(d.aS.aP.aO=([])))))) (BZ rfl au rfl) ?_)))))
 have l8:=dL.pk [0]
 exact dM (decide ((((d.aS.aZ:Nat):Int)=0)∧(((d.aS.bB:Nat):Int)=0)∧(((d.aS.cz:Nat):Int)=0)∧((d.aS.aP.aK=([]))∧(d.aS.aP.aO=([]))))) _ _ ⟨l8,(show (if ak=true then if((d.aS.aZ:Nat):Int)=0 then decide ((((d.aS.aZ:Nat):Int)=0)∧(((d.aS.bB:Nat):Int)=0)∧(((d.aS.cz:Nat):Int)=0)∧((d.aS.aP.aK=([]))∧(d.aS.aP.aO=([])))) else true else false)=decide ((((d.aS.aZ:Nat):Int)=0)∧(((d.aS.bB:Nat):Int)=0)∧(((d.aS.cz:Nat):Int)=0)∧((d.aS.aP.aK=([]))∧(d.aS.aP.aO=([])))) from et (ip au) (ip aR))⟩ ⟨rfl,rfl,rfl,rfl,rfl,rfl,rfl,rfl,rfl,rfl,rfl,rfl,rfl,rfl,rfl,rfl,rfl,rfl,trivial⟩
 refine Sz (dT aR) (Sz (dT aR) (Sz (dT aR) (Sz (dT aR) (CO (v:= .bool true) rfl rfl au rfl (BZ rfl (dT aR) rfl) (fw (.bool true) (BZ rfl au rfl) ?_)))))
 have l9:=dL.pk [0]
 exact dM true _ _ ⟨l9,(show (if ak=true then if((d.aS.aZ:Nat):Int)=0 then decide ((((d.aS.aZ:Nat):Int)=0)∧(((d.aS.bB:Nat):Int)=0)∧(((d.aS.cz:Nat):Int)=0)∧((d.aS.aP.aK=([]))∧(d.aS.aP.aO=([])))) else true else false)=true from et (ip au) (iN aR))⟩ ⟨rfl,rfl,rfl,rfl,rfl,rfl,rfl,rfl,rfl,rfl,rfl,rfl,rfl,rfl,rfl,rfl,rfl,rfl,trivial⟩
 refine Sz au (Sz au (Sz au (Sz au (Sz au (BV rfl rfl rfl (BV rfl rfl rfl (BV rfl rfl rfl (BV rfl rfl rfl (Sz au (fw (.bool false) (BQ rfl au rfl) ?_))))))))))
 have ma:=dL.pk [0]
 exact dM false _ _ ⟨ma,(show (if ak=true then if((d.aS.aZ:Nat):Int)=0 then decide ((((d.aS.aZ:Nat):Int)=0)∧(((d.aS.bB:Nat):Int)=0)∧(((d.aS.cz:Nat):Int)=0)∧((d.aS.aP.aK=([]))∧(d.aS.aP.aO=([])))) else true else false)=false from jE au)⟩ ⟨rfl,rfl,rfl,rfl,rfl,rfl,rfl,rfl,rfl,rfl,rfl,rfl,rfl,rfl,rfl,rfl,rfl,rfl,trivial⟩
 rintro aK og ⟨ik,dI⟩
 show WL _ _ _ (List.drop 11 _) _ [(58, .bool aK),(47, .bool ak),(46, .bool ak),(40, .bool aa),(39, .bool aa),(30, .bool P),(29, .bool P),(24, .bool I),(23, .bool I),(18, .bool B),(17, .bool B),(13, .bool (decide (d.cO ≥ 1))),(12, .bool (decide (d.cO ≥ 1))),(11, .int .i64 d.cO),(10, .pointer (some ⟨h,0,none⟩)),(2, .int .i64 0),(1, .pointer (some ⟨h,0,none⟩)),(0, .agg (aX d r s f l g n).toArray)] _
 replace dI:(if ak=true then if((d.aS.aZ:Nat):Int)=0 then decide ((((d.aS.aZ:Nat):Int)=0)∧(((d.aS.bB:Nat):Int)=0)∧(((d.aS.cz:Nat):Int)=0)∧((d.aS.aP.aK=([]))∧(d.aS.aP.aO=([])))) else true else false)=aK:=dI
 refine Mz rfl ?_
 refine CY (ι:=Bool) 5 (fun i=> [(64, .bool i),(59, .bool aK),(58, .bool aK),(47, .bool ak),(46, .bool ak),(40, .bool aa),(39, .bool aa),(30, .bool P),(29, .bool P),(24, .bool I),(23, .bool I),(18, .bool B),(17, .bool B),(13, .bool (decide (d.cO ≥ 1))),(12, .bool (decide (d.cO ≥ 1))),(11, .int .i64 d.cO),(10, .pointer (some ⟨h,0,none⟩)),(2, .int .i64 0),(1, .pointer (some ⟨h,0,none⟩)),(0, .agg (aX d r s f l g n).toArray)]) (fun i w'=>Own w D w' [blk h (aX d r s f l g n) 31]∧((if aK=true then bnd (gz d.bf) fun aN=>decide (aN=0) else false)=i)) ?_ ?_
 intro fQ
 rcases EO (aK) with aQ | aQ
 refine Gz (.pointer (some ⟨h,10,none⟩)) aQ (Ga (bF.cells d.bf) aQ ik 0 Tryz.isAgg27 Tryz.sizeOf27 ?_)
 obtain⟨bE,dN⟩:∃ q,gz d.bf=q:=⟨_,rfl⟩
 obtain⟨oh,jU,mR,il,mf⟩:=Ck ik
 refine Di rfl rfl aQ rfl (Cq Tryz.call43 rfl (ni _ _ d.bf bE jU dN) ?_)
 rintro _ mU ⟨rfl,iq⟩
 have jV:=il _ _ iq
 refine Gz (.bool (decide (bE=0))) aQ (fw (.bool (decide (bE=0))) (BZ rfl aQ rfl) ?_)
 have jW:=jV.pk [0]
 exact fQ (decide (bE=0)) _ _ ⟨jW,(show (if aK=true then bnd (gz d.bf) fun aN=>decide (aN=0) else false)=decide (bE=0) from et (ip aQ) (ag dN))⟩ ⟨rfl,rfl,rfl,rfl,rfl,rfl,rfl,rfl,rfl,rfl,rfl,rfl,rfl,rfl,rfl,rfl,rfl,rfl,rfl,rfl,trivial⟩
 refine Sz aQ (Sz aQ (Sz aQ (Sz aQ (fw (.bool false) (BQ rfl aQ rfl) ?_))))
 have jX:=ik.pk [0]
 exact fQ false _ _ ⟨jX,(show (if aK=true then bnd (gz d.bf) fun aN=>decide (aN=0) else false)=false from jE aQ)⟩ ⟨rfl,rfl,rfl,rfl,rfl,rfl,rfl,rfl,rfl,rfl,rfl,rfl,rfl,rfl,rfl,rfl,rfl,rfl,rfl,rfl,trivial⟩
 rintro aS mV ⟨bH,bv⟩
 show WL _ _ _ (List.drop 5 _) _ [(64, .bool aS),(59, .bool aK),(58, .bool aK),(47, .bool ak),(46, .bool ak),(40, .bool aa),(39, .bool aa),(30, .bool P),(29, .bool P),(24, .bool I),(23, .bool I),(18, .bool B),(17, .bool B),(13, .bool (decide (d.cO ≥ 1))),(12, .bool (decide (d.cO ≥ 1))),(11, .int .i64 d.cO),(10, .pointer (some ⟨h,0,none⟩)),(2, .int .i64 0),(1, .pointer (some ⟨h,0,none⟩)),(0, .agg (aX d r s f l g n).toArray)] _
 replace bv:(if aK=true then bnd (gz d.bf) fun aN=>decide (aN=0) else false)=aS:=bv
 refine Mz rfl ?_
 refine CY (ι:=Bool) 10 (fun i=> [(75, .bool i),(65, .bool aS),(64, .bool aS),(59, .bool aK),(58, .bool aK),(47, .bool ak),(46, .bool ak),(40, .bool aa),(39, .bool aa),(30, .bool P),(29, .bool P),(24, .bool I),(23, .bool I),(18, .bool B),(17, .bool B),(13, .bool (decide (d.cO ≥ 1))),(12, .bool (decide (d.cO ≥ 1))),(11, .int .i64 d.cO),(10, .pointer (some ⟨h,0,none⟩)),(2, .int .i64 0),(1, .pointer (some ⟨h,0,none⟩)),(0, .agg (aX d r s f l g n).toArray)]) (fun i w'=>Own w D w' [blk h (aX d r s f l g n) 31]∧((if aS=true then if((d.bS:Nat):Int)=0 then decide ((d.bf.aK=([]))∧(d.bf.aO=([]))) else true else false)=i)) ?_ ?_
 intro bV
 rcases EO (aS) with O | O
 refine Gz (.pointer (some ⟨h,9,none⟩)) O (Gl (.int .u64 ((d.bS:Nat):Int)) O bH 0 Tryz.isAgg22 (CO (v:= .bool (decide (¬ (((d.bS:Nat):Int)=0)))) rfl rfl O rfl (Cy (e:= !(decide (((d.bS:Nat):Int)=0))) yk decide_not.symm) (CO (v:= .bool (decide (¬ (((d.bS:Nat):Int)=0)))) rfl rfl O rfl (BX rfl) ?_)))
 by_cases aC:((d.bS:Nat):Int)=0
 refine gw (.pointer (some ⟨h,10,none⟩)) (dF (EN aC)) yk (gw (.agg (bF.cells d.bf).toArray) (dF (EN aC)) (Cc rfl (Cu (cs:=(bF.cells d.bf)) Tryz.isAgg27 Tryz.sizeOf27 ((bH.cls (i:=0) rfl).lit (k:=10) (m:=2) rfl))) (gw (.agg #[.string ⟨List.toArray ([])⟩, .string ⟨List.toArray ([])⟩]) (dF (EN aC)) yk (gw (.bool (decide ((d.bf.aK=([]))∧(d.bf.aO=([]))))) (dF (EN aC)) (DX rfl rfl (by kernel_rfl) rfl (gL.struct Tryz.underlying27 (by kernel_rfl) (Dc (fF.cons (u:= .string ⟨List.toArray d.bf.aK⟩) (v:= .string ⟨List.toArray ([])⟩) (by decide) (fun _=>by kernel_rfl) (fun _=>by kernel_rfl) (gL.string Tryz.underlying9) (fF.cons (u:= .string ⟨List.toArray d.bf.aO⟩) (v:= .string ⟨List.toArray ([])⟩) (by decide) (fun _=>by kernel_rfl) (fun _=>by kernel_rfl) (gL.string Tryz.underlying9) (fF.nil.up (EM _)))) ((congrArg (decide (d.bf.aK=([])) && ·) lm).trans fE)))) (CO (v:= .bool (decide ((d.bf.aK=([]))∧(d.bf.aO=([]))))) rfl rfl O rfl (BQ rfl (dF (EN aC)) rfl) (fw (.bool (decide ((d.bf.aK=([]))∧(d.bf.aO=([]))))) (BZ rfl O rfl) ?_)))))
 have jZ:=bH.pk [0]
 exact bV (decide ((d.bf.aK=([]))∧(d.bf.aO=([])))) _ _ ⟨jZ,(show (if aS=true then if((d.bS:Nat):Int)=0 then decide ((d.bf.aK=([]))∧(d.bf.aO=([]))) else true else false)=decide ((d.bf.aK=([]))∧(d.bf.aO=([]))) from et (ip O) (ip aC))⟩ ⟨rfl,rfl,rfl,rfl,rfl,rfl,rfl,rfl,rfl,rfl,rfl,rfl,rfl,rfl,rfl,rfl,rfl,rfl,rfl,rfl,rfl,rfl,trivial⟩
 refine Sz (dT aC) (Sz (dT aC) (Sz (dT aC) (Sz (dT aC) (CO (v:= .bool true) rfl rfl O rfl (BZ rfl (dT aC) rfl) (fw (.bool true) (BZ rfl O rfl) ?_)))))
 have j3:=bH.pk [0]
 exact bV true _ _ ⟨j3,(show (if aS=true then if((d.bS:Nat):Int)=0 then decide ((d.bf.aK=([]))∧(d.bf.aO=([]))) else true else false)=true from et (ip O) (iN aC))⟩ ⟨rfl,rfl,rfl,rfl,rfl,rfl,rfl,rfl,rfl,rfl,rfl,rfl,rfl,rfl,rfl,rfl,rfl,rfl,rfl,rfl,rfl,rfl,trivial⟩
 refine Sz O (Sz O (Sz O (Sz O (BV rfl rfl rfl (BV rfl rfl rfl (BV rfl rfl rfl (BV rfl rfl rfl (Sz O (fw (.bool false) (BQ rfl O rfl) ?_)))))))))
 have j4:=bH.pk [0]
 exact bV false _ _ ⟨j4,(show (if aS=true then if((d.bS:Nat):Int)=0 then decide ((d.bf.aK=([]))∧(d.bf.aO=([]))) else true else false)=false from jE O)⟩ ⟨rfl,rfl,rfl,rfl,rfl,rfl,rfl,rfl,rfl,rfl,rfl,rfl,rfl,rfl,rfl,rfl,rfl,rfl,rfl,rfl,rfl,rfl,trivial⟩
 rintro aD mW ⟨fT,bA⟩
 show WL _ _ _ (List.drop 10 _) _ [(75, .bool aD),(65, .bool aS),(64, .bool aS),(59, .bool aK),(58, .bool aK),(47, .bool ak),(46, .bool ak),(40, .bool aa),(39, .bool aa),(30, .bool P),(29, .bool P),(24, .bool I),(23, .bool I),(18, .bool B),(17, .bool B),(13, .bool (decide (d.cO ≥ 1))),(12, .bool (decide (d.cO ≥ 1))),(11, .int .i64 d.cO),(10, .pointer (some ⟨h,0,none⟩)),(2, .int .i64 0),(1, .pointer (some ⟨h,0,none⟩)),(0, .agg (aX d r s f l g n).toArray)] _
 replace bA:(if aS=true then if((d.bS:Nat):Int)=0 then decide ((d.bf.aK=([]))∧(d.bf.aO=([]))) else true else false)=aD:=bA
 refine An rfl (BS (sr (Kz (.pointer (some ⟨h,6,none⟩)) (Lz (.slice f d.az.ls.length l) fT 0 Tryz.isAgg24 (Kz (.int .i64 ((d.az.ls.length:Nat):Int)) (Mn rfl (bo ?_)))))))
 have j5:=fT.pk [0]
 obtain⟨fU,iw⟩:∃ q:(Bool × Nat)→World→Prop,q=fun(i:Bool × Nat) w'=>Own w D w' [blk h (aX d r s f l g n) 31]∧(i.2≤d.az.ls.length∧bz d d.az.ls aD 0=bz d (List.drop i.2 d.az.ls) i.1 i.2):=⟨_,rfl⟩
 have aj:∀ {o:Bool} {b:Nat} {w':World},fU (o,b) w'↔Own w D w' [blk h (aX d r s f l g n) 31]∧b≤d.az.ls.length∧bz d d.az.ls aD 0=bz d (List.drop b d.az.ls) o b:=by intros; subst iw; exact Iff.rfl
 refine Wp.loop (fun i:Bool × Nat=> [(3, .bool i.1),(79, .int .i64 ((i.2:Nat):Int)),(78, .int .i64 ((d.az.ls.length:Nat):Int)),(77, .slice f d.az.ls.length l),(2, .int .i64 0),(1, .pointer (some ⟨h,0,none⟩))]) fU (fun i=>d.az.ls.length - i.2) (aD,0) ⟨rfl,rfl,rfl,rfl,rfl,rfl,trivial⟩ (aj.2 ⟨j5,by omega,rfl⟩) ?_
 rintro ⟨o,b⟩ mX iy
 obtain⟨bg,mg,aA⟩:=aj.1 iy
 refine sr (Kz (.bool (decide (((b:Nat):Int) < ((d.az.ls.length:Nat):Int)))) (nt (BS ?_)))
 by_cases fV:((b:Nat):Int) < ((d.az.ls.length:Nat):Int)
 obtain⟨a,aW⟩:=bU (ls:=bD) (i:=b) aM.len (by decide) (bg.ro aT) (by first | omega | (simp; done) | (simp; omega))
 have iA:=jb bT aW
 have mh:=(bu _ (List.mem_of_getElem? aW)).2
 have aI:=drop_at iA
 refine jT (dT fV) (sk (BS (bo (sr (Mz rfl (fw (.pointer (some ⟨ab f,ao f+b *2,none⟩)) (Ch (pQ) rfl rfl ((bg.ro aT).addr (i:=b) (by omega)) (by omega)) (fw (.agg (aM.cells a).toArray) (Cc rfl (Cu (cs:=(aM.cells a)) Tryz.isAgg66 Tryz.sizeOf66 ((bg.ro aT).elem aM.len aW (by decide)))) ?_)))))))
 refine dB [.int .u64 0, .slice none 0 0] 66 bg ?_
 intro j mY j6
 refine Az rfl ?_
 refine dw (aM.cells a) 0 j6 Tryz.sizeOf66 ?_
 intro kg ko
 refine nt (BS ?_)
 have Q:=ko.drew
 refine CP [] (fun W=> ∃ L',Own w D W ([blk j (aM.cells a) 66,blk h (aX d r s f l g n) 31]++L')) (by kernel_rfl) (by kernel_rfl) (Cs (bP.block (Cs (Cs (bP.block (Cs CR)))))) ⟨_,Q⟩ ?_
 revert Q
 generalize World.drew kg=mZ
 intro Q
 refine GX.take (v:= .bool o) (rs:= []) 0 rfl (by kernel_rfl) (fun _ _=>BX rfl) (GX.take (v:= .bool o) (rs:= []) 1 rfl (by kernel_rfl) (fun _ _=>BX rfl) ?_)
 rcases EO (o) with F | F
 refine BU (v:= .int .i64 ((b:Nat):Int)) (rs:= []) 2 rfl rfl rfl F (by kernel_rfl) (fun _ _=>BX rfl) (BU (v:= .bool (decide (((b:Nat):Int)=0))) (rs:= []) 3 rfl rfl rfl F (by kernel_rfl) (fun _ _=>yk) (BU (v:= .bool (decide (((b:Nat):Int)=0))) (rs:= []) 4 rfl rfl rfl F (by kernel_rfl) (fun _ _=>BX rfl) ?_))
 by_cases z:((b:Nat):Int)=0
 refine BP (rs:= []) 5 rfl rfl rfl (dT z) (by kernel_rfl) (BP (rs:= []) 6 rfl rfl rfl (dT z) (by kernel_rfl) (BP (rs:= []) 7 rfl rfl rfl (dT z) (by kernel_rfl) (BP (rs:= []) 8 rfl rfl rfl (dT z) (by kernel_rfl) (BP (rs:= []) 9 rfl rfl rfl (dT z) (by kernel_rfl) (BP (rs:= []) 10 rfl rfl rfl (dT z) (by kernel_rfl) (BP (rs:= []) 11 rfl rfl rfl (dT z) (by kernel_rfl) (BP (rs:= []) 12 rfl rfl rfl (dT z) (by kernel_rfl) (BP (rs:= []) 13 rfl rfl rfl (dT z) (by kernel_rfl) (BP (rs:= []) 14 rfl rfl rfl (dT z) (by kernel_rfl) (BU (v:= .bool true) (rs:= []) 15 rfl rfl rfl F (by kernel_rfl) (fun _ _=>BZ rfl (dT z) rfl) (GX.take (v:= .bool true) (rs:= []) 16 rfl (by kernel_rfl) (fun _ _=>BZ rfl F rfl) (GX.take (v:= .bool true) (rs:= []) 17 rfl (by kernel_rfl) (fun _ _=>BX rfl) (BU (v:= .pointer (some ⟨j,1,none⟩)) (rs:= []) 18 rfl rfl rfl rfl (by kernel_rfl) (fun _ _=>yk) (BU (v:= .slice a.ay.A a.ay.ls.length a.ay.c) (rs:= []) 19 rfl rfl rfl rfl (by kernel_rfl) (fun _ ⟨_,H9⟩=>Cc rfl (bi.one Tryz.isAgg64 (Cv (H9.cls (i:=0) rfl) rfl))) (BU (v:= .int .i64 ((a.ay.ls.length:Nat):Int)) (rs:= []) 20 rfl rfl rfl rfl (by kernel_rfl) (fun _ _=>yk) (BU (v:= .bool (decide (((a.ay.ls.length:Nat):Int) ≥ 1))) (rs:= []) 21 rfl rfl rfl rfl (by kernel_rfl) (fun _ _=>yk) (GX.take (v:= .bool (decide (((a.ay.ls.length:Nat):Int) ≥ 1))) (rs:= []) 22 rfl (by kernel_rfl) (fun _ _=>BZ rfl rfl rfl) (GX.take (v:= .bool (decide (((a.ay.ls.length:Nat):Int) ≥ 1))) (rs:= []) 23 rfl (by kernel_rfl) (fun _ _=>BX rfl) ?_))))))))))))))))))
 by_cases av:((a.ay.ls.length:Nat):Int) ≥ 1
 refine BU (v:= .pointer (some ⟨j,1,none⟩)) (rs:= []) 24 rfl rfl rfl (dT av) (by kernel_rfl) (fun _ _=>yk) (BU (v:= .slice a.ay.A a.ay.ls.length a.ay.c) (rs:= []) 25 rfl rfl rfl (dT av) (by kernel_rfl) (fun _ ⟨_,H9⟩=>Cc rfl (bi.one Tryz.isAgg64 (Cv (H9.cls (i:=0) rfl) rfl))) (BU (v:= .int .i64 ((a.ay.ls.length:Nat):Int)) (rs:= []) 26 rfl rfl rfl (dT av) (by kernel_rfl) (fun _ _=>yk) (BU (v:= .bool (decide (((a.ay.ls.length:Nat):Int)≤24))) (rs:= []) 27 rfl rfl rfl (dT av) (by kernel_rfl) (fun _ _=>yk) (GX.take (v:= .bool (decide (((a.ay.ls.length:Nat):Int)≤24))) (rs:= []) 28 rfl (by kernel_rfl) (fun _ _=>BZ rfl (dT av) rfl) (GX.take (v:= .bool (decide (((a.ay.ls.length:Nat):Int)≤24))) (rs:= []) 29 rfl (by kernel_rfl) (fun _ _=>BX rfl) ?_)))))
 by_cases aF:((a.ay.ls.length:Nat):Int)≤24
 refine BU (v:= .pointer (some ⟨j,1,none⟩)) (rs:= []) 30 rfl rfl rfl (dT aF) (by kernel_rfl) (fun _ _=>yk) (BU (v:= .slice a.ay.A a.ay.ls.length a.ay.c) (rs:= []) 31 rfl rfl rfl (dT aF) (by kernel_rfl) (fun _ ⟨_,H9⟩=>Cc rfl (bi.one Tryz.isAgg64 (Cv (H9.cls (i:=0) rfl) rfl))) ?_)
 obtain⟨J,dO⟩:∃ q,nG a.ay.ls=q:=⟨_,rfl⟩
 obtain⟨ng,iB,iC,iD,mi⟩:=Ck Q
 refine C8 32 rfl rfl rfl (dT aF) (by kernel_rfl) (Cq Tryz.call44 rfl (sj _ _ a.ay.A a.ay.ls.length a.ay.c a.ay.ls J iB (iC _ (bu _ (List.mem_of_getElem? aW)).1) rfl (by omega) dO) ?_)
 rintro _ nk ⟨rfl,iE⟩
 have dP:=iD _ _ iE
 refine⟨.inr ⟨_,dP⟩, ?_⟩
 refine BU (v:= .bool (decide (J=0))) (rs:= []) 33 rfl rfl rfl (dT aF) (by kernel_rfl) (fun _ _=>yk) (GX.take (v:= .bool (decide (J=0))) (rs:= []) 34 rfl (by kernel_rfl) (fun _ _=>BZ rfl (dT aF) rfl) (GX.take (v:= .bool (decide (J=0))) (rs:= []) 35 rfl (by kernel_rfl) (fun _ _=>CF rfl) (Cx (by kernel_rfl) (Ca (sr (Kz (.pointer (some ⟨h,7,none⟩)) (Lz (.slice g d.ah.ls.length n) dP 1 Tryz.isAgg25 (Kz (.int .i64 ((d.ah.ls.length:Nat):Int)) (Mn rfl (bo ?_))))))))))
 have kr:=dP.pk [0,1]
 obtain⟨fZ,iF⟩:∃ q:(Bool × Nat)→World→Prop,q=fun(i:Bool × Nat) w'=>Own w D w' [blk j (aM.cells a) 66,blk h (aX d r s f l g n) 31]∧(i.2≤d.ah.ls.length∧fG b (CE a) d.ah.ls (decide (J=0))=fG b (CE a) (List.drop i.2 d.ah.ls) i.1):=⟨_,rfl⟩
 have bW:∀ {M:Bool} {C:Nat} {w':World},fZ (M,C) w'↔Own w D w' [blk j (aM.cells a) 66,blk h (aX d r s f l g n) 31]∧C≤d.ah.ls.length∧fG b (CE a) d.ah.ls (decide (J=0))=fG b (CE a) (List.drop C d.ah.ls) M:=by intros; subst iF; exact Iff.rfl
 refine Wp.loop (fun i:Bool × Nat=> [(3, .bool i.1),(122, .int .i64 ((i.2:Nat):Int)),(121, .int .i64 ((d.ah.ls.length:Nat):Int)),(120, .slice g d.ah.ls.length n),(119, .pointer (some ⟨h,7,none⟩)),(118, .bool (decide (J=0))),(117, .bool (decide (J=0))),(116, .int .i64 J),(115, .slice a.ay.A a.ay.ls.length a.ay.c),(114, .pointer (some ⟨j,1,none⟩)),(113, .bool (decide (((a.ay.ls.length:Nat):Int)≤24))),(112, .bool (decide (((a.ay.ls.length:Nat):Int)≤24))),(111, .bool (decide (((a.ay.ls.length:Nat):Int)≤24))),(110, .int .i64 ((a.ay.ls.length:Nat):Int)),(109, .slice a.ay.A a.ay.ls.length a.ay.c),(108, .pointer (some ⟨j,1,none⟩)),(107, .bool (decide (((a.ay.ls.length:Nat):Int) ≥ 1))),(106, .bool (decide (((a.ay.ls.length:Nat):Int) ≥ 1))),(105, .bool (decide (((a.ay.ls.length:Nat):Int) ≥ 1))),(104, .int .i64 ((a.ay.ls.length:Nat):Int)),(103, .slice a.ay.A a.ay.ls.length a.ay.c),(102, .pointer (some ⟨j,1,none⟩)),(101, .bool true),(100, .bool true),(99, .bool true),(98,undef),(97,undef),(96,undef),(95,undef),(94,undef),(93,undef),(92,undef),(91,undef),(90,undef),(89,undef),(88, .bool (decide (((b:Nat):Int)=0))),(87, .bool (decide (((b:Nat):Int)=0))),(86, .int .i64 ((b:Nat):Int)),(85, .bool o),(84, .bool o),(4, .int .i64 ((b:Nat):Int)),(5, .pointer (some ⟨j,0,none⟩)),(83, .agg (aM.cells a).toArray),(82, .pointer (some ⟨ab f,ao f+b *2,none⟩)),(81, .int .i64 ((b:Nat):Int)),(80, .bool (decide (((b:Nat):Int) < ((d.az.ls.length:Nat):Int)))),(79, .int .i64 ((b:Nat):Int)),(78, .int .i64 ((d.az.ls.length:Nat):Int)),(77, .slice f d.az.ls.length l),(2, .int .i64 0),(1, .pointer (some ⟨h,0,none⟩))]) fZ (fun i=>d.ah.ls.length - i.2) (decide (J=0),0) ⟨rfl,rfl,rfl,rfl,rfl,rfl,rfl,rfl,rfl,rfl,rfl,rfl,rfl,rfl,rfl,rfl,rfl,rfl,rfl,rfl,rfl,rfl,rfl,rfl,rfl,rfl,rfl,rfl,rfl,rfl,rfl,rfl,rfl,rfl,rfl,rfl,rfl,rfl,rfl,rfl,rfl,rfl,rfl,rfl,rfl,rfl,rfl,rfl,rfl,rfl,rfl,trivial⟩ (bW.2 ⟨kr,by omega,rfl⟩) ?_
 rintro ⟨M,C⟩ nu iG
 obtain⟨aY,mo,dQ⟩:=bW.1 iG
 refine sr (Kz (.bool (decide (((C:Nat):Int) < ((d.ah.ls.length:Nat):Int)))) (nt (BS ?_)))
 by_cases gm:((C:Nat):Int) < ((d.ah.ls.length:Nat):Int)
 obtain⟨ae,dR⟩:=bU (ls:=d.ah.ls) (i:=C) fu (by decide) (aY.ro y) (by first | omega | (simp; done) | (simp; omega))
 have iH:=drop_at dR
 refine jT (dT gm) (sk (BS (bo (sr (fw (.pointer (some ⟨ab g,ao g+C *1,none⟩)) (Ch (jY) rfl rfl ((aY.ro y).addr (i:=C) (by omega)) (by omega)) (fw (.int .u64 ((ae:Nat):Int)) (Cc rfl (bi.one Tryz.isAgg22 (((aY.ro y).elem fu dR (by decide)).at_ (k:=0) rfl))) (An rfl (BR (Mz rfl (Mz rfl ?_))))))))))
 refine CY (ι:=Bool) 5 (fun i=> [(132, .bool i),(127, .bool M),(126, .bool M),(7, .int .u64 ((ae:Nat):Int)),(125, .int .u64 ((ae:Nat):Int)),(124, .pointer (some ⟨ab g,ao g+C *1,none⟩)),(123, .bool (decide (((C:Nat):Int) < ((d.ah.ls.length:Nat):Int)))),(3, .bool M),(122, .int .i64 ((C:Nat):Int)),(121, .int .i64 ((d.ah.ls.length:Nat):Int)),(120, .slice g d.ah.ls.length n),(119, .pointer (some ⟨h,7,none⟩)),(118, .bool (decide (J=0))),(117, .bool (decide (J=0))),(116, .int .i64 J),(115, .slice a.ay.A a.ay.ls.length a.ay.c),(114, .pointer (some ⟨j,1,none⟩)),(113, .bool (decide (((a.ay.ls.length:Nat):Int)≤24))),(112, .bool (decide (((a.ay.ls.length:Nat):Int)≤24))),(111, .bool (decide (((a.ay.ls.length:Nat):Int)≤24))),(110, .int .i64 ((a.ay.ls.length:Nat):Int)),(109, .slice a.ay.A a.ay.ls.length a.ay.c),(108, .pointer (some ⟨j,1,none⟩)),(107, .bool (decide (((a.ay.ls.length:Nat):Int) ≥ 1))),(106, .bool (decide (((a.ay.ls.length:Nat):Int) ≥ 1))),(105, .bool (decide (((a.ay.ls.length:Nat):Int) ≥ 1))),(104, .int .i64 ((a.ay.ls.length:Nat):Int)),(103, .slice a.ay.A a.ay.ls.length a.ay.c),(102, .pointer (some ⟨j,1,none⟩)),(101, .bool true),(100, .bool true),(99, .bool true),(98,undef),(97,undef),(96,undef),(95,undef),(94,undef),(93,undef),(92,undef),(91,undef),(90,undef),(89,undef),(88, .bool (decide (((b:Nat):Int)=0))),(87, .bool (decide (((b:Nat):Int)=0))),(86, .int .i64 ((b:Nat):Int)),(85, .bool o),(84, .bool o),(4, .int .i64 ((b:Nat):Int)),(5, .pointer (some ⟨j,0,none⟩)),(83, .agg (aM.cells a).toArray),(82, .pointer (some ⟨ab f,ao f+b *2,none⟩)),(81, .int .i64 ((b:Nat):Int)),(80, .bool (decide (((b:Nat):Int) < ((d.az.ls.length:Nat):Int)))),(79, .int .i64 ((b:Nat):Int)),(78, .int .i64 ((d.az.ls.length:Nat):Int)),(77, .slice f d.az.ls.length l),(2, .int .i64 0),(1, .pointer (some ⟨h,0,none⟩))]) (fun i w'=>Own w D w' [blk j (aM.cells a) 66,blk h (aX d r s f l g n) 31]∧((if M=true then decide (¬ (((ae:Nat):Int)=((a.av:Nat):Int))) else false)=i)) ?_ ?_
 intro dS
 rcases EO (M) with ax | ax
 refine CO (v:= .int .u64 ((ae:Nat):Int)) rfl rfl ax rfl (BX rfl) (Gz (.pointer (some ⟨j,0,none⟩)) ax (Gl (.int .u64 ((a.av:Nat):Int)) ax aY 0 Tryz.isAgg22 (CO (v:= .bool (decide (¬ (((ae:Nat):Int)=((a.av:Nat):Int))))) rfl rfl ax rfl (Cy (e:= !(decide (((ae:Nat):Int)=((a.av:Nat):Int)))) yk decide_not.symm) (fw (.bool (decide (¬ (((ae:Nat):Int)=((a.av:Nat):Int))))) (BZ rfl ax rfl) ?_))))
 have ku:=aY.pk [0,1]
 exact dS (decide (¬ (((ae:Nat):Int)=((a.av:Nat):Int)))) _ _ ⟨ku,(show (if M=true then decide (¬ (((ae:Nat):Int)=((a.av:Nat):Int))) else false)=decide (¬ (((ae:Nat):Int)=((a.av:Nat):Int))) from ip ax)⟩ ⟨rfl,rfl,rfl,rfl,rfl,rfl,rfl,rfl,rfl,rfl,rfl,rfl,rfl,rfl,rfl,rfl,rfl,rfl,rfl,rfl,rfl,rfl,rfl,rfl,rfl,rfl,rfl,rfl,rfl,rfl,rfl,rfl,rfl,rfl,rfl,rfl,rfl,rfl,rfl,rfl,rfl,rfl,rfl,rfl,rfl,rfl,rfl,rfl,rfl,rfl,rfl,rfl,rfl,rfl,rfl,rfl,rfl,rfl,trivial⟩
 refine Sz ax (Sz ax (Sz ax (Sz ax (fw (.bool false) (BQ rfl ax rfl) ?_))))
 have kv:=aY.pk [0,1]
 exact dS false _ _ ⟨kv,(show (if M=true then decide (¬ (((ae:Nat):Int)=((a.av:Nat):Int))) else false)=false from jE ax)⟩ ⟨rfl,rfl,rfl,rfl,rfl,rfl,rfl,rfl,rfl,rfl,rfl,rfl,rfl,rfl,rfl,rfl,rfl,rfl,rfl,rfl,rfl,rfl,rfl,rfl,rfl,rfl,rfl,rfl,rfl,rfl,rfl,rfl,rfl,rfl,rfl,rfl,rfl,rfl,rfl,rfl,rfl,rfl,rfl,rfl,rfl,rfl,rfl,rfl,rfl,rfl,rfl,rfl,rfl,rfl,rfl,rfl,rfl,rfl,trivial⟩
 rintro dU ny ⟨kw,bX⟩
 show WL _ _ _ (List.drop 5 _) _ [(132, .bool dU),(127, .bool M),(126, .bool M),(7, .int .u64 ((ae:Nat):Int)),(125, .int .u64 ((ae:Nat):Int)),(124, .pointer (some ⟨ab g,ao g+C *1,none⟩)),(123, .bool (decide (((C:Nat):Int) < ((d.ah.ls.length:Nat):Int)))),(3, .bool M),(122, .int .i64 ((C:Nat):Int)),(121, .int .i64 ((d.ah.ls.length:Nat):Int)),(120, .slice g d.ah.ls.length n),(119, .pointer (some ⟨h,7,none⟩)),(118, .bool (decide (J=0))),(117, .bool (decide (J=0))),(116, .int .i64 J),(115, .slice a.ay.A a.ay.ls.length a.ay.c),(114, .pointer (some ⟨j,1,none⟩)),(113, .bool (decide (((a.ay.ls.length:Nat):Int)≤24))),(112, .bool (decide (((a.ay.ls.length:Nat):Int)≤24))),(111, .bool (decide (((a.ay.ls.length:Nat):Int)≤24))),(110, .int .i64 ((a.ay.ls.length:Nat):Int)),(109, .slice a.ay.A a.ay.ls.length a.ay.c),(108, .pointer (some ⟨j,1,none⟩)),(107, .bool (decide (((a.ay.ls.length:Nat):Int) ≥ 1))),(106, .bool (decide (((a.ay.ls.length:Nat):Int) ≥ 1))),(105, .bool (decide (((a.ay.ls.length:Nat):Int) ≥ 1))),(104, .int .i64 ((a.ay.ls.length:Nat):Int)),(103, .slice a.ay.A a.ay.ls.length a.ay.c),(102, .pointer (some ⟨j,1,none⟩)),(101, .bool true),(100, .bool true),(99, .bool true),(98,undef),(97,undef),(96,undef),(95,undef),(94,undef),(93,undef),(92,undef),(91,undef),(90,undef),(89,undef),(88, .bool (decide (((b:Nat):Int)=0))),(87, .bool (decide (((b:Nat):Int)=0))),(86, .int .i64 ((b:Nat):Int)),(85, .bool o),(84, .bool o),(4, .int .i64 ((b:Nat):Int)),(5, .pointer (some ⟨j,0,none⟩)),(83, .agg (aM.cells a).toArray),(82, .pointer (some ⟨ab f,ao f+b *2,none⟩)),(81, .int .i64 ((b:Nat):Int)),(80, .bool (decide (((b:Nat):Int) < ((d.az.ls.length:Nat):Int)))),(79, .int .i64 ((b:Nat):Int)),(78, .int .i64 ((d.az.ls.length:Nat):Int)),(77, .slice f d.az.ls.length l),(2, .int .i64 0),(1, .pointer (some ⟨h,0,none⟩))] _
 replace bX:(if M=true then decide (¬ (((ae:Nat):Int)=((a.av:Nat):Int))) else false)=dU:=bX
 refine Az rfl (Cf (bN (Ca (BR (fw (.int .i64 ((C+1:Nat):Int)) (Ci (e:=IntKind.i64.wrap (((C:Nat):Int)+1)) yk (by rw [EL _ (by omega)]; omega)) (Mz rfl (Cf ?_)))))))
 have ky:=kw.pk [0,1]
 exact Cm (dU,C+1) ⟨rfl,rfl,rfl,rfl,rfl,rfl,rfl,rfl,rfl,rfl,rfl,rfl,rfl,rfl,rfl,rfl,rfl,rfl,rfl,rfl,rfl,rfl,rfl,rfl,rfl,rfl,rfl,rfl,rfl,rfl,rfl,rfl,rfl,rfl,rfl,rfl,rfl,rfl,rfl,rfl,rfl,rfl,rfl,rfl,rfl,rfl,rfl,rfl,rfl,rfl,rfl,trivial⟩ (bW.2 ⟨ky,by omega,et (dQ) (et (congrArg (fun q=>fG b (CE a) q M) iH) (ag bX))⟩) (by show d.ah.ls.length - (C+1) < d.ah.ls.length - C; omega)
 refine jF (dF gm) (Wp.exit (Cb ?_))
 have iI:fG b (CE a) d.ah.ls (decide (J=0))=M:=et (dQ) (et (congrArg (fun q=>fG b (CE a) q M) (bM (ls:=d.ah.ls) (i:=C) (by omega))) rfl)
 refine Cb (Cn (bN (Ca (BR (fw (.int .i64 ((b+1:Nat):Int)) (Ci (e:=IntKind.i64.wrap (((b:Nat):Int)+1)) yk (by rw [EL _ (by omega)]; omega)) (Mz rfl (Cf ?_)))))))
 have kz:=aY.pk [1]
 exact Cm (M,b+1) ⟨rfl,rfl,rfl,rfl,rfl,rfl,trivial⟩ (aj.2 ⟨kz,by omega,et (aA) (et (congrArg (fun q=>bz d q o b) aI) (et (ip F) (et (ip z) (et (ip av) (et (ip aF) (et (ag dO) (ag iI)))))))⟩) (by show d.az.ls.length - (b+1) < d.az.ls.length - b; omega)
 refine BP (rs:= []) 30 rfl rfl rfl (dF aF) (by kernel_rfl) (BP (rs:= []) 31 rfl rfl rfl (dF aF) (by kernel_rfl) (BP (rs:= []) 32 rfl rfl rfl (dF aF) (by kernel_rfl) (BP (rs:= []) 33 rfl rfl rfl (dF aF) (by kernel_rfl) (GX.take (v:= .bool false) (rs:= []) 34 rfl (by kernel_rfl) (fun _ _=>BQ rfl (dF aF) rfl) (GX.take (v:= .bool false) (rs:= []) 35 rfl (by kernel_rfl) (fun _ _=>CF rfl) (Cx (by kernel_rfl) (Ca (sr (Kz (.pointer (some ⟨h,7,none⟩)) (Lz (.slice g d.ah.ls.length n) Q 1 Tryz.isAgg25 (Kz (.int .i64 ((d.ah.ls.length:Nat):Int)) (Mn rfl (bo ?_)))))))))))))
 have kC:=Q.pk [0,1]
 obtain⟨gq,iJ⟩:∃ q:Nat→World→Prop,q=fun(i:Nat) w'=>Own w D w' [blk j (aM.cells a) 66,blk h (aX d r s f l g n) 31]∧(i≤d.ah.ls.length∧iK b d.ah.ls=iK b (List.drop i d.ah.ls)):=⟨_,rfl⟩
 have bY:∀ {R:Nat} {w':World},gq R w'↔Own w D w' [blk j (aM.cells a) 66,blk h (aX d r s f l g n) 31]∧R≤d.ah.ls.length∧iK b d.ah.ls=iK b (List.drop R d.ah.ls):=by intros; subst iJ; exact Iff.rfl
 refine Wp.loop (fun i:Nat=> [(3, .bool false),(122, .int .i64 ((i:Nat):Int)),(121, .int .i64 ((d.ah.ls.length:Nat):Int)),(120, .slice g d.ah.ls.length n),(119, .pointer (some ⟨h,7,none⟩)),(118, .bool false),(117,undef),(116,undef),(115,undef),(114,undef),(113, .bool (decide (((a.ay.ls.length:Nat):Int)≤24))),(112, .bool (decide (((a.ay.ls.length:Nat):Int)≤24))),(111, .bool (decide (((a.ay.ls.length:Nat):Int)≤24))),(110, .int .i64 ((a.ay.ls.length:Nat):Int)),(109, .slice a.ay.A a.ay.ls.length a.ay.c),(108, .pointer (some ⟨j,1,none⟩)),(107, .bool (decide (((a.ay.ls.length:Nat):Int) ≥ 1))),(106, .bool (decide (((a.ay.ls.length:Nat):Int) ≥ 1))),(105, .bool (decide (((a.ay.ls.length:Nat):Int) ≥ 1))),(104, .int .i64 ((a.ay.ls.length:Nat):Int)),(103, .slice a.ay.A a.ay.ls.length a.ay.c),(102, .pointer (some ⟨j,1,none⟩)),(101, .bool true),(100, .bool true),(99, .bool true),(98,undef),(97,undef),(96,undef),(95,undef),(94,undef),(93,undef),(92,undef),(91,undef),(90,undef),(89,undef),(88, .bool (decide (((b:Nat):Int)=0))),(87, .bool (decide (((b:Nat):Int)=0))),(86, .int .i64 ((b:Nat):Int)),(85, .bool o),(84, .bool o),(4, .int .i64 ((b:Nat):Int)),(5, .pointer (some ⟨j,0,none⟩)),(83, .agg (aM.cells a).toArray),(82, .pointer (some ⟨ab f,ao f+b *2,none⟩)),(81, .int .i64 ((b:Nat):Int)),(80, .bool (decide (((b:Nat):Int) < ((d.az.ls.length:Nat):Int)))),(79, .int .i64 ((b:Nat):Int)),(78, .int .i64 ((d.az.ls.length:Nat):Int)),(77, .slice f d.az.ls.length l),(2, .int .i64 0),(1, .pointer (some ⟨h,0,none⟩))]) gq (fun i=>d.ah.ls.length - i) 0 ⟨rfl,rfl,rfl,rfl,rfl,rfl,rfl,rfl,rfl,rfl,rfl,rfl,rfl,rfl,rfl,rfl,rfl,rfl,rfl,rfl,rfl,rfl,rfl,rfl,rfl,rfl,rfl,rfl,rfl,rfl,rfl,rfl,rfl,rfl,rfl,rfl,rfl,rfl,rfl,rfl,rfl,rfl,rfl,rfl,rfl,rfl,rfl,rfl,rfl,rfl,rfl,trivial⟩ (bY.2 ⟨kC,by omega,rfl⟩) ?_
 rintro R nz iP
 obtain⟨bI,mq,dV⟩:=bY.1 iP
 refine sr (Kz (.bool (decide (((R:Nat):Int) < ((d.ah.ls.length:Nat):Int)))) (nt (BS ?_)))
 by_cases gu:((R:Nat):Int) < ((d.ah.ls.length:Nat):Int)
 obtain⟨kD,dW⟩:=bU (ls:=d.ah.ls) (i:=R) fu (by decide) (bI.ro y) (by first | omega | (simp; done) | (simp; omega))
 have iT:=drop_at dW
 refine jT (dT gu) (sk (BS (bo (sr (fw (.pointer (some ⟨ab g,ao g+R *1,none⟩)) (Ch (jY) rfl rfl ((bI.ro y).addr (i:=R) (by omega)) (by omega)) (fw (.int .u64 ((kD:Nat):Int)) (Cc rfl (bi.one Tryz.isAgg22 (((bI.ro y).elem fu dW (by decide)).at_ (k:=0) rfl))) (An rfl (BR (Mz rfl (Mz rfl (Sz rfl (Sz rfl (Sz rfl (Sz rfl (fw (.bool false) (BQ rfl rfl rfl) (Az rfl (Cf (bN (Ca (BR (fw (.int .i64 ((R+1:Nat):Int)) (Ci (e:=IntKind.i64.wrap (((R:Nat):Int)+1)) yk (by rw [EL _ (by omega)]; omega)) (Mz rfl (Cf ?_)))))))))))))))))))))))
 have kE:=bI.pk [0,1]
 exact Cm (R+1) ⟨rfl,rfl,rfl,rfl,rfl,rfl,rfl,rfl,rfl,rfl,rfl,rfl,rfl,rfl,rfl,rfl,rfl,rfl,rfl,rfl,rfl,rfl,rfl,rfl,rfl,rfl,rfl,rfl,rfl,rfl,rfl,rfl,rfl,rfl,rfl,rfl,rfl,rfl,rfl,rfl,rfl,rfl,rfl,rfl,rfl,rfl,rfl,rfl,rfl,rfl,rfl,trivial⟩ (bY.2 ⟨kE,by omega,et (dV) (et (congrArg (fun q=>iK b q) iT) rfl)⟩) (by show d.ah.ls.length - (R+1) < d.ah.ls.length - R; omega)
 refine jF (dF gu) (Wp.exit (Cb ?_))
 have iU:iK b d.ah.ls=():=et (dV) (et (congrArg (fun q=>iK b q) (bM (ls:=d.ah.ls) (i:=R) (by omega))) rfl)
 refine Cb (Cn (bN (Ca (BR (fw (.int .i64 ((b+1:Nat):Int)) (Ci (e:=IntKind.i64.wrap (((b:Nat):Int)+1)) yk (by rw [EL _ (by omega)]; omega)) (Mz rfl (Cf ?_)))))))
 have kF:=bI.pk [1]
 exact Cm (false,b+1) ⟨rfl,rfl,rfl,rfl,rfl,rfl,trivial⟩ (aj.2 ⟨kF,(show (b+1)≤d.az.ls.length∧bz d d.az.ls aD 0=bz d (List.drop (b+1) d.az.ls) false (b+1) from ⟨by omega,et (aA) (et (congrArg (fun q=>bz d q o b) aI) (et (ip F) (et (ip z) (et (ip av) (et (iN aF) (ag iU))))))⟩)⟩) (by show d.az.ls.length - (b+1) < d.az.ls.length - b; omega)
 refine BP (rs:= []) 24 rfl rfl rfl (dF av) (by kernel_rfl) (BP (rs:= []) 25 rfl rfl rfl (dF av) (by kernel_rfl) (BP (rs:= []) 26 rfl rfl rfl (dF av) (by kernel_rfl) (BP (rs:= []) 27 rfl rfl rfl (dF av) (by kernel_rfl) (GX.take (v:= .bool false) (rs:= []) 28 rfl (by kernel_rfl) (fun _ _=>BQ rfl (dF av) rfl) (GX.take (v:= .bool false) (rs:= []) 29 rfl (by kernel_rfl) (fun _ _=>BX rfl) (BP (rs:= []) 30 rfl rfl rfl rfl (by kernel_rfl) (BP (rs:= []) 31 rfl rfl rfl rfl (by kernel_rfl) (BP (rs:= []) 32 rfl rfl rfl rfl (by kernel_rfl) (BP (rs:= []) 33 rfl rfl rfl rfl (by kernel_rfl) (GX.take (v:= .bool false) (rs:= []) 34 rfl (by kernel_rfl) (fun _ _=>BQ rfl rfl rfl) (GX.take (v:= .bool false) (rs:= []) 35 rfl (by kernel_rfl) (fun _ _=>CF rfl) (Cx (by kernel_rfl) (Ca (sr (Kz (.pointer (some ⟨h,7,none⟩)) (Lz (.slice g d.ah.ls.length n) Q 1 Tryz.isAgg25 (Kz (.int .i64 ((d.ah.ls.length:Nat):Int)) (Mn rfl (bo ?_)))))))))))))))))))
 have kG:=Q.pk [0,1]
 obtain⟨gy,iV⟩:∃ q:Nat→World→Prop,q=fun(i:Nat) w'=>Own w D w' [blk j (aM.cells a) 66,blk h (aX d r s f l g n) 31]∧(i≤d.ah.ls.length∧iL b d.ah.ls=iL b (List.drop i d.ah.ls)):=⟨_,rfl⟩
 have cz:∀ {S:Nat} {w':World},gy S w'↔Own w D w' [blk j (aM.cells a) 66,blk h (aX d r s f l g n) 31]∧S≤d.ah.ls.length∧iL b d.ah.ls=iL b (List.drop S d.ah.ls):=by intros; subst iV; exact Iff.rfl
 refine Wp.loop (fun i:Nat=> [(3, .bool false),(122, .int .i64 ((i:Nat):Int)),(121, .int .i64 ((d.ah.ls.length:Nat):Int)),(120, .slice g d.ah.ls.length n),(119, .pointer (some ⟨h,7,none⟩)),(118, .bool false),(117,undef),(116,undef),(115,undef),(114,undef),(113, .bool false),(112, .bool false),(111,undef),(110,undef),(109,undef),(108,undef),(107, .bool (decide (((a.ay.ls.length:Nat):Int) ≥ 1))),(106, .bool (decide (((a.ay.ls.length:Nat):Int) ≥ 1))),(105, .bool (decide (((a.ay.ls.length:Nat):Int) ≥ 1))),(104, .int .i64 ((a.ay.ls.length:Nat):Int)),(103, .slice a.ay.A a.ay.ls.length a.ay.c),(102, .pointer (some ⟨j,1,none⟩)),(101, .bool true),(100, .bool true),(99, .bool true),(98,undef),(97,undef),(96,undef),(95,undef),(94,undef),(93,undef),(92,undef),(91,undef),(90,undef),(89,undef),(88, .bool (decide (((b:Nat):Int)=0))),(87, .bool (decide (((b:Nat):Int)=0))),(86, .int .i64 ((b:Nat):Int)),(85, .bool o),(84, .bool o),(4, .int .i64 ((b:Nat):Int)),(5, .pointer (some ⟨j,0,none⟩)),(83, .agg (aM.cells a).toArray),(82, .pointer (some ⟨ab f,ao f+b *2,none⟩)),(81, .int .i64 ((b:Nat):Int)),(80, .bool (decide (((b:Nat):Int) < ((d.az.ls.length:Nat):Int)))),(79, .int .i64 ((b:Nat):Int)),(78, .int .i64 ((d.az.ls.length:Nat):Int)),(77, .slice f d.az.ls.length l),(2, .int .i64 0),(1, .pointer (some ⟨h,0,none⟩))]) gy (fun i=>d.ah.ls.length - i) 0 ⟨rfl,rfl,rfl,rfl,rfl,rfl,rfl,rfl,rfl,rfl,rfl,rfl,rfl,rfl,rfl,rfl,rfl,rfl,rfl,rfl,rfl,rfl,rfl,rfl,rfl,rfl,rfl,rfl,rfl,rfl,rfl,rfl,rfl,rfl,rfl,rfl,rfl,rfl,rfl,rfl,rfl,rfl,rfl,rfl,rfl,rfl,rfl,rfl,rfl,rfl,rfl,trivial⟩ (cz.2 ⟨kG,by omega,rfl⟩) ?_
 rintro S nA iW
 obtain⟨bJ,mr,dX⟩:=cz.1 iW
 refine sr (Kz (.bool (decide (((S:Nat):Int) < ((d.ah.ls.length:Nat):Int)))) (nt (BS ?_)))
 by_cases gB:((S:Nat):Int) < ((d.ah.ls.length:Nat):Int)
 obtain⟨kH,dY⟩:=bU (ls:=d.ah.ls) (i:=S) fu (by decide) (bJ.ro y) (by first | omega | (simp; done) | (simp; omega))
 have iX:=drop_at dY
 refine jT (dT gB) (sk (BS (bo (sr (fw (.pointer (some ⟨ab g,ao g+S *1,none⟩)) (Ch (jY) rfl rfl ((bJ.ro y).addr (i:=S) (by omega)) (by omega)) (fw (.int .u64 ((kH:Nat):Int)) (Cc rfl (bi.one Tryz.isAgg22 (((bJ.ro y).elem fu dY (by decide)).at_ (k:=0) rfl))) (An rfl (BR (Mz rfl (Mz rfl (Sz rfl (Sz rfl (Sz rfl (Sz rfl (fw (.bool false) (BQ rfl rfl rfl) (Az rfl (Cf (bN (Ca (BR (fw (.int .i64 ((S+1:Nat):Int)) (Ci (e:=IntKind.i64.wrap (((S:Nat):Int)+1)) yk (by rw [EL _ (by omega)]; omega)) (Mz rfl (Cf ?_)))))))))))))))))))))))
 have kI:=bJ.pk [0,1]
 exact Cm (S+1) ⟨rfl,rfl,rfl,rfl,rfl,rfl,rfl,rfl,rfl,rfl,rfl,rfl,rfl,rfl,rfl,rfl,rfl,rfl,rfl,rfl,rfl,rfl,rfl,rfl,rfl,rfl,rfl,rfl,rfl,rfl,rfl,rfl,rfl,rfl,rfl,rfl,rfl,rfl,rfl,rfl,rfl,rfl,rfl,rfl,rfl,rfl,rfl,rfl,rfl,rfl,rfl,trivial⟩ (cz.2 ⟨kI,by omega,et (dX) (et (congrArg (fun q=>iL b q) iX) rfl)⟩) (by show d.ah.ls.length - (S+1) < d.ah.ls.length - S; omega)
 refine jF (dF gB) (Wp.exit (Cb ?_))
 have iY:iL b d.ah.ls=():=et (dX) (et (congrArg (fun q=>iL b q) (bM (ls:=d.ah.ls) (i:=S) (by omega))) rfl)
 refine Cb (Cn (bN (Ca (BR (fw (.int .i64 ((b+1:Nat):Int)) (Ci (e:=IntKind.i64.wrap (((b:Nat):Int)+1)) yk (by rw [EL _ (by omega)]; omega)) (Mz rfl (Cf ?_)))))))
 have kJ:=bJ.pk [1]
 exact Cm (false,b+1) ⟨rfl,rfl,rfl,rfl,rfl,rfl,trivial⟩ (aj.2 ⟨kJ,(show (b+1)≤d.az.ls.length∧bz d d.az.ls aD 0=bz d (List.drop (b+1) d.az.ls) false (b+1) from ⟨by omega,et (aA) (et (congrArg (fun q=>bz d q o b) aI) (et (ip F) (et (ip z) (et (iN av) (ag iY)))))⟩)⟩) (by show d.az.ls.length - (b+1) < d.az.ls.length - b; omega)
 refine BU (v:= .pointer (some ⟨h,6,none⟩)) (rs:= []) 5 rfl rfl rfl (dF z) (by kernel_rfl) (fun _ _=>yk) (BU (v:= .slice f d.az.ls.length l) (rs:= []) 6 rfl rfl rfl (dF z) (by kernel_rfl) (fun _ ⟨_,H9⟩=>Cc rfl (bi.one Tryz.isAgg24 (Cv (H9.cls (i:=1) rfl) rfl))) (BU (v:= .int .i64 ((b:Nat):Int)) (rs:= []) 7 rfl rfl rfl (dF z) (by kernel_rfl) (fun _ _=>BX rfl) (BU (v:= .int .i64 ((b - 1:Nat):Int)) (rs:= []) 8 rfl rfl rfl (dF z) (by kernel_rfl) (fun _ _=>Ci (e:=IntKind.i64.wrap (((b:Nat):Int) - 1)) yk (by rw [EL _ (by omega)]; omega)) ?_)))
 obtain⟨p,cB⟩:=oN (ls:=bD) (i:=b - 1) (by first | omega | (simp; done) | (simp; omega))
 have bC:=jb bT cB
 have mD:=(bu _ (List.mem_of_getElem? cB)).2
 refine BU (v:= .pointer (some ⟨ab f,ao f+(b - 1) *2,none⟩)) (rs:= []) 9 rfl rfl rfl (dF z) (by kernel_rfl) (fun _ ⟨_,H9⟩=>Ch (pQ) rfl rfl ((H9.ro aT).addr (i:=b - 1) (by omega)) (by omega)) (BU (v:= .pointer (some ⟨ab f,ao f+(b - 1) *2,none⟩)) (rs:= []) 10 rfl rfl rfl (dF z) (by kernel_rfl) (fun _ _=>yk) (BU (v:= .int .u64 ((p.av:Nat):Int)) (rs:= []) 11 rfl rfl rfl (dF z) (by kernel_rfl) (fun _ ⟨_,H9⟩=>Cc rfl (bi.one Tryz.isAgg22 (((H9.ro aT).elem aM.len cB (by decide)).at_ (k:=0) rfl))) (BU (v:= .pointer (some ⟨j,0,none⟩)) (rs:= []) 12 rfl rfl rfl (dF z) (by kernel_rfl) (fun _ _=>yk) (BU (v:= .int .u64 ((a.av:Nat):Int)) (rs:= []) 13 rfl rfl rfl (dF z) (by kernel_rfl) (fun _ ⟨_,H9⟩=>Cc rfl (bi.one Tryz.isAgg22 (Cv (H9.cls (i:=0) rfl) rfl))) (BU (v:= .bool (decide (((p.av:Nat):Int) < ((a.av:Nat):Int)))) (rs:= []) 14 rfl rfl rfl (dF z) (by kernel_rfl) (fun _ _=>yk) (BU (v:= .bool (decide (((p.av:Nat):Int) < ((a.av:Nat):Int)))) (rs:= []) 15 rfl rfl rfl F (by kernel_rfl) (fun _ _=>BQ rfl (dF z) rfl) (GX.take (v:= .bool (decide (((p.av:Nat):Int) < ((a.av:Nat):Int)))) (rs:= []) 16 rfl (by kernel_rfl) (fun _ _=>BZ rfl F rfl) (GX.take (v:= .bool (decide (((p.av:Nat):Int) < ((a.av:Nat):Int)))) (rs:= []) 17 rfl (by kernel_rfl) (fun _ _=>BX rfl) ?_))))))))
 by_cases ah:((p.av:Nat):Int) < ((a.av:Nat):Int)
 refine BU (v:= .pointer (some ⟨j,1,none⟩)) (rs:= []) 18 rfl rfl rfl (dT ah) (by kernel_rfl) (fun _ _=>yk) (BU (v:= .slice a.ay.A a.ay.ls.length a.ay.c) (rs:= []) 19 rfl rfl rfl (dT ah) (by kernel_rfl) (fun _ ⟨_,H9⟩=>Cc rfl (bi.one Tryz.isAgg64 (Cv (H9.cls (i:=0) rfl) rfl))) (BU (v:= .int .i64 ((a.ay.ls.length:Nat):Int)) (rs:= []) 20 rfl rfl rfl (dT ah) (by kernel_rfl) (fun _ _=>yk) (BU (v:= .bool (decide (((a.ay.ls.length:Nat):Int) ≥ 1))) (rs:= []) 21 rfl rfl rfl (dT ah) (by kernel_rfl) (fun _ _=>yk) (GX.take (v:= .bool (decide (((a.ay.ls.length:Nat):Int) ≥ 1))) (rs:= []) 22 rfl (by kernel_rfl) (fun _ _=>BZ rfl (dT ah) rfl) (GX.take (v:= .bool (decide (((a.ay.ls.length:Nat):Int) ≥ 1))) (rs:= []) 23 rfl (by kernel_rfl) (fun _ _=>BX rfl) ?_)))))
 by_cases ay:((a.ay.ls.length:Nat):Int) ≥ 1
 refine BU (v:= .pointer (some ⟨j,1,none⟩)) (rs:= []) 24 rfl rfl rfl (dT ay) (by kernel_rfl) (fun _ _=>yk) (BU (v:= .slice a.ay.A a.ay.ls.length a.ay.c) (rs:= []) 25 rfl rfl rfl (dT ay) (by kernel_rfl) (fun _ ⟨_,H9⟩=>Cc rfl (bi.one Tryz.isAgg64 (Cv (H9.cls (i:=0) rfl) rfl))) (BU (v:= .int .i64 ((a.ay.ls.length:Nat):Int)) (rs:= []) 26 rfl rfl rfl (dT ay) (by kernel_rfl) (fun _ _=>yk) (BU (v:= .bool (decide (((a.ay.ls.length:Nat):Int)≤24))) (rs:= []) 27 rfl rfl rfl (dT ay) (by kernel_rfl) (fun _ _=>yk) (GX.take (v:= .bool (decide (((a.ay.ls.length:Nat):Int)≤24))) (rs:= []) 28 rfl (by kernel_rfl) (fun _ _=>BZ rfl (dT ay) rfl) (GX.take (v:= .bool (decide (((a.ay.ls.length:Nat):Int)≤24))) (rs:= []) 29 rfl (by kernel_rfl) (fun _ _=>BX rfl) ?_)))))
 by_cases aG:((a.ay.ls.length:Nat):Int)≤24
 refine BU (v:= .pointer (some ⟨j,1,none⟩)) (rs:= []) 30 rfl rfl rfl (dT aG) (by kernel_rfl) (fun _ _=>yk) (BU (v:= .slice a.ay.A a.ay.ls.length a.ay.c) (rs:= []) 31 rfl rfl rfl (dT aG) (by kernel_rfl) (fun _ ⟨_,H9⟩=>Cc rfl (bi.one Tryz.isAgg64 (Cv (H9.cls (i:=0) rfl) rfl))) ?_)
 obtain⟨K,dZ⟩:∃ q,nG a.ay.ls=q:=⟨_,rfl⟩
 obtain⟨nC,iZ,ja,jc,mE⟩:=Ck Q
 refine C8 32 rfl rfl rfl (dT aG) (by kernel_rfl) (Cq Tryz.call44 rfl (sj _ _ a.ay.A a.ay.ls.length a.ay.c a.ay.ls K iZ (ja _ (bu _ (List.mem_of_getElem? aW)).1) rfl (by omega) dZ) ?_)
 rintro _ nD ⟨rfl,je⟩
 have d9:=jc _ _ je
 refine⟨.inr ⟨_,d9⟩, ?_⟩
 refine BU (v:= .bool (decide (K=0))) (rs:= []) 33 rfl rfl rfl (dT aG) (by kernel_rfl) (fun _ _=>yk) (GX.take (v:= .bool (decide (K=0))) (rs:= []) 34 rfl (by kernel_rfl) (fun _ _=>BZ rfl (dT aG) rfl) (GX.take (v:= .bool (decide (K=0))) (rs:= []) 35 rfl (by kernel_rfl) (fun _ _=>CF rfl) (Cx (by kernel_rfl) (Ca (sr (Kz (.pointer (some ⟨h,7,none⟩)) (Lz (.slice g d.ah.ls.length n) d9 1 Tryz.isAgg25 (Kz (.int .i64 ((d.ah.ls.length:Nat):Int)) (Mn rfl (bo ?_))))))))))
 have kK:=d9.pk [0,1]
 obtain⟨gD,jf⟩:∃ q:(Bool × Nat)→World→Prop,q=fun(i:Bool × Nat) w'=>Own w D w' [blk j (aM.cells a) 66,blk h (aX d r s f l g n) 31]∧(i.2≤d.ah.ls.length∧gX b (CE a) d.ah.ls (decide (K=0))=gX b (CE a) (List.drop i.2 d.ah.ls) i.1):=⟨_,rfl⟩
 have cK:∀ {N:Bool} {E:Nat} {w':World},gD (N,E) w'↔Own w D w' [blk j (aM.cells a) 66,blk h (aX d r s f l g n) 31]∧E≤d.ah.ls.length∧gX b (CE a) d.ah.ls (decide (K=0))=gX b (CE a) (List.drop E d.ah.ls) N:=by intros; subst jf; exact Iff.rfl
 refine Wp.loop (fun i:Bool × Nat=> [(3, .bool i.1),(122, .int .i64 ((i.2:Nat):Int)),(121, .int .i64 ((d.ah.ls.length:Nat):Int)),(120, .slice g d.ah.ls.length n),(119, .pointer (some ⟨h,7,none⟩)),(118, .bool (decide (K=0))),(117, .bool (decide (K=0))),(116, .int .i64 K),(115, .slice a.ay.A a.ay.ls.length a.ay.c),(114, .pointer (some ⟨j,1,none⟩)),(113, .bool (decide (((a.ay.ls.length:Nat):Int)≤24))),(112, .bool (decide (((a.ay.ls.length:Nat):Int)≤24))),(111, .bool (decide (((a.ay.ls.length:Nat):Int)≤24))),(110, .int .i64 ((a.ay.ls.length:Nat):Int)),(109, .slice a.ay.A a.ay.ls.length a.ay.c),(108, .pointer (some ⟨j,1,none⟩)),(107, .bool (decide (((a.ay.ls.length:Nat):Int) ≥ 1))),(106, .bool (decide (((a.ay.ls.length:Nat):Int) ≥ 1))),(105, .bool (decide (((a.ay.ls.length:Nat):Int) ≥ 1))),(104, .int .i64 ((a.ay.ls.length:Nat):Int)),(103, .slice a.ay.A a.ay.ls.length a.ay.c),(102, .pointer (some ⟨j,1,none⟩)),(101, .bool (decide (((p.av:Nat):Int) < ((a.av:Nat):Int)))),(100, .bool (decide (((p.av:Nat):Int) < ((a.av:Nat):Int)))),(99, .bool (decide (((p.av:Nat):Int) < ((a.av:Nat):Int)))),(98, .bool (decide (((p.av:Nat):Int) < ((a.av:Nat):Int)))),(97, .int .u64 ((a.av:Nat):Int)),(96, .pointer (some ⟨j,0,none⟩)),(95, .int .u64 ((p.av:Nat):Int)),(94, .pointer (some ⟨ab f,ao f+(b - 1) *2,none⟩)),(93, .pointer (some ⟨ab f,ao f+(b - 1) *2,none⟩)),(92, .int .i64 ((b - 1:Nat):Int)),(91, .int .i64 ((b:Nat):Int)),(90, .slice f d.az.ls.length l),(89, .pointer (some ⟨h,6,none⟩)),(88, .bool (decide (((b:Nat):Int)=0))),(87, .bool (decide (((b:Nat):Int)=0))),(86, .int .i64 ((b:Nat):Int)),(85, .bool o),(84, .bool o),(4, .int .i64 ((b:Nat):Int)),(5, .pointer (some ⟨j,0,none⟩)),(83, .agg (aM.cells a).toArray),(82, .pointer (some ⟨ab f,ao f+b *2,none⟩)),(81, .int .i64 ((b:Nat):Int)),(80, .bool (decide (((b:Nat):Int) < ((d.az.ls.length:Nat):Int)))),(79, .int .i64 ((b:Nat):Int)),(78, .int .i64 ((d.az.ls.length:Nat):Int)),(77, .slice f d.az.ls.length l),(2, .int .i64 0),(1, .pointer (some ⟨h,0,none⟩))]) gD (fun i=>d.ah.ls.length - i.2) (decide (K=0),0) ⟨rfl,rfl,rfl,rfl,rfl,rfl,rfl,rfl,rfl,rfl,rfl,rfl,rfl,rfl,rfl,rfl,rfl,rfl,rfl,rfl,rfl,rfl,rfl,rfl,rfl,rfl,rfl,rfl,rfl,rfl,rfl,rfl,rfl,rfl,rfl,rfl,rfl,rfl,rfl,rfl,rfl,rfl,rfl,rfl,rfl,rfl,rfl,rfl,rfl,rfl,rfl,trivial⟩ (cK.2 ⟨kK,by omega,rfl⟩) ?_
 rintro ⟨N,E⟩ nE jg
 obtain⟨aZ,mF,ed⟩:=cK.1 jg
 refine sr (Kz (.bool (decide (((E:Nat):Int) < ((d.ah.ls.length:Nat):Int)))) (nt (BS ?_)))
 by_cases gF:((E:Nat):Int) < ((d.ah.ls.length:Nat):Int)
 obtain⟨af,ek⟩:=bU (ls:=d.ah.ls) (i:=E) fu (by decide) (aZ.ro y) (by first | omega | (simp; done) | (simp; omega))
 have jh:=drop_at ek
 refine jT (dT gF) (sk (BS (bo (sr (fw (.pointer (some ⟨ab g,ao g+E *1,none⟩)) (Ch (jY) rfl rfl ((aZ.ro y).addr (i:=E) (by omega)) (by omega)) (fw (.int .u64 ((af:Nat):Int)) (Cc rfl (bi.one Tryz.isAgg22 (((aZ.ro y).elem fu ek (by decide)).at_ (k:=0) rfl))) (An rfl (BR (Mz rfl (Mz rfl ?_))))))))))
 refine CY (ι:=Bool) 5 (fun i=> [(132, .bool i),(127, .bool N),(126, .bool N),(7, .int .u64 ((af:Nat):Int)),(125, .int .u64 ((af:Nat):Int)),(124, .pointer (some ⟨ab g,ao g+E *1,none⟩)),(123, .bool (decide (((E:Nat):Int) < ((d.ah.ls.length:Nat):Int)))),(3, .bool N),(122, .int .i64 ((E:Nat):Int)),(121, .int .i64 ((d.ah.ls.length:Nat):Int)),(120, .slice g d.ah.ls.length n),(119, .pointer (some ⟨h,7,none⟩)),(118, .bool (decide (K=0))),(117, .bool (decide (K=0))),(116, .int .i64 K),(115, .slice a.ay.A a.ay.ls.length a.ay.c),(114, .pointer (some ⟨j,1,none⟩)),(113, .bool (decide (((a.ay.ls.length:Nat):Int)≤24))),(112, .bool (decide (((a.ay.ls.length:Nat):Int)≤24))),(111, .bool (decide (((a.ay.ls.length:Nat):Int)≤24))),(110, .int .i64 ((a.ay.ls.length:Nat):Int)),(109, .slice a.ay.A a.ay.ls.length a.ay.c),(108, .pointer (some ⟨j,1,none⟩)),(107, .bool (decide (((a.ay.ls.length:Nat):Int) ≥ 1))),(106, .bool (decide (((a.ay.ls.length:Nat):Int) ≥ 1))),(105, .bool (decide (((a.ay.ls.length:Nat):Int) ≥ 1))),(104, .int .i64 ((a.ay.ls.length:Nat):Int)),(103, .slice a.ay.A a.ay.ls.length a.ay.c),(102, .pointer (some ⟨j,1,none⟩)),(101, .bool (decide (((p.av:Nat):Int) < ((a.av:Nat):Int)))),(100, .bool (decide (((p.av:Nat):Int) < ((a.av:Nat):Int)))),(99, .bool (decide (((p.av:Nat):Int) < ((a.av:Nat):Int)))),(98, .bool (decide (((p.av:Nat):Int) < ((a.av:Nat):Int)))),(97, .int .u64 ((a.av:Nat):Int)),(96, .pointer (some ⟨j,0,none⟩)),(95, .int .u64 ((p.av:Nat):Int)),(94, .pointer (some ⟨ab f,ao f+(b - 1) *2,none⟩)),(93, .pointer (some ⟨ab f,ao f+(b - 1) *2,none⟩)),(92, .int .i64 ((b - 1:Nat):Int)),(91, .int .i64 ((b:Nat):Int)),(90, .slice f d.az.ls.length l),(89, .pointer (some ⟨h,6,none⟩)),(88, .bool (decide (((b:Nat):Int)=0))),(87, .bool (decide (((b:Nat):Int)=0))),(86, .int .i64 ((b:Nat):Int)),(85, .bool o),(84, .bool o),(4, .int .i64 ((b:Nat):Int)),(5, .pointer (some ⟨j,0,none⟩)),(83, .agg (aM.cells a).toArray),(82, .pointer (some ⟨ab f,ao f+b *2,none⟩)),(81, .int .i64 ((b:Nat):Int)),(80, .bool (decide (((b:Nat):Int) < ((d.az.ls.length:Nat):Int)))),(79, .int .i64 ((b:Nat):Int)),(78, .int .i64 ((d.az.ls.length:Nat):Int)),(77, .slice f d.az.ls.length l),(2, .int .i64 0),(1, .pointer (some ⟨h,0,none⟩))]) (fun i w'=>Own w D w' [blk j (aM.cells a) 66,blk h (aX d r s f l g n) 31]∧((if N=true then decide (¬ (((af:Nat):Int)=((a.av:Nat):Int))) else false)=i)) ?_ ?_
 intro eu
 rcases EO (N) with az | az
 refine CO (v:= .int .u64 ((af:Nat):Int)) rfl rfl az rfl (BX rfl) (Gz (.pointer (some ⟨j,0,none⟩)) az (Gl (.int .u64 ((a.av:Nat):Int)) az aZ 0 Tryz.isAgg22 (CO (v:= .bool (decide (¬ (((af:Nat):Int)=((a.av:Nat):Int))))) rfl rfl az rfl (Cy (e:= !(decide (((af:Nat):Int)=((a.av:Nat):Int)))) yk decide_not.symm) (fw (.bool (decide (¬ (((af:Nat):Int)=((a.av:Nat):Int))))) (BZ rfl az rfl) ?_))))
 have kL:=aZ.pk [0,1]
 exact eu (decide (¬ (((af:Nat):Int)=((a.av:Nat):Int)))) _ _ ⟨kL,(show (if N=true then decide (¬ (((af:Nat):Int)=((a.av:Nat):Int))) else false)=decide (¬ (((af:Nat):Int)=((a.av:Nat):Int))) from ip az)⟩ ⟨rfl,rfl,rfl,rfl,rfl,rfl,rfl,rfl,rfl,rfl,rfl,rfl,rfl,rfl,rfl,rfl,rfl,rfl,rfl,rfl,rfl,rfl,rfl,rfl,rfl,rfl,rfl,rfl,rfl,rfl,rfl,rfl,rfl,rfl,rfl,rfl,rfl,rfl,rfl,rfl,rfl,rfl,rfl,rfl,rfl,rfl,rfl,rfl,rfl,rfl,rfl,rfl,rfl,rfl,rfl,rfl,rfl,rfl,trivial⟩
 refine Sz az (Sz az (Sz az (Sz az (fw (.bool false) (BQ rfl az rfl) ?_))))
 have kM:=aZ.pk [0,1]
 exact eu false _ _ ⟨kM,(show (if N=true then decide (¬ (((af:Nat):Int)=((a.av:Nat):Int))) else false)=false from jE az)⟩ ⟨rfl,rfl,rfl,rfl,rfl,rfl,rfl,rfl,rfl,rfl,rfl,rfl,rfl,rfl,rfl,rfl,rfl,rfl,rfl,rfl,rfl,rfl,rfl,rfl,rfl,rfl,rfl,rfl,rfl,rfl,rfl,rfl,rfl,rfl,rfl,rfl,rfl,rfl,rfl,rfl,rfl,rfl,rfl,rfl,rfl,rfl,rfl,rfl,rfl,rfl,rfl,rfl,rfl,rfl,rfl,rfl,rfl,rfl,trivial⟩
 rintro eB nH ⟨kN,cO⟩
 show WL _ _ _ (List.drop 5 _) _ [(132, .bool eB),(127, .bool N),(126, .bool N),(7, .int .u64 ((af:Nat):Int)),(125, .int .u64 ((af:Nat):Int)),(124, .pointer (some ⟨ab g,ao g+E *1,none⟩)),(123, .bool (decide (((E:Nat):Int) < ((d.ah.ls.length:Nat):Int)))),(3, .bool N),(122, .int .i64 ((E:Nat):Int)),(121, .int .i64 ((d.ah.ls.length:Nat):Int)),(120, .slice g d.ah.ls.length n),(119, .pointer (some ⟨h,7,none⟩)),(118, .bool (decide (K=0))),(117, .bool (decide (K=0))),(116, .int .i64 K),(115, .slice a.ay.A a.ay.ls.length a.ay.c),(114, .pointer (some ⟨j,1,none⟩)),(113, .bool (decide (((a.ay.ls.length:Nat):Int)≤24))),(112, .bool (decide (((a.ay.ls.length:Nat):Int)≤24))),(111, .bool (decide (((a.ay.ls.length:Nat):Int)≤24))),(110, .int .i64 ((a.ay.ls.length:Nat):Int)),(109, .slice a.ay.A a.ay.ls.length a.ay.c),(108, .pointer (some ⟨j,1,none⟩)),(107, .bool (decide (((a.ay.ls.length:Nat):Int) ≥ 1))),(106, .bool (decide (((a.ay.ls.length:Nat):Int) ≥ 1))),(105, .bool (decide (((a.ay.ls.length:Nat):Int) ≥ 1))),(104, .int .i64 ((a.ay.ls.length:Nat):Int)),(103, .slice a.ay.A a.ay.ls.length a.ay.c),(102, .pointer (some ⟨j,1,none⟩)),(101, .bool (decide (((p.av:Nat):Int) < ((a.av:Nat):Int)))),(100, .bool (decide (((p.av:Nat):Int) < ((a.av:Nat):Int)))),(99, .bool (decide (((p.av:Nat):Int) < ((a.av:Nat):Int)))),(98, .bool (decide (((p.av:Nat):Int) < ((a.av:Nat):Int)))),(97, .int .u64 ((a.av:Nat):Int)),(96, .pointer (some ⟨j,0,none⟩)),(95, .int .u64 ((p.av:Nat):Int)),(94, .pointer (some ⟨ab f,ao f+(b - 1) *2,none⟩)),(93, .pointer (some ⟨ab f,ao f+(b - 1) *2,none⟩)),(92, .int .i64 ((b - 1:Nat):Int)),(91, .int .i64 ((b:Nat):Int)),(90, .slice f d.az.ls.length l),(89, .pointer (some ⟨h,6,none⟩)),(88, .bool (decide (((b:Nat):Int)=0))),(87, .bool (decide (((b:Nat):Int)=0))),(86, .int .i64 ((b:Nat):Int)),(85, .bool o),(84, .bool o),(4, .int .i64 ((b:Nat):Int)),(5, .pointer (some ⟨j,0,none⟩)),(83, .agg (aM.cells a).toArray),(82, .pointer (some ⟨ab f,ao f+b *2,none⟩)),(81, .int .i64 ((b:Nat):Int)),(80, .bool (decide (((b:Nat):Int) < ((d.az.ls.length:Nat):Int)))),(79, .int .i64 ((b:Nat):Int)),(78, .int .i64 ((d.az.ls.length:Nat):Int)),(77, .slice f d.az.ls.length l),(2, .int .i64 0),(1, .pointer (some ⟨h,0,none⟩))] _
 replace cO:(if N=true then decide (¬ (((af:Nat):Int)=((a.av:Nat):Int))) else false)=eB:=cO
 refine Az rfl (Cf (bN (Ca (BR (fw (.int .i64 ((E+1:Nat):Int)) (Ci (e:=IntKind.i64.wrap (((E:Nat):Int)+1)) yk (by rw [EL _ (by omega)]; omega)) (Mz rfl (Cf ?_)))))))
 have kP:=kN.pk [0,1]
 exact Cm (eB,E+1) ⟨rfl,rfl,rfl,rfl,rfl,rfl,rfl,rfl,rfl,rfl,rfl,rfl,rfl,rfl,rfl,rfl,rfl,rfl,rfl,rfl,rfl,rfl,rfl,rfl,rfl,rfl,rfl,rfl,rfl,rfl,rfl,rfl,rfl,rfl,rfl,rfl,rfl,rfl,rfl,rfl,rfl,rfl,rfl,rfl,rfl,rfl,rfl,rfl,rfl,rfl,rfl,trivial⟩ (cK.2 ⟨kP,by omega,et (ed) (et (congrArg (fun q=>gX b (CE a) q N) jh) (ag cO))⟩) (by show d.ah.ls.length - (E+1) < d.ah.ls.length - E; omega)
 refine jF (dF gF) (Wp.exit (Cb ?_))
 have ji:gX b (CE a) d.ah.ls (decide (K=0))=N:=et (ed) (et (congrArg (fun q=>gX b (CE a) q N) (bM (ls:=d.ah.ls) (i:=E) (by omega))) rfl)
 refine Cb (Cn (bN (Ca (BR (fw (.int .i64 ((b+1:Nat):Int)) (Ci (e:=IntKind.i64.wrap (((b:Nat):Int)+1)) yk (by rw [EL _ (by omega)]; omega)) (Mz rfl (Cf ?_)))))))
 have kR:=aZ.pk [1]
 exact Cm (N,b+1) ⟨rfl,rfl,rfl,rfl,rfl,rfl,trivial⟩ (aj.2 ⟨kR,by omega,et (aA) (et (congrArg (fun q=>bz d q o b) aI) (et (ip F) (et (iN z) (et (ag (cu bC)) (et (ip ah) (et (ip ay) (et (ip aG) (et (ag dZ) (ag ji)))))))))⟩) (by show d.az.ls.length - (b+1) < d.az.ls.length - b; omega)
 refine BP (rs:= []) 30 rfl rfl rfl (dF aG) (by kernel_rfl) (BP (rs:= []) 31 rfl rfl rfl (dF aG) (by kernel_rfl) (BP (rs:= []) 32 rfl rfl rfl (dF aG) (by kernel_rfl) (BP (rs:= []) 33 rfl rfl rfl (dF aG) (by kernel_rfl) (GX.take (v:= .bool false) (rs:= []) 34 rfl (by kernel_rfl) (fun _ _=>BQ rfl (dF aG) rfl) (GX.take (v:= .bool false) (rs:= []) 35 rfl (by kernel_rfl) (fun _ _=>CF rfl) (Cx (by kernel_rfl) (Ca (sr (Kz (.pointer (some ⟨h,7,none⟩)) (Lz (.slice g d.ah.ls.length n) Q 1 Tryz.isAgg25 (Kz (.int .i64 ((d.ah.ls.length:Nat):Int)) (Mn rfl (bo ?_)))))))))))))
 have kS:=Q.pk [0,1]
 obtain⟨gG,jk⟩:∃ q:Nat→World→Prop,q=fun(i:Nat) w'=>Own w D w' [blk j (aM.cells a) 66,blk h (aX d r s f l g n) 31]∧(i≤d.ah.ls.length∧iM b d.ah.ls=iM b (List.drop i d.ah.ls)):=⟨_,rfl⟩
 have cZ:∀ {T:Nat} {w':World},gG T w'↔Own w D w' [blk j (aM.cells a) 66,blk h (aX d r s f l g n) 31]∧T≤d.ah.ls.length∧iM b d.ah.ls=iM b (List.drop T d.ah.ls):=by intros; subst jk; exact Iff.rfl
 refine Wp.loop (fun i:Nat=> [(3, .bool false),(122, .int .i64 ((i:Nat):Int)),(121, .int .i64 ((d.ah.ls.length:Nat):Int)),(120, .slice g d.ah.ls.length n),(119, .pointer (some ⟨h,7,none⟩)),(118, .bool false),(117,undef),(116,undef),(115,undef),(114,undef),(113, .bool (decide (((a.ay.ls.length:Nat):Int)≤24))),(112, .bool (decide (((a.ay.ls.length:Nat):Int)≤24))),(111, .bool (decide (((a.ay.ls.length:Nat):Int)≤24))),(110, .int .i64 ((a.ay.ls.length:Nat):Int)),(109, .slice a.ay.A a.ay.ls.length a.ay.c),(108, .pointer (some ⟨j,1,none⟩)),(107, .bool (decide (((a.ay.ls.length:Nat):Int) ≥ 1))),(106, .bool (decide (((a.ay.ls.length:Nat):Int) ≥ 1))),(105, .bool (decide (((a.ay.ls.length:Nat):Int) ≥ 1))),(104, .int .i64 ((a.ay.ls.length:Nat):Int)),(103, .slice a.ay.A a.ay.ls.length a.ay.c),(102, .pointer (some ⟨j,1,none⟩)),(101, .bool (decide (((p.av:Nat):Int) < ((a.av:Nat):Int)))),(100, .bool (decide (((p.av:Nat):Int) < ((a.av:Nat):Int)))),(99, .bool (decide (((p.av:Nat):Int) < ((a.av:Nat):Int)))),(98, .bool (decide (((p.av:Nat):Int) < ((a.av:Nat):Int)))),(97, .int .u64 ((a.av:Nat):Int)),(96, .pointer (some ⟨j,0,none⟩)),(95, .int .u64 ((p.av:Nat):Int)),(94, .pointer (some ⟨ab f,ao f+(b - 1) *2,none⟩)),(93, .pointer (some ⟨ab f,ao f+(b - 1) *2,none⟩)),(92, .int .i64 ((b - 1:Nat):Int)),(91, .int .i64 ((b:Nat):Int)),(90, .slice f d.az.ls.length l),(89, .pointer (some ⟨h,6,none⟩)),(88, .bool (decide (((b:Nat):Int)=0))),(87, .bool (decide (((b:Nat):Int)=0))),(86, .int .i64 ((b:Nat):Int)),(85, .bool o),(84, .bool o),(4, .int .i64 ((b:Nat):Int)),(5, .pointer (some ⟨j,0,none⟩)),(83, .agg (aM.cells a).toArray),(82, .pointer (some ⟨ab f,ao f+b *2,none⟩)),(81, .int .i64 ((b:Nat):Int)),(80, .bool (decide (((b:Nat):Int) < ((d.az.ls.length:Nat):Int)))),(79, .int .i64 ((b:Nat):Int)),(78, .int .i64 ((d.az.ls.length:Nat):Int)),(77, .slice f d.az.ls.length l),(2, .int .i64 0),(1, .pointer (some ⟨h,0,none⟩))]) gG (fun i=>d.ah.ls.length - i) 0 ⟨rfl,rfl,rfl,rfl,rfl,rfl,rfl,rfl,rfl,rfl,rfl,rfl,rfl,rfl,rfl,rfl,rfl,rfl,rfl,rfl,rfl,rfl,rfl,rfl,rfl,rfl,rfl,rfl,rfl,rfl,rfl,rfl,rfl,rfl,rfl,rfl,rfl,rfl,rfl,rfl,rfl,rfl,rfl,rfl,rfl,rfl,rfl,rfl,rfl,rfl,rfl,trivial⟩ (cZ.2 ⟨kS,by omega,rfl⟩) ?_
 rintro T nI jl
 obtain⟨bK,mG,eD⟩:=cZ.1 jl
 refine sr (Kz (.bool (decide (((T:Nat):Int) < ((d.ah.ls.length:Nat):Int)))) (nt (BS ?_)))
 by_cases gH:((T:Nat):Int) < ((d.ah.ls.length:Nat):Int)
 obtain⟨kT,eF⟩:=bU (ls:=d.ah.ls) (i:=T) fu (by decide) (bK.ro y) (by first | omega | (simp; done) | (simp; omega))
 have jm:=drop_at eF
 refine jT (dT gH) (sk (BS (bo (sr (fw (.pointer (some ⟨ab g,ao g+T *1,none⟩)) (Ch (jY) rfl rfl ((bK.ro y).addr (i:=T) (by omega)) (by omega)) (fw (.int .u64 ((kT:Nat):Int)) (Cc rfl (bi.one Tryz.isAgg22 (((bK.ro y).elem fu eF (by decide)).at_ (k:=0) rfl))) (An rfl (BR (Mz rfl (Mz rfl (Sz rfl (Sz rfl (Sz rfl (Sz rfl (fw (.bool false) (BQ rfl rfl rfl) (Az rfl (Cf (bN (Ca (BR (fw (.int .i64 ((T+1:Nat):Int)) (Ci (e:=IntKind.i64.wrap (((T:Nat):Int)+1)) yk (by rw [EL _ (by omega)]; omega)) (Mz rfl (Cf ?_)))))))))))))))))))))))
 have kU:=bK.pk [0,1]
 exact Cm (T+1) ⟨rfl,rfl,rfl,rfl,rfl,rfl,rfl,rfl,rfl,rfl,rfl,rfl,rfl,rfl,rfl,rfl,rfl,rfl,rfl,rfl,rfl,rfl,rfl,rfl,rfl,rfl,rfl,rfl,rfl,rfl,rfl,rfl,rfl,rfl,rfl,rfl,rfl,rfl,rfl,rfl,rfl,rfl,rfl,rfl,rfl,rfl,rfl,rfl,rfl,rfl,rfl,trivial⟩ (cZ.2 ⟨kU,by omega,et (eD) (et (congrArg (fun q=>iM b q) jm) rfl)⟩) (by show d.ah.ls.length - (T+1) < d.ah.ls.length - T; omega)
 refine jF (dF gH) (Wp.exit (Cb ?_))
 have jo:iM b d.ah.ls=():=et (eD) (et (congrArg (fun q=>iM b q) (bM (ls:=d.ah.ls) (i:=T) (by omega))) rfl)
 refine Cb (Cn (bN (Ca (BR (fw (.int .i64 ((b+1:Nat):Int)) (Ci (e:=IntKind.i64.wrap (((b:Nat):Int)+1)) yk (by rw [EL _ (by omega)]; omega)) (Mz rfl (Cf ?_)))))))
 have kV:=bK.pk [1]
 exact Cm (false,b+1) ⟨rfl,rfl,rfl,rfl,rfl,rfl,trivial⟩ (aj.2 ⟨kV,(show (b+1)≤d.az.ls.length∧bz d d.az.ls aD 0=bz d (List.drop (b+1) d.az.ls) false (b+1) from ⟨by omega,et (aA) (et (congrArg (fun q=>bz d q o b) aI) (et (ip F) (et (iN z) (et (ag (cu bC)) (et (ip ah) (et (ip ay) (et (iN aG) (ag jo))))))))⟩)⟩) (by show d.az.ls.length - (b+1) < d.az.ls.length - b; omega)
 refine BP (rs:= []) 24 rfl rfl rfl (dF ay) (by kernel_rfl) (BP (rs:= []) 25 rfl rfl rfl (dF ay) (by kernel_rfl) (BP (rs:= []) 26 rfl rfl rfl (dF ay) (by kernel_rfl) (BP (rs:= []) 27 rfl rfl rfl (dF ay) (by kernel_rfl) (GX.take (v:= .bool false) (rs:= []) 28 rfl (by kernel_rfl) (fun _ _=>BQ rfl (dF ay) rfl) (GX.take (v:= .bool false) (rs:= []) 29 rfl (by kernel_rfl) (fun _ _=>BX rfl) (BP (rs:= []) 30 rfl rfl rfl rfl (by kernel_rfl) (BP (rs:= []) 31 rfl rfl rfl rfl (by kernel_rfl) (BP (rs:= []) 32 rfl rfl rfl rfl (by kernel_rfl) (BP (rs:= []) 33 rfl rfl rfl rfl (by kernel_rfl) (GX.take (v:= .bool false) (rs:= []) 34 rfl (by kernel_rfl) (fun _ _=>BQ rfl rfl rfl) (GX.take (v:= .bool false) (rs:= []) 35 rfl (by kernel_rfl) (fun _ _=>CF rfl) (Cx (by kernel_rfl) (Ca (sr (Kz (.pointer (some ⟨h,7,none⟩)) (Lz (.slice g d.ah.ls.length n) Q 1 Tryz.isAgg25 (Kz (.int .i64 ((d.ah.ls.length:Nat):Int)) (Mn rfl (bo ?_)))))))))))))))))))
 have kW:=Q.pk [0,1]
 obtain⟨gI,jq⟩:∃ q:Nat→World→Prop,q=fun(i:Nat) w'=>Own w D w' [blk j (aM.cells a) 66,blk h (aX d r s f l g n) 31]∧(i≤d.ah.ls.length∧iO b d.ah.ls=iO b (List.drop i d.ah.ls)):=⟨_,rfl⟩
 have df:∀ {U:Nat} {w':World},gI U w'↔Own w D w' [blk j (aM.cells a) 66,blk h (aX d r s f l g n) 31]∧U≤d.ah.ls.length∧iO b d.ah.ls=iO b (List.drop U d.ah.ls):=by intros; subst jq; exact Iff.rfl
 refine Wp.loop (fun i:Nat=> [(3, .bool false),(122, .int .i64 ((i:Nat):Int)),(121, .int .i64 ((d.ah.ls.length:Nat):Int)),(120, .slice g d.ah.ls.length n),(119, .pointer (some ⟨h,7,none⟩)),(118, .bool false),(117,undef),(116,undef),(115,undef),(114,undef),(113, .bool false),(112, .bool false),(111,undef),(110,undef),(109,undef),(108,undef),(107, .bool (decide (((a.ay.ls.length:Nat):Int) ≥ 1))),(106, .bool (decide (((a.ay.ls.length:Nat):Int) ≥ 1))),(105, .bool (decide (((a.ay.ls.length:Nat):Int) ≥ 1))),(104, .int .i64 ((a.ay.ls.length:Nat):Int)),(103, .slice a.ay.A a.ay.ls.length a.ay.c),(102, .pointer (some ⟨j,1,none⟩)),(101, .bool (decide (((p.av:Nat):Int) < ((a.av:Nat):Int)))),(100, .bool (decide (((p.av:Nat):Int) < ((a.av:Nat):Int)))),(99, .bool (decide (((p.av:Nat):Int) < ((a.av:Nat):Int)))),(98, .bool (decide (((p.av:Nat):Int) < ((a.av:Nat):Int)))),(97, .int .u64 ((a.av:Nat):Int)),(96, .pointer (some ⟨j,0,none⟩)),(95, .int .u64 ((p.av:Nat):Int)),(94, .pointer (some ⟨ab f,ao f+(b - 1) *2,none⟩)),(93, .pointer (some ⟨ab f,ao f+(b - 1) *2,none⟩)),(92, .int .i64 ((b - 1:Nat):Int)),(91, .int .i64 ((b:Nat):Int)),(90, .slice f d.az.ls.length l),(89, .pointer (some ⟨h,6,none⟩)),(88, .bool (decide (((b:Nat):Int)=0))),(87, .bool (decide (((b:Nat):Int)=0))),(86, .int .i64 ((b:Nat):Int)),(85, .bool o),(84, .bool o),(4, .int .i64 ((b:Nat):Int)),(5, .pointer (some ⟨j,0,none⟩)),(83, .agg (aM.cells a).toArray),(82, .pointer (some ⟨ab f,ao f+b *2,none⟩)),(81, .int .i64 ((b:Nat):Int)),(80, .bool (decide (((b:Nat):Int) < ((d.az.ls.length:Nat):Int)))),(79, .int .i64 ((b:Nat):Int)),(78, .int .i64 ((d.az.ls.length:Nat):Int)),(77, .slice f d.az.ls.length l),(2, .int .i64 0),(1, .pointer (some ⟨h,0,none⟩))]) gI (fun i=>d.ah.ls.length - i) 0 ⟨rfl,rfl,rfl,rfl,rfl,rfl,rfl,rfl,rfl,rfl,rfl,rfl,rfl,rfl,rfl,rfl,rfl,rfl,rfl,rfl,rfl,rfl,rfl,rfl,rfl,rfl,rfl,rfl,rfl,rfl,rfl,rfl,rfl,rfl,rfl,rfl,rfl,rfl,rfl,rfl,rfl,rfl,rfl,rfl,rfl,rfl,rfl,rfl,rfl,rfl,rfl,trivial⟩ (df.2 ⟨kW,by omega,rfl⟩) ?_
 rintro U nJ jr
 obtain⟨bL,mH,eG⟩:=df.1 jr
 refine sr (Kz (.bool (decide (((U:Nat):Int) < ((d.ah.ls.length:Nat):Int)))) (nt (BS ?_)))
 by_cases gK:((U:Nat):Int) < ((d.ah.ls.length:Nat):Int)
 obtain⟨kX,eH⟩:=bU (ls:=d.ah.ls) (i:=U) fu (by decide) (bL.ro y) (by first | omega | (simp; done) | (simp; omega))
 have jv:=drop_at eH
 refine jT (dT gK) (sk (BS (bo (sr (fw (.pointer (some ⟨ab g,ao g+U *1,none⟩)) (Ch (jY) rfl rfl ((bL.ro y).addr (i:=U) (by omega)) (by omega)) (fw (.int .u64 ((kX:Nat):Int)) (Cc rfl (bi.one Tryz.isAgg22 (((bL.ro y).elem fu eH (by decide)).at_ (k:=0) rfl))) (An rfl (BR (Mz rfl (Mz rfl (Sz rfl (Sz rfl (Sz rfl (Sz rfl (fw (.bool false) (BQ rfl rfl rfl) (Az rfl (Cf (bN (Ca (BR (fw (.int .i64 ((U+1:Nat):Int)) (Ci (e:=IntKind.i64.wrap (((U:Nat):Int)+1)) yk (by rw [EL _ (by omega)]; omega)) (Mz rfl (Cf ?_)))))))))))))))))))))))
 have kY:=bL.pk [0,1]
 exact Cm (U+1) ⟨rfl,rfl,rfl,rfl,rfl,rfl,rfl,rfl,rfl,rfl,rfl,rfl,rfl,rfl,rfl,rfl,rfl,rfl,rfl,rfl,rfl,rfl,rfl,rfl,rfl,rfl,rfl,rfl,rfl,rfl,rfl,rfl,rfl,rfl,rfl,rfl,rfl,rfl,rfl,rfl,rfl,rfl,rfl,rfl,rfl,rfl,rfl,rfl,rfl,rfl,rfl,trivial⟩ (df.2 ⟨kY,by omega,et (eG) (et (congrArg (fun q=>iO b q) jv) rfl)⟩) (by show d.ah.ls.length - (U+1) < d.ah.ls.length - U; omega)
 refine jF (dF gK) (Wp.exit (Cb ?_))
 have jw:iO b d.ah.ls=():=et (eG) (et (congrArg (fun q=>iO b q) (bM (ls:=d.ah.ls) (i:=U) (by omega))) rfl)
 refine Cb (Cn (bN (Ca (BR (fw (.int .i64 ((b+1:Nat):Int)) (Ci (e:=IntKind.i64.wrap (((b:Nat):Int)+1)) yk (by rw [EL _ (by omega)]; omega)) (Mz rfl (Cf ?_)))))))
 have kZ:=bL.pk [1]
 exact Cm (false,b+1) ⟨rfl,rfl,rfl,rfl,rfl,rfl,trivial⟩ (aj.2 ⟨kZ,(show (b+1)≤d.az.ls.length∧bz d d.az.ls aD 0=bz d (List.drop (b+1) d.az.ls) false (b+1) from ⟨by omega,et (aA) (et (congrArg (fun q=>bz d q o b) aI) (et (ip F) (et (iN z) (et (ag (cu bC)) (et (ip ah) (et (iN ay) (ag jw)))))))⟩)⟩) (by show d.az.ls.length - (b+1) < d.az.ls.length - b; omega)
 refine BP (rs:= []) 18 rfl rfl rfl (dF ah) (by kernel_rfl) (BP (rs:= []) 19 rfl rfl rfl (dF ah) (by kernel_rfl) (BP (rs:= []) 20 rfl rfl rfl (dF ah) (by kernel_rfl) (BP (rs:= []) 21 rfl rfl rfl (dF ah) (by kernel_rfl) (GX.take (v:= .bool false) (rs:= []) 22 rfl (by kernel_rfl) (fun _ _=>BQ rfl (dF ah) rfl) (GX.take (v:= .bool false) (rs:= []) 23 rfl (by kernel_rfl) (fun _ _=>BX rfl) (BP (rs:= []) 24 rfl rfl rfl rfl (by kernel_rfl) (BP (rs:= []) 25 rfl rfl rfl rfl (by kernel_rfl) (BP (rs:= []) 26 rfl rfl rfl rfl (by kernel_rfl) (BP (rs:= []) 27 rfl rfl rfl rfl (by kernel_rfl) (GX.take (v:= .bool false) (rs:= []) 28 rfl (by kernel_rfl) (fun _ _=>BQ rfl rfl rfl) (GX.take (v:= .bool false) (rs:= []) 29 rfl (by kernel_rfl) (fun _ _=>BX rfl) (BP (rs:= []) 30 rfl rfl rfl rfl (by kernel_rfl) (BP (rs:= []) 31 rfl rfl rfl rfl (by kernel_rfl) (BP (rs:= []) 32 rfl rfl rfl rfl (by kernel_rfl) (BP (rs:= []) 33 rfl rfl rfl rfl (by kernel_rfl) (GX.take (v:= .bool false) (rs:= []) 34 rfl (by kernel_rfl) (fun _ _=>BQ rfl rfl rfl) (GX.take (v:= .bool false) (rs:= []) 35 rfl (by kernel_rfl) (fun _ _=>CF rfl) (Cx (by kernel_rfl) (Ca (sr (Kz (.pointer (some ⟨h,7,none⟩)) (Lz (.slice g d.ah.ls.length n) Q 1 Tryz.isAgg25 (Kz (.int .i64 ((d.ah.ls.length:Nat):Int)) (Mn rfl (bo ?_)))))))))))))))))))))))))
 have lc:=Q.pk [0,1]
 obtain⟨gM,jy⟩:∃ q:Nat→World→Prop,q=fun(i:Nat) w'=>Own w D w' [blk j (aM.cells a) 66,blk h (aX d r s f l g n) 31]∧(i≤d.ah.ls.length∧iQ b d.ah.ls=iQ b (List.drop i d.ah.ls)):=⟨_,rfl⟩
 have dh:∀ {V:Nat} {w':World},gM V w'↔Own w D w' [blk j (aM.cells a) 66,blk h (aX d r s f l g n) 31]∧V≤d.ah.ls.length∧iQ b d.ah.ls=iQ b (List.drop V d.ah.ls):=by intros; subst jy; exact Iff.rfl
 refine Wp.loop (fun i:Nat=> [(3, .bool false),(122, .int .i64 ((i:Nat):Int)),(121, .int .i64 ((d.ah.ls.length:Nat):Int)),(120, .slice g d.ah.ls.length n),(119, .pointer (some ⟨h,7,none⟩)),(118, .bool false),(117,undef),(116,undef),(115,undef),(114,undef),(113, .bool false),(112, .bool false),(111,undef),(110,undef),(109,undef),(108,undef),(107, .bool false),(106, .bool false),(105,undef),(104,undef),(103,undef),(102,undef),(101, .bool (decide (((p.av:Nat):Int) < ((a.av:Nat):Int)))),(100, .bool (decide (((p.av:Nat):Int) < ((a.av:Nat):Int)))),(99, .bool (decide (((p.av:Nat):Int) < ((a.av:Nat):Int)))),(98, .bool (decide (((p.av:Nat):Int) < ((a.av:Nat):Int)))),(97, .int .u64 ((a.av:Nat):Int)),(96, .pointer (some ⟨j,0,none⟩)),(95, .int .u64 ((p.av:Nat):Int)),(94, .pointer (some ⟨ab f,ao f+(b - 1) *2,none⟩)),(93, .pointer (some ⟨ab f,ao f+(b - 1) *2,none⟩)),(92, .int .i64 ((b - 1:Nat):Int)),(91, .int .i64 ((b:Nat):Int)),(90, .slice f d.az.ls.length l),(89, .pointer (some ⟨h,6,none⟩)),(88, .bool (decide (((b:Nat):Int)=0))),(87, .bool (decide (((b:Nat):Int)=0))),(86, .int .i64 ((b:Nat):Int)),(85, .bool o),(84, .bool o),(4, .int .i64 ((b:Nat):Int)),(5, .pointer (some ⟨j,0,none⟩)),(83, .agg (aM.cells a).toArray),(82, .pointer (some ⟨ab f,ao f+b *2,none⟩)),(81, .int .i64 ((b:Nat):Int)),(80, .bool (decide (((b:Nat):Int) < ((d.az.ls.length:Nat):Int)))),(79, .int .i64 ((b:Nat):Int)),(78, .int .i64 ((d.az.ls.length:Nat):Int)),(77, .slice f d.az.ls.length l),(2, .int .i64 0),(1, .pointer (some ⟨h,0,none⟩))]) gM (fun i=>d.ah.ls.length - i) 0 ⟨rfl,rfl,rfl,rfl,rfl,rfl,rfl,rfl,rfl,rfl,rfl,rfl,rfl,rfl,rfl,rfl,rfl,rfl,rfl,rfl,rfl,rfl,rfl,rfl,rfl,rfl,rfl,rfl,rfl,rfl,rfl,rfl,rfl,rfl,rfl,rfl,rfl,rfl,rfl,rfl,rfl,rfl,rfl,rfl,rfl,rfl,rfl,rfl,rfl,rfl,rfl,trivial⟩ (dh.2 ⟨lc,by omega,rfl⟩) ?_
 rintro V nK jA
 obtain⟨bO,mI,eO⟩:=dh.1 jA
 refine sr (Kz (.bool (decide (((V:Nat):Int) < ((d.ah.ls.length:Nat):Int)))) (nt (BS ?_)))
 by_cases gN:((V:Nat):Int) < ((d.ah.ls.length:Nat):Int)
 obtain⟨lg,eP⟩:=bU (ls:=d.ah.ls) (i:=V) fu (by decide) (bO.ro y) (by first | omega | (simp; done) | (simp; omega))
 have jB:=drop_at eP
 refine jT (dT gN) (sk (BS (bo (sr (fw (.pointer (some ⟨ab g,ao g+V *1,none⟩)) (Ch (jY) rfl rfl ((bO.ro y).addr (i:=V) (by omega)) (by omega)) (fw (.int .u64 ((lg:Nat):Int)) (Cc rfl (bi.one Tryz.isAgg22 (((bO.ro y).elem fu eP (by decide)).at_ (k:=0) rfl))) (An rfl (BR (Mz rfl (Mz rfl (Sz rfl (Sz rfl (Sz rfl (Sz rfl (fw (.bool false) (BQ rfl rfl rfl) (Az rfl (Cf (bN (Ca (BR (fw (.int .i64 ((V+1:Nat):Int)) (Ci (e:=IntKind.i64.wrap (((V:Nat):Int)+1)) yk (by rw [EL _ (by omega)]; omega)) (Mz rfl (Cf ?_)))))))))))))))))))))))
 have lh:=bO.pk [0,1]
 exact Cm (V+1) ⟨rfl,rfl,rfl,rfl,rfl,rfl,rfl,rfl,rfl,rfl,rfl,rfl,rfl,rfl,rfl,rfl,rfl,rfl,rfl,rfl,rfl,rfl,rfl,rfl,rfl,rfl,rfl,rfl,rfl,rfl,rfl,rfl,rfl,rfl,rfl,rfl,rfl,rfl,rfl,rfl,rfl,rfl,rfl,rfl,rfl,rfl,rfl,rfl,rfl,rfl,rfl,trivial⟩ (dh.2 ⟨lh,by omega,et (eO) (et (congrArg (fun q=>iQ b q) jB) rfl)⟩) (by show d.ah.ls.length - (V+1) < d.ah.ls.length - V; omega)
 refine jF (dF gN) (Wp.exit (Cb ?_))
 have jC:iQ b d.ah.ls=():=et (eO) (et (congrArg (fun q=>iQ b q) (bM (ls:=d.ah.ls) (i:=V) (by omega))) rfl)
 refine Cb (Cn (bN (Ca (BR (fw (.int .i64 ((b+1:Nat):Int)) (Ci (e:=IntKind.i64.wrap (((b:Nat):Int)+1)) yk (by rw [EL _ (by omega)]; omega)) (Mz rfl (Cf ?_)))))))
 have ll:=bO.pk [1]
 exact Cm (false,b+1) ⟨rfl,rfl,rfl,rfl,rfl,rfl,trivial⟩ (aj.2 ⟨ll,(show (b+1)≤d.az.ls.length∧bz d d.az.ls aD 0=bz d (List.drop (b+1) d.az.ls) false (b+1) from ⟨by omega,et (aA) (et (congrArg (fun q=>bz d q o b) aI) (et (ip F) (et (iN z) (et (ag (cu bC)) (et (iN ah) (ag jC))))))⟩)⟩) (by show d.az.ls.length - (b+1) < d.az.ls.length - b; omega)
 refine BP (rs:= []) 2 rfl rfl rfl F (by kernel_rfl) (BP (rs:= []) 3 rfl rfl rfl F (by kernel_rfl) (BP (rs:= []) 4 rfl rfl rfl F (by kernel_rfl) (Cr (rs:= []) 5 rfl rfl rfl (by kernel_rfl) (Cr (rs:= []) 6 rfl rfl rfl (by kernel_rfl) (Cr (rs:= []) 7 rfl rfl rfl (by kernel_rfl) (Cr (rs:= []) 8 rfl rfl rfl (by kernel_rfl) (Cr (rs:= []) 9 rfl rfl rfl (by kernel_rfl) (Cr (rs:= []) 10 rfl rfl rfl (by kernel_rfl) (Cr (rs:= []) 11 rfl rfl rfl (by kernel_rfl) (Cr (rs:= []) 12 rfl rfl rfl (by kernel_rfl) (Cr (rs:= []) 13 rfl rfl rfl (by kernel_rfl) (Cr (rs:= []) 14 rfl rfl rfl (by kernel_rfl) (BP (rs:= []) 15 rfl rfl rfl F (by kernel_rfl) (GX.take (v:= .bool false) (rs:= []) 16 rfl (by kernel_rfl) (fun _ _=>BQ rfl F rfl) (GX.take (v:= .bool false) (rs:= []) 17 rfl (by kernel_rfl) (fun _ _=>BX rfl) (BP (rs:= []) 18 rfl rfl rfl rfl (by kernel_rfl) (BP (rs:= []) 19 rfl rfl rfl rfl (by kernel_rfl) (BP (rs:= []) 20 rfl rfl rfl rfl (by kernel_rfl) (BP (rs:= []) 21 rfl rfl rfl rfl (by kernel_rfl) (GX.take (v:= .bool false) (rs:= []) 22 rfl (by kernel_rfl) (fun _ _=>BQ rfl rfl rfl) (GX.take (v:= .bool false) (rs:= []) 23 rfl (by kernel_rfl) (fun _ _=>BX rfl) (BP (rs:= []) 24 rfl rfl rfl rfl (by kernel_rfl) (BP (rs:= []) 25 rfl rfl rfl rfl (by kernel_rfl) (BP (rs:= []) 26 rfl rfl rfl rfl (by kernel_rfl) (BP (rs:= []) 27 rfl rfl rfl rfl (by kernel_rfl) (GX.take (v:= .bool false) (rs:= []) 28 rfl (by kernel_rfl) (fun _ _=>BQ rfl rfl rfl) (GX.take (v:= .bool false) (rs:= []) 29 rfl (by kernel_rfl) (fun _ _=>BX rfl) (BP (rs:= []) 30 rfl rfl rfl rfl (by kernel_rfl) (BP (rs:= []) 31 rfl rfl rfl rfl (by kernel_rfl) (BP (rs:= []) 32 rfl rfl rfl rfl (by kernel_rfl) (BP (rs:= []) 33 rfl rfl rfl rfl (by kernel_rfl) (GX.take (v:= .bool false) (rs:= []) 34 rfl (by kernel_rfl) (fun _ _=>BQ rfl rfl rfl) (GX.take (v:= .bool false) (rs:= []) 35 rfl (by kernel_rfl) (fun _ _=>CF rfl) (Cx (by kernel_rfl) (Ca (sr (Kz (.pointer (some ⟨h,7,none⟩)) (Lz (.slice g d.ah.ls.length n) Q 1 Tryz.isAgg25 ?_))))))))))))))))))))))))))))))))))))))
 refine Kz (.int .i64 ((d.ah.ls.length:Nat):Int)) (Mn rfl (bo ?_))
 have lq:=Q.pk [0,1]
 obtain⟨gP,jD⟩:∃ q:Nat→World→Prop,q=fun(i:Nat) w'=>Own w D w' [blk j (aM.cells a) 66,blk h (aX d r s f l g n) 31]∧(i≤d.ah.ls.length∧iR b d.ah.ls=iR b (List.drop i d.ah.ls)):=⟨_,rfl⟩
 have di:∀ {X:Nat} {w':World},gP X w'↔Own w D w' [blk j (aM.cells a) 66,blk h (aX d r s f l g n) 31]∧X≤d.ah.ls.length∧iR b d.ah.ls=iR b (List.drop X d.ah.ls):=by intros; subst jD; exact Iff.rfl
 refine Wp.loop (fun i:Nat=> [(3, .bool false),(122, .int .i64 ((i:Nat):Int)),(121, .int .i64 ((d.ah.ls.length:Nat):Int)),(120, .slice g d.ah.ls.length n),(119, .pointer (some ⟨h,7,none⟩)),(118, .bool false),(117,undef),(116,undef),(115,undef),(114,undef),(113, .bool false),(112, .bool false),(111,undef),(110,undef),(109,undef),(108,undef),(107, .bool false),(106, .bool false),(105,undef),(104,undef),(103,undef),(102,undef),(101, .bool false),(100, .bool false),(99,undef),(98,undef),(97,undef),(96,undef),(95,undef),(94,undef),(93,undef),(92,undef),(91,undef),(90,undef),(89,undef),(88,undef),(87,undef),(86,undef),(85, .bool o),(84, .bool o),(4, .int .i64 ((b:Nat):Int)),(5, .pointer (some ⟨j,0,none⟩)),(83, .agg (aM.cells a).toArray),(82, .pointer (some ⟨ab f,ao f+b *2,none⟩)),(81, .int .i64 ((b:Nat):Int)),(80, .bool (decide (((b:Nat):Int) < ((d.az.ls.length:Nat):Int)))),(79, .int .i64 ((b:Nat):Int)),(78, .int .i64 ((d.az.ls.length:Nat):Int)),(77, .slice f d.az.ls.length l),(2, .int .i64 0),(1, .pointer (some ⟨h,0,none⟩))]) gP (fun i=>d.ah.ls.length - i) 0 ⟨rfl,rfl,rfl,rfl,rfl,rfl,rfl,rfl,rfl,rfl,rfl,rfl,rfl,rfl,rfl,rfl,rfl,rfl,rfl,rfl,rfl,rfl,rfl,rfl,rfl,rfl,rfl,rfl,rfl,rfl,rfl,rfl,rfl,rfl,rfl,rfl,rfl,rfl,rfl,rfl,rfl,rfl,rfl,rfl,rfl,rfl,rfl,rfl,rfl,rfl,rfl,trivial⟩ (di.2 ⟨lq,by omega,rfl⟩) ?_
 rintro X nL jG
 obtain⟨bR,mJ,eQ⟩:=di.1 jG
 refine sr (Kz (.bool (decide (((X:Nat):Int) < ((d.ah.ls.length:Nat):Int)))) (nt (BS ?_)))
 by_cases gQ:((X:Nat):Int) < ((d.ah.ls.length:Nat):Int)
 obtain⟨lu,eT⟩:=bU (ls:=d.ah.ls) (i:=X) fu (by decide) (bR.ro y) (by first | omega | (simp; done) | (simp; omega))
 have jH:=drop_at eT
 refine jT (dT gQ) (sk (BS (bo (sr (fw (.pointer (some ⟨ab g,ao g+X *1,none⟩)) (Ch (jY) rfl rfl ((bR.ro y).addr (i:=X) (by omega)) (by omega)) (fw (.int .u64 ((lu:Nat):Int)) (Cc rfl (bi.one Tryz.isAgg22 (((bR.ro y).elem fu eT (by decide)).at_ (k:=0) rfl))) (An rfl (BR (Mz rfl (Mz rfl (Sz rfl (Sz rfl (Sz rfl (Sz rfl (fw (.bool false) (BQ rfl rfl rfl) (Az rfl (Cf (bN (Ca (BR (fw (.int .i64 ((X+1:Nat):Int)) (Ci (e:=IntKind.i64.wrap (((X:Nat):Int)+1)) yk (by rw [EL _ (by omega)]; omega)) (Mz rfl (Cf ?_)))))))))))))))))))))))
 have lv:=bR.pk [0,1]
 exact Cm (X+1) ⟨rfl,rfl,rfl,rfl,rfl,rfl,rfl,rfl,rfl,rfl,rfl,rfl,rfl,rfl,rfl,rfl,rfl,rfl,rfl,rfl,rfl,rfl,rfl,rfl,rfl,rfl,rfl,rfl,rfl,rfl,rfl,rfl,rfl,rfl,rfl,rfl,rfl,rfl,rfl,rfl,rfl,rfl,rfl,rfl,rfl,rfl,rfl,rfl,rfl,rfl,rfl,trivial⟩ (di.2 ⟨lv,by omega,et (eQ) (et (congrArg (fun q=>iR b q) jH) rfl)⟩) (by show d.ah.ls.length - (X+1) < d.ah.ls.length - X; omega)
 refine jF (dF gQ) (Wp.exit (Cb ?_))
 have jI:iR b d.ah.ls=():=et (eQ) (et (congrArg (fun q=>iR b q) (bM (ls:=d.ah.ls) (i:=X) (by omega))) rfl)
 refine Cb (Cn (bN (Ca (BR (fw (.int .i64 ((b+1:Nat):Int)) (Ci (e:=IntKind.i64.wrap (((b:Nat):Int)+1)) yk (by rw [EL _ (by omega)]; omega)) (Mz rfl (Cf ?_)))))))
 have lw:=bR.pk [1]
 exact Cm (false,b+1) ⟨rfl,rfl,rfl,rfl,rfl,rfl,trivial⟩ (aj.2 ⟨lw,(show (b+1)≤d.az.ls.length∧bz d d.az.ls aD 0=bz d (List.drop (b+1) d.az.ls) false (b+1) from ⟨by omega,et (aA) (et (congrArg (fun q=>bz d q o b) aI) (et (jE F) (ag jI)))⟩)⟩) (by show d.az.ls.length - (b+1) < d.az.ls.length - b; omega)
 refine jF (dF fV) (Wp.exit (Cb ?_))
 have eU:bz d d.az.ls aD 0=o:=et (aA) (et (congrArg (fun q=>bz d q o b) (bM (ls:=d.az.ls) (i:=b) (by omega))) rfl)
 refine Cb (Cn (Ca (BS (sr (Kz (.pointer (some ⟨h,7,none⟩)) (Lz (.slice g d.ah.ls.length n) bg 0 Tryz.isAgg25 (Kz (.int .i64 ((d.ah.ls.length:Nat):Int)) (Mn rfl (bo ?_)))))))))
 have lC:=bg.pk [0]
 obtain⟨gT,jJ⟩:∃ q:(Bool × Nat)→World→Prop,q=fun(i:Bool × Nat) w'=>Own w D w' [blk h (aX d r s f l g n) 31]∧(i.2≤d.ah.ls.length∧gJ d d.ah.ls o 0=gJ d (List.drop i.2 d.ah.ls) i.1 i.2):=⟨_,rfl⟩
 have dn:∀ {G:Bool} {t:Nat} {w':World},gT (G,t) w'↔Own w D w' [blk h (aX d r s f l g n) 31]∧t≤d.ah.ls.length∧gJ d d.ah.ls o 0=gJ d (List.drop t d.ah.ls) G t:=by intros; subst jJ; exact Iff.rfl
 refine Wp.loop (fun i:Bool × Nat=> [(3, .bool i.1),(138, .int .i64 ((i.2:Nat):Int)),(137, .int .i64 ((d.ah.ls.length:Nat):Int)),(136, .slice g d.ah.ls.length n),(2, .int .i64 0),(1, .pointer (some ⟨h,0,none⟩))]) gT (fun i=>d.ah.ls.length - i.2) (o,0) ⟨rfl,rfl,rfl,rfl,rfl,rfl,trivial⟩ (dn.2 ⟨lC,by omega,rfl⟩) ?_
 rintro ⟨G,t⟩ nM jK
 obtain⟨aH,mK,eX⟩:=dn.1 jK
 refine sr (Kz (.bool (decide (((t:Nat):Int) < ((d.ah.ls.length:Nat):Int)))) (nt (BS ?_)))
 by_cases gU:((t:Nat):Int) < ((d.ah.ls.length:Nat):Int)
 obtain⟨Y,eY⟩:=bU (ls:=d.ah.ls) (i:=t) fu (by decide) (aH.ro y) (by first | omega | (simp; done) | (simp; omega))
 have jL:=drop_at eY
 refine jT (dT gU) (sk (BS (bo (sr (Mz rfl (fw (.pointer (some ⟨ab g,ao g+t *1,none⟩)) (Ch (jY) rfl rfl ((aH.ro y).addr (i:=t) (by omega)) (by omega)) (fw (.int .u64 ((Y:Nat):Int)) (Cc rfl (bi.one Tryz.isAgg22 (((aH.ro y).elem fu eY (by decide)).at_ (k:=0) rfl))) (Az rfl (An rfl (BR (Mz rfl (Mz rfl ?_))))))))))))
 refine CY (ι:=Bool) 13 (fun i=> [(157, .bool i),(144, .bool G),(143, .bool G),(9, .int .u64 ((Y:Nat):Int)),(8, .int .i64 ((t:Nat):Int)),(142, .int .u64 ((Y:Nat):Int)),(141, .pointer (some ⟨ab g,ao g+t *1,none⟩)),(140, .int .i64 ((t:Nat):Int)),(139, .bool (decide (((t:Nat):Int) < ((d.ah.ls.length:Nat):Int)))),(3, .bool G),(138, .int .i64 ((t:Nat):Int)),(137, .int .i64 ((d.ah.ls.length:Nat):Int)),(136, .slice g d.ah.ls.length n),(2, .int .i64 0),(1, .pointer (some ⟨h,0,none⟩))]) (fun i w'=>Own w D w' [blk h (aX d r s f l g n) 31]∧((if G=true then if((t:Nat):Int)=0 then true else bnd (List.getD d.ah.ls (t - 1) default) fun aB=>decide (((aB:Nat):Int) < ((Y:Nat):Int)) else false)=i)) ?_ ?_
 intro dx
 rcases EO (G) with Z | Z
 refine CO (v:= .int .i64 ((t:Nat):Int)) rfl rfl Z rfl (BX rfl) (Gz (.bool (decide (((t:Nat):Int)=0))) Z (CO (v:= .bool (decide (((t:Nat):Int)=0))) rfl rfl Z rfl (BX rfl) ?_))
 by_cases L:((t:Nat):Int)=0
 refine Sz (dT L) (Sz (dT L) (Sz (dT L) (Sz (dT L) (Sz (dT L) (Sz (dT L) (Sz (dT L) (Sz (dT L) (CO (v:= .bool true) rfl rfl Z rfl (BZ rfl (dT L) rfl) (fw (.bool true) (BZ rfl Z rfl) ?_)))))))))
 have lD:=aH.pk [0]
 exact dx true _ _ ⟨lD,(show (if G=true then if((t:Nat):Int)=0 then true else bnd (List.getD d.ah.ls (t - 1) default) fun aB=>decide (((aB:Nat):Int) < ((Y:Nat):Int)) else false)=true from et (ip Z) (ip L))⟩ ⟨rfl,rfl,rfl,rfl,rfl,rfl,rfl,rfl,rfl,rfl,rfl,rfl,rfl,rfl,rfl,trivial⟩
 refine Gz (.pointer (some ⟨h,7,none⟩)) (dF L) (Gl (.slice g d.ah.ls.length n) (dF L) aH 0 Tryz.isAgg25 (gw (.int .i64 ((t:Nat):Int)) (dF L) (BX rfl) (gw (.int .i64 ((t - 1:Nat):Int)) (dF L) (Ci (e:=IntKind.i64.wrap (((t:Nat):Int) - 1)) yk (by rw [EL _ (by omega)]; omega)) ?_)))
 obtain⟨bn,eZ⟩:=bU (ls:=d.ah.ls) (i:=t - 1) fu (by decide) (aH.ro y) (by first | omega | (simp; done) | (simp; omega))
 refine gw (.pointer (some ⟨ab g,ao g+(t - 1) *1,none⟩)) (dF L) (Ch (jY) rfl rfl ((aH.ro y).addr (i:=t - 1) (by omega)) (by omega)) (gw (.int .u64 ((bn:Nat):Int)) (dF L) (Cc rfl (bi.one Tryz.isAgg22 (((aH.ro y).elem fu eZ (by decide)).at_ (k:=0) rfl))) (gw (.int .u64 ((Y:Nat):Int)) (dF L) (BX rfl) (Gz (.bool (decide (((bn:Nat):Int) < ((Y:Nat):Int)))) (dF L) (CO (v:= .bool (decide (((bn:Nat):Int) < ((Y:Nat):Int)))) rfl rfl Z rfl (BQ rfl (dF L) rfl) (fw (.bool (decide (((bn:Nat):Int) < ((Y:Nat):Int)))) (BZ rfl Z rfl) ?_)))))
 have lF:=aH.pk [0]
 exact dx (decide (((bn:Nat):Int) < ((Y:Nat):Int))) _ _ ⟨lF,(show (if G=true then if((t:Nat):Int)=0 then true else bnd (List.getD d.ah.ls (t - 1) default) fun aB=>decide (((aB:Nat):Int) < ((Y:Nat):Int)) else false)=decide (((bn:Nat):Int) < ((Y:Nat):Int)) from et (ip Z) (et (iN L) (ag (cu eZ))))⟩ ⟨rfl,rfl,rfl,rfl,rfl,rfl,rfl,rfl,rfl,rfl,rfl,rfl,rfl,rfl,rfl,trivial⟩
 refine Sz Z (Sz Z (Sz Z (BV rfl rfl rfl (BV rfl rfl rfl (BV rfl rfl rfl (BV rfl rfl rfl (BV rfl rfl rfl (BV rfl rfl rfl (BV rfl rfl rfl (BV rfl rfl rfl (Sz Z (fw (.bool false) (BQ rfl Z rfl) ?_))))))))))))
 have lG:=aH.pk [0]
 exact dx false _ _ ⟨lG,(show (if G=true then if((t:Nat):Int)=0 then true else bnd (List.getD d.ah.ls (t - 1) default) fun aB=>decide (((aB:Nat):Int) < ((Y:Nat):Int)) else false)=false from jE Z)⟩ ⟨rfl,rfl,rfl,rfl,rfl,rfl,rfl,rfl,rfl,rfl,rfl,rfl,rfl,rfl,rfl,trivial⟩
 rintro fe nN ⟨lH,dz⟩
 show WL _ _ _ (List.drop 13 _) _ [(157, .bool fe),(144, .bool G),(143, .bool G),(9, .int .u64 ((Y:Nat):Int)),(8, .int .i64 ((t:Nat):Int)),(142, .int .u64 ((Y:Nat):Int)),(141, .pointer (some ⟨ab g,ao g+t *1,none⟩)),(140, .int .i64 ((t:Nat):Int)),(139, .bool (decide (((t:Nat):Int) < ((d.ah.ls.length:Nat):Int)))),(3, .bool G),(138, .int .i64 ((t:Nat):Int)),(137, .int .i64 ((d.ah.ls.length:Nat):Int)),(136, .slice g d.ah.ls.length n),(2, .int .i64 0),(1, .pointer (some ⟨h,0,none⟩))] _
 replace dz:(if G=true then if((t:Nat):Int)=0 then true else bnd (List.getD d.ah.ls (t - 1) default) fun aB=>decide (((aB:Nat):Int) < ((Y:Nat):Int)) else false)=fe:=dz
 refine Az rfl (Cf (bN (Ca (BR (fw (.int .i64 ((t+1:Nat):Int)) (Ci (e:=IntKind.i64.wrap (((t:Nat):Int)+1)) yk (by rw [EL _ (by omega)]; omega)) (Mz rfl (Cf ?_)))))))
 have lI:=lH.pk [0]
 exact Cm (fe,t+1) ⟨rfl,rfl,rfl,rfl,rfl,rfl,trivial⟩ (dn.2 ⟨lI,by omega,et (eX) (et (congrArg (fun q=>gJ d q G t) jL) (ag dz))⟩) (by show d.ah.ls.length - (t+1) < d.ah.ls.length - t; omega)
 refine jF (dF gU) (Wp.exit (Cb ?_))
 have fo:gJ d d.ah.ls o 0=G:=et (eX) (et (congrArg (fun q=>gJ d q G t) (bM (ls:=d.ah.ls) (i:=t) (by omega))) rfl)
 refine Cb (Cn (Ca (BS (sr (Mz rfl (Kz (.bool (!G)) (nt ?_)))))))
 rcases EO (G) with bS | bS
 refine jF (cn bS) (sk (sr (An rfl (rt (rs ?_)))))
 have lJ:=aH.pk []
 obtain rfl:_=0:=hr.symm.trans (et (ag dA) (et (ag dC) (et (ag dD) (et (ag dG) (et (ag dH) (et (ag dI) (et (ag bv) (et (ag bA) (et (ag eU) (et (ag fo) (ip bS)))))))))))
 exact⟨rfl,lJ⟩
 refine jT (cn bS) (sr (An rfl (rt (tR (rs ?_)))))
 have lK:=aH.pk []
 obtain rfl:_=1:=hr.symm.trans (et (ag dA) (et (ag dC) (et (ag dD) (et (ag dG) (et (ag dH) (et (ag dI) (et (ag bv) (et (ag bA) (et (ag eU) (et (ag fo) (jE bS)))))))))))
 exact⟨rfl,lK⟩
end Go.Proofs.YtcnkpjheifkgnaaGreat
