/-
 wire: what is read.
-/
import Derived.Test.YtccjclalngabhaaGreatWiC
namespace Go.Proofs.YtccjclalngabhaaGreat
set_option maxRecDepth 100000
open Go.RowKit
set_option linter.unusedVariables false
set_option linter.unusedSectionVars false
set_option linter.unusedSimpArgs false
def gQ (b:List UInt8) (c:Int):(List UInt8) × Int × Int:=
 bnd (dU b) fun a=>if a.2.2=0 then if c < 0 then([],0,2) else if((a.1:Nat):Int) > ((Int.toNat (IntKind.u64.wrap c):Nat):Int) then([],0,2) else if((a.1:Nat):Int) > ((Int.toNat (((b.length:Nat):Int) - a.2.1):Nat):Int) then([],0,10) else((List.take ((Int.toNat (a.2.1+((a.1:Nat):Int))) - (Int.toNat a.2.1)) (List.drop (Int.toNat a.2.1) b)),a.2.1+((a.1:Nat):Int),0) else([],0,a.2.2)
theorem pY (w:World) (D:Nat→Prop) (r:Option Addr) (n0 p:Nat) (d:List UInt8) (g:Int) (A:List UInt8) (z:Int) (B:Int) (H:Own w D w []) (s:Ro w D fun w'=>bD w' 1 r n0 (List.flatMap eB d)) (C:n0=d.length) (M:d.length≤9223372036854775807) (N:d.length≤p) (hr:gQ d g=(A,z,B)):
    Calls Tryz.prog 123 #[.slice r n0 p, .int .i64 g] w (cO fun v w'=>v= .tuple #[.string ⟨List.toArray A⟩, .int .i64 z, .int .i64 B]∧Own w D w' []∧(¬ (B=0)∨(1≤z∧z≤((d.length:Nat):Int)∧A.length≤d.length))):=by
 subst C
 refine yR (args:= [.slice r d.length p, .int .i64 g]) Tryz.func123 rfl rfl rfl ?_
 show Wp _ _ _ [(0, .slice r d.length p),(1, .int .i64 g)] _ _
 refine sr (Az rfl (Az rfl (Ar rfl (Mz rfl ?_))))
 obtain⟨⟨b,a,h⟩,f⟩:∃ q:Nat × Int × Int,dU d=q:=⟨_,rfl⟩
 obtain⟨O,t,u,x,K⟩:=yP H
 refine cl Tryz.call77 (lw _ _ r d.length p d b a h t (u _ s) rfl (by omega) (by first | omega | (simp only [List.length_take,List.length_drop]; omega) | exact Nat.le_refl _) f) ?_
 rintro _ P ⟨rfl,y,n,o⟩
 have j:=x _ _ y
 replace n: ¬ (h=0)∨(1≤a∧a≤10∧a≤((d.length:Nat):Int)):=n
 replace o:b≤18446744073709551615:=o
 refine Mz rfl (Kz (.int .u64 ((b:Nat):Int)) (Kz (.int .i64 a) (Kz (.int .i64 h) (Az rfl (Az rfl (An rfl (yJ (sr (Mz rfl (fw (.bool (decide (¬ (h=0)))) (za (e:= !(decide (h=0))) yk decide_not.symm) (nt ?_)))))))))))
 by_cases i:h=0
 refine jF (dF (BK i)) (sk (yJ (sr (Mz rfl (Kz (.bool (decide (g < 0))) (Mz rfl ?_))))))
 by_cases c:g < 0
 refine Sz (dT c) (Sz (dT c) (Sz (dT c) (Sz (dT c) (fw (.bool true) (yN rfl (dT c) rfl) (nt (jt (sr (Az rfl (Az rfl (An rfl (rt (tR (y9 (kF rfl rfl rfl rfl) ?_)))))))))))))
 have E:=j.pk []
 have e:gQ d g=([],0,2):=et (aa f) (et (ip i) (ip c))
 obtain⟨rfl,rfl,rfl⟩:=l5 (e.symm.trans hr)
 exact⟨rfl,E,(by first | omega | (simp only [List.length_take,List.length_drop]; omega))⟩
 refine gw (.int .u64 ((b:Nat):Int)) (dF c) (yO rfl) (gw (.int .i64 g) (dF c) (yO rfl) ?_)
 have L:Int.toNat (IntKind.u64.wrap g)≤18446744073709551615:=nD _
 refine gw (.int .u64 ((Int.toNat (IntKind.u64.wrap g):Nat):Int)) (dF c) (yS (e:=IntKind.u64.wrap g) yk (gJ _)) (Gz (.bool (decide (((b:Nat):Int) > ((Int.toNat (IntKind.u64.wrap g):Nat):Int)))) (dF c) (fw (.bool (decide (((b:Nat):Int) > ((Int.toNat (IntKind.u64.wrap g):Nat):Int)))) (yM rfl (dF c) rfl) (nt ?_)))
 by_cases k:((b:Nat):Int) > ((Int.toNat (IntKind.u64.wrap g):Nat):Int)
 refine jT (dT k) (sr (Az rfl (Az rfl (An rfl (rt (tR (y9 (kF rfl rfl rfl rfl) ?_)))))))
 have F:=j.pk []
 have e:gQ d g=([],0,2):=et (aa f) (et (ip i) (et (iN c) (ip k)))
 obtain⟨rfl,rfl,rfl⟩:=l5 (e.symm.trans hr)
 exact⟨rfl,F,(by first | omega | (simp only [List.length_take,List.length_drop]; omega))⟩
 refine jF (dF k) (sk (yJ (sr (Mz rfl (Mz rfl (Kz (.int .i64 ((d.length:Nat):Int)) (Mz rfl (fw (.int .i64 (((d.length:Nat):Int) - a)) (yS (e:=IntKind.i64.wrap (((d.length:Nat):Int) - a)) yk (by rw [BI _ (by omega)])) (fw (.int .u64 ((Int.toNat (((d.length:Nat):Int) - a):Nat):Int)) (yS (e:=IntKind.u64.wrap (((d.length:Nat):Int) - a)) yk (by rw [IntWalk.u64_in _ (by omega)]; omega)) (Kz (.bool (decide (((b:Nat):Int) > ((Int.toNat (((d.length:Nat):Int) - a):Nat):Int)))) (nt ?_)))))))))))
 by_cases m:((b:Nat):Int) > ((Int.toNat (((d.length:Nat):Int) - a):Nat):Int)
 refine jT (dT m) (sr (Az rfl (Az rfl (An rfl (rt (tR (y9 (kF rfl rfl rfl rfl) ?_)))))))
 have G:=j.pk []
 have e:gQ d g=([],0,10):=et (aa f) (et (ip i) (et (iN c) (et (iN k) (ip m))))
 obtain⟨rfl,rfl,rfl⟩:=l5 (e.symm.trans hr)
 exact⟨rfl,G,(by first | omega | (simp only [List.length_take,List.length_drop]; omega))⟩
 refine jF (dF m) (sk (sr (Mz rfl (Mz rfl (fw (.int .i64 ((b:Nat):Int)) (yS (e:=IntKind.i64.wrap ((b:Nat):Int)) yk (BI _ (by omega))) (fw (.int .i64 (a+((b:Nat):Int))) (yS (e:=IntKind.i64.wrap (a+((b:Nat):Int))) yk (by rw [BI _ (by omega)])) (Ar rfl (Mz rfl (fw (.int .i64 ((Int.toNat a:Nat):Int)) (yS (e:=a) (yO rfl) (by omega)) (fw (.int .i64 ((Int.toNat (a+((b:Nat):Int)):Nat):Int)) (yS (e:=a+((b:Nat):Int)) (yO rfl) (by omega)) (fw (.slice (fI r (Int.toNat a) 1 p) ((Int.toNat (a+((b:Nat):Int))) - (Int.toNat a)) (p - (Int.toNat a))) (Yl.cut (bW) rfl rfl rfl (by omega) (by omega)) (fw (.string ⟨List.toArray (List.take ((Int.toNat (a+((b:Nat):Int))) - (Int.toNat a)) (List.drop (Int.toNat a) d))⟩) (zH (l:=(List.take ((Int.toNat (a+((b:Nat):Int))) - (Int.toNat a)) (List.drop (Int.toNat a) d))) Tryz.underlying31 Tryz.underlying5 Tryz.underlying9 (bD.cutE (lo:=Int.toNat a) (hi:=Int.toNat (a+((b:Nat):Int))) ay (j.ro s) (by omega) (by omega) (by omega)) rfl) (Mz rfl (Az rfl (Az rfl (An rfl (rt (y9 (kF rfl rfl rfl rfl) ?_))))))))))))))))))
 have I:=j.pk []
 have e:gQ d g=((List.take ((Int.toNat (a+((b:Nat):Int))) - (Int.toNat a)) (List.drop (Int.toNat a) d)),a+((b:Nat):Int),0):=et (aa f) (et (ip i) (et (iN c) (et (iN k) (iN m))))
 obtain⟨rfl,rfl,rfl⟩:=l5 (e.symm.trans hr)
 exact⟨rfl,I,(by first | omega | (simp only [List.length_take,List.length_drop]; omega))⟩
 refine jT (dT i) (sr (Mz rfl (Az rfl (Az rfl (An rfl (rt (tR (y9 (kF rfl rfl rfl rfl) ?_))))))))
 have J:=j.pk []
 have e:gQ d g=([],0,h):=et (aa f) (iN i)
 obtain⟨rfl,rfl,rfl⟩:=l5 (e.symm.trans hr)
 exact⟨rfl,J,(by first | omega | (simp only [List.length_take,List.length_drop]; omega))⟩
def mP (a:List UInt8):ReaderT:=
 ReaderT.mk (Ll.mk a) 0
theorem rF (w:World) (D:Nat→Prop) (b:Option Addr) (n0 c:Nat) (a:List UInt8) (d:ReaderT) (H:Own w D w []) (j:Ro w D fun w'=>bD w' 1 b n0 (List.flatMap eB a)) (e:n0=a.length) (k:a.length *1≤211106232532992) (l:a.length≤c) (hr:mP a=d):
    Calls Tryz.prog 38 #[.slice b n0 c] w (cO fun v w'=> ∃ (i:Nat) (B0nx0:Option Addr) (b0nx0:Nat),v= .pointer (some ⟨i,0,none⟩)∧Own w D w' [blk i [.slice B0nx0 d.ag.ls.length b0nx0, .int .i64 d.az] 120]∧(aj 1 b c a B0nx0 b0nx0 d.ag.ls)):=by
 subst e
 refine yR (args:= [.slice b a.length c]) Tryz.func38 rfl rfl rfl ?_
 show Wp _ _ _ [(0, .slice b a.length c)] _ _
 refine sr (Ar rfl (Mz rfl (Kz (.agg #[.slice b a.length c, .int .i64 0]) ?_)))
 refine dE [.slice b a.length c, .int .i64 0] 120 H ?_
 intro f m g
 refine An rfl (rt (rs ?_))
 have h:=g.pk [0]
 obtain rfl:_=ReaderT.mk (Ll.mk a) 0:=hr.symm.trans rfl
 exact⟨f,b,c,rfl,h,(aj.refl (by omega))⟩
def bU (a:ReaderT) (b:Int):ReaderT:=
 if a.az=0 then ReaderT.mk (Ll.mk ([])) b else a
theorem gB (w:World) (D:Nat→Prop) (d:Nat) (c:ReaderT) (a:Option Addr) (b:Nat) (f:Int) (g:ReaderT) (H:Own w D w [blk d [.slice a c.ag.ls.length b, .int .i64 c.az] 120]) (h:Ro w D fun w'=>bD w' 1 a c.ag.ls.length (List.flatMap eB c.ag.ls)) (i:c.ag.ls.length≤b∧c.ag.ls.length≤9223372036854775807) (hr:bU c f=g):
    Calls Tryz.prog 40 #[.pointer (some ⟨d,0,none⟩), .int .i64 f] w (cO fun v w'=> ∃ (B0ox0:Option Addr) (b0ox0:Nat),v= .tuple #[]∧Own w D w' [blk d [.slice B0ox0 g.ag.ls.length b0ox0, .int .i64 g.az] 120]∧(aj 1 a b c.ag.ls B0ox0 b0ox0 g.ag.ls)):=by
 refine yR (args:= [.pointer (some ⟨d,0,none⟩), .int .i64 f]) Tryz.func40 rfl rfl rfl ?_
 show Wp _ _ _ [(0, .pointer (some ⟨d,0,none⟩)),(1, .int .i64 f)] _ _
 refine sr (Mz rfl (Kz (.pointer (some ⟨d,0,none⟩)) (Kz (.pointer (some ⟨d,1,none⟩)) (Lz (.int .i64 c.az) H 0 Tryz.isAgg32 (Kz (.bool (decide (c.az=0))) (nt ?_))))))
 by_cases e:c.az=0
 refine jT (dT e) (sr (Mz rfl (Mz rfl (Kz (.pointer (some ⟨d,0,none⟩)) (Kz (.pointer (some ⟨d,1,none⟩)) ?_)))))
 refine bz [.int .i64 f] 1 H Tryz.sizeOf32 ?_
 intro n j
 refine nt (yK (Mz rfl (Kz (.pointer (some ⟨d,0,none⟩)) (Kz (.pointer (some ⟨d,0,none⟩)) ?_))))
 refine bz [.slice none 0 0] 0 j Tryz.sizeOf31 ?_
 intro o k
 refine WL.nil (zF (res0 rfl) ?_)
 have l:=k.pk [0]
 obtain rfl:_=ReaderT.mk (Ll.mk ([])) f:=hr.symm.trans (ip e)
 exact⟨none,0,rfl,l,aj.nil⟩
 refine jF (dF e) (zm (zF (res0 rfl) ?_))
 have m:Own w D w [blk d [.slice a c.ag.ls.length b, .int .i64 c.az] 120]:=H.pk [0]
 obtain rfl:_=c:=hr.symm.trans (iN e)
 exact⟨a,b,rfl,m,(aj.refl (by omega))⟩
def aW (a:ReaderT):UInt8 × ReaderT:=
 if((a.ag.ls.length:Nat):Int)=0 then bnd (bU a 10) fun b=>((0:UInt8),b) else bnd (List.getD a.ag.ls 0 default) fun c=>(c,ReaderT.mk (Ll.mk (List.drop 1 a.ag.ls)) a.az)
theorem dY (w:World) (D:Nat→Prop) (f:Nat) (c:ReaderT) (b:Option Addr) (a:Nat) (I:UInt8) (y:ReaderT) (H:Own w D w [blk f [.slice b c.ag.ls.length a, .int .i64 c.az] 120]) (d:Ro w D fun w'=>bD w' 1 b c.ag.ls.length (List.flatMap eB c.ag.ls)) (z:c.ag.ls.length≤a∧c.ag.ls.length≤9223372036854775807) (hr:aW c=(I,y)):
    Calls Tryz.prog 39 #[.pointer (some ⟨f,0,none⟩)] w (cO fun v w'=> ∃ (B1ox0:Option Addr) (b1ox0:Nat),v= .int .u8 ((I.toNat:Nat):Int)∧Own w D w' [blk f [.slice B1ox0 y.ag.ls.length b1ox0, .int .i64 y.az] 120]∧(aj 1 b a c.ag.ls B1ox0 b1ox0 y.ag.ls)):=by
 refine yR (args:= [.pointer (some ⟨f,0,none⟩)]) Tryz.func39 rfl rfl rfl ?_
 show Wp _ _ _ [(0, .pointer (some ⟨f,0,none⟩))] _ _
 refine sr (An rfl (yJ (sr (Mz rfl (Kz (.pointer (some ⟨f,0,none⟩)) (Kz (.pointer (some ⟨f,0,none⟩)) (Lz (.slice b c.ag.ls.length a) H 0 Tryz.isAgg31 (Kz (.int .i64 ((c.ag.ls.length:Nat):Int)) (Kz (.bool (decide (((c.ag.ls.length:Nat):Int)=0))) (nt ?_))))))))))
 by_cases j:((c.ag.ls.length:Nat):Int)=0
 refine jT (dT j) (sr (Mz rfl ?_))
 obtain⟨n,l⟩:∃ q,bU c 10=q:=⟨_,rfl⟩
 obtain⟨L,o,p,r,J⟩:=yT H
 refine cl Tryz.call40 (gB _ _ f c b a 10 n o (p _ d) (show c.ag.ls.length≤a∧c.ag.ls.length≤9223372036854775807 from by omega) l) ?_
 rintro _ M ⟨s,t,rfl,u,g⟩
 have A:=r _ _ u
 replace g:aj 1 b a c.ag.ls s t n.ag.ls:=g
 have K:=(g).le
 refine ns (An rfl (rt (tR (rs ?_))))
 have B:=A.pk [0]
 have e:aW c=((0:UInt8),n):=et (ip j) (aa l)
 obtain⟨rfl,rfl⟩:=dN (e.symm.trans hr)
 exact⟨s,t,rfl,B,g⟩
 refine jF (dF j) (sk (sr (Mz rfl (Kz (.pointer (some ⟨f,0,none⟩)) (Kz (.pointer (some ⟨f,0,none⟩)) (Lz (.slice b c.ag.ls.length a) H 0 Tryz.isAgg31 ?_))))))
 obtain⟨x,m⟩:=dV (ls:=c.ag.ls) (i:=0) ay (by decide) (H.ro d) (by first | omega | (simp; done) | (simp; omega))
 refine fw (.pointer (some ⟨ab b,ao b+0 *1,none⟩)) (yZ (bW) rfl rfl ((H.ro d).addr (i:=0) (by omega)) (by omega)) (fw (.int .u8 ((x.toNat:Nat):Int)) (y5 rfl (bn.one Tryz.isAgg5 (((H.ro d).elem ay m (by decide)).at_ (k:=0) rfl))) (Ar rfl (Mz rfl (Mz rfl (Kz (.pointer (some ⟨f,0,none⟩)) (Kz (.pointer (some ⟨f,0,none⟩)) (Lz (.slice b c.ag.ls.length a) H 0 Tryz.isAgg31 (fw (.slice (fI b 1 1 a) (c.ag.ls.length - 1) (a - 1)) (zI (bW) rfl rfl (by omega)) (Kz (.pointer (some ⟨f,0,none⟩)) (Kz (.pointer (some ⟨f,0,none⟩)) ?_))))))))))
 refine bz [.slice (fI b 1 1 a) (c.ag.ls.length - 1) (a - 1)] 0 H Tryz.sizeOf31 ?_
 intro C E
 refine ns (Mz rfl (An rfl (rt (rs ?_))))
 have h:c.ag.ls.length - 1=List.length (List.drop 1 c.ag.ls):=by first | omega | (simp only [List.length_drop,List.length_take] <;> omega)
 have F:Own w D C [blk f [.slice (fI b 1 1 a) (List.length (List.drop 1 c.ag.ls)) (a - 1), .int .i64 c.az] 120]:=by rw [← h]; exact E
 have G:=F.pk [0]
 have e:aW c=(x,ReaderT.mk (Ll.mk (List.drop 1 c.ag.ls)) c.az):=et (iN j) (aa (dh m))
 obtain⟨rfl,rfl⟩:=dN (e.symm.trans hr)
 exact⟨fI b 1 1 a,a - 1,(by first | rfl | (rw [← h]; done) | (rw [← h]; rfl)),G,(aj.cut (aj.refl (by omega)) (by first | omega | (simp only [List.length_drop]; omega)))⟩
def aI (b:ReaderT) (e:Nat):Nat × ReaderT:=
 bnd (dU b.ag.ls) fun a=>if a.2.2=0 then if((a.1:Nat):Int) > ((e:Nat):Int) then bnd (bU b 11) fun c=>(0,c) else(a.1,ReaderT.mk (Ll.mk (List.drop (Int.toNat a.2.1) b.ag.ls)) b.az) else bnd (bU b a.2.2) fun d=>(0,d)
theorem dS (w:World) (D:Nat→Prop) (j:Nat) (d:ReaderT) (b:Option Addr) (a:Nat) (n:Nat) (V:Nat) (U:ReaderT) (H:Own w D w [blk j [.slice b d.ag.ls.length a, .int .i64 d.az] 120]) (i:Ro w D fun w'=>bD w' 1 b d.ag.ls.length (List.flatMap eB d.ag.ls)) (W:d.ag.ls.length≤a∧d.ag.ls.length≤9223372036854775807) (hr:aI d n=(V,U)):
    Calls Tryz.prog 79 #[.pointer (some ⟨j,0,none⟩), .int .u64 ((n:Nat):Int)] w (cO fun v w'=> ∃ (B1ox0:Option Addr) (b1ox0:Nat),v= .int .u64 ((V:Nat):Int)∧Own w D w' [blk j [.slice B1ox0 U.ag.ls.length b1ox0, .int .i64 U.az] 120]∧(aj 1 b a d.ag.ls B1ox0 b1ox0 U.ag.ls)∧(V≤n)):=by
 refine yR (args:= [.pointer (some ⟨j,0,none⟩), .int .u64 ((n:Nat):Int)]) Tryz.func79 rfl rfl rfl ?_
 show Wp _ _ _ [(0, .pointer (some ⟨j,0,none⟩)),(1, .int .u64 ((n:Nat):Int))] _ _
 refine sr (Ar rfl (Mz rfl (Kz (.pointer (some ⟨j,0,none⟩)) (Kz (.pointer (some ⟨j,0,none⟩)) (Lz (.slice b d.ag.ls.length a) H 0 Tryz.isAgg31 ?_)))))
 obtain⟨⟨h,c,f⟩,k⟩:∃ q:Nat × Int × Int,dU d.ag.ls=q:=⟨_,rfl⟩
 obtain⟨az,A,B,C,ak⟩:=yP H
 refine cl Tryz.call77 (lw _ _ b d.ag.ls.length a d.ag.ls h c f A (B _ i) rfl (by omega) (by first | omega | (simp only [List.length_take,List.length_drop]; omega) | exact Nat.le_refl _) k) ?_
 rintro _ aA ⟨rfl,E,s,t⟩
 have p:=C _ _ E
 replace s: ¬ (f=0)∨(1≤c∧c≤10∧c≤((d.ag.ls.length:Nat):Int)):=s
 replace t:h≤18446744073709551615:=t
 refine Mz rfl (Kz (.int .u64 ((h:Nat):Int)) (Kz (.int .i64 c) (Kz (.int .i64 f) (Az rfl (Az rfl (An rfl (yJ (sr (Mz rfl (Kz (.bool (decide (f=0))) (Mz rfl ?_)))))))))))
 by_cases g:f=0
 refine gw (.int .u64 ((h:Nat):Int)) (dT g) (yO rfl) (gw (.int .u64 ((n:Nat):Int)) (dT g) (yO rfl) (Gz (.bool (decide (((h:Nat):Int) > ((n:Nat):Int)))) (dT g) (fw (.bool (decide (((h:Nat):Int) > ((n:Nat):Int)))) (yN rfl (dT g) rfl) (nt ?_))))
 by_cases r:((h:Nat):Int) > ((n:Nat):Int)
 refine jT (dT r) (yK (An rfl (yJ (sr (Mz rfl (Kz (.bool true) (nt (jt (sr (Mz rfl (Mz rfl ?_)))))))))))
 obtain⟨y,u⟩:∃ q,bU d 11=q:=⟨_,rfl⟩
 obtain⟨aB,F,G,I,au⟩:=yT p
 refine cl Tryz.call40 (gB _ _ j d b a 11 y F (G _ i) (show d.ag.ls.length≤a∧d.ag.ls.length≤9223372036854775807 from by omega) u) ?_
 rintro _ aC ⟨J,K,rfl,L,l⟩
 have X:=I _ _ L
 replace l:aj 1 b a d.ag.ls J K y.ag.ls:=l
 have av:=(l).le
 refine ns (An rfl (rt (tR (rs ?_))))
 have Y:=X.pk [0]
 have e:aI d n=(0,y):=et (aa k) (et (ip g) (et (ip r) (aa u)))
 obtain⟨rfl,rfl⟩:=dN (e.symm.trans hr)
 exact⟨J,K,rfl,Y,l,(by omega)⟩
 refine jF (dF r) (sk (yJ (sr (Mz rfl (fw (.bool (decide (¬ (f=0)))) (za (e:= !(decide (f=0))) yk decide_not.symm) (nt ?_))))))
 have M:(decide (¬ (f=0)))=false:=(dF (by omega))
 refine jF M (sk (sr (Mz rfl (Mz rfl (Kz (.pointer (some ⟨j,0,none⟩)) (Kz (.pointer (some ⟨j,0,none⟩)) (Lz (.slice b d.ag.ls.length a) p 0 Tryz.isAgg31 (fw (.int .i64 ((Int.toNat c:Nat):Int)) (yS (e:=c) (yO rfl) (by omega)) (fw (.slice (fI b (Int.toNat c) 1 a) (d.ag.ls.length - (Int.toNat c)) (a - (Int.toNat c))) (zI (bW) rfl rfl (by omega)) (Kz (.pointer (some ⟨j,0,none⟩)) (Kz (.pointer (some ⟨j,0,none⟩)) ?_)))))))))))
 refine bz [.slice (fI b (Int.toNat c) 1 a) (d.ag.ls.length - (Int.toNat c)) (a - (Int.toNat c))] 0 p Tryz.sizeOf31 ?_
 intro Z ae
 refine ns (Mz rfl (An rfl (rt (rs ?_))))
 have o:d.ag.ls.length - (Int.toNat c)=List.length (List.drop (Int.toNat c) d.ag.ls):=by first | omega | (simp only [List.length_drop,List.length_take] <;> omega)
 have af:Own w D Z [blk j [.slice (fI b (Int.toNat c) 1 a) (List.length (List.drop (Int.toNat c) d.ag.ls)) (a - (Int.toNat c)), .int .i64 d.az] 120]:=by rw [← o]; exact ae
 have ag:=af.pk [0]
 have e:aI d n=(h,ReaderT.mk (Ll.mk (List.drop (Int.toNat c) d.ag.ls)) d.az):=et (aa k) (et (ip g) (iN r))
 obtain⟨rfl,rfl⟩:=dN (e.symm.trans hr)
 exact⟨fI b (Int.toNat c) 1 a,a - (Int.toNat c),(by first | rfl | (rw [← o]; done) | (rw [← o]; rfl)),ag,(aj.cut (aj.refl (by omega)) (by first | omega | (simp only [List.length_drop]; omega))),(by omega)⟩
 refine Sz (dF g) (Sz (dF g) (Sz (dF g) (fw (.bool false) (yM rfl (dF g) rfl) (nt (jf (sk (yJ (sr (Mz rfl (fw (.bool (decide (¬ (f=0)))) (za (e:= !(decide (f=0))) yk decide_not.symm) (nt ?_)))))))))))
 have N:(decide (¬ (f=0)))=true:=(dT (by omega))
 refine jT N (sr (Mz rfl (Mz rfl ?_)))
 obtain⟨z,x⟩:∃ q,bU d f=q:=⟨_,rfl⟩
 obtain⟨aD,O,P,Q,ax⟩:=yT p
 refine cl Tryz.call40 (gB _ _ j d b a f z O (P _ i) (show d.ag.ls.length≤a∧d.ag.ls.length≤9223372036854775807 from by omega) x) ?_
 rintro _ aF ⟨R,S,rfl,T,m⟩
 have ah:=Q _ _ T
 replace m:aj 1 b a d.ag.ls R S z.ag.ls:=m
 have ay:=(m).le
 refine ns (An rfl (rt (tR (rs ?_))))
 have ai:=ah.pk [0]
 have e:aI d n=(0,z):=et (aa k) (et (iN g) (aa x))
 obtain⟨rfl,rfl⟩:=dN (e.symm.trans hr)
 exact⟨R,S,rfl,ai,m,(by omega)⟩
def bA (b:ReaderT) (e:Int):(List UInt8) × ReaderT:=
 bnd (gQ b.ag.ls e) fun a=>if a.2.2=2 then bnd (bU b 11) fun c=>([],c) else if a.2.2=0 then(a.1,ReaderT.mk (Ll.mk (List.drop (Int.toNat a.2.1) b.ag.ls)) b.az) else bnd (bU b a.2.2) fun d=>([],d)
theorem eY (w:World) (D:Nat→Prop) (h:Nat) (d:ReaderT) (b:Option Addr) (a:Nat) (n:Int) (r0:List UInt8) (R:ReaderT) (H:Own w D w [blk h [.slice b d.ag.ls.length a, .int .i64 d.az] 120]) (g:Ro w D fun w'=>bD w' 1 b d.ag.ls.length (List.flatMap eB d.ag.ls)) (S:d.ag.ls.length≤a∧d.ag.ls.length≤9223372036854775807) (hr:bA d n=(r0,R)):
    Calls Tryz.prog 109 #[.pointer (some ⟨h,0,none⟩), .int .i64 n] w (cO fun v w'=> ∃ (B1ox0:Option Addr) (b1ox0:Nat),v= .string ⟨List.toArray r0⟩∧Own w D w' [blk h [.slice B1ox0 R.ag.ls.length b1ox0, .int .i64 R.az] 120]∧(aj 1 b a d.ag.ls B1ox0 b1ox0 R.ag.ls)):=by
 refine yR (args:= [.pointer (some ⟨h,0,none⟩), .int .i64 n]) Tryz.func109 rfl rfl rfl ?_
 show Wp _ _ _ [(0, .pointer (some ⟨h,0,none⟩)),(1, .int .i64 n)] _ _
 refine sr (Ar rfl (Mz rfl (Kz (.pointer (some ⟨h,0,none⟩)) (Kz (.pointer (some ⟨h,0,none⟩)) (Lz (.slice b d.ag.ls.length a) H 0 Tryz.isAgg31 (Mz rfl ?_))))))
 obtain⟨⟨o,c,f⟩,i⟩:∃ q:(List UInt8) × Int × Int,gQ d.ag.ls n=q:=⟨_,rfl⟩
 obtain⟨av,z,A,B,ag⟩:=yP H
 refine cl Tryz.call123 (pY _ _ b d.ag.ls.length a d.ag.ls n o c f z (A _ g) rfl (by omega) (by first | omega | (simp only [List.length_take,List.length_drop]; omega) | exact Nat.le_refl _) i) ?_
 rintro _ ax ⟨rfl,C,s⟩
 have p:=B _ _ C
 replace s: ¬ (f=0)∨(1≤c∧c≤((d.ag.ls.length:Nat):Int)∧o.length≤d.ag.ls.length):=s
 refine Mz rfl (Kz (.string ⟨List.toArray o⟩) (Kz (.int .i64 c) (Kz (.int .i64 f) (Az rfl (Az rfl (An rfl (yJ (sr (Mz rfl (Kz (.bool (decide (f=2))) (nt ?_)))))))))))
 by_cases l:f=2
 refine jT (dT l) (yK (An rfl (yJ (sr (Mz rfl (Kz (.bool true) (nt (jt (sr (Mz rfl (Mz rfl ?_)))))))))))
 obtain⟨x,t⟩:∃ q,bU d 11=q:=⟨_,rfl⟩
 obtain⟨ay,E,F,G,ah⟩:=yT p
 refine cl Tryz.call40 (gB _ _ h d b a 11 x E (F _ g) (show d.ag.ls.length≤a∧d.ag.ls.length≤9223372036854775807 from by omega) t) ?_
 rintro _ az ⟨I,J,rfl,K,j⟩
 have T:=G _ _ K
 replace j:aj 1 b a d.ag.ls I J x.ag.ls:=j
 have ai:=(j).le
 refine ns (An rfl (rt (tR (rs ?_))))
 have U:=T.pk [0]
 have e:bA d n=([],x):=et (aa i) (et (ip l) (aa t))
 obtain⟨rfl,rfl⟩:=dN (e.symm.trans hr)
 exact⟨I,J,rfl,U,j⟩
 refine jF (dF l) (sk (yJ (sr (Mz rfl (fw (.bool (decide (¬ (f=0)))) (za (e:= !(decide (f=0))) yk decide_not.symm) (nt ?_))))))
 by_cases r:f=0
 refine jF (dF (BK r)) (sk (sr (Mz rfl (Mz rfl (Kz (.pointer (some ⟨h,0,none⟩)) (Kz (.pointer (some ⟨h,0,none⟩)) (Lz (.slice b d.ag.ls.length a) p 0 Tryz.isAgg31 (fw (.int .i64 ((Int.toNat c:Nat):Int)) (yS (e:=c) (yO rfl) (by omega)) (fw (.slice (fI b (Int.toNat c) 1 a) (d.ag.ls.length - (Int.toNat c)) (a - (Int.toNat c))) (zI (bW) rfl rfl (by omega)) (Kz (.pointer (some ⟨h,0,none⟩)) (Kz (.pointer (some ⟨h,0,none⟩)) ?_)))))))))))
 refine bz [.slice (fI b (Int.toNat c) 1 a) (d.ag.ls.length - (Int.toNat c)) (a - (Int.toNat c))] 0 p Tryz.sizeOf31 ?_
 intro V W
 refine ns (Mz rfl (An rfl (rt (rs ?_))))
 have m:d.ag.ls.length - (Int.toNat c)=List.length (List.drop (Int.toNat c) d.ag.ls):=by first | omega | (simp only [List.length_drop,List.length_take] <;> omega)
 have X:Own w D V [blk h [.slice (fI b (Int.toNat c) 1 a) (List.length (List.drop (Int.toNat c) d.ag.ls)) (a - (Int.toNat c)), .int .i64 d.az] 120]:=by rw [← m]; exact W
 have Y:=X.pk [0]
 have e:bA d n=(o,ReaderT.mk (Ll.mk (List.drop (Int.toNat c) d.ag.ls)) d.az):=et (aa i) (et (iN l) (ip r))
 obtain⟨rfl,rfl⟩:=dN (e.symm.trans hr)
 exact⟨fI b (Int.toNat c) 1 a,a - (Int.toNat c),(by first | rfl | (rw [← m]; done) | (rw [← m]; rfl)),Y,(aj.cut (aj.refl (by omega)) (by first | omega | (simp only [List.length_drop]; omega)))⟩
 refine jT (dT r) (sr (Mz rfl (Mz rfl ?_)))
 obtain⟨y,u⟩:∃ q,bU d f=q:=⟨_,rfl⟩
 obtain⟨aA,L,M,N,ak⟩:=yT p
 refine cl Tryz.call40 (gB _ _ h d b a f y L (M _ g) (show d.ag.ls.length≤a∧d.ag.ls.length≤9223372036854775807 from by omega) u) ?_
 rintro _ aB ⟨O,P,rfl,Q,k⟩
 have Z:=N _ _ Q
 replace k:aj 1 b a d.ag.ls O P y.ag.ls:=k
 have au:=(k).le
 refine ns (An rfl (rt (tR (rs ?_))))
 have ae:=Z.pk [0]
 have e:bA d n=([],y):=et (aa i) (et (iN l) (et (iN r) (aa u)))
 obtain⟨rfl,rfl⟩:=dN (e.symm.trans hr)
 exact⟨O,P,rfl,ae,k⟩
def fK (b:ReaderT):ReaderT:=
 if((b.ag.ls.length:Nat):Int) > 0 then bnd (bU b 11) fun a=>a else b
theorem lW (w:World) (D:Nat→Prop) (e:Nat) (c:ReaderT) (b:Option Addr) (a:Nat) (p:ReaderT) (H:Own w D w [blk e [.slice b c.ag.ls.length a, .int .i64 c.az] 120]) (h:Ro w D fun w'=>bD w' 1 b c.ag.ls.length (List.flatMap eB c.ag.ls)) (r:c.ag.ls.length≤a∧c.ag.ls.length≤9223372036854775807) (hr:fK c=p):
    Calls Tryz.prog 42 #[.pointer (some ⟨e,0,none⟩)] w (cO fun v w'=> ∃ (B0ox0:Option Addr) (b0ox0:Nat),v= .tuple #[]∧Own w D w' [blk e [.slice B0ox0 p.ag.ls.length b0ox0, .int .i64 p.az] 120]∧(aj 1 b a c.ag.ls B0ox0 b0ox0 p.ag.ls)):=by
 refine yR (args:= [.pointer (some ⟨e,0,none⟩)]) Tryz.func42 rfl rfl rfl ?_
 show Wp _ _ _ [(0, .pointer (some ⟨e,0,none⟩))] _ _
 refine sr (Mz rfl (Kz (.pointer (some ⟨e,0,none⟩)) (Kz (.pointer (some ⟨e,0,none⟩)) (Lz (.slice b c.ag.ls.length a) H 0 Tryz.isAgg31 (Kz (.int .i64 ((c.ag.ls.length:Nat):Int)) (Kz (.bool (decide (((c.ag.ls.length:Nat):Int) > 0))) (nt ?_)))))))
 by_cases f:((c.ag.ls.length:Nat):Int) > 0
 refine jT (dT f) (yK (Mz rfl ?_))
 obtain⟨i,g⟩:∃ q,bU c 11=q:=⟨_,rfl⟩
 obtain⟨z,j,k,l,x⟩:=yT H
 refine cl Tryz.call40 (gB _ _ e c b a 11 i j (k _ h) (show c.ag.ls.length≤a∧c.ag.ls.length≤9223372036854775807 from by omega) g) ?_
 rintro _ A ⟨m,n,rfl,o,d⟩
 have s:=l _ _ o
 replace d:aj 1 b a c.ag.ls m n i.ag.ls:=d
 have y:=(d).le
 refine WL.nil (zF (res0 rfl) ?_)
 have t:=s.pk [0]
 obtain rfl:_=i:=hr.symm.trans (et (ip f) (aa g))
 exact⟨m,n,rfl,t,d⟩
 refine jF (dF f) (zm (zF (res0 rfl) ?_))
 have u:Own w D w [blk e [.slice b c.ag.ls.length a, .int .i64 c.az] 120]:=H.pk [0]
 obtain rfl:_=c:=hr.symm.trans (iN f)
 exact⟨b,a,rfl,u,(aj.refl (by omega))⟩
def fM (a:ReaderT):Int:=
 a.az
theorem lX (w:World) (D:Nat→Prop) (d:Nat) (c:ReaderT) (a:Option Addr) (b:Nat) (h:Int) (H:Own w D w [blk d [.slice a c.ag.ls.length b, .int .i64 c.az] 120]) (e:Ro w D fun w'=>bD w' 1 a c.ag.ls.length (List.flatMap eB c.ag.ls)) (f:c.ag.ls.length≤b∧c.ag.ls.length≤9223372036854775807) (hr:fM c=h):
    Calls Tryz.prog 43 #[.pointer (some ⟨d,0,none⟩)] w (cO fun v w'=>v= .int .i64 h∧Own w D w' [blk d [.slice a c.ag.ls.length b, .int .i64 c.az] 120]):=by
 refine yR (args:= [.pointer (some ⟨d,0,none⟩)]) Tryz.func43 rfl rfl rfl ?_
 show Wp _ _ _ [(0, .pointer (some ⟨d,0,none⟩))] _ _
 refine sr (Ar rfl (Mz rfl (Kz (.pointer (some ⟨d,0,none⟩)) (Kz (.pointer (some ⟨d,1,none⟩)) (Lz (.int .i64 c.az) H 0 Tryz.isAgg32 (An rfl (rt (rs ?_))))))))
 have g:Own w D w [blk d [.slice a c.ag.ls.length b, .int .i64 c.az] 120]:=H.pk [0]
 obtain rfl:_=c.az:=hr.symm.trans rfl
 exact⟨rfl,g⟩
def fU (c:ReaderT):Bool × ReaderT:=
 bnd (aW c) fun a=>if((a.1.toNat:Nat):Int) > 1 then bnd (bU a.2 11) fun b=>(decide (((a.1.toNat:Nat):Int)=1),b) else(decide (((a.1.toNat:Nat):Int)=1),a.2)
theorem mK (w:World) (D:Nat→Prop) (o:Nat) (f:ReaderT) (c:Option Addr) (a:Nat) (L:Bool) (F:ReaderT) (H:Own w D w [blk o [.slice c f.ag.ls.length a, .int .i64 f.az] 120]) (i:Ro w D fun w'=>bD w' 1 c f.ag.ls.length (List.flatMap eB f.ag.ls)) (G:f.ag.ls.length≤a∧f.ag.ls.length≤9223372036854775807) (hr:fU f=(L,F)):
    Calls Tryz.prog 80 #[.pointer (some ⟨o,0,none⟩)] w (cO fun v w'=> ∃ (B1ox0:Option Addr) (b1ox0:Nat),v= .bool L∧Own w D w' [blk o [.slice B1ox0 F.ag.ls.length b1ox0, .int .i64 F.az] 120]∧(aj 1 c a f.ag.ls B1ox0 b1ox0 F.ag.ls)):=by
 refine yR (args:= [.pointer (some ⟨o,0,none⟩)]) Tryz.func80 rfl rfl rfl ?_
 show Wp _ _ _ [(0, .pointer (some ⟨o,0,none⟩))] _ _
 refine sr (Ar rfl (Mz rfl ?_))
 obtain⟨⟨g,d⟩,j⟩:∃ q:UInt8 × ReaderT,aW f=q:=⟨_,rfl⟩
 obtain⟨Q,r,s,t,M⟩:=yT H
 refine cl Tryz.call39 (dY _ _ o f c a g d r (s _ i) (show f.ag.ls.length≤a∧f.ag.ls.length≤9223372036854775807 from by omega) j) ?_
 rintro _ R ⟨l,k,rfl,u,b⟩
 have x:=t _ _ u
 replace b:aj 1 c a f.ag.ls l k d.ag.ls:=b
 have N:=(b).le
 refine An rfl (yJ (sr (Mz rfl (Kz (.bool (decide (((g.toNat:Nat):Int) > 1))) (nt ?_)))))
 by_cases m:((g.toNat:Nat):Int) > 1
 refine jT (dT m) (yK (Mz rfl ?_))
 obtain⟨p,n⟩:∃ q,bU d 11=q:=⟨_,rfl⟩
 obtain⟨S,y,z,A,O⟩:=yT x
 refine cl Tryz.call40 (gB _ _ o d l k 11 p y (fun T U=>aj.rds ay (by decide) b ((z _ i) T U)) (show d.ag.ls.length≤k∧d.ag.ls.length≤9223372036854775807 from by omega) n) ?_
 rintro _ V ⟨B,C,rfl,E,h⟩
 have I:=A _ _ E
 replace h:aj 1 l k d.ag.ls B C p.ag.ls:=h
 have P:=(h).le
 refine ns (Mz rfl (Kz (.bool (decide (((g.toNat:Nat):Int)=1))) (An rfl (rt (rs ?_)))))
 have J:=I.pk [0]
 have e:fU f=(decide (((g.toNat:Nat):Int)=1),p):=et (aa j) (et (ip m) (aa n))
 obtain⟨rfl,rfl⟩:=dN (e.symm.trans hr)
 exact⟨B,C,rfl,J,(aj.trans b h)⟩
 refine jF (dF m) (sk (sr (Mz rfl (Kz (.bool (decide (((g.toNat:Nat):Int)=1))) (An rfl (rt (rs ?_)))))))
 have K:=x.pk [0]
 have e:fU f=(decide (((g.toNat:Nat):Int)=1),d):=et (aa j) (iN m)
 obtain⟨rfl,rfl⟩:=dN (e.symm.trans hr)
 exact⟨l,k,rfl,K,b⟩
def jW (g:ReaderT):aB × ReaderT:=
 bnd (aW g) fun c=>bnd (bA c.2 255) fun d=>bnd (bA d.2 255) fun e=>bnd (bA e.2 255) fun f=>bnd (bA f.2 255) fun a=>bnd (aW a.2) fun b=>(aB.mk ((c.1.toNat:Nat):Int) d.1 e.1 f.1 a.1 ((b.1.toNat:Nat):Int),b.2)
theorem qV (w:World) (D:Nat→Prop) (x:Nat) (F:ReaderT) (z:Option Addr) (s:Nat) (r0:aB) (r1:ReaderT) (H:Own w D w [blk x [.slice z F.ag.ls.length s, .int .i64 F.az] 120]) (h:Ro w D fun w'=>bD w' 1 z F.ag.ls.length (List.flatMap eB F.ag.ls)) (bO:F.ag.ls.length≤s∧F.ag.ls.length≤9223372036854775807) (hr:jW F=(r0,r1)):
    Calls Tryz.prog 83 #[.pointer (some ⟨x,0,none⟩)] w (cO fun v w'=> ∃ (B1ox0:Option Addr) (b1ox0:Nat),v= .agg (aB.cells r0).toArray∧Own w D w' [blk x [.slice B1ox0 r1.ag.ls.length b1ox0, .int .i64 r1.az] 120]∧(aj 1 z s F.ag.ls B1ox0 b1ox0 r1.ag.ls)):=by
 refine yR (args:= [.pointer (some ⟨x,0,none⟩)]) Tryz.func83 rfl rfl rfl ?_
 show Wp _ _ _ [(0, .pointer (some ⟨x,0,none⟩))] _ _
 refine sr ?_
 refine dE [.int .i64 0, .string ⟨List.toArray ([])⟩, .string ⟨List.toArray ([])⟩, .string ⟨List.toArray ([])⟩, .string ⟨List.toArray ([])⟩, .int .i64 0] 64 H ?_
 intro dM dO bP
 refine ns (Mz rfl ?_)
 have bQ:=bP.pk [1,0]
 obtain⟨⟨r,A⟩,W⟩:∃ q:UInt8 × ReaderT,aW F=q:=⟨_,rfl⟩
 obtain⟨dP,aL,aM,aN,dm⟩:=yT bQ
 refine cl Tryz.call39 (dY _ _ x F z s r A aL (aM _ h) (show F.ag.ls.length≤s∧F.ag.ls.length≤9223372036854775807 from by omega) W) ?_
 rintro _ dQ ⟨ai,T,rfl,aO,c⟩
 have bR:=aN _ _ aO
 replace c:aj 1 z s F.ag.ls ai T A.ag.ls:=c
 have dn:=(c).le
 have dw:r.toNat≤255:=Nat.le_of_lt_succ (UInt8.toNat_lt _)
 refine fw (.int .i64 ((r.toNat:Nat):Int)) (yS (e:=IntKind.i64.wrap ((r.toNat:Nat):Int)) yk (BI _ (by omega))) (Kz (.agg #[.int .i64 ((r.toNat:Nat):Int), .string ⟨List.toArray ([])⟩, .string ⟨List.toArray ([])⟩, .string ⟨List.toArray ([])⟩, .string ⟨List.toArray ([])⟩, .int .i64 0]) ?_)
 refine dE [.int .i64 0, .string ⟨List.toArray ([])⟩, .string ⟨List.toArray ([])⟩, .string ⟨List.toArray ([])⟩, .string ⟨List.toArray ([])⟩, .int .i64 0] 64 bR ?_
 intro a dR bS
 refine bz [.int .i64 ((r.toNat:Nat):Int), .string ⟨List.toArray ([])⟩, .string ⟨List.toArray ([])⟩, .string ⟨List.toArray ([])⟩, .string ⟨List.toArray ([])⟩, .int .i64 0] 0 bS Tryz.sizeOf64 ?_
 intro dS bT
 refine ns (Mz rfl (Kz (.pointer (some ⟨a,1,none⟩)) (Kz (.pointer (some ⟨a,2,none⟩)) (Kz (.pointer (some ⟨a,3,none⟩)) (Kz (.pointer (some ⟨a,4,none⟩)) ?_)))))
 refine iX [.pointer (some ⟨a,1,none⟩), .pointer (some ⟨a,2,none⟩), .pointer (some ⟨a,3,none⟩), .pointer (some ⟨a,4,none⟩)] 124 1 4 bT ?_
 intro b dU M
 replace M:=zi (y:=row b 4 4 (List.flatMap eV ([(Value.pointer (some ⟨a,1,none⟩)),(Value.pointer (some ⟨a,2,none⟩)),(Value.pointer (some ⟨a,3,none⟩)),(Value.pointer (some ⟨a,4,none⟩))])) 124 1) rfl M
 refine WL.do rfl (zf Tryz.call81 rfl ?_ (fun _ _ k=>k))
 refine yR (args:= [.pointer (some ⟨x,0,none⟩), .slice b 4 4]) Tryz.func81 rfl rfl rfl ?_
 show Wp _ _ _ [(0, .pointer (some ⟨x,0,none⟩)),(1, .slice b 4 4)] _ _
 refine sr (Mz rfl (Kz (.int .i64 4) (Mn rfl (bo (zN 200 (sr (Kz (.bool true) (nt (yJ (jt (sk (yJ (bo (sr ?_))))))))))))))
 have aP:([(Value.pointer (some ⟨a,1,none⟩)),(Value.pointer (some ⟨a,2,none⟩)),(Value.pointer (some ⟨a,3,none⟩)),(Value.pointer (some ⟨a,4,none⟩))]:List Value)[0]? =some (Value.pointer (some ⟨a,1,none⟩)):=rfl
 refine fw (.pointer (some ⟨ab b,ao b+0 *1,none⟩)) (yZ (mh) rfl rfl ((M.rds (i:=0) rfl).addr (i:=0) (by omega)) (by omega)) (fw (.pointer (some ⟨a,1,none⟩)) (y5 rfl (bn.one Tryz.isAgg124 (((M.rds (i:=0) rfl).elem kZ aP (by decide)).at_ (k:=0) rfl))) (An rfl (yK (Mz rfl (Mz rfl ?_)))))
 have bU:=M.pk [2,0,1,3]
 obtain⟨⟨J,B⟩,X⟩:∃ q:(List UInt8) × ReaderT,bA A 255=q:=⟨_,rfl⟩
 obtain⟨dV,aQ,aR,aS,dx⟩:=yT bU
 refine cl Tryz.call109 (eY _ _ x A ai T 255 J B aQ (fun d f=>aj.rds ay (by decide) c ((aR _ h) d f)) (show A.ag.ls.length≤T∧A.ag.ls.length≤9223372036854775807 from by omega) X) ?_
 rintro _ dW ⟨ak,U,rfl,aT,l⟩
 have bV:=aS _ _ aT
 replace l:aj 1 ai T A.ag.ls ak U B.ag.ls:=l
 have dz:=(l).le
 refine Kz (.pointer (some ⟨a,1,none⟩)) ?_
 have bW:=bV.pk [2,0,1,3]
 refine bz [.string ⟨List.toArray J⟩] 1 bW Tryz.sizeOf9 ?_
 intro dX au
 refine WL.nil (bN (yL (yK (Kz (.int .i64 1) (Mz rfl (WL.nil (zx [(8, .int .i64 1),(7, .int .i64 4),(6, .slice b 4 4),(0, .pointer (some ⟨x,0,none⟩))] ⟨rfl,rfl,rfl,rfl,trivial⟩ (sr (Kz (.bool true) (nt (yJ (jt (sk (yJ (bo (sr ?_))))))))))))))))
 have aU:([(Value.pointer (some ⟨a,1,none⟩)),(Value.pointer (some ⟨a,2,none⟩)),(Value.pointer (some ⟨a,3,none⟩)),(Value.pointer (some ⟨a,4,none⟩))]:List Value)[1]? =some (Value.pointer (some ⟨a,2,none⟩)):=rfl
 refine fw (.pointer (some ⟨ab b,ao b+1 *1,none⟩)) (yZ (mh) rfl rfl ((au.rds (i:=2) rfl).addr (i:=1) (by omega)) (by omega)) (fw (.pointer (some ⟨a,2,none⟩)) (y5 rfl (bn.one Tryz.isAgg124 (((au.rds (i:=2) rfl).elem kZ aU (by decide)).at_ (k:=0) rfl))) (An rfl (yK (Mz rfl (Mz rfl ?_)))))
 have bX:=au.pk [1,0,2,3]
 obtain⟨⟨K,C⟩,Y⟩:∃ q:(List UInt8) × ReaderT,bA B 255=q:=⟨_,rfl⟩
 obtain⟨dZ,aV,aX,aY,dA⟩:=yT bX
 refine cl Tryz.call109 (eY _ _ x B ak U 255 K C aV (fun d f=>aj.rds ay (by decide) l ((fun d f=>aj.rds ay (by decide) c ((aX _ h) d f)) d f)) (show B.ag.ls.length≤U∧B.ag.ls.length≤9223372036854775807 from by omega) Y) ?_
 rintro _ d9 ⟨av,V,rfl,aZ,n⟩
 have bY:=aY _ _ aZ
 replace n:aj 1 ak U B.ag.ls av V C.ag.ls:=n
 have dB:=(n).le
 refine Kz (.pointer (some ⟨a,2,none⟩)) ?_
 have bZ:=bY.pk [1,0,2,3]
 refine bz [.string ⟨List.toArray K⟩] 2 bZ Tryz.sizeOf9 ?_
 intro ed ax
 refine WL.nil (bN (yL (yK (Kz (.int .i64 2) (Mz rfl (WL.nil (zx [(8, .int .i64 2),(7, .int .i64 4),(6, .slice b 4 4),(0, .pointer (some ⟨x,0,none⟩))] ⟨rfl,rfl,rfl,rfl,trivial⟩ (sr (Kz (.bool true) (nt (yJ (jt (sk (yJ (bo (sr ?_))))))))))))))))
 have bf:([(Value.pointer (some ⟨a,1,none⟩)),(Value.pointer (some ⟨a,2,none⟩)),(Value.pointer (some ⟨a,3,none⟩)),(Value.pointer (some ⟨a,4,none⟩))]:List Value)[2]? =some (Value.pointer (some ⟨a,3,none⟩)):=rfl
 refine fw (.pointer (some ⟨ab b,ao b+2 *1,none⟩)) (yZ (mh) rfl rfl ((ax.rds (i:=2) rfl).addr (i:=2) (by omega)) (by omega)) (fw (.pointer (some ⟨a,3,none⟩)) (y5 rfl (bn.one Tryz.isAgg124 (((ax.rds (i:=2) rfl).elem kZ bf (by decide)).at_ (k:=0) rfl))) (An rfl (yK (Mz rfl (Mz rfl ?_)))))
 have cu:=ax.pk [1,0,2,3]
 obtain⟨⟨L,E⟩,Z⟩:∃ q:(List UInt8) × ReaderT,bA C 255=q:=⟨_,rfl⟩
 obtain⟨ek,bg,bi,bq,dC⟩:=yT cu
 refine cl Tryz.call109 (eY _ _ x C av V 255 L E bg (fun d f=>aj.rds ay (by decide) n ((fun d f=>aj.rds ay (by decide) l ((fun d f=>aj.rds ay (by decide) c ((bi _ h) d f)) d f)) d f)) (show C.ag.ls.length≤V∧C.ag.ls.length≤9223372036854775807 from by omega) Z) ?_
 rintro _ eu ⟨N,G,rfl,az,j⟩
 have bu:=bq _ _ az
 replace j:aj 1 av V C.ag.ls N G E.ag.ls:=j
 have cz:=(j).le
 refine Kz (.pointer (some ⟨a,3,none⟩)) ?_
 have bv:=bu.pk [1,0,2,3]
 refine bz [.string ⟨List.toArray L⟩] 3 bv Tryz.sizeOf9 ?_
 intro dD O
 refine WL.nil (bN (yL (yK (Kz (.int .i64 3) (Mz rfl (WL.nil (zx [(8, .int .i64 3),(7, .int .i64 4),(6, .slice b 4 4),(0, .pointer (some ⟨x,0,none⟩))] ⟨rfl,rfl,rfl,rfl,trivial⟩ (sr (Kz (.bool true) (nt (yJ (jt (sk (yJ (bo (sr ?_))))))))))))))))
 have aA:([(Value.pointer (some ⟨a,1,none⟩)),(Value.pointer (some ⟨a,2,none⟩)),(Value.pointer (some ⟨a,3,none⟩)),(Value.pointer (some ⟨a,4,none⟩))]:List Value)[3]? =some (Value.pointer (some ⟨a,4,none⟩)):=rfl
 refine fw (.pointer (some ⟨ab b,ao b+3 *1,none⟩)) (yZ (mh) rfl rfl ((O.rds (i:=2) rfl).addr (i:=3) (by omega)) (by omega)) (fw (.pointer (some ⟨a,4,none⟩)) (y5 rfl (bn.one Tryz.isAgg124 (((O.rds (i:=2) rfl).elem kZ aA (by decide)).at_ (k:=0) rfl))) (An rfl (yK (Mz rfl (Mz rfl ?_)))))
 have bB:=O.pk [1,0,2,3]
 obtain⟨⟨t,o⟩,P⟩:∃ q:(List UInt8) × ReaderT,bA E 255=q:=⟨_,rfl⟩
 obtain⟨dF,aC,aD,aF,cB⟩:=yT bB
 refine cl Tryz.call109 (eY _ _ x E N G 255 t o aC (fun d f=>aj.rds ay (by decide) j ((fun d f=>aj.rds ay (by decide) n ((fun d f=>aj.rds ay (by decide) l ((fun d f=>aj.rds ay (by decide) c ((aD _ h) d f)) d f)) d f)) d f)) (show E.ag.ls.length≤G∧E.ag.ls.length≤9223372036854775807 from by omega) P) ?_
 rintro _ dG ⟨Q,I,rfl,aG,p⟩
 have bC:=aF _ _ aG
 replace p:aj 1 N G E.ag.ls Q I o.ag.ls:=p
 have cK:=(p).le
 refine Kz (.pointer (some ⟨a,4,none⟩)) ?_
 have bE:=bC.pk [1,0,2,3]
 refine bz [.string ⟨List.toArray t⟩] 4 bE Tryz.sizeOf9 ?_
 intro dH bF
 refine WL.nil (bN (yL (yK (Kz (.int .i64 4) (Mz rfl (WL.nil (zx [(8, .int .i64 4),(7, .int .i64 4),(6, .slice b 4 4),(0, .pointer (some ⟨x,0,none⟩))] ⟨rfl,rfl,rfl,rfl,trivial⟩ (sr (Kz (.bool false) (nt (yJ (jf (Wp.exit (yV (yV (y8 (zF (res0 rfl) (nt (yJ ?_)))))))))))))))))))
 have bG:=bF.pk [0,1,3]
 refine yK (Mz rfl ?_)
 have bH:=bG.pk [1,0,2]
 obtain⟨⟨g,R⟩,S⟩:∃ q:UInt8 × ReaderT,aW o=q:=⟨_,rfl⟩
 obtain⟨dI,aH,aI,aJ,cZ⟩:=yT bH
 refine cl Tryz.call39 (dY _ _ x o Q I g R aH (fun d f=>aj.rds ay (by decide) p ((fun d f=>aj.rds ay (by decide) j ((fun d f=>aj.rds ay (by decide) n ((fun d f=>aj.rds ay (by decide) l ((fun d f=>aj.rds ay (by decide) c ((aI _ h) d f)) d f)) d f)) d f)) d f)) (show o.ag.ls.length≤I∧o.ag.ls.length≤9223372036854775807 from by omega) S) ?_
 rintro _ dJ ⟨ae,af,rfl,aK,u⟩
 have bI:=aJ _ _ aK
 replace u:aj 1 Q I o.ag.ls ae af R.ag.ls:=u
 have df:=(u).le
 have dh:g.toNat≤255:=Nat.le_of_lt_succ (UInt8.toNat_lt _)
 refine fw (.int .i64 ((g.toNat:Nat):Int)) (yS (e:=IntKind.i64.wrap ((g.toNat:Nat):Int)) yk (BI _ (by omega))) (Kz (.pointer (some ⟨a,5,none⟩)) ?_)
 have bJ:=bI.pk [1,0,2]
 refine bz [.int .i64 ((g.toNat:Nat):Int)] 5 bJ Tryz.sizeOf3 ?_
 intro dK ag
 refine ns (La ([.int .i64 ((r.toNat:Nat):Int), .string ⟨List.toArray J⟩, .string ⟨List.toArray K⟩, .string ⟨List.toArray L⟩, .string ⟨List.toArray t⟩, .int .i64 ((g.toNat:Nat):Int)]) ag 0 Tryz.isAgg64 Tryz.sizeOf64 ?_)
 have bK:=ag.pk [2,0,1]
 refine bz [.int .i64 ((r.toNat:Nat):Int), .string ⟨List.toArray J⟩, .string ⟨List.toArray K⟩, .string ⟨List.toArray L⟩, .string ⟨List.toArray t⟩, .int .i64 ((g.toNat:Nat):Int)] 0 bK Tryz.sizeOf64 ?_
 intro dL ah
 refine nt (rt (y9 (l6 rfl rfl (zg (cs:= [.int .i64 ((r.toNat:Nat):Int), .string ⟨List.toArray J⟩, .string ⟨List.toArray K⟩, .string ⟨List.toArray L⟩, .string ⟨List.toArray t⟩, .int .i64 ((g.toNat:Nat):Int)]) Tryz.isAgg64 Tryz.sizeOf64 ((ah.cls (i:=0) rfl).lit (k:=0) (m:=6) rfl))) ?_))
 have bL:=ah.pk [2]
 have e:jW F=(aB.mk ((r.toNat:Nat):Int) J K L t ((g.toNat:Nat):Int),R):=et (aa W) (et (aa X) (et (aa Y) (et (aa Z) (et (aa P) (aa S)))))
 obtain⟨rfl,rfl⟩:=dN (e.symm.trans hr)
 exact⟨ae,af,rfl,bL,(aj.trans (aj.trans (aj.trans (aj.trans (aj.trans c l) n) j) p) u)⟩
def jB (c:ReaderT):aR × ReaderT:=
 bnd (bA c 255) fun a=>bnd (bA a.2 255) fun b=>(aR.mk a.1 b.1,b.2)
theorem qj (w:World) (D:Nat→Prop) (o:Nat) (h:ReaderT) (d:Option Addr) (b:Nat) (r0:aR) (R:ReaderT) (H:Own w D w [blk o [.slice d h.ag.ls.length b, .int .i64 h.az] 120]) (p:Ro w D fun w'=>bD w' 1 d h.ag.ls.length (List.flatMap eB h.ag.ls)) (S:h.ag.ls.length≤b∧h.ag.ls.length≤9223372036854775807) (hr:jB h=(r0,R)):
    Calls Tryz.prog 113 #[.pointer (some ⟨o,0,none⟩)] w (cO fun v w'=> ∃ (B1ox0:Option Addr) (b1ox0:Nat),v= .agg (aR.cells r0).toArray∧Own w D w' [blk o [.slice B1ox0 R.ag.ls.length b1ox0, .int .i64 R.az] 120]∧(aj 1 d b h.ag.ls B1ox0 b1ox0 R.ag.ls)):=by
 refine yR (args:= [.pointer (some ⟨o,0,none⟩)]) Tryz.func113 rfl rfl rfl ?_
 show Wp _ _ _ [(0, .pointer (some ⟨o,0,none⟩))] _ _
 refine sr ?_
 refine dE [.string ⟨List.toArray ([])⟩, .string ⟨List.toArray ([])⟩] 86 H ?_
 intro az aA T
 refine ns ?_
 refine dE [.string ⟨List.toArray ([])⟩, .string ⟨List.toArray ([])⟩] 86 T ?_
 intro a aB U
 refine ns (Mz rfl (Kz (.pointer (some ⟨a,0,none⟩)) (Kz (.pointer (some ⟨a,1,none⟩)) ?_)))
 refine iX [.pointer (some ⟨a,0,none⟩), .pointer (some ⟨a,1,none⟩)] 124 1 2 U ?_
 intro c aC r
 replace r:=zi (y:=row c 2 2 (List.flatMap eV ([(Value.pointer (some ⟨a,0,none⟩)),(Value.pointer (some ⟨a,1,none⟩))])) 124 1) rfl r
 refine WL.do rfl (zf Tryz.call81 rfl ?_ (fun _ _ k=>k))
 refine yR (args:= [.pointer (some ⟨o,0,none⟩), .slice c 2 2]) Tryz.func81 rfl rfl rfl ?_
 show Wp _ _ _ [(0, .pointer (some ⟨o,0,none⟩)),(1, .slice c 2 2)] _ _
 refine sr (Mz rfl (Kz (.int .i64 2) (Mn rfl (bo (zN 200 (sr (Kz (.bool true) (nt (yJ (jt (sk (yJ (bo (sr ?_))))))))))))))
 have B:([(Value.pointer (some ⟨a,0,none⟩)),(Value.pointer (some ⟨a,1,none⟩))]:List Value)[0]? =some (Value.pointer (some ⟨a,0,none⟩)):=rfl
 refine fw (.pointer (some ⟨ab c,ao c+0 *1,none⟩)) (yZ (mh) rfl rfl ((r.rds (i:=0) rfl).addr (i:=0) (by omega)) (by omega)) (fw (.pointer (some ⟨a,0,none⟩)) (y5 rfl (bn.one Tryz.isAgg124 (((r.rds (i:=0) rfl).elem kZ B (by decide)).at_ (k:=0) rfl))) (An rfl (yK (Mz rfl (Mz rfl ?_)))))
 have V:=r.pk [3,0,1,2]
 obtain⟨⟨l,g⟩,t⟩:∃ q:(List UInt8) × ReaderT,bA h 255=q:=⟨_,rfl⟩
 obtain⟨aD,C,E,F,ak⟩:=yT V
 refine cl Tryz.call109 (eY _ _ o h d b 255 l g C (E _ p) (show h.ag.ls.length≤b∧h.ag.ls.length≤9223372036854775807 from by omega) t) ?_
 rintro _ aF ⟨x,s,rfl,G,f⟩
 have W:=F _ _ G
 replace f:aj 1 d b h.ag.ls x s g.ag.ls:=f
 have au:=(f).le
 refine Kz (.pointer (some ⟨a,0,none⟩)) ?_
 have X:=W.pk [2,0,1,3]
 refine bz [.string ⟨List.toArray l⟩] 0 X Tryz.sizeOf9 ?_
 intro aG z
 refine WL.nil (bN (yL (yK (Kz (.int .i64 1) (Mz rfl (WL.nil (zx [(8, .int .i64 1),(7, .int .i64 2),(6, .slice c 2 2),(0, .pointer (some ⟨o,0,none⟩))] ⟨rfl,rfl,rfl,rfl,trivial⟩ (sr (Kz (.bool true) (nt (yJ (jt (sk (yJ (bo (sr ?_))))))))))))))))
 have I:([(Value.pointer (some ⟨a,0,none⟩)),(Value.pointer (some ⟨a,1,none⟩))]:List Value)[1]? =some (Value.pointer (some ⟨a,1,none⟩)):=rfl
 refine fw (.pointer (some ⟨ab c,ao c+1 *1,none⟩)) (yZ (mh) rfl rfl ((z.rds (i:=2) rfl).addr (i:=1) (by omega)) (by omega)) (fw (.pointer (some ⟨a,1,none⟩)) (y5 rfl (bn.one Tryz.isAgg124 (((z.rds (i:=2) rfl).elem kZ I (by decide)).at_ (k:=0) rfl))) (An rfl (yK (Mz rfl (Mz rfl ?_)))))
 have Y:=z.pk [1,0,2,3]
 obtain⟨⟨n,A⟩,u⟩:∃ q:(List UInt8) × ReaderT,bA g 255=q:=⟨_,rfl⟩
 obtain⟨aH,J,K,L,av⟩:=yT Y
 refine cl Tryz.call109 (eY _ _ o g x s 255 n A J (fun w9 h9=>aj.rds ay (by decide) f ((K _ p) w9 h9)) (show g.ag.ls.length≤s∧g.ag.ls.length≤9223372036854775807 from by omega) u) ?_
 rintro _ aK ⟨M,N,rfl,O,j⟩
 have Z:=L _ _ O
 replace j:aj 1 x s g.ag.ls M N A.ag.ls:=j
 have ax:=(j).le
 refine Kz (.pointer (some ⟨a,1,none⟩)) ?_
 have ae:=Z.pk [1,0,2,3]
 refine bz [.string ⟨List.toArray n⟩] 1 ae Tryz.sizeOf9 ?_
 intro aL af
 refine WL.nil (bN (yL (yK (Kz (.int .i64 2) (Mz rfl (WL.nil (zx [(8, .int .i64 2),(7, .int .i64 2),(6, .slice c 2 2),(0, .pointer (some ⟨o,0,none⟩))] ⟨rfl,rfl,rfl,rfl,trivial⟩ (sr (Kz (.bool false) (nt (yJ (jf (Wp.exit (yV (yV (y8 (zF (res0 rfl) (nt (yJ ?_)))))))))))))))))))
 have P:=af.pk [0,1,3]
 refine yK (La ([.string ⟨List.toArray l⟩, .string ⟨List.toArray n⟩]) P 0 Tryz.isAgg86 Tryz.sizeOf86 ?_)
 have ag:=P.pk [2,0,1]
 refine bz [.string ⟨List.toArray l⟩, .string ⟨List.toArray n⟩] 0 ag Tryz.sizeOf86 ?_
 intro aM Q
 refine nt (rt (y9 (l6 rfl rfl (zg (cs:= [.string ⟨List.toArray l⟩, .string ⟨List.toArray n⟩]) Tryz.isAgg86 Tryz.sizeOf86 ((Q.cls (i:=0) rfl).lit (k:=0) (m:=2) rfl))) ?_))
 have ah:=Q.pk [2]
 have e:jB h=(aR.mk l n,A):=et (aa t) (aa u)
 obtain⟨rfl,rfl⟩:=dN (e.symm.trans hr)
 exact⟨M,N,rfl,ah,(aj.trans f j)⟩
def jm (c:ReaderT):aA × ReaderT:=
 bnd (bA c 255) fun a=>bnd (aW a.2) fun b=>(aA.mk a.1 ((b.1.toNat:Nat):Int),b.2)
theorem p8 (w:World) (D:Nat→Prop) (r:Nat) (h:ReaderT) (c:Option Addr) (a:Nat) (r0:aA) (P:ReaderT) (H:Own w D w [blk r [.slice c h.ag.ls.length a, .int .i64 h.az] 120]) (o:Ro w D fun w'=>bD w' 1 c h.ag.ls.length (List.flatMap eB h.ag.ls)) (Q:h.ag.ls.length≤a∧h.ag.ls.length≤9223372036854775807) (hr:jm h=(r0,P)):
    Calls Tryz.prog 87 #[.pointer (some ⟨r,0,none⟩)] w (cO fun v w'=> ∃ (B1ox0:Option Addr) (b1ox0:Nat),v= .agg (aA.cells r0).toArray∧Own w D w' [blk r [.slice B1ox0 P.ag.ls.length b1ox0, .int .i64 P.az] 120]∧(aj 1 c a h.ag.ls B1ox0 b1ox0 P.ag.ls)):=by
 refine yR (args:= [.pointer (some ⟨r,0,none⟩)]) Tryz.func87 rfl rfl rfl ?_
 show Wp _ _ _ [(0, .pointer (some ⟨r,0,none⟩))] _ _
 refine sr ?_
 refine dE [.string ⟨List.toArray ([])⟩, .int .i64 0] 88 H ?_
 intro az aB R
 refine ns ?_
 refine dE [.string ⟨List.toArray ([])⟩, .int .i64 0] 88 R ?_
 intro d aC S
 refine ns (Mz rfl (Kz (.pointer (some ⟨d,0,none⟩)) ?_))
 refine iX [.pointer (some ⟨d,0,none⟩)] 124 1 1 S ?_
 intro l aD p
 replace p:=zi (y:=row l 1 1 (List.flatMap eV ([(Value.pointer (some ⟨d,0,none⟩))])) 124 1) rfl p
 refine WL.do rfl (zf Tryz.call81 rfl ?_ (fun _ _ k=>k))
 refine yR (args:= [.pointer (some ⟨r,0,none⟩), .slice l 1 1]) Tryz.func81 rfl rfl rfl ?_
 show Wp _ _ _ [(0, .pointer (some ⟨r,0,none⟩)),(1, .slice l 1 1)] _ _
 refine sr (Mz rfl (Kz (.int .i64 1) (Mn rfl (bo (zN 200 (sr (Kz (.bool true) (nt (yJ (jt (sk (yJ (bo (sr ?_))))))))))))))
 have A:([(Value.pointer (some ⟨d,0,none⟩))]:List Value)[0]? =some (Value.pointer (some ⟨d,0,none⟩)):=rfl
 refine fw (.pointer (some ⟨ab l,ao l+0 *1,none⟩)) (yZ (mh) rfl rfl ((p.rds (i:=0) rfl).addr (i:=0) (by omega)) (by omega)) (fw (.pointer (some ⟨d,0,none⟩)) (y5 rfl (bn.one Tryz.isAgg124 (((p.rds (i:=0) rfl).elem kZ A (by decide)).at_ (k:=0) rfl))) (An rfl (yK (Mz rfl (Mz rfl ?_)))))
 have T:=p.pk [3,0,1,2]
 obtain⟨⟨n,g⟩,t⟩:∃ q:(List UInt8) × ReaderT,bA h 255=q:=⟨_,rfl⟩
 obtain⟨aF,B,C,E,ai⟩:=yT T
 refine cl Tryz.call109 (eY _ _ r h c a 255 n g B (C _ o) (show h.ag.ls.length≤a∧h.ag.ls.length≤9223372036854775807 from by omega) t) ?_
 rintro _ aG ⟨x,s,rfl,F,f⟩
 have U:=E _ _ F
 replace f:aj 1 c a h.ag.ls x s g.ag.ls:=f
 have ak:=(f).le
 refine Kz (.pointer (some ⟨d,0,none⟩)) ?_
 have V:=U.pk [2,0,1,3]
 refine bz [.string ⟨List.toArray n⟩] 0 V Tryz.sizeOf9 ?_
 intro aH W
 refine WL.nil (bN (yL (yK (Kz (.int .i64 1) (Mz rfl (WL.nil (zx [(8, .int .i64 1),(7, .int .i64 1),(6, .slice l 1 1),(0, .pointer (some ⟨r,0,none⟩))] ⟨rfl,rfl,rfl,rfl,trivial⟩ (sr (Kz (.bool false) (nt (yJ (jf (Wp.exit (yV (yV (y8 (zF (res0 rfl) (nt (yJ ?_)))))))))))))))))))
 have X:=W.pk [0,1,3]
 refine yK (Mz rfl ?_)
 have Y:=X.pk [1,0,2]
 obtain⟨⟨b,z⟩,u⟩:∃ q:UInt8 × ReaderT,aW g=q:=⟨_,rfl⟩
 obtain⟨aI,G,I,J,au⟩:=yT Y
 refine cl Tryz.call39 (dY _ _ r g x s b z G (fun w9 h9=>aj.rds ay (by decide) f ((I _ o) w9 h9)) (show g.ag.ls.length≤s∧g.ag.ls.length≤9223372036854775807 from by omega) u) ?_
 rintro _ aL ⟨K,L,rfl,M,j⟩
 have Z:=J _ _ M
 replace j:aj 1 x s g.ag.ls K L z.ag.ls:=j
 have av:=(j).le
 have ax:b.toNat≤255:=Nat.le_of_lt_succ (UInt8.toNat_lt _)
 refine fw (.int .i64 ((b.toNat:Nat):Int)) (yS (e:=IntKind.i64.wrap ((b.toNat:Nat):Int)) yk (BI _ (by omega))) (Kz (.pointer (some ⟨d,1,none⟩)) ?_)
 have ae:=Z.pk [1,0,2]
 refine bz [.int .i64 ((b.toNat:Nat):Int)] 1 ae Tryz.sizeOf3 ?_
 intro aM N
 refine ns (La ([.string ⟨List.toArray n⟩, .int .i64 ((b.toNat:Nat):Int)]) N 0 Tryz.isAgg88 Tryz.sizeOf88 ?_)
 have af:=N.pk [2,0,1]
 refine bz [.string ⟨List.toArray n⟩, .int .i64 ((b.toNat:Nat):Int)] 0 af Tryz.sizeOf88 ?_
 intro aN O
 refine nt (rt (y9 (l6 rfl rfl (zg (cs:= [.string ⟨List.toArray n⟩, .int .i64 ((b.toNat:Nat):Int)]) Tryz.isAgg88 Tryz.sizeOf88 ((O.cls (i:=0) rfl).lit (k:=0) (m:=2) rfl))) ?_))
 have ag:=O.pk [2]
 have e:jm h=(aA.mk n ((b.toNat:Nat):Int),z):=et (aa t) (aa u)
 obtain⟨rfl,rfl⟩:=dN (e.symm.trans hr)
 exact⟨K,L,rfl,ag,(aj.trans f j)⟩
def di (g:Int):Nat→List aR→Nat→List UInt8→Int→(List aR) × (List UInt8) × Int
  | 0,c,e,d,a=>default
  | f+1,c,e,d,a=>if((e:Nat):Int) < g then if a=0 then bnd (jB (ReaderT.mk (Ll.mk d) a)) fun b=>di g f (c++ [b.1]) (e+1) b.2.ag.ls b.2.az else(c,d,a) else(c,d,a)
def iT (a:ReaderT) (b:Int):(List aR) × ReaderT:=
 bnd (bnd (di b ((Int.toNat b - 0)+1) ([]) 0 a.ag.ls a.az) fun sLrJjL=>(sLrJjL.1,sLrJjL.2.1,sLrJjL.2.2)) fun sJrJ=>(sJrJ.1,ReaderT.mk (Ll.mk sJrJ.2.1) sJrJ.2.2)
theorem ng (w:World) (D:Nat→Prop) (u:Nat) (a:ReaderT) (b:Option Addr) (c:Nat) (d:Int) (V:List aR) (r1:ReaderT) (H:Own w D w [blk u [.slice b a.ag.ls.length c, .int .i64 a.az] 120]) (S:Ro w D fun w'=>bD w' 1 b a.ag.ls.length (List.flatMap eB a.ag.ls)) (aC:a.ag.ls.length≤c∧a.ag.ls.length≤9223372036854775807) (bu:d≤1000) (hr:iT a d=(V,r1)):
    Calls Tryz.prog 124 #[.pointer (some ⟨u,0,none⟩), .int .i64 d, .func (.func 113) #[] #[]] w (cO fun v w'=> ∃ (B0:Option Addr) (b0:Nat) (B1ox0:Option Addr) (b1ox0:Nat),v= .slice B0 V.length b0∧Own w D w' [row B0 V.length b0 (List.flatMap aR.cells V) 86 2,blk u [.slice B1ox0 r1.ag.ls.length b1ox0, .int .i64 r1.az] 120]∧(aj 1 b c a.ag.ls B1ox0 b1ox0 r1.ag.ls)∧(V.length≤1000)):=by
 refine yR (args:= [.pointer (some ⟨u,0,none⟩), .int .i64 d, .func (.func 113) #[] #[]]) Tryz.func124 rfl rfl rfl ?_
 show Wp _ _ _ [(0, .pointer (some ⟨u,0,none⟩)),(1, .int .i64 d),(2, .func (.func 113) #[] #[])] _ _
 refine sr (Ar rfl (An rfl (yJ (sr (An rfl ?_)))))
 obtain⟨W,X⟩:∃ q:((Option Addr) × Nat × (List aR) × (Option Addr) × Nat × (List UInt8) × Int)→World→Prop,q=fun(i:(Option Addr) × Nat × (List aR) × (Option Addr) × Nat × (List UInt8) × Int) w'=>Own w D w' [blk u [.slice i.2.2.2.1 i.2.2.2.2.2.1.length i.2.2.2.2.1, .int .i64 i.2.2.2.2.2.2] 120,row i.1 i.2.2.1.length i.2.1 (List.flatMap aR.cells i.2.2.1) 86 2]∧(aj 1 b c a.ag.ls i.2.2.2.1 i.2.2.2.2.1 i.2.2.2.2.2.1∧0≤i.2.2.1.length∧i.2.2.2.2.2.1.length≤a.ag.ls.length∧i.2.2.2.2.2.1.length≤a.ag.ls.length+1∧i.2.2.1.length≤1000∧(bnd (di d ((Int.toNat d - 0)+1) ([]) 0 a.ag.ls a.az) fun sLrJjL=>(sLrJjL.1,sLrJjL.2.1,sLrJjL.2.2))=(i.2.2.1,i.2.2.2.2.2.1,i.2.2.2.2.2.2)):=⟨_,rfl⟩
 have E:∀ {F:Option Addr} {G:Nat} {n:List aR} {I:Option Addr} {J:Nat} {p:List UInt8} {K:Int} {w':World},W (F,G,n,I,J,p,K) w'↔Own w D w' [blk u [.slice I p.length J, .int .i64 K] 120,row F n.length G (List.flatMap aR.cells n) 86 2]∧aj 1 b c a.ag.ls I J p∧0≤n.length∧p.length≤a.ag.ls.length∧p.length≤a.ag.ls.length+1∧n.length≤1000∧(bnd (di d ((Int.toNat d - 0)+1) ([]) 0 a.ag.ls a.az) fun sLrJjL=>(sLrJjL.1,sLrJjL.2.1,sLrJjL.2.2))=(n,p,K):=by intros; subst X; exact Iff.rfl
 refine zD (fun i:(Option Addr) × Nat × (List aR) × (Option Addr) × Nat × (List UInt8) × Int=> [(7, .slice i.1 i.2.2.1.length i.2.1),(6, .slice none 0 0)]) W ?_ ?_
 refine bo ?_
 have aD:Own w D w [row none 0 0 (List.flatMap aR.cells ([])) 86 2,blk u [.slice b a.ag.ls.length c, .int .i64 a.az] 120]:=H.free (bP 86 2)
 have aF:=aD.pk [1,0]
 obtain⟨Y,Z⟩:∃ q:((Option Addr) × Nat × (List aR) × Nat × (Option Addr) × Nat × (List UInt8) × Int × Nat)→World→Prop,q=fun(i:(Option Addr) × Nat × (List aR) × Nat × (Option Addr) × Nat × (List UInt8) × Int × Nat) w'=>Own w D w' [blk u [.slice i.2.2.2.2.1 i.2.2.2.2.2.2.1.length i.2.2.2.2.2.1, .int .i64 i.2.2.2.2.2.2.2.1] 120,row i.1 i.2.2.1.length i.2.1 (List.flatMap aR.cells i.2.2.1) 86 2]∧(aj 1 b c a.ag.ls i.2.2.2.2.1 i.2.2.2.2.2.1 i.2.2.2.2.2.2.1∧i.2.2.1.length≤i.2.2.2.1∧(i.2.2.2.1=0∨((i.2.2.2.1:Nat):Int)≤d)∧Int.toNat d - i.2.2.2.1 < i.2.2.2.2.2.2.2.2∧di d ((Int.toNat d - 0)+1) ([]) 0 a.ag.ls a.az=di d i.2.2.2.2.2.2.2.2 i.2.2.1 i.2.2.2.1 i.2.2.2.2.2.2.1 i.2.2.2.2.2.2.2.1):=⟨_,rfl⟩
 have L:∀ {A:Option Addr} {B:Nat} {g:List aR} {h:Nat} {r:Option Addr} {o:Nat} {j:List UInt8} {l:Int} {C:Nat} {w':World},Y (A,B,g,h,r,o,j,l,C) w'↔Own w D w' [blk u [.slice r j.length o, .int .i64 l] 120,row A g.length B (List.flatMap aR.cells g) 86 2]∧aj 1 b c a.ag.ls r o j∧g.length≤h∧(h=0∨((h:Nat):Int)≤d)∧Int.toNat d - h < C∧di d ((Int.toNat d - 0)+1) ([]) 0 a.ag.ls a.az=di d C g h j l:=by intros; subst Z; exact Iff.rfl
 refine Wp.loop (fun i:(Option Addr) × Nat × (List aR) × Nat × (Option Addr) × Nat × (List UInt8) × Int × Nat=> [(7, .slice i.1 i.2.2.1.length i.2.1),(8, .int .i64 ((i.2.2.2.1:Nat):Int)),(6, .slice none 0 0),(0, .pointer (some ⟨u,0,none⟩)),(1, .int .i64 d),(2, .func (.func 113) #[] #[])]) Y (fun i=>i.2.2.2.2.2.2.2.2) (none,0, [],0,b,c,a.ag.ls,a.az,(Int.toNat d - 0)+1) ⟨rfl,rfl,rfl,rfl,rfl,rfl,trivial⟩ (L.2 ⟨aF,(show aj 1 b c a.ag.ls b c a.ag.ls∧0≤0∧(0=0∨((0:Nat):Int)≤d)∧Int.toNat d - 0 < ((Int.toNat d - 0)+1)∧di d ((Int.toNat d - 0)+1) ([]) 0 a.ag.ls a.az=di d ((Int.toNat d - 0)+1) ([]) 0 a.ag.ls a.az from ⟨by exact(aj.refl (by omega)),by omega,by omega,by omega,rfl⟩)⟩) ?_
 rintro ⟨A,B,g,h,r,o,j,l,C⟩ bv ae
 show Wp _ _ _ [(7, .slice A g.length B),(8, .int .i64 ((h:Nat):Int)),(6, .slice none 0 0),(0, .pointer (some ⟨u,0,none⟩)),(1, .int .i64 d),(2, .func (.func 113) #[] #[])] _ _
 obtain⟨N,t,aT,aU,aV,M⟩:=L.1 ae
 have aW:=(t).le
 obtain⟨T,af⟩:∃ q,C=q+1:=⟨C - 1,by omega⟩
 subst af
 refine yJ (sr (Mz rfl (Mz rfl (Kz (.bool (decide (((h:Nat):Int) < d))) (Mz rfl ?_)))))
 by_cases f:((h:Nat):Int) < d
 refine gw (.pointer (some ⟨u,0,none⟩)) (dT f) (yO rfl) (Gz (.pointer (some ⟨u,0,none⟩)) (dT f) (Gz (.pointer (some ⟨u,1,none⟩)) (dT f) (Gl (.int .i64 l) (dT f) N 0 Tryz.isAgg32 (Gz (.bool (decide (l=0))) (dT f) (fw (.bool (decide (l=0))) (yN rfl (dT f) rfl) (nt ?_))))))
 by_cases O:l=0
 refine jT (dT O) (sk (yJ (bo (yK (Mz rfl (Mz rfl (Mz rfl ?_)))))))
 obtain⟨⟨x,P⟩,Q⟩:∃ q:aR × ReaderT,jB (ReaderT.mk (Ll.mk j) l)=q:=⟨_,rfl⟩
 obtain⟨bz,ag,ah,ai,aX⟩:=yT N
 refine WL.do rfl (zB Tryz.call113 rfl rfl (qj _ _ u (ReaderT.mk (Ll.mk j) l) r o x P ag (fun w9 h9=>aj.rds ay (by decide) t ((ah _ S) w9 h9)) (show j.length≤o∧j.length≤9223372036854775807 from by omega) Q) ?_)
 rintro _ bC ⟨ak,au,rfl,av,z⟩
 have aG:=ai _ _ av
 replace z:aj 1 r o j ak au P.ag.ls:=z
 have aY:=(z).le
 refine iX (aR.cells x) 86 2 1 aG ?_
 intro aH bE U
 replace U:=zi (y:=row aH 1 1 (List.flatMap aR.cells ([x])) 86 2) rfl U
 have ax:=U.pk [2,0,1]
 refine WL.do rfl (ze (k:=g.length) (m:=1) (o5) ax rfl rfl (cz Tryz.underlying82 (ax.rds (i:=1) rfl) (bK aR.one ([x]))) rfl (by omega) (s:=List.length (g++ [x])) (by first | omega | (simp only [List.length_append,List.length_cons,List.length_nil] <;> omega)) (List.flatMap_append).symm ?_)
 intro aI aJ bF aK
 have aZ:List.length (g++ [x])=g.length+1:=by simp only [List.length_append,List.length_cons,List.length_nil]
 refine Az rfl (WL.nil (bN (yL (yK (Mz rfl (fw (.int .i64 ((h+1:Nat):Int)) (yS (e:=IntKind.i64.wrap (((h:Nat):Int)+1)) yk (by rw [BI _ (by omega)]; omega)) (Az rfl (WL.nil ?_))))))))
 have aL:=aK.pk [2,0]
 exact yY (aI,aJ,(g++ [x]),h+1,ak,au,P.ag.ls,P.az,T) ⟨rfl,rfl,rfl,rfl,rfl,rfl,trivial⟩ (L.2 ⟨aL,by exact(aj.trans t z),by omega,by omega,by omega,et (M) (et (ip f) (et (ip O) (aa Q)))⟩) (by show T < T+1; omega)
 refine jF (dF O) (Wp.exit (yV (yV (y8 ?_))))
 have aM:=N.pk [0,1]
 exact zu (A,B,g,r,o,j,l) ⟨rfl,rfl,trivial⟩ (E.2 ⟨aM,by exact t,by omega,by omega,by omega,by omega,aa (et (M) (et (ip f) (iN O)))⟩)
 refine Sz (dF f) (Sz (dF f) (Sz (dF f) (Sz (dF f) (Sz (dF f) (fw (.bool false) (yM rfl (dF f) rfl) (nt (jf (Wp.exit (yV (yV (y8 ?_)))))))))))
 have aN:=N.pk [0,1]
 exact zu (A,B,g,r,o,j,l) ⟨rfl,rfl,trivial⟩ (E.2 ⟨aN,by exact t,by omega,by omega,by omega,by omega,aa (et (M) (iN f))⟩)
 rintro ⟨F,G,n,I,J,p,K⟩ bG az
 show Wp _ _ _ [(7, .slice F n.length G),(6, .slice none 0 0)] _ _
 obtain⟨aO,R,bf,bg,bi,bn,aA⟩:=E.1 az
 have bq:=(R).le
 refine sr (Mz rfl (An rfl (rt (rs ?_))))
 have aP:=aO.pk [1,0]
 have e:iT a d=(n,ReaderT.mk (Ll.mk p) K):=aa aA
 obtain⟨rfl,rfl⟩:=dN (e.symm.trans hr)
 exact⟨F,G,I,J,rfl,aP,R,(by omega)⟩
def gV (c:ReaderT) (d:Nat):(List aR) × ReaderT:=
 bnd (aI c d) fun a=>bnd (iT a.2 ((a.1:Nat):Int)) fun b=>(b.1,b.2)
theorem nA (w:World) (D:Nat→Prop) (r:Nat) (f:ReaderT) (b:Option Addr) (a:Nat) (k:Nat) (x:List aR) (L:ReaderT) (H:Own w D w [blk r [.slice b f.ag.ls.length a, .int .i64 f.az] 120]) (j:Ro w D fun w'=>bD w' 1 b f.ag.ls.length (List.flatMap eB f.ag.ls)) (M:f.ag.ls.length≤a∧f.ag.ls.length≤9223372036854775807) (Y:k≤1000) (hr:gV f k=(x,L)):
    Calls Tryz.prog 112 #[.pointer (some ⟨r,0,none⟩), .int .u64 ((k:Nat):Int), .func (.func 113) #[] #[]] w (cO fun v w'=> ∃ (R:Option Addr) (S:Nat) (B1ox0:Option Addr) (b1ox0:Nat),v= .slice R x.length S∧Own w D w' [row R x.length S (List.flatMap aR.cells x) 86 2,blk r [.slice B1ox0 L.ag.ls.length b1ox0, .int .i64 L.az] 120]∧(aj 1 b a f.ag.ls B1ox0 b1ox0 L.ag.ls)∧(x.length≤1000)):=by
 refine yR (args:= [.pointer (some ⟨r,0,none⟩), .int .u64 ((k:Nat):Int), .func (.func 113) #[] #[]]) Tryz.func112 rfl rfl rfl ?_
 show Wp _ _ _ [(0, .pointer (some ⟨r,0,none⟩)),(1, .int .u64 ((k:Nat):Int)),(2, .func (.func 113) #[] #[])] _ _
 refine sr (Ar rfl (Mz rfl (Mz rfl (Mz rfl ?_))))
 obtain⟨⟨h,d⟩,m⟩:∃ q:Nat × ReaderT,aI f k=q:=⟨_,rfl⟩
 obtain⟨Z,y,z,A,T⟩:=yT H
 refine cl Tryz.call79 (dS _ _ r f b a k h d y (z _ j) (show f.ag.ls.length≤a∧f.ag.ls.length≤9223372036854775807 from by omega) m) ?_
 rintro _ ae ⟨s,l,rfl,B,c,n⟩
 have N:=A _ _ B
 replace c:aj 1 b a f.ag.ls s l d.ag.ls:=c
 have U:=(c).le
 replace n:h≤k:=n
 refine fw (.int .i64 ((h:Nat):Int)) (yS (e:=IntKind.i64.wrap ((h:Nat):Int)) yk (BI _ (by omega))) (Mz rfl ?_)
 obtain⟨⟨t,u⟩,o⟩:∃ q:(List aR) × ReaderT,iT d ((h:Nat):Int)=q:=⟨_,rfl⟩
 obtain⟨af,C,E,F,V⟩:=yT N
 refine cl Tryz.call124 (ng _ _ r d s l ((h:Nat):Int) t u C (fun w9 h9=>aj.rds ay (by decide) c ((E _ j) w9 h9)) (show d.ag.ls.length≤l∧d.ag.ls.length≤9223372036854775807 from by omega) (by omega) o) ?_
 rintro _ ai ⟨O,P,G,I,rfl,J,g,p⟩
 have K:=F _ _ J
 replace g:aj 1 s l d.ag.ls G I u.ag.ls:=g
 have W:=(g).le
 have X:=K.rowC (i:=0) rfl
 replace p:t.length≤1000:=p
 refine An rfl (rt (rs ?_))
 have Q:=K.pk [0,1]
 have e:gV f k=(t,u):=et (aa m) (aa o)
 obtain⟨rfl,rfl⟩:=dN (e.symm.trans hr)
 exact⟨O,P,G,I,rfl,Q,(aj.trans c g),(by omega)⟩
def ja (d:ReaderT):aP × ReaderT:=
 bnd (fU d) fun a=>bnd (bA a.2 255) fun b=>bnd (gV b.2 255) fun c=>(aP.mk a.1 b.1 (Ll.mk c.1),c.2)
theorem pg (w:World) (D:Nat→Prop) (t:Nat) (o:ReaderT) (c:Option Addr) (a:Nat) (N:aP) (r1:ReaderT) (H:Own w D w [blk t [.slice c o.ag.ls.length a, .int .i64 o.az] 120]) (g:Ro w D fun w'=>bD w' 1 c o.ag.ls.length (List.flatMap eB o.ag.ls)) (az:o.ag.ls.length≤a∧o.ag.ls.length≤9223372036854775807) (hr:ja o=(N,r1)):
    Calls Tryz.prog 85 #[.pointer (some ⟨t,0,none⟩)] w (cO fun v w'=> ∃ (C:Option Addr) (E:Nat) (B1ox0:Option Addr) (b1ox0:Nat),v= .agg #[.bool N.cB, .string ⟨List.toArray N.au⟩, .slice C N.ak.ls.length E]∧Own w D w' [row C N.ak.ls.length E (List.flatMap aR.cells N.ak.ls) 86 2,blk t [.slice B1ox0 r1.ag.ls.length b1ox0, .int .i64 r1.az] 120]∧(aj 1 c a o.ag.ls B1ox0 b1ox0 r1.ag.ls)):=by
 refine yR (args:= [.pointer (some ⟨t,0,none⟩)]) Tryz.func85 rfl rfl rfl ?_
 show Wp _ _ _ [(0, .pointer (some ⟨t,0,none⟩))] _ _
 refine sr ?_
 refine dE [.bool false, .string ⟨List.toArray ([])⟩, .slice none 0 0] 84 H ?_
 intro aY aZ aA
 refine ns (Mz rfl ?_)
 have aB:=aA.pk [1,0]
 obtain⟨⟨h,j⟩,F⟩:∃ q:Bool × ReaderT,fU o=q:=⟨_,rfl⟩
 obtain⟨bf,O,P,Q,aQ⟩:=yT aB
 refine cl Tryz.call80 (mK _ _ t o c a h j O (P _ g) (show o.ag.ls.length≤a∧o.ag.ls.length≤9223372036854775807 from by omega) F) ?_
 rintro _ bg ⟨K,A,rfl,R,b⟩
 have aC:=Q _ _ R
 replace b:aj 1 c a o.ag.ls K A j.ag.ls:=b
 have aS:=(b).le
 refine Kz (.agg #[.bool h, .string ⟨List.toArray ([])⟩, .slice none 0 0]) ?_
 refine dE [.bool false, .string ⟨List.toArray ([])⟩, .slice none 0 0] 84 aC ?_
 intro d bi aD
 refine bz [.bool h, .string ⟨List.toArray ([])⟩, .slice none 0 0] 0 aD Tryz.sizeOf84 ?_
 intro bq aF
 refine ns (Mz rfl (Kz (.pointer (some ⟨d,1,none⟩)) ?_))
 refine iX [.pointer (some ⟨d,1,none⟩)] 124 1 1 aF ?_
 intro r bu u
 replace u:=zi (y:=row r 1 1 (List.flatMap eV ([(Value.pointer (some ⟨d,1,none⟩))])) 124 1) rfl u
 refine WL.do rfl (zf Tryz.call81 rfl ?_ (fun _ _ k=>k))
 refine yR (args:= [.pointer (some ⟨t,0,none⟩), .slice r 1 1]) Tryz.func81 rfl rfl rfl ?_
 show Wp _ _ _ [(0, .pointer (some ⟨t,0,none⟩)),(1, .slice r 1 1)] _ _
 refine sr (Mz rfl (Kz (.int .i64 1) (Mn rfl (bo (zN 200 (sr (Kz (.bool true) (nt (yJ (jt (sk (yJ (bo (sr ?_))))))))))))))
 have S:([(Value.pointer (some ⟨d,1,none⟩))]:List Value)[0]? =some (Value.pointer (some ⟨d,1,none⟩)):=rfl
 refine fw (.pointer (some ⟨ab r,ao r+0 *1,none⟩)) (yZ (mh) rfl rfl ((u.rds (i:=0) rfl).addr (i:=0) (by omega)) (by omega)) (fw (.pointer (some ⟨d,1,none⟩)) (y5 rfl (bn.one Tryz.isAgg124 (((u.rds (i:=0) rfl).elem kZ S (by decide)).at_ (k:=0) rfl))) (An rfl (yK (Mz rfl (Mz rfl ?_)))))
 have aG:=u.pk [2,0,1,3]
 obtain⟨⟨s,l⟩,G⟩:∃ q:(List UInt8) × ReaderT,bA j 255=q:=⟨_,rfl⟩
 obtain⟨bv,T,U,V,aT⟩:=yT aG
 refine cl Tryz.call109 (eY _ _ t j K A 255 s l T (fun W X=>aj.rds ay (by decide) b ((U _ g) W X)) (show j.ag.ls.length≤A∧j.ag.ls.length≤9223372036854775807 from by omega) G) ?_
 rintro _ bB ⟨L,B,rfl,Y,f⟩
 have aH:=V _ _ Y
 replace f:aj 1 K A j.ag.ls L B l.ag.ls:=f
 have aU:=(f).le
 refine Kz (.pointer (some ⟨d,1,none⟩)) ?_
 have aI:=aH.pk [2,0,1,3]
 refine bz [.string ⟨List.toArray s⟩] 1 aI Tryz.sizeOf9 ?_
 intro bC aJ
 refine WL.nil (bN (yL (yK (Kz (.int .i64 1) (Mz rfl (WL.nil (zx [(8, .int .i64 1),(7, .int .i64 1),(6, .slice r 1 1),(0, .pointer (some ⟨t,0,none⟩))] ⟨rfl,rfl,rfl,rfl,trivial⟩ (sr (Kz (.bool false) (nt (yJ (jf (Wp.exit (yV (yV (y8 (zF (res0 rfl) (nt (yJ ?_)))))))))))))))))))
 have aK:=aJ.pk [0,1,3]
 refine yK (Mz rfl ?_)
 have aL:=aK.pk [1,0,2]
 obtain⟨⟨n,M⟩,I⟩:∃ q:(List aR) × ReaderT,gV l 255=q:=⟨_,rfl⟩
 obtain⟨bE,Z,ae,af,aV⟩:=yT aL
 refine cl Tryz.call112 (nA _ _ t l L B 255 n M Z (fun W X=>aj.rds ay (by decide) f ((fun W X=>aj.rds ay (by decide) b ((ae _ g) W X)) W X)) (show l.ag.ls.length≤B∧l.ag.ls.length≤9223372036854775807 from by omega) (by omega) I) ?_
 rintro _ bF ⟨x,z,ag,ah,rfl,ai,p,J⟩
 have ak:=af _ _ ai
 replace p:aj 1 L B l.ag.ls ag ah M.ag.ls:=p
 have aW:=(p).le
 have aX:=ak.rowC (i:=0) rfl
 replace J:n.length≤1000:=J
 refine Kz (.pointer (some ⟨d,2,none⟩)) ?_
 have aM:=ak.pk [2,0,1,3]
 refine bz [.slice x n.length z] 2 aM Tryz.sizeOf82 ?_
 intro bG au
 refine ns (La ([.bool h, .string ⟨List.toArray s⟩, .slice x n.length z]) au 0 Tryz.isAgg84 Tryz.sizeOf84 ?_)
 have aN:=au.pk [3,0,1,2]
 refine bz [.bool h, .string ⟨List.toArray s⟩, .slice x n.length z] 0 aN Tryz.sizeOf84 ?_
 intro bH av
 refine nt (rt (y9 (l6 rfl rfl (zg (cs:= [.bool h, .string ⟨List.toArray s⟩, .slice x n.length z]) Tryz.isAgg84 Tryz.sizeOf84 ((av.cls (i:=0) rfl).lit (k:=0) (m:=3) rfl))) ?_))
 have aO:=av.pk [2,3]
 have e:ja o=(aP.mk h s (Ll.mk n),M):=et (aa F) (et (aa G) (aa I))
 obtain⟨rfl,rfl⟩:=dN (e.symm.trans hr)
 exact⟨x,z,ag,ah,rfl,aO,(aj.trans (aj.trans b f) p)⟩
end Go.Proofs.YtccjclalngabhaaGreat
