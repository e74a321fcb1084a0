/-
 wire: what is read.
-/
import Derived.Test.YtccjclalngabhaaGreatWiC
namespace Go.Proofs.YtccjclalngabhaaGreat
set_option maxRecDepth 100000
open Go.RowKit
set_option linter.unusedVariables false
set_option linter.unusedSectionVars false
set_option linter.unusedSimpArgs false
def gP (b:List UInt8) (c:Int):(List UInt8) × Int × Int:=
 bnd (dS b) fun a=>if a.2.2=0 then if c < 0 then([],0,2) else if((a.1:Nat):Int) > ((Int.toNat (IntKind.u64.wrap c):Nat):Int) then([],0,2) else if((a.1:Nat):Int) > ((Int.toNat (((b.length:Nat):Int) - a.2.1):Nat):Int) then([],0,10) else((List.take ((Int.toNat (a.2.1+((a.1:Nat):Int))) - (Int.toNat a.2.1)) (List.drop (Int.toNat a.2.1) b)),a.2.1+((a.1:Nat):Int),0) else([],0,a.2.2)
theorem pI (w:World) (D:Nat→Prop) (r:Option Addr) (n0 p:Nat) (d:List UInt8) (g:Int) (A:List UInt8) (z:Int) (B:Int) (H:Own w D w []) (s:Ro w D fun w'=>bD w' 1 r n0 (List.flatMap eB d)) (C:n0=d.length) (M:d.length≤9223372036854775807) (N:d.length≤p) (hr:gP d g=(A,z,B)):
    Calls Tryz.prog 123 #[.slice r n0 p, .int .i64 g] w (cK fun v w'=>v= .tuple #[.string ⟨List.toArray A⟩, .int .i64 z, .int .i64 B]∧Own w D w' []∧(¬ (B=0)∨(1≤z∧z≤((d.length:Nat):Int)∧A.length≤d.length))):=by
 subst C
 refine Calls.body (args:= [.slice r d.length p, .int .i64 g]) Tryz.func123 rfl rfl rfl ?_
 show Wp _ _ _ [(0, .slice r d.length p),(1, .int .i64 g)] _ _
 refine sr (Az rfl (Az rfl (Ar rfl (Mz rfl ?_))))
 obtain⟨⟨b,a,h⟩,f⟩:∃ q:Nat × Int × Int,dS d=q:=⟨_,rfl⟩
 obtain⟨O,t,u,x,K⟩:=Own.enter0 H
 refine cl Tryz.call77 (lg _ _ r d.length p d b a h t (u _ s) rfl (by omega) (by first | omega | (simp only [List.length_take,List.length_drop]; omega) | exact Nat.le_refl _) f) ?_
 rintro _ P ⟨rfl,y,n,o⟩
 have j:=x _ _ y
 replace n: ¬ (h=0)∨(1≤a∧a≤10∧a≤((d.length:Nat):Int)):=n
 replace o:b≤18446744073709551615:=o
 refine Mz rfl (Kz (.int .u64 ((b:Nat):Int)) (Kz (.int .i64 a) (Kz (.int .i64 h) (Az rfl (Az rfl (An rfl (Wp.seq (sr (Mz rfl (fw (.bool (decide (¬ (h=0)))) (Yl.bool (e:= !(decide (h=0))) yk decide_not.symm) (nt ?_)))))))))))
 by_cases i:h=0
 refine jF (dF (not_not_intro i)) (sk (Wp.seq (sr (Mz rfl (Kz (.bool (decide (g < 0))) (Mz rfl ?_))))))
 by_cases c:g < 0
 refine Sz (dT c) (Sz (dT c) (Sz (dT c) (Sz (dT c) (fw (.bool true) (Yl.pickT rfl (dT c) rfl) (nt (jt (sr (Az rfl (Az rfl (An rfl (rt (tR (Fin.res (ky rfl rfl rfl rfl) ?_)))))))))))))
 have E:=j.pk []
 have e:gP d g=([],0,2):=et (aa f) (et (ip i) (ip c))
 obtain⟨rfl,rfl,rfl⟩:=lN (e.symm.trans hr)
 exact⟨rfl,E,(by first | omega | (simp only [List.length_take,List.length_drop]; omega))⟩
 refine gw (.int .u64 ((b:Nat):Int)) (dF c) (Yl.move rfl) (gw (.int .i64 g) (dF c) (Yl.move rfl) ?_)
 have L:Int.toNat (IntKind.u64.wrap g)≤18446744073709551615:=mY _
 refine gw (.int .u64 ((Int.toNat (IntKind.u64.wrap g):Nat):Int)) (dF c) (Yl.int (e:=IntKind.u64.wrap g) yk (gI _)) (Gz (.bool (decide (((b:Nat):Int) > ((Int.toNat (IntKind.u64.wrap g):Nat):Int)))) (dF c) (fw (.bool (decide (((b:Nat):Int) > ((Int.toNat (IntKind.u64.wrap g):Nat):Int)))) (Yl.pickF rfl (dF c) rfl) (nt ?_)))
 by_cases k:((b:Nat):Int) > ((Int.toNat (IntKind.u64.wrap g):Nat):Int)
 refine jT (dT k) (sr (Az rfl (Az rfl (An rfl (rt (tR (Fin.res (ky rfl rfl rfl rfl) ?_)))))))
 have F:=j.pk []
 have e:gP d g=([],0,2):=et (aa f) (et (ip i) (et (iN c) (ip k)))
 obtain⟨rfl,rfl,rfl⟩:=lN (e.symm.trans hr)
 exact⟨rfl,F,(by first | omega | (simp only [List.length_take,List.length_drop]; omega))⟩
 refine jF (dF k) (sk (Wp.seq (sr (Mz rfl (Mz rfl (Kz (.int .i64 ((d.length:Nat):Int)) (Mz rfl (fw (.int .i64 (((d.length:Nat):Int) - a)) (Yl.int (e:=IntKind.i64.wrap (((d.length:Nat):Int) - a)) yk (by rw [IntWalk.i64_in _ (by omega)])) (fw (.int .u64 ((Int.toNat (((d.length:Nat):Int) - a):Nat):Int)) (Yl.int (e:=IntKind.u64.wrap (((d.length:Nat):Int) - a)) yk (by rw [IntWalk.u64_in _ (by omega)]; omega)) (Kz (.bool (decide (((b:Nat):Int) > ((Int.toNat (((d.length:Nat):Int) - a):Nat):Int)))) (nt ?_)))))))))))
 by_cases m:((b:Nat):Int) > ((Int.toNat (((d.length:Nat):Int) - a):Nat):Int)
 refine jT (dT m) (sr (Az rfl (Az rfl (An rfl (rt (tR (Fin.res (ky rfl rfl rfl rfl) ?_)))))))
 have G:=j.pk []
 have e:gP d g=([],0,10):=et (aa f) (et (ip i) (et (iN c) (et (iN k) (ip m))))
 obtain⟨rfl,rfl,rfl⟩:=lN (e.symm.trans hr)
 exact⟨rfl,G,(by first | omega | (simp only [List.length_take,List.length_drop]; omega))⟩
 refine jF (dF m) (sk (sr (Mz rfl (Mz rfl (fw (.int .i64 ((b:Nat):Int)) (Yl.int (e:=IntKind.i64.wrap ((b:Nat):Int)) yk (IntWalk.i64_in _ (by omega))) (fw (.int .i64 (a+((b:Nat):Int))) (Yl.int (e:=IntKind.i64.wrap (a+((b:Nat):Int))) yk (by rw [IntWalk.i64_in _ (by omega)])) (Ar rfl (Mz rfl (fw (.int .i64 ((Int.toNat a:Nat):Int)) (Yl.int (e:=a) (Yl.move rfl) (by omega)) (fw (.int .i64 ((Int.toNat (a+((b:Nat):Int)):Nat):Int)) (Yl.int (e:=a+((b:Nat):Int)) (Yl.move rfl) (by omega)) (fw (.slice (fH r (Int.toNat a) 1 p) ((Int.toNat (a+((b:Nat):Int))) - (Int.toNat a)) (p - (Int.toNat a))) (Yl.cut (bW) rfl rfl rfl (by omega) (by omega)) (fw (.string ⟨List.toArray (List.take ((Int.toNat (a+((b:Nat):Int))) - (Int.toNat a)) (List.drop (Int.toNat a) d))⟩) (Yl.toStringE (l:=(List.take ((Int.toNat (a+((b:Nat):Int))) - (Int.toNat a)) (List.drop (Int.toNat a) d))) Tryz.underlying31 Tryz.underlying5 Tryz.underlying9 (bD.cutE (lo:=Int.toNat a) (hi:=Int.toNat (a+((b:Nat):Int))) av (j.ro s) (by omega) (by omega) (by omega)) rfl) (Mz rfl (Az rfl (Az rfl (An rfl (rt (Fin.res (ky rfl rfl rfl rfl) ?_))))))))))))))))))
 have I:=j.pk []
 have e:gP d g=((List.take ((Int.toNat (a+((b:Nat):Int))) - (Int.toNat a)) (List.drop (Int.toNat a) d)),a+((b:Nat):Int),0):=et (aa f) (et (ip i) (et (iN c) (et (iN k) (iN m))))
 obtain⟨rfl,rfl,rfl⟩:=lN (e.symm.trans hr)
 exact⟨rfl,I,(by first | omega | (simp only [List.length_take,List.length_drop]; omega))⟩
 refine jT (dT i) (sr (Mz rfl (Az rfl (Az rfl (An rfl (rt (tR (Fin.res (ky rfl rfl rfl rfl) ?_))))))))
 have J:=j.pk []
 have e:gP d g=([],0,h):=et (aa f) (iN i)
 obtain⟨rfl,rfl,rfl⟩:=lN (e.symm.trans hr)
 exact⟨rfl,J,(by first | omega | (simp only [List.length_take,List.length_drop]; omega))⟩
def mD (a:List UInt8):ReaderT:=
 ReaderT.mk (Ll.mk a) 0
theorem q8 (w:World) (D:Nat→Prop) (b:Option Addr) (n0 c:Nat) (a:List UInt8) (d:ReaderT) (H:Own w D w []) (j:Ro w D fun w'=>bD w' 1 b n0 (List.flatMap eB a)) (e:n0=a.length) (k:a.length *1≤211106232532992) (l:a.length≤c) (hr:mD a=d):
    Calls Tryz.prog 38 #[.slice b n0 c] w (cK fun v w'=> ∃ (i:Nat) (B0nx0:Option Addr) (b0nx0:Nat),v= .pointer (some ⟨i,0,none⟩)∧Own w D w' [blk i [.slice B0nx0 d.af.ls.length b0nx0, .int .i64 d.ax] 120]∧(ah 1 b c a B0nx0 b0nx0 d.af.ls)):=by
 subst e
 refine Calls.body (args:= [.slice b a.length c]) Tryz.func38 rfl rfl rfl ?_
 show Wp _ _ _ [(0, .slice b a.length c)] _ _
 refine sr (Ar rfl (Mz rfl (Kz (.agg #[.slice b a.length c, .int .i64 0]) ?_)))
 refine dD [.slice b a.length c, .int .i64 0] 120 H ?_
 intro f m g
 refine An rfl (rt (rs ?_))
 have h:=g.pk [0]
 obtain rfl:_=ReaderT.mk (Ll.mk a) 0:=hr.symm.trans rfl
 exact⟨f,b,c,rfl,h,(ah.refl (by omega))⟩
def bU (a:ReaderT) (b:Int):ReaderT:=
 if a.ax=0 then ReaderT.mk (Ll.mk ([])) b else a
theorem gz (w:World) (D:Nat→Prop) (d:Nat) (c:ReaderT) (a:Option Addr) (b:Nat) (f:Int) (g:ReaderT) (H:Own w D w [blk d [.slice a c.af.ls.length b, .int .i64 c.ax] 120]) (h:Ro w D fun w'=>bD w' 1 a c.af.ls.length (List.flatMap eB c.af.ls)) (i:c.af.ls.length≤b∧c.af.ls.length≤9223372036854775807) (hr:bU c f=g):
    Calls Tryz.prog 40 #[.pointer (some ⟨d,0,none⟩), .int .i64 f] w (cK fun v w'=> ∃ (B0ox0:Option Addr) (b0ox0:Nat),v= .tuple #[]∧Own w D w' [blk d [.slice B0ox0 g.af.ls.length b0ox0, .int .i64 g.ax] 120]∧(ah 1 a b c.af.ls B0ox0 b0ox0 g.af.ls)):=by
 refine Calls.body (args:= [.pointer (some ⟨d,0,none⟩), .int .i64 f]) Tryz.func40 rfl rfl rfl ?_
 show Wp _ _ _ [(0, .pointer (some ⟨d,0,none⟩)),(1, .int .i64 f)] _ _
 refine sr (Mz rfl (Kz (.pointer (some ⟨d,0,none⟩)) (Kz (.pointer (some ⟨d,1,none⟩)) (Lz (.int .i64 c.ax) H 0 Tryz.isAgg32 (Kz (.bool (decide (c.ax=0))) (nt ?_))))))
 by_cases e:c.ax=0
 refine jT (dT e) (sr (Mz rfl (Mz rfl (Kz (.pointer (some ⟨d,0,none⟩)) (Kz (.pointer (some ⟨d,1,none⟩)) ?_)))))
 refine bz [.int .i64 f] 1 H Tryz.sizeOf32 ?_
 intro n j
 refine nt (Wp.region (Mz rfl (Kz (.pointer (some ⟨d,0,none⟩)) (Kz (.pointer (some ⟨d,0,none⟩)) ?_))))
 refine bz [.slice none 0 0] 0 j Tryz.sizeOf31 ?_
 intro o k
 refine WL.nil (Fin.res0 (res0 rfl) ?_)
 have l:=k.pk [0]
 obtain rfl:_=ReaderT.mk (Ll.mk ([])) f:=hr.symm.trans (ip e)
 exact⟨none,0,rfl,l,ah.nil⟩
 refine jF (dF e) (Wp.skip (Fin.res0 (res0 rfl) ?_))
 have m:Own w D w [blk d [.slice a c.af.ls.length b, .int .i64 c.ax] 120]:=H.pk [0]
 obtain rfl:_=c:=hr.symm.trans (iN e)
 exact⟨a,b,rfl,m,(ah.refl (by omega))⟩
def aT (a:ReaderT):UInt8 × ReaderT:=
 if((a.af.ls.length:Nat):Int)=0 then bnd (bU a 10) fun b=>((0:UInt8),b) else bnd (List.getD a.af.ls 0 default) fun c=>(c,ReaderT.mk (Ll.mk (List.drop 1 a.af.ls)) a.ax)
theorem dW (w:World) (D:Nat→Prop) (f:Nat) (c:ReaderT) (b:Option Addr) (a:Nat) (I:UInt8) (y:ReaderT) (H:Own w D w [blk f [.slice b c.af.ls.length a, .int .i64 c.ax] 120]) (d:Ro w D fun w'=>bD w' 1 b c.af.ls.length (List.flatMap eB c.af.ls)) (z:c.af.ls.length≤a∧c.af.ls.length≤9223372036854775807) (hr:aT c=(I,y)):
    Calls Tryz.prog 39 #[.pointer (some ⟨f,0,none⟩)] w (cK fun v w'=> ∃ (B1ox0:Option Addr) (b1ox0:Nat),v= .int .u8 ((I.toNat:Nat):Int)∧Own w D w' [blk f [.slice B1ox0 y.af.ls.length b1ox0, .int .i64 y.ax] 120]∧(ah 1 b a c.af.ls B1ox0 b1ox0 y.af.ls)):=by
 refine Calls.body (args:= [.pointer (some ⟨f,0,none⟩)]) Tryz.func39 rfl rfl rfl ?_
 show Wp _ _ _ [(0, .pointer (some ⟨f,0,none⟩))] _ _
 refine sr (An rfl (Wp.seq (sr (Mz rfl (Kz (.pointer (some ⟨f,0,none⟩)) (Kz (.pointer (some ⟨f,0,none⟩)) (Lz (.slice b c.af.ls.length a) H 0 Tryz.isAgg31 (Kz (.int .i64 ((c.af.ls.length:Nat):Int)) (Kz (.bool (decide (((c.af.ls.length:Nat):Int)=0))) (nt ?_))))))))))
 by_cases j:((c.af.ls.length:Nat):Int)=0
 refine jT (dT j) (sr (Mz rfl ?_))
 obtain⟨n,l⟩:∃ q,bU c 10=q:=⟨_,rfl⟩
 obtain⟨L,o,p,r,J⟩:=Own.enter1 H
 refine cl Tryz.call40 (gz _ _ f c b a 10 n o (p _ d) (show c.af.ls.length≤a∧c.af.ls.length≤9223372036854775807 from by omega) l) ?_
 rintro _ M ⟨s,t,rfl,u,g⟩
 have A:=r _ _ u
 replace g:ah 1 b a c.af.ls s t n.af.ls:=g
 have K:=(g).le
 refine ns (An rfl (rt (tR (rs ?_))))
 have B:=A.pk [0]
 have e:aT c=((0:UInt8),n):=et (ip j) (aa l)
 obtain⟨rfl,rfl⟩:=dL (e.symm.trans hr)
 exact⟨s,t,rfl,B,g⟩
 refine jF (dF j) (sk (sr (Mz rfl (Kz (.pointer (some ⟨f,0,none⟩)) (Kz (.pointer (some ⟨f,0,none⟩)) (Lz (.slice b c.af.ls.length a) H 0 Tryz.isAgg31 ?_))))))
 obtain⟨x,m⟩:=eG (ls:=c.af.ls) (i:=0) av (by decide) (H.ro d) (by first | omega | (simp; done) | (simp; omega))
 refine fw (.pointer (some ⟨ab b,ao b+0 *1,none⟩)) (Yl.indexAddr (bW) rfl rfl ((H.ro d).addr (i:=0) (by omega)) (by omega)) (fw (.int .u8 ((x.toNat:Nat):Int)) (Yl.load rfl (bu.one Tryz.isAgg5 (((H.ro d).elem av m (by decide)).at_ (k:=0) rfl))) (Ar rfl (Mz rfl (Mz rfl (Kz (.pointer (some ⟨f,0,none⟩)) (Kz (.pointer (some ⟨f,0,none⟩)) (Lz (.slice b c.af.ls.length a) H 0 Tryz.isAgg31 (fw (.slice (fH b 1 1 a) (c.af.ls.length - 1) (a - 1)) (Yl.cutFrom (bW) rfl rfl (by omega)) (Kz (.pointer (some ⟨f,0,none⟩)) (Kz (.pointer (some ⟨f,0,none⟩)) ?_))))))))))
 refine bz [.slice (fH b 1 1 a) (c.af.ls.length - 1) (a - 1)] 0 H Tryz.sizeOf31 ?_
 intro C E
 refine ns (Mz rfl (An rfl (rt (rs ?_))))
 have h:c.af.ls.length - 1=List.length (List.drop 1 c.af.ls):=by first | omega | (simp only [List.length_drop,List.length_take] <;> omega)
 have F:Own w D C [blk f [.slice (fH b 1 1 a) (List.length (List.drop 1 c.af.ls)) (a - 1), .int .i64 c.ax] 120]:=by rw [← h]; exact E
 have G:=F.pk [0]
 have e:aT c=(x,ReaderT.mk (Ll.mk (List.drop 1 c.af.ls)) c.ax):=et (iN j) (aa (dA m))
 obtain⟨rfl,rfl⟩:=dL (e.symm.trans hr)
 exact⟨fH b 1 1 a,a - 1,(by first | rfl | (rw [← h]; done) | (rw [← h]; rfl)),G,(ah.cut (ah.refl (by omega)) (by first | omega | (simp only [List.length_drop]; omega)))⟩
def aH (b:ReaderT) (e:Nat):Nat × ReaderT:=
 bnd (dS b.af.ls) fun a=>if a.2.2=0 then if((a.1:Nat):Int) > ((e:Nat):Int) then bnd (bU b 11) fun c=>(0,c) else(a.1,ReaderT.mk (Ll.mk (List.drop (Int.toNat a.2.1) b.af.ls)) b.ax) else bnd (bU b a.2.2) fun d=>(0,d)
theorem dR (w:World) (D:Nat→Prop) (j:Nat) (d:ReaderT) (b:Option Addr) (a:Nat) (n:Nat) (V:Nat) (U:ReaderT) (H:Own w D w [blk j [.slice b d.af.ls.length a, .int .i64 d.ax] 120]) (i:Ro w D fun w'=>bD w' 1 b d.af.ls.length (List.flatMap eB d.af.ls)) (W:d.af.ls.length≤a∧d.af.ls.length≤9223372036854775807) (hr:aH d n=(V,U)):
    Calls Tryz.prog 79 #[.pointer (some ⟨j,0,none⟩), .int .u64 ((n:Nat):Int)] w (cK fun v w'=> ∃ (B1ox0:Option Addr) (b1ox0:Nat),v= .int .u64 ((V:Nat):Int)∧Own w D w' [blk j [.slice B1ox0 U.af.ls.length b1ox0, .int .i64 U.ax] 120]∧(ah 1 b a d.af.ls B1ox0 b1ox0 U.af.ls)∧(V≤n)):=by
 refine Calls.body (args:= [.pointer (some ⟨j,0,none⟩), .int .u64 ((n:Nat):Int)]) Tryz.func79 rfl rfl rfl ?_
 show Wp _ _ _ [(0, .pointer (some ⟨j,0,none⟩)),(1, .int .u64 ((n:Nat):Int))] _ _
 refine sr (Ar rfl (Mz rfl (Kz (.pointer (some ⟨j,0,none⟩)) (Kz (.pointer (some ⟨j,0,none⟩)) (Lz (.slice b d.af.ls.length a) H 0 Tryz.isAgg31 ?_)))))
 obtain⟨⟨h,c,f⟩,k⟩:∃ q:Nat × Int × Int,dS d.af.ls=q:=⟨_,rfl⟩
 obtain⟨az,A,B,C,ak⟩:=Own.enter0 H
 refine cl Tryz.call77 (lg _ _ b d.af.ls.length a d.af.ls h c f A (B _ i) rfl (by omega) (by first | omega | (simp only [List.length_take,List.length_drop]; omega) | exact Nat.le_refl _) k) ?_
 rintro _ aA ⟨rfl,E,s,t⟩
 have p:=C _ _ E
 replace s: ¬ (f=0)∨(1≤c∧c≤10∧c≤((d.af.ls.length:Nat):Int)):=s
 replace t:h≤18446744073709551615:=t
 refine Mz rfl (Kz (.int .u64 ((h:Nat):Int)) (Kz (.int .i64 c) (Kz (.int .i64 f) (Az rfl (Az rfl (An rfl (Wp.seq (sr (Mz rfl (Kz (.bool (decide (f=0))) (Mz rfl ?_)))))))))))
 by_cases g:f=0
 refine gw (.int .u64 ((h:Nat):Int)) (dT g) (Yl.move rfl) (gw (.int .u64 ((n:Nat):Int)) (dT g) (Yl.move rfl) (Gz (.bool (decide (((h:Nat):Int) > ((n:Nat):Int)))) (dT g) (fw (.bool (decide (((h:Nat):Int) > ((n:Nat):Int)))) (Yl.pickT rfl (dT g) rfl) (nt ?_))))
 by_cases r:((h:Nat):Int) > ((n:Nat):Int)
 refine jT (dT r) (Wp.region (An rfl (Wp.seq (sr (Mz rfl (Kz (.bool true) (nt (jt (sr (Mz rfl (Mz rfl ?_)))))))))))
 obtain⟨y,u⟩:∃ q,bU d 11=q:=⟨_,rfl⟩
 obtain⟨aB,F,G,I,au⟩:=Own.enter1 p
 refine cl Tryz.call40 (gz _ _ j d b a 11 y F (G _ i) (show d.af.ls.length≤a∧d.af.ls.length≤9223372036854775807 from by omega) u) ?_
 rintro _ aC ⟨J,K,rfl,L,l⟩
 have X:=I _ _ L
 replace l:ah 1 b a d.af.ls J K y.af.ls:=l
 have av:=(l).le
 refine ns (An rfl (rt (tR (rs ?_))))
 have Y:=X.pk [0]
 have e:aH d n=(0,y):=et (aa k) (et (ip g) (et (ip r) (aa u)))
 obtain⟨rfl,rfl⟩:=dL (e.symm.trans hr)
 exact⟨J,K,rfl,Y,l,(by omega)⟩
 refine jF (dF r) (sk (Wp.seq (sr (Mz rfl (fw (.bool (decide (¬ (f=0)))) (Yl.bool (e:= !(decide (f=0))) yk decide_not.symm) (nt ?_))))))
 have M:(decide (¬ (f=0)))=false:=(dF (by omega))
 refine jF M (sk (sr (Mz rfl (Mz rfl (Kz (.pointer (some ⟨j,0,none⟩)) (Kz (.pointer (some ⟨j,0,none⟩)) (Lz (.slice b d.af.ls.length a) p 0 Tryz.isAgg31 (fw (.int .i64 ((Int.toNat c:Nat):Int)) (Yl.int (e:=c) (Yl.move rfl) (by omega)) (fw (.slice (fH b (Int.toNat c) 1 a) (d.af.ls.length - (Int.toNat c)) (a - (Int.toNat c))) (Yl.cutFrom (bW) rfl rfl (by omega)) (Kz (.pointer (some ⟨j,0,none⟩)) (Kz (.pointer (some ⟨j,0,none⟩)) ?_)))))))))))
 refine bz [.slice (fH b (Int.toNat c) 1 a) (d.af.ls.length - (Int.toNat c)) (a - (Int.toNat c))] 0 p Tryz.sizeOf31 ?_
 intro Z ae
 refine ns (Mz rfl (An rfl (rt (rs ?_))))
 have o:d.af.ls.length - (Int.toNat c)=List.length (List.drop (Int.toNat c) d.af.ls):=by first | omega | (simp only [List.length_drop,List.length_take] <;> omega)
 have af:Own w D Z [blk j [.slice (fH b (Int.toNat c) 1 a) (List.length (List.drop (Int.toNat c) d.af.ls)) (a - (Int.toNat c)), .int .i64 d.ax] 120]:=by rw [← o]; exact ae
 have ag:=af.pk [0]
 have e:aH d n=(h,ReaderT.mk (Ll.mk (List.drop (Int.toNat c) d.af.ls)) d.ax):=et (aa k) (et (ip g) (iN r))
 obtain⟨rfl,rfl⟩:=dL (e.symm.trans hr)
 exact⟨fH b (Int.toNat c) 1 a,a - (Int.toNat c),(by first | rfl | (rw [← o]; done) | (rw [← o]; rfl)),ag,(ah.cut (ah.refl (by omega)) (by first | omega | (simp only [List.length_drop]; omega))),(by omega)⟩
 refine Sz (dF g) (Sz (dF g) (Sz (dF g) (fw (.bool false) (Yl.pickF rfl (dF g) rfl) (nt (jf (sk (Wp.seq (sr (Mz rfl (fw (.bool (decide (¬ (f=0)))) (Yl.bool (e:= !(decide (f=0))) yk decide_not.symm) (nt ?_)))))))))))
 have N:(decide (¬ (f=0)))=true:=(dT (by omega))
 refine jT N (sr (Mz rfl (Mz rfl ?_)))
 obtain⟨z,x⟩:∃ q,bU d f=q:=⟨_,rfl⟩
 obtain⟨aD,O,P,Q,ax⟩:=Own.enter1 p
 refine cl Tryz.call40 (gz _ _ j d b a f z O (P _ i) (show d.af.ls.length≤a∧d.af.ls.length≤9223372036854775807 from by omega) x) ?_
 rintro _ aF ⟨R,S,rfl,T,m⟩
 have ai:=Q _ _ T
 replace m:ah 1 b a d.af.ls R S z.af.ls:=m
 have ay:=(m).le
 refine ns (An rfl (rt (tR (rs ?_))))
 have aj:=ai.pk [0]
 have e:aH d n=(0,z):=et (aa k) (et (iN g) (aa x))
 obtain⟨rfl,rfl⟩:=dL (e.symm.trans hr)
 exact⟨R,S,rfl,aj,m,(by omega)⟩
def bA (b:ReaderT) (e:Int):(List UInt8) × ReaderT:=
 bnd (gP b.af.ls e) fun a=>if a.2.2=2 then bnd (bU b 11) fun c=>([],c) else if a.2.2=0 then(a.1,ReaderT.mk (Ll.mk (List.drop (Int.toNat a.2.1) b.af.ls)) b.ax) else bnd (bU b a.2.2) fun d=>([],d)
theorem eY (w:World) (D:Nat→Prop) (h:Nat) (d:ReaderT) (b:Option Addr) (a:Nat) (n:Int) (r0:List UInt8) (R:ReaderT) (H:Own w D w [blk h [.slice b d.af.ls.length a, .int .i64 d.ax] 120]) (g:Ro w D fun w'=>bD w' 1 b d.af.ls.length (List.flatMap eB d.af.ls)) (S:d.af.ls.length≤a∧d.af.ls.length≤9223372036854775807) (hr:bA d n=(r0,R)):
    Calls Tryz.prog 109 #[.pointer (some ⟨h,0,none⟩), .int .i64 n] w (cK fun v w'=> ∃ (B1ox0:Option Addr) (b1ox0:Nat),v= .string ⟨List.toArray r0⟩∧Own w D w' [blk h [.slice B1ox0 R.af.ls.length b1ox0, .int .i64 R.ax] 120]∧(ah 1 b a d.af.ls B1ox0 b1ox0 R.af.ls)):=by
 refine Calls.body (args:= [.pointer (some ⟨h,0,none⟩), .int .i64 n]) Tryz.func109 rfl rfl rfl ?_
 show Wp _ _ _ [(0, .pointer (some ⟨h,0,none⟩)),(1, .int .i64 n)] _ _
 refine sr (Ar rfl (Mz rfl (Kz (.pointer (some ⟨h,0,none⟩)) (Kz (.pointer (some ⟨h,0,none⟩)) (Lz (.slice b d.af.ls.length a) H 0 Tryz.isAgg31 (Mz rfl ?_))))))
 obtain⟨⟨o,c,f⟩,i⟩:∃ q:(List UInt8) × Int × Int,gP d.af.ls n=q:=⟨_,rfl⟩
 obtain⟨av,z,A,B,ag⟩:=Own.enter0 H
 refine cl Tryz.call123 (pI _ _ b d.af.ls.length a d.af.ls n o c f z (A _ g) rfl (by omega) (by first | omega | (simp only [List.length_take,List.length_drop]; omega) | exact Nat.le_refl _) i) ?_
 rintro _ ax ⟨rfl,C,s⟩
 have p:=B _ _ C
 replace s: ¬ (f=0)∨(1≤c∧c≤((d.af.ls.length:Nat):Int)∧o.length≤d.af.ls.length):=s
 refine Mz rfl (Kz (.string ⟨List.toArray o⟩) (Kz (.int .i64 c) (Kz (.int .i64 f) (Az rfl (Az rfl (An rfl (Wp.seq (sr (Mz rfl (Kz (.bool (decide (f=2))) (nt ?_)))))))))))
 by_cases l:f=2
 refine jT (dT l) (Wp.region (An rfl (Wp.seq (sr (Mz rfl (Kz (.bool true) (nt (jt (sr (Mz rfl (Mz rfl ?_)))))))))))
 obtain⟨x,t⟩:∃ q,bU d 11=q:=⟨_,rfl⟩
 obtain⟨ay,E,F,G,ai⟩:=Own.enter1 p
 refine cl Tryz.call40 (gz _ _ h d b a 11 x E (F _ g) (show d.af.ls.length≤a∧d.af.ls.length≤9223372036854775807 from by omega) t) ?_
 rintro _ az ⟨I,J,rfl,K,j⟩
 have T:=G _ _ K
 replace j:ah 1 b a d.af.ls I J x.af.ls:=j
 have aj:=(j).le
 refine ns (An rfl (rt (tR (rs ?_))))
 have U:=T.pk [0]
 have e:bA d n=([],x):=et (aa i) (et (ip l) (aa t))
 obtain⟨rfl,rfl⟩:=dL (e.symm.trans hr)
 exact⟨I,J,rfl,U,j⟩
 refine jF (dF l) (sk (Wp.seq (sr (Mz rfl (fw (.bool (decide (¬ (f=0)))) (Yl.bool (e:= !(decide (f=0))) yk decide_not.symm) (nt ?_))))))
 by_cases r:f=0
 refine jF (dF (not_not_intro r)) (sk (sr (Mz rfl (Mz rfl (Kz (.pointer (some ⟨h,0,none⟩)) (Kz (.pointer (some ⟨h,0,none⟩)) (Lz (.slice b d.af.ls.length a) p 0 Tryz.isAgg31 (fw (.int .i64 ((Int.toNat c:Nat):Int)) (Yl.int (e:=c) (Yl.move rfl) (by omega)) (fw (.slice (fH b (Int.toNat c) 1 a) (d.af.ls.length - (Int.toNat c)) (a - (Int.toNat c))) (Yl.cutFrom (bW) rfl rfl (by omega)) (Kz (.pointer (some ⟨h,0,none⟩)) (Kz (.pointer (some ⟨h,0,none⟩)) ?_)))))))))))
 refine bz [.slice (fH b (Int.toNat c) 1 a) (d.af.ls.length - (Int.toNat c)) (a - (Int.toNat c))] 0 p Tryz.sizeOf31 ?_
 intro V W
 refine ns (Mz rfl (An rfl (rt (rs ?_))))
 have m:d.af.ls.length - (Int.toNat c)=List.length (List.drop (Int.toNat c) d.af.ls):=by first | omega | (simp only [List.length_drop,List.length_take] <;> omega)
 have X:Own w D V [blk h [.slice (fH b (Int.toNat c) 1 a) (List.length (List.drop (Int.toNat c) d.af.ls)) (a - (Int.toNat c)), .int .i64 d.ax] 120]:=by rw [← m]; exact W
 have Y:=X.pk [0]
 have e:bA d n=(o,ReaderT.mk (Ll.mk (List.drop (Int.toNat c) d.af.ls)) d.ax):=et (aa i) (et (iN l) (ip r))
 obtain⟨rfl,rfl⟩:=dL (e.symm.trans hr)
 exact⟨fH b (Int.toNat c) 1 a,a - (Int.toNat c),(by first | rfl | (rw [← m]; done) | (rw [← m]; rfl)),Y,(ah.cut (ah.refl (by omega)) (by first | omega | (simp only [List.length_drop]; omega)))⟩
 refine jT (dT r) (sr (Mz rfl (Mz rfl ?_)))
 obtain⟨y,u⟩:∃ q,bU d f=q:=⟨_,rfl⟩
 obtain⟨aA,L,M,N,ak⟩:=Own.enter1 p
 refine cl Tryz.call40 (gz _ _ h d b a f y L (M _ g) (show d.af.ls.length≤a∧d.af.ls.length≤9223372036854775807 from by omega) u) ?_
 rintro _ aB ⟨O,P,rfl,Q,k⟩
 have Z:=N _ _ Q
 replace k:ah 1 b a d.af.ls O P y.af.ls:=k
 have au:=(k).le
 refine ns (An rfl (rt (tR (rs ?_))))
 have ae:=Z.pk [0]
 have e:bA d n=([],y):=et (aa i) (et (iN l) (et (iN r) (aa u)))
 obtain⟨rfl,rfl⟩:=dL (e.symm.trans hr)
 exact⟨O,P,rfl,ae,k⟩
def fJ (b:ReaderT):ReaderT:=
 if((b.af.ls.length:Nat):Int) > 0 then bnd (bU b 11) fun a=>a else b
theorem lJ (w:World) (D:Nat→Prop) (e:Nat) (c:ReaderT) (b:Option Addr) (a:Nat) (p:ReaderT) (H:Own w D w [blk e [.slice b c.af.ls.length a, .int .i64 c.ax] 120]) (h:Ro w D fun w'=>bD w' 1 b c.af.ls.length (List.flatMap eB c.af.ls)) (r:c.af.ls.length≤a∧c.af.ls.length≤9223372036854775807) (hr:fJ c=p):
    Calls Tryz.prog 42 #[.pointer (some ⟨e,0,none⟩)] w (cK fun v w'=> ∃ (B0ox0:Option Addr) (b0ox0:Nat),v= .tuple #[]∧Own w D w' [blk e [.slice B0ox0 p.af.ls.length b0ox0, .int .i64 p.ax] 120]∧(ah 1 b a c.af.ls B0ox0 b0ox0 p.af.ls)):=by
 refine Calls.body (args:= [.pointer (some ⟨e,0,none⟩)]) Tryz.func42 rfl rfl rfl ?_
 show Wp _ _ _ [(0, .pointer (some ⟨e,0,none⟩))] _ _
 refine sr (Mz rfl (Kz (.pointer (some ⟨e,0,none⟩)) (Kz (.pointer (some ⟨e,0,none⟩)) (Lz (.slice b c.af.ls.length a) H 0 Tryz.isAgg31 (Kz (.int .i64 ((c.af.ls.length:Nat):Int)) (Kz (.bool (decide (((c.af.ls.length:Nat):Int) > 0))) (nt ?_)))))))
 by_cases f:((c.af.ls.length:Nat):Int) > 0
 refine jT (dT f) (Wp.region (Mz rfl ?_))
 obtain⟨i,g⟩:∃ q,bU c 11=q:=⟨_,rfl⟩
 obtain⟨z,j,k,l,x⟩:=Own.enter1 H
 refine cl Tryz.call40 (gz _ _ e c b a 11 i j (k _ h) (show c.af.ls.length≤a∧c.af.ls.length≤9223372036854775807 from by omega) g) ?_
 rintro _ A ⟨m,n,rfl,o,d⟩
 have s:=l _ _ o
 replace d:ah 1 b a c.af.ls m n i.af.ls:=d
 have y:=(d).le
 refine WL.nil (Fin.res0 (res0 rfl) ?_)
 have t:=s.pk [0]
 obtain rfl:_=i:=hr.symm.trans (et (ip f) (aa g))
 exact⟨m,n,rfl,t,d⟩
 refine jF (dF f) (Wp.skip (Fin.res0 (res0 rfl) ?_))
 have u:Own w D w [blk e [.slice b c.af.ls.length a, .int .i64 c.ax] 120]:=H.pk [0]
 obtain rfl:_=c:=hr.symm.trans (iN f)
 exact⟨b,a,rfl,u,(ah.refl (by omega))⟩
def fK (a:ReaderT):Int:=
 a.ax
theorem lK (w:World) (D:Nat→Prop) (d:Nat) (c:ReaderT) (a:Option Addr) (b:Nat) (h:Int) (H:Own w D w [blk d [.slice a c.af.ls.length b, .int .i64 c.ax] 120]) (e:Ro w D fun w'=>bD w' 1 a c.af.ls.length (List.flatMap eB c.af.ls)) (f:c.af.ls.length≤b∧c.af.ls.length≤9223372036854775807) (hr:fK c=h):
    Calls Tryz.prog 43 #[.pointer (some ⟨d,0,none⟩)] w (cK fun v w'=>v= .int .i64 h∧Own w D w' [blk d [.slice a c.af.ls.length b, .int .i64 c.ax] 120]):=by
 refine Calls.body (args:= [.pointer (some ⟨d,0,none⟩)]) Tryz.func43 rfl rfl rfl ?_
 show Wp _ _ _ [(0, .pointer (some ⟨d,0,none⟩))] _ _
 refine sr (Ar rfl (Mz rfl (Kz (.pointer (some ⟨d,0,none⟩)) (Kz (.pointer (some ⟨d,1,none⟩)) (Lz (.int .i64 c.ax) H 0 Tryz.isAgg32 (An rfl (rt (rs ?_))))))))
 have g:Own w D w [blk d [.slice a c.af.ls.length b, .int .i64 c.ax] 120]:=H.pk [0]
 obtain rfl:_=c.ax:=hr.symm.trans rfl
 exact⟨rfl,g⟩
def fT (c:ReaderT):Bool × ReaderT:=
 bnd (aT c) fun a=>if((a.1.toNat:Nat):Int) > 1 then bnd (bU a.2 11) fun b=>(decide (((a.1.toNat:Nat):Int)=1),b) else(decide (((a.1.toNat:Nat):Int)=1),a.2)
theorem mq (w:World) (D:Nat→Prop) (o:Nat) (f:ReaderT) (c:Option Addr) (a:Nat) (L:Bool) (F:ReaderT) (H:Own w D w [blk o [.slice c f.af.ls.length a, .int .i64 f.ax] 120]) (i:Ro w D fun w'=>bD w' 1 c f.af.ls.length (List.flatMap eB f.af.ls)) (G:f.af.ls.length≤a∧f.af.ls.length≤9223372036854775807) (hr:fT f=(L,F)):
    Calls Tryz.prog 80 #[.pointer (some ⟨o,0,none⟩)] w (cK fun v w'=> ∃ (B1ox0:Option Addr) (b1ox0:Nat),v= .bool L∧Own w D w' [blk o [.slice B1ox0 F.af.ls.length b1ox0, .int .i64 F.ax] 120]∧(ah 1 c a f.af.ls B1ox0 b1ox0 F.af.ls)):=by
 refine Calls.body (args:= [.pointer (some ⟨o,0,none⟩)]) Tryz.func80 rfl rfl rfl ?_
 show Wp _ _ _ [(0, .pointer (some ⟨o,0,none⟩))] _ _
 refine sr (Ar rfl (Mz rfl ?_))
 obtain⟨⟨g,d⟩,j⟩:∃ q:UInt8 × ReaderT,aT f=q:=⟨_,rfl⟩
 obtain⟨Q,r,s,t,M⟩:=Own.enter1 H
 refine cl Tryz.call39 (dW _ _ o f c a g d r (s _ i) (show f.af.ls.length≤a∧f.af.ls.length≤9223372036854775807 from by omega) j) ?_
 rintro _ R ⟨l,k,rfl,u,b⟩
 have x:=t _ _ u
 replace b:ah 1 c a f.af.ls l k d.af.ls:=b
 have N:=(b).le
 refine An rfl (Wp.seq (sr (Mz rfl (Kz (.bool (decide (((g.toNat:Nat):Int) > 1))) (nt ?_)))))
 by_cases m:((g.toNat:Nat):Int) > 1
 refine jT (dT m) (Wp.region (Mz rfl ?_))
 obtain⟨p,n⟩:∃ q,bU d 11=q:=⟨_,rfl⟩
 obtain⟨S,y,z,A,O⟩:=Own.enter1 x
 refine cl Tryz.call40 (gz _ _ o d l k 11 p y (fun T U=>ah.rds av (by decide) b ((z _ i) T U)) (show d.af.ls.length≤k∧d.af.ls.length≤9223372036854775807 from by omega) n) ?_
 rintro _ V ⟨B,C,rfl,E,h⟩
 have I:=A _ _ E
 replace h:ah 1 l k d.af.ls B C p.af.ls:=h
 have P:=(h).le
 refine ns (Mz rfl (Kz (.bool (decide (((g.toNat:Nat):Int)=1))) (An rfl (rt (rs ?_)))))
 have J:=I.pk [0]
 have e:fT f=(decide (((g.toNat:Nat):Int)=1),p):=et (aa j) (et (ip m) (aa n))
 obtain⟨rfl,rfl⟩:=dL (e.symm.trans hr)
 exact⟨B,C,rfl,J,(ah.trans b h)⟩
 refine jF (dF m) (sk (sr (Mz rfl (Kz (.bool (decide (((g.toNat:Nat):Int)=1))) (An rfl (rt (rs ?_)))))))
 have K:=x.pk [0]
 have e:fT f=(decide (((g.toNat:Nat):Int)=1),d):=et (aa j) (iN m)
 obtain⟨rfl,rfl⟩:=dL (e.symm.trans hr)
 exact⟨l,k,rfl,K,b⟩
def jR (g:ReaderT):aB × ReaderT:=
 bnd (aT g) fun c=>bnd (bA c.2 255) fun d=>bnd (bA d.2 255) fun e=>bnd (bA e.2 255) fun f=>bnd (bA f.2 255) fun a=>bnd (aT a.2) fun b=>(aB.mk ((c.1.toNat:Nat):Int) d.1 e.1 f.1 a.1 ((b.1.toNat:Nat):Int),b.2)
theorem qJ (w:World) (D:Nat→Prop) (x:Nat) (F:ReaderT) (z:Option Addr) (s:Nat) (r0:aB) (r1:ReaderT) (H:Own w D w [blk x [.slice z F.af.ls.length s, .int .i64 F.ax] 120]) (h:Ro w D fun w'=>bD w' 1 z F.af.ls.length (List.flatMap eB F.af.ls)) (bO:F.af.ls.length≤s∧F.af.ls.length≤9223372036854775807) (hr:jR F=(r0,r1)):
    Calls Tryz.prog 83 #[.pointer (some ⟨x,0,none⟩)] w (cK fun v w'=> ∃ (B1ox0:Option Addr) (b1ox0:Nat),v= .agg (aB.cells r0).toArray∧Own w D w' [blk x [.slice B1ox0 r1.af.ls.length b1ox0, .int .i64 r1.ax] 120]∧(ah 1 z s F.af.ls B1ox0 b1ox0 r1.af.ls)):=by
 refine Calls.body (args:= [.pointer (some ⟨x,0,none⟩)]) Tryz.func83 rfl rfl rfl ?_
 show Wp _ _ _ [(0, .pointer (some ⟨x,0,none⟩))] _ _
 refine sr ?_
 refine dD [.int .i64 0, .string ⟨List.toArray ([])⟩, .string ⟨List.toArray ([])⟩, .string ⟨List.toArray ([])⟩, .string ⟨List.toArray ([])⟩, .int .i64 0] 64 H ?_
 intro dN dO bP
 refine ns (Mz rfl ?_)
 have bQ:=bP.pk [1,0]
 obtain⟨⟨r,A⟩,W⟩:∃ q:UInt8 × ReaderT,aT F=q:=⟨_,rfl⟩
 obtain⟨dP,aL,aM,aN,dm⟩:=Own.enter1 bQ
 refine cl Tryz.call39 (dW _ _ x F z s r A aL (aM _ h) (show F.af.ls.length≤s∧F.af.ls.length≤9223372036854775807 from by omega) W) ?_
 rintro _ dQ ⟨aj,T,rfl,aO,c⟩
 have bR:=aN _ _ aO
 replace c:ah 1 z s F.af.ls aj T A.af.ls:=c
 have dn:=(c).le
 have dw:r.toNat≤255:=Nat.le_of_lt_succ (UInt8.toNat_lt _)
 refine fw (.int .i64 ((r.toNat:Nat):Int)) (Yl.int (e:=IntKind.i64.wrap ((r.toNat:Nat):Int)) yk (IntWalk.i64_in _ (by omega))) (Kz (.agg #[.int .i64 ((r.toNat:Nat):Int), .string ⟨List.toArray ([])⟩, .string ⟨List.toArray ([])⟩, .string ⟨List.toArray ([])⟩, .string ⟨List.toArray ([])⟩, .int .i64 0]) ?_)
 refine dD [.int .i64 0, .string ⟨List.toArray ([])⟩, .string ⟨List.toArray ([])⟩, .string ⟨List.toArray ([])⟩, .string ⟨List.toArray ([])⟩, .int .i64 0] 64 bR ?_
 intro a dR bS
 refine bz [.int .i64 ((r.toNat:Nat):Int), .string ⟨List.toArray ([])⟩, .string ⟨List.toArray ([])⟩, .string ⟨List.toArray ([])⟩, .string ⟨List.toArray ([])⟩, .int .i64 0] 0 bS Tryz.sizeOf64 ?_
 intro dS bT
 refine ns (Mz rfl (Kz (.pointer (some ⟨a,1,none⟩)) (Kz (.pointer (some ⟨a,2,none⟩)) (Kz (.pointer (some ⟨a,3,none⟩)) (Kz (.pointer (some ⟨a,4,none⟩)) ?_)))))
 refine iP [.pointer (some ⟨a,1,none⟩), .pointer (some ⟨a,2,none⟩), .pointer (some ⟨a,3,none⟩), .pointer (some ⟨a,4,none⟩)] 124 1 4 bT ?_
 intro b dU M
 replace M:=Own.reh (y:=row b 4 4 (List.flatMap eV ([(Value.pointer (some ⟨a,1,none⟩)),(Value.pointer (some ⟨a,2,none⟩)),(Value.pointer (some ⟨a,3,none⟩)),(Value.pointer (some ⟨a,4,none⟩))])) 124 1) rfl M
 refine WL.do rfl (Do.call Tryz.call81 rfl ?_ (fun _ _ k=>k))
 refine Calls.body (args:= [.pointer (some ⟨x,0,none⟩), .slice b 4 4]) Tryz.func81 rfl rfl rfl ?_
 show Wp _ _ _ [(0, .pointer (some ⟨x,0,none⟩)),(1, .slice b 4 4)] _ _
 refine sr (Mz rfl (Kz (.int .i64 4) (Mn rfl (bo (Wp.unroll 200 (sr (Kz (.bool true) (nt (Wp.seq (jt (sk (Wp.seq (bo (sr ?_))))))))))))))
 have aP:([(Value.pointer (some ⟨a,1,none⟩)),(Value.pointer (some ⟨a,2,none⟩)),(Value.pointer (some ⟨a,3,none⟩)),(Value.pointer (some ⟨a,4,none⟩))]:List Value)[0]? =some (Value.pointer (some ⟨a,1,none⟩)):=rfl
 refine fw (.pointer (some ⟨ab b,ao b+0 *1,none⟩)) (Yl.indexAddr (l5) rfl rfl ((M.rds (i:=0) rfl).addr (i:=0) (by omega)) (by omega)) (fw (.pointer (some ⟨a,1,none⟩)) (Yl.load rfl (bu.one Tryz.isAgg124 (((M.rds (i:=0) rfl).elem kT aP (by decide)).at_ (k:=0) rfl))) (An rfl (Wp.region (Mz rfl (Mz rfl ?_)))))
 have bU:=M.pk [2,0,1,3]
 obtain⟨⟨J,B⟩,X⟩:∃ q:(List UInt8) × ReaderT,bA A 255=q:=⟨_,rfl⟩
 obtain⟨dV,aQ,aR,aS,dx⟩:=Own.enter1 bU
 refine cl Tryz.call109 (eY _ _ x A aj T 255 J B aQ (fun d f=>ah.rds av (by decide) c ((aR _ h) d f)) (show A.af.ls.length≤T∧A.af.ls.length≤9223372036854775807 from by omega) X) ?_
 rintro _ dX ⟨ak,U,rfl,aU,l⟩
 have bV:=aS _ _ aU
 replace l:ah 1 aj T A.af.ls ak U B.af.ls:=l
 have dz:=(l).le
 refine Kz (.pointer (some ⟨a,1,none⟩)) ?_
 have bW:=bV.pk [2,0,1,3]
 refine bz [.string ⟨List.toArray J⟩] 1 bW Tryz.sizeOf9 ?_
 intro dY au
 refine WL.nil (bN (Fin.then (Wp.region (Kz (.int .i64 1) (Mz rfl (WL.nil (Fin.again [(8, .int .i64 1),(7, .int .i64 4),(6, .slice b 4 4),(0, .pointer (some ⟨x,0,none⟩))] ⟨rfl,rfl,rfl,rfl,trivial⟩ (sr (Kz (.bool true) (nt (Wp.seq (jt (sk (Wp.seq (bo (sr ?_))))))))))))))))
 have aV:([(Value.pointer (some ⟨a,1,none⟩)),(Value.pointer (some ⟨a,2,none⟩)),(Value.pointer (some ⟨a,3,none⟩)),(Value.pointer (some ⟨a,4,none⟩))]:List Value)[1]? =some (Value.pointer (some ⟨a,2,none⟩)):=rfl
 refine fw (.pointer (some ⟨ab b,ao b+1 *1,none⟩)) (Yl.indexAddr (l5) rfl rfl ((au.rds (i:=2) rfl).addr (i:=1) (by omega)) (by omega)) (fw (.pointer (some ⟨a,2,none⟩)) (Yl.load rfl (bu.one Tryz.isAgg124 (((au.rds (i:=2) rfl).elem kT aV (by decide)).at_ (k:=0) rfl))) (An rfl (Wp.region (Mz rfl (Mz rfl ?_)))))
 have bX:=au.pk [1,0,2,3]
 obtain⟨⟨K,C⟩,Y⟩:∃ q:(List UInt8) × ReaderT,bA B 255=q:=⟨_,rfl⟩
 obtain⟨dZ,aW,aX,aY,dA⟩:=Own.enter1 bX
 refine cl Tryz.call109 (eY _ _ x B ak U 255 K C aW (fun d f=>ah.rds av (by decide) l ((fun d f=>ah.rds av (by decide) c ((aX _ h) d f)) d f)) (show B.af.ls.length≤U∧B.af.ls.length≤9223372036854775807 from by omega) Y) ?_
 rintro _ d9 ⟨ax,V,rfl,aZ,n⟩
 have bY:=aY _ _ aZ
 replace n:ah 1 ak U B.af.ls ax V C.af.ls:=n
 have dB:=(n).le
 refine Kz (.pointer (some ⟨a,2,none⟩)) ?_
 have bZ:=bY.pk [1,0,2,3]
 refine bz [.string ⟨List.toArray K⟩] 2 bZ Tryz.sizeOf9 ?_
 intro ed ay
 refine WL.nil (bN (Fin.then (Wp.region (Kz (.int .i64 2) (Mz rfl (WL.nil (Fin.again [(8, .int .i64 2),(7, .int .i64 4),(6, .slice b 4 4),(0, .pointer (some ⟨x,0,none⟩))] ⟨rfl,rfl,rfl,rfl,trivial⟩ (sr (Kz (.bool true) (nt (Wp.seq (jt (sk (Wp.seq (bo (sr ?_))))))))))))))))
 have bf:([(Value.pointer (some ⟨a,1,none⟩)),(Value.pointer (some ⟨a,2,none⟩)),(Value.pointer (some ⟨a,3,none⟩)),(Value.pointer (some ⟨a,4,none⟩))]:List Value)[2]? =some (Value.pointer (some ⟨a,3,none⟩)):=rfl
 refine fw (.pointer (some ⟨ab b,ao b+2 *1,none⟩)) (Yl.indexAddr (l5) rfl rfl ((ay.rds (i:=2) rfl).addr (i:=2) (by omega)) (by omega)) (fw (.pointer (some ⟨a,3,none⟩)) (Yl.load rfl (bu.one Tryz.isAgg124 (((ay.rds (i:=2) rfl).elem kT bf (by decide)).at_ (k:=0) rfl))) (An rfl (Wp.region (Mz rfl (Mz rfl ?_)))))
 have cu:=ay.pk [1,0,2,3]
 obtain⟨⟨L,E⟩,Z⟩:∃ q:(List UInt8) × ReaderT,bA C 255=q:=⟨_,rfl⟩
 obtain⟨ek,bg,bi,bn,dC⟩:=Own.enter1 cu
 refine cl Tryz.call109 (eY _ _ x C ax V 255 L E bg (fun d f=>ah.rds av (by decide) n ((fun d f=>ah.rds av (by decide) l ((fun d f=>ah.rds av (by decide) c ((bi _ h) d f)) d f)) d f)) (show C.af.ls.length≤V∧C.af.ls.length≤9223372036854775807 from by omega) Z) ?_
 rintro _ eu ⟨N,G,rfl,az,j⟩
 have bq:=bn _ _ az
 replace j:ah 1 ax V C.af.ls N G E.af.ls:=j
 have cz:=(j).le
 refine Kz (.pointer (some ⟨a,3,none⟩)) ?_
 have bv:=bq.pk [1,0,2,3]
 refine bz [.string ⟨List.toArray L⟩] 3 bv Tryz.sizeOf9 ?_
 intro dE O
 refine WL.nil (bN (Fin.then (Wp.region (Kz (.int .i64 3) (Mz rfl (WL.nil (Fin.again [(8, .int .i64 3),(7, .int .i64 4),(6, .slice b 4 4),(0, .pointer (some ⟨x,0,none⟩))] ⟨rfl,rfl,rfl,rfl,trivial⟩ (sr (Kz (.bool true) (nt (Wp.seq (jt (sk (Wp.seq (bo (sr ?_))))))))))))))))
 have aA:([(Value.pointer (some ⟨a,1,none⟩)),(Value.pointer (some ⟨a,2,none⟩)),(Value.pointer (some ⟨a,3,none⟩)),(Value.pointer (some ⟨a,4,none⟩))]:List Value)[3]? =some (Value.pointer (some ⟨a,4,none⟩)):=rfl
 refine fw (.pointer (some ⟨ab b,ao b+3 *1,none⟩)) (Yl.indexAddr (l5) rfl rfl ((O.rds (i:=2) rfl).addr (i:=3) (by omega)) (by omega)) (fw (.pointer (some ⟨a,4,none⟩)) (Yl.load rfl (bu.one Tryz.isAgg124 (((O.rds (i:=2) rfl).elem kT aA (by decide)).at_ (k:=0) rfl))) (An rfl (Wp.region (Mz rfl (Mz rfl ?_)))))
 have bB:=O.pk [1,0,2,3]
 obtain⟨⟨t,o⟩,P⟩:∃ q:(List UInt8) × ReaderT,bA E 255=q:=⟨_,rfl⟩
 obtain⟨dF,aC,aD,aF,cB⟩:=Own.enter1 bB
 refine cl Tryz.call109 (eY _ _ x E N G 255 t o aC (fun d f=>ah.rds av (by decide) j ((fun d f=>ah.rds av (by decide) n ((fun d f=>ah.rds av (by decide) l ((fun d f=>ah.rds av (by decide) c ((aD _ h) d f)) d f)) d f)) d f)) (show E.af.ls.length≤G∧E.af.ls.length≤9223372036854775807 from by omega) P) ?_
 rintro _ dG ⟨Q,I,rfl,aG,p⟩
 have bC:=aF _ _ aG
 replace p:ah 1 N G E.af.ls Q I o.af.ls:=p
 have cO:=(p).le
 refine Kz (.pointer (some ⟨a,4,none⟩)) ?_
 have bE:=bC.pk [1,0,2,3]
 refine bz [.string ⟨List.toArray t⟩] 4 bE Tryz.sizeOf9 ?_
 intro dH bF
 refine WL.nil (bN (Fin.then (Wp.region (Kz (.int .i64 4) (Mz rfl (WL.nil (Fin.again [(8, .int .i64 4),(7, .int .i64 4),(6, .slice b 4 4),(0, .pointer (some ⟨x,0,none⟩))] ⟨rfl,rfl,rfl,rfl,trivial⟩ (sr (Kz (.bool false) (nt (Wp.seq (jf (Wp.exit (Fin.thenX (Fin.thenX (Fin.blockX (Fin.res0 (res0 rfl) (nt (Wp.seq ?_)))))))))))))))))))
 have bG:=bF.pk [0,1,3]
 refine Wp.region (Mz rfl ?_)
 have bH:=bG.pk [1,0,2]
 obtain⟨⟨g,R⟩,S⟩:∃ q:UInt8 × ReaderT,aT o=q:=⟨_,rfl⟩
 obtain⟨dI,aH,aI,aJ,cZ⟩:=Own.enter1 bH
 refine cl Tryz.call39 (dW _ _ x o Q I g R aH (fun d f=>ah.rds av (by decide) p ((fun d f=>ah.rds av (by decide) j ((fun d f=>ah.rds av (by decide) n ((fun d f=>ah.rds av (by decide) l ((fun d f=>ah.rds av (by decide) c ((aI _ h) d f)) d f)) d f)) d f)) d f)) (show o.af.ls.length≤I∧o.af.ls.length≤9223372036854775807 from by omega) S) ?_
 rintro _ dJ ⟨ae,af,rfl,aK,u⟩
 have bI:=aJ _ _ aK
 replace u:ah 1 Q I o.af.ls ae af R.af.ls:=u
 have df:=(u).le
 have dh:g.toNat≤255:=Nat.le_of_lt_succ (UInt8.toNat_lt _)
 refine fw (.int .i64 ((g.toNat:Nat):Int)) (Yl.int (e:=IntKind.i64.wrap ((g.toNat:Nat):Int)) yk (IntWalk.i64_in _ (by omega))) (Kz (.pointer (some ⟨a,5,none⟩)) ?_)
 have bJ:=bI.pk [1,0,2]
 refine bz [.int .i64 ((g.toNat:Nat):Int)] 5 bJ Tryz.sizeOf3 ?_
 intro dK ag
 refine ns (La ([.int .i64 ((r.toNat:Nat):Int), .string ⟨List.toArray J⟩, .string ⟨List.toArray K⟩, .string ⟨List.toArray L⟩, .string ⟨List.toArray t⟩, .int .i64 ((g.toNat:Nat):Int)]) ag 0 Tryz.isAgg64 Tryz.sizeOf64 ?_)
 have bK:=ag.pk [2,0,1]
 refine bz [.int .i64 ((r.toNat:Nat):Int), .string ⟨List.toArray J⟩, .string ⟨List.toArray K⟩, .string ⟨List.toArray L⟩, .string ⟨List.toArray t⟩, .int .i64 ((g.toNat:Nat):Int)] 0 bK Tryz.sizeOf64 ?_
 intro dM ai
 refine nt (rt (Fin.res (lQ rfl rfl (bu.agg (cs:= [.int .i64 ((r.toNat:Nat):Int), .string ⟨List.toArray J⟩, .string ⟨List.toArray K⟩, .string ⟨List.toArray L⟩, .string ⟨List.toArray t⟩, .int .i64 ((g.toNat:Nat):Int)]) Tryz.isAgg64 Tryz.sizeOf64 ((ai.cls (i:=0) rfl).lit (k:=0) (m:=6) rfl))) ?_))
 have bL:=ai.pk [2]
 have e:jR F=(aB.mk ((r.toNat:Nat):Int) J K L t ((g.toNat:Nat):Int),R):=et (aa W) (et (aa X) (et (aa Y) (et (aa Z) (et (aa P) (aa S)))))
 obtain⟨rfl,rfl⟩:=dL (e.symm.trans hr)
 exact⟨ae,af,rfl,bL,(ah.trans (ah.trans (ah.trans (ah.trans (ah.trans c l) n) j) p) u)⟩
def jr (c:ReaderT):aW × ReaderT:=
 bnd (bA c 255) fun a=>bnd (bA a.2 255) fun b=>(aW.mk a.1 b.1,b.2)
theorem p9 (w:World) (D:Nat→Prop) (o:Nat) (h:ReaderT) (d:Option Addr) (b:Nat) (r0:aW) (R:ReaderT) (H:Own w D w [blk o [.slice d h.af.ls.length b, .int .i64 h.ax] 120]) (p:Ro w D fun w'=>bD w' 1 d h.af.ls.length (List.flatMap eB h.af.ls)) (S:h.af.ls.length≤b∧h.af.ls.length≤9223372036854775807) (hr:jr h=(r0,R)):
    Calls Tryz.prog 113 #[.pointer (some ⟨o,0,none⟩)] w (cK fun v w'=> ∃ (B1ox0:Option Addr) (b1ox0:Nat),v= .agg (aW.cells r0).toArray∧Own w D w' [blk o [.slice B1ox0 R.af.ls.length b1ox0, .int .i64 R.ax] 120]∧(ah 1 d b h.af.ls B1ox0 b1ox0 R.af.ls)):=by
 refine Calls.body (args:= [.pointer (some ⟨o,0,none⟩)]) Tryz.func113 rfl rfl rfl ?_
 show Wp _ _ _ [(0, .pointer (some ⟨o,0,none⟩))] _ _
 refine sr ?_
 refine dD [.string ⟨List.toArray ([])⟩, .string ⟨List.toArray ([])⟩] 86 H ?_
 intro az aA T
 refine ns ?_
 refine dD [.string ⟨List.toArray ([])⟩, .string ⟨List.toArray ([])⟩] 86 T ?_
 intro a aB U
 refine ns (Mz rfl (Kz (.pointer (some ⟨a,0,none⟩)) (Kz (.pointer (some ⟨a,1,none⟩)) ?_)))
 refine iP [.pointer (some ⟨a,0,none⟩), .pointer (some ⟨a,1,none⟩)] 124 1 2 U ?_
 intro c aC r
 replace r:=Own.reh (y:=row c 2 2 (List.flatMap eV ([(Value.pointer (some ⟨a,0,none⟩)),(Value.pointer (some ⟨a,1,none⟩))])) 124 1) rfl r
 refine WL.do rfl (Do.call Tryz.call81 rfl ?_ (fun _ _ k=>k))
 refine Calls.body (args:= [.pointer (some ⟨o,0,none⟩), .slice c 2 2]) Tryz.func81 rfl rfl rfl ?_
 show Wp _ _ _ [(0, .pointer (some ⟨o,0,none⟩)),(1, .slice c 2 2)] _ _
 refine sr (Mz rfl (Kz (.int .i64 2) (Mn rfl (bo (Wp.unroll 200 (sr (Kz (.bool true) (nt (Wp.seq (jt (sk (Wp.seq (bo (sr ?_))))))))))))))
 have B:([(Value.pointer (some ⟨a,0,none⟩)),(Value.pointer (some ⟨a,1,none⟩))]:List Value)[0]? =some (Value.pointer (some ⟨a,0,none⟩)):=rfl
 refine fw (.pointer (some ⟨ab c,ao c+0 *1,none⟩)) (Yl.indexAddr (l5) rfl rfl ((r.rds (i:=0) rfl).addr (i:=0) (by omega)) (by omega)) (fw (.pointer (some ⟨a,0,none⟩)) (Yl.load rfl (bu.one Tryz.isAgg124 (((r.rds (i:=0) rfl).elem kT B (by decide)).at_ (k:=0) rfl))) (An rfl (Wp.region (Mz rfl (Mz rfl ?_)))))
 have V:=r.pk [3,0,1,2]
 obtain⟨⟨l,g⟩,t⟩:∃ q:(List UInt8) × ReaderT,bA h 255=q:=⟨_,rfl⟩
 obtain⟨aD,C,E,F,ak⟩:=Own.enter1 V
 refine cl Tryz.call109 (eY _ _ o h d b 255 l g C (E _ p) (show h.af.ls.length≤b∧h.af.ls.length≤9223372036854775807 from by omega) t) ?_
 rintro _ aF ⟨x,s,rfl,G,f⟩
 have W:=F _ _ G
 replace f:ah 1 d b h.af.ls x s g.af.ls:=f
 have au:=(f).le
 refine Kz (.pointer (some ⟨a,0,none⟩)) ?_
 have X:=W.pk [2,0,1,3]
 refine bz [.string ⟨List.toArray l⟩] 0 X Tryz.sizeOf9 ?_
 intro aG z
 refine WL.nil (bN (Fin.then (Wp.region (Kz (.int .i64 1) (Mz rfl (WL.nil (Fin.again [(8, .int .i64 1),(7, .int .i64 2),(6, .slice c 2 2),(0, .pointer (some ⟨o,0,none⟩))] ⟨rfl,rfl,rfl,rfl,trivial⟩ (sr (Kz (.bool true) (nt (Wp.seq (jt (sk (Wp.seq (bo (sr ?_))))))))))))))))
 have I:([(Value.pointer (some ⟨a,0,none⟩)),(Value.pointer (some ⟨a,1,none⟩))]:List Value)[1]? =some (Value.pointer (some ⟨a,1,none⟩)):=rfl
 refine fw (.pointer (some ⟨ab c,ao c+1 *1,none⟩)) (Yl.indexAddr (l5) rfl rfl ((z.rds (i:=2) rfl).addr (i:=1) (by omega)) (by omega)) (fw (.pointer (some ⟨a,1,none⟩)) (Yl.load rfl (bu.one Tryz.isAgg124 (((z.rds (i:=2) rfl).elem kT I (by decide)).at_ (k:=0) rfl))) (An rfl (Wp.region (Mz rfl (Mz rfl ?_)))))
 have Y:=z.pk [1,0,2,3]
 obtain⟨⟨n,A⟩,u⟩:∃ q:(List UInt8) × ReaderT,bA g 255=q:=⟨_,rfl⟩
 obtain⟨aH,J,K,L,ax⟩:=Own.enter1 Y
 refine cl Tryz.call109 (eY _ _ o g x s 255 n A J (fun w9 h9=>ah.rds av (by decide) f ((K _ p) w9 h9)) (show g.af.ls.length≤s∧g.af.ls.length≤9223372036854775807 from by omega) u) ?_
 rintro _ aK ⟨M,N,rfl,O,j⟩
 have Z:=L _ _ O
 replace j:ah 1 x s g.af.ls M N A.af.ls:=j
 have ay:=(j).le
 refine Kz (.pointer (some ⟨a,1,none⟩)) ?_
 have ae:=Z.pk [1,0,2,3]
 refine bz [.string ⟨List.toArray n⟩] 1 ae Tryz.sizeOf9 ?_
 intro aL af
 refine WL.nil (bN (Fin.then (Wp.region (Kz (.int .i64 2) (Mz rfl (WL.nil (Fin.again [(8, .int .i64 2),(7, .int .i64 2),(6, .slice c 2 2),(0, .pointer (some ⟨o,0,none⟩))] ⟨rfl,rfl,rfl,rfl,trivial⟩ (sr (Kz (.bool false) (nt (Wp.seq (jf (Wp.exit (Fin.thenX (Fin.thenX (Fin.blockX (Fin.res0 (res0 rfl) (nt (Wp.seq ?_)))))))))))))))))))
 have P:=af.pk [0,1,3]
 refine Wp.region (La ([.string ⟨List.toArray l⟩, .string ⟨List.toArray n⟩]) P 0 Tryz.isAgg86 Tryz.sizeOf86 ?_)
 have ag:=P.pk [2,0,1]
 refine bz [.string ⟨List.toArray l⟩, .string ⟨List.toArray n⟩] 0 ag Tryz.sizeOf86 ?_
 intro aM Q
 refine nt (rt (Fin.res (lQ rfl rfl (bu.agg (cs:= [.string ⟨List.toArray l⟩, .string ⟨List.toArray n⟩]) Tryz.isAgg86 Tryz.sizeOf86 ((Q.cls (i:=0) rfl).lit (k:=0) (m:=2) rfl))) ?_))
 have ai:=Q.pk [2]
 have e:jr h=(aW.mk l n,A):=et (aa t) (aa u)
 obtain⟨rfl,rfl⟩:=dL (e.symm.trans hr)
 exact⟨M,N,rfl,ai,(ah.trans f j)⟩
def jd (c:ReaderT):aA × ReaderT:=
 bnd (bA c 255) fun a=>bnd (aT a.2) fun b=>(aA.mk a.1 ((b.1.toNat:Nat):Int),b.2)
theorem pJ (w:World) (D:Nat→Prop) (r:Nat) (h:ReaderT) (c:Option Addr) (a:Nat) (r0:aA) (P:ReaderT) (H:Own w D w [blk r [.slice c h.af.ls.length a, .int .i64 h.ax] 120]) (o:Ro w D fun w'=>bD w' 1 c h.af.ls.length (List.flatMap eB h.af.ls)) (Q:h.af.ls.length≤a∧h.af.ls.length≤9223372036854775807) (hr:jd h=(r0,P)):
    Calls Tryz.prog 87 #[.pointer (some ⟨r,0,none⟩)] w (cK fun v w'=> ∃ (B1ox0:Option Addr) (b1ox0:Nat),v= .agg (aA.cells r0).toArray∧Own w D w' [blk r [.slice B1ox0 P.af.ls.length b1ox0, .int .i64 P.ax] 120]∧(ah 1 c a h.af.ls B1ox0 b1ox0 P.af.ls)):=by
 refine Calls.body (args:= [.pointer (some ⟨r,0,none⟩)]) Tryz.func87 rfl rfl rfl ?_
 show Wp _ _ _ [(0, .pointer (some ⟨r,0,none⟩))] _ _
 refine sr ?_
 refine dD [.string ⟨List.toArray ([])⟩, .int .i64 0] 88 H ?_
 intro az aB R
 refine ns ?_
 refine dD [.string ⟨List.toArray ([])⟩, .int .i64 0] 88 R ?_
 intro d aC S
 refine ns (Mz rfl (Kz (.pointer (some ⟨d,0,none⟩)) ?_))
 refine iP [.pointer (some ⟨d,0,none⟩)] 124 1 1 S ?_
 intro l aD p
 replace p:=Own.reh (y:=row l 1 1 (List.flatMap eV ([(Value.pointer (some ⟨d,0,none⟩))])) 124 1) rfl p
 refine WL.do rfl (Do.call Tryz.call81 rfl ?_ (fun _ _ k=>k))
 refine Calls.body (args:= [.pointer (some ⟨r,0,none⟩), .slice l 1 1]) Tryz.func81 rfl rfl rfl ?_
 show Wp _ _ _ [(0, .pointer (some ⟨r,0,none⟩)),(1, .slice l 1 1)] _ _
 refine sr (Mz rfl (Kz (.int .i64 1) (Mn rfl (bo (Wp.unroll 200 (sr (Kz (.bool true) (nt (Wp.seq (jt (sk (Wp.seq (bo (sr ?_))))))))))))))
 have A:([(Value.pointer (some ⟨d,0,none⟩))]:List Value)[0]? =some (Value.pointer (some ⟨d,0,none⟩)):=rfl
 refine fw (.pointer (some ⟨ab l,ao l+0 *1,none⟩)) (Yl.indexAddr (l5) rfl rfl ((p.rds (i:=0) rfl).addr (i:=0) (by omega)) (by omega)) (fw (.pointer (some ⟨d,0,none⟩)) (Yl.load rfl (bu.one Tryz.isAgg124 (((p.rds (i:=0) rfl).elem kT A (by decide)).at_ (k:=0) rfl))) (An rfl (Wp.region (Mz rfl (Mz rfl ?_)))))
 have T:=p.pk [3,0,1,2]
 obtain⟨⟨n,g⟩,t⟩:∃ q:(List UInt8) × ReaderT,bA h 255=q:=⟨_,rfl⟩
 obtain⟨aF,B,C,E,aj⟩:=Own.enter1 T
 refine cl Tryz.call109 (eY _ _ r h c a 255 n g B (C _ o) (show h.af.ls.length≤a∧h.af.ls.length≤9223372036854775807 from by omega) t) ?_
 rintro _ aG ⟨x,s,rfl,F,f⟩
 have U:=E _ _ F
 replace f:ah 1 c a h.af.ls x s g.af.ls:=f
 have ak:=(f).le
 refine Kz (.pointer (some ⟨d,0,none⟩)) ?_
 have V:=U.pk [2,0,1,3]
 refine bz [.string ⟨List.toArray n⟩] 0 V Tryz.sizeOf9 ?_
 intro aH W
 refine WL.nil (bN (Fin.then (Wp.region (Kz (.int .i64 1) (Mz rfl (WL.nil (Fin.again [(8, .int .i64 1),(7, .int .i64 1),(6, .slice l 1 1),(0, .pointer (some ⟨r,0,none⟩))] ⟨rfl,rfl,rfl,rfl,trivial⟩ (sr (Kz (.bool false) (nt (Wp.seq (jf (Wp.exit (Fin.thenX (Fin.thenX (Fin.blockX (Fin.res0 (res0 rfl) (nt (Wp.seq ?_)))))))))))))))))))
 have X:=W.pk [0,1,3]
 refine Wp.region (Mz rfl ?_)
 have Y:=X.pk [1,0,2]
 obtain⟨⟨b,z⟩,u⟩:∃ q:UInt8 × ReaderT,aT g=q:=⟨_,rfl⟩
 obtain⟨aI,G,I,J,au⟩:=Own.enter1 Y
 refine cl Tryz.call39 (dW _ _ r g x s b z G (fun w9 h9=>ah.rds av (by decide) f ((I _ o) w9 h9)) (show g.af.ls.length≤s∧g.af.ls.length≤9223372036854775807 from by omega) u) ?_
 rintro _ aL ⟨K,L,rfl,M,j⟩
 have Z:=J _ _ M
 replace j:ah 1 x s g.af.ls K L z.af.ls:=j
 have ax:=(j).le
 have ay:b.toNat≤255:=Nat.le_of_lt_succ (UInt8.toNat_lt _)
 refine fw (.int .i64 ((b.toNat:Nat):Int)) (Yl.int (e:=IntKind.i64.wrap ((b.toNat:Nat):Int)) yk (IntWalk.i64_in _ (by omega))) (Kz (.pointer (some ⟨d,1,none⟩)) ?_)
 have ae:=Z.pk [1,0,2]
 refine bz [.int .i64 ((b.toNat:Nat):Int)] 1 ae Tryz.sizeOf3 ?_
 intro aM N
 refine ns (La ([.string ⟨List.toArray n⟩, .int .i64 ((b.toNat:Nat):Int)]) N 0 Tryz.isAgg88 Tryz.sizeOf88 ?_)
 have af:=N.pk [2,0,1]
 refine bz [.string ⟨List.toArray n⟩, .int .i64 ((b.toNat:Nat):Int)] 0 af Tryz.sizeOf88 ?_
 intro aN O
 refine nt (rt (Fin.res (lQ rfl rfl (bu.agg (cs:= [.string ⟨List.toArray n⟩, .int .i64 ((b.toNat:Nat):Int)]) Tryz.isAgg88 Tryz.sizeOf88 ((O.cls (i:=0) rfl).lit (k:=0) (m:=2) rfl))) ?_))
 have ag:=O.pk [2]
 have e:jd h=(aA.mk n ((b.toNat:Nat):Int),z):=et (aa t) (aa u)
 obtain⟨rfl,rfl⟩:=dL (e.symm.trans hr)
 exact⟨K,L,rfl,ag,(ah.trans f j)⟩
def df (g:Int):Nat→List aW→Nat→List UInt8→Int→(List aW) × (List UInt8) × Int
  | 0,c,e,d,a=>default
  | f+1,c,e,d,a=>if((e:Nat):Int) < g then if a=0 then bnd (jr (ReaderT.mk (Ll.mk d) a)) fun b=>df g f (c++ [b.1]) (e+1) b.2.af.ls b.2.ax else(c,d,a) else(c,d,a)
def iL (a:ReaderT) (b:Int):(List aW) × ReaderT:=
 bnd (bnd (df b ((Int.toNat b - 0)+1) ([]) 0 a.af.ls a.ax) fun sLrJjL=>(sLrJjL.1,sLrJjL.2.1,sLrJjL.2.2)) fun sJrJ=>(sJrJ.1,ReaderT.mk (Ll.mk sJrJ.2.1) sJrJ.2.2)
theorem mO (w:World) (D:Nat→Prop) (u:Nat) (a:ReaderT) (b:Option Addr) (c:Nat) (d:Int) (V:List aW) (r1:ReaderT) (H:Own w D w [blk u [.slice b a.af.ls.length c, .int .i64 a.ax] 120]) (S:Ro w D fun w'=>bD w' 1 b a.af.ls.length (List.flatMap eB a.af.ls)) (aC:a.af.ls.length≤c∧a.af.ls.length≤9223372036854775807) (bu:d≤1000) (hr:iL a d=(V,r1)):
    Calls Tryz.prog 124 #[.pointer (some ⟨u,0,none⟩), .int .i64 d, .func (.func 113) #[] #[]] w (cK fun v w'=> ∃ (B0:Option Addr) (b0:Nat) (B1ox0:Option Addr) (b1ox0:Nat),v= .slice B0 V.length b0∧Own w D w' [row B0 V.length b0 (List.flatMap aW.cells V) 86 2,blk u [.slice B1ox0 r1.af.ls.length b1ox0, .int .i64 r1.ax] 120]∧(ah 1 b c a.af.ls B1ox0 b1ox0 r1.af.ls)∧(V.length≤1000)):=by
 refine Calls.body (args:= [.pointer (some ⟨u,0,none⟩), .int .i64 d, .func (.func 113) #[] #[]]) Tryz.func124 rfl rfl rfl ?_
 show Wp _ _ _ [(0, .pointer (some ⟨u,0,none⟩)),(1, .int .i64 d),(2, .func (.func 113) #[] #[])] _ _
 refine sr (Ar rfl (An rfl (Wp.seq (sr (An rfl ?_)))))
 obtain⟨W,X⟩:∃ q:((Option Addr) × Nat × (List aW) × (Option Addr) × Nat × (List UInt8) × Int)→World→Prop,q=fun(i:(Option Addr) × Nat × (List aW) × (Option Addr) × Nat × (List UInt8) × Int) w'=>Own w D w' [blk u [.slice i.2.2.2.1 i.2.2.2.2.2.1.length i.2.2.2.2.1, .int .i64 i.2.2.2.2.2.2] 120,row i.1 i.2.2.1.length i.2.1 (List.flatMap aW.cells i.2.2.1) 86 2]∧(ah 1 b c a.af.ls i.2.2.2.1 i.2.2.2.2.1 i.2.2.2.2.2.1∧0≤i.2.2.1.length∧i.2.2.2.2.2.1.length≤a.af.ls.length∧i.2.2.2.2.2.1.length≤a.af.ls.length+1∧i.2.2.1.length≤1000∧(bnd (df d ((Int.toNat d - 0)+1) ([]) 0 a.af.ls a.ax) fun sLrJjL=>(sLrJjL.1,sLrJjL.2.1,sLrJjL.2.2))=(i.2.2.1,i.2.2.2.2.2.1,i.2.2.2.2.2.2)):=⟨_,rfl⟩
 have E:∀ {F:Option Addr} {G:Nat} {n:List aW} {I:Option Addr} {J:Nat} {p:List UInt8} {K:Int} {w':World},W (F,G,n,I,J,p,K) w'↔Own w D w' [blk u [.slice I p.length J, .int .i64 K] 120,row F n.length G (List.flatMap aW.cells n) 86 2]∧ah 1 b c a.af.ls I J p∧0≤n.length∧p.length≤a.af.ls.length∧p.length≤a.af.ls.length+1∧n.length≤1000∧(bnd (df d ((Int.toNat d - 0)+1) ([]) 0 a.af.ls a.ax) fun sLrJjL=>(sLrJjL.1,sLrJjL.2.1,sLrJjL.2.2))=(n,p,K):=by intros; subst X; exact Iff.rfl
 refine Wp.joinT (fun i:(Option Addr) × Nat × (List aW) × (Option Addr) × Nat × (List UInt8) × Int=> [(7, .slice i.1 i.2.2.1.length i.2.1),(6, .slice none 0 0)]) W ?_ ?_
 refine bo ?_
 have aD:Own w D w [row none 0 0 (List.flatMap aW.cells ([])) 86 2,blk u [.slice b a.af.ls.length c, .int .i64 a.ax] 120]:=H.free (bP 86 2)
 have aF:=aD.pk [1,0]
 obtain⟨Y,Z⟩:∃ q:((Option Addr) × Nat × (List aW) × Nat × (Option Addr) × Nat × (List UInt8) × Int × Nat)→World→Prop,q=fun(i:(Option Addr) × Nat × (List aW) × Nat × (Option Addr) × Nat × (List UInt8) × Int × Nat) w'=>Own w D w' [blk u [.slice i.2.2.2.2.1 i.2.2.2.2.2.2.1.length i.2.2.2.2.2.1, .int .i64 i.2.2.2.2.2.2.2.1] 120,row i.1 i.2.2.1.length i.2.1 (List.flatMap aW.cells i.2.2.1) 86 2]∧(ah 1 b c a.af.ls i.2.2.2.2.1 i.2.2.2.2.2.1 i.2.2.2.2.2.2.1∧i.2.2.1.length≤i.2.2.2.1∧(i.2.2.2.1=0∨((i.2.2.2.1:Nat):Int)≤d)∧Int.toNat d - i.2.2.2.1 < i.2.2.2.2.2.2.2.2∧df d ((Int.toNat d - 0)+1) ([]) 0 a.af.ls a.ax=df d i.2.2.2.2.2.2.2.2 i.2.2.1 i.2.2.2.1 i.2.2.2.2.2.2.1 i.2.2.2.2.2.2.2.1):=⟨_,rfl⟩
 have L:∀ {A:Option Addr} {B:Nat} {g:List aW} {h:Nat} {r:Option Addr} {o:Nat} {j:List UInt8} {l:Int} {C:Nat} {w':World},Y (A,B,g,h,r,o,j,l,C) w'↔Own w D w' [blk u [.slice r j.length o, .int .i64 l] 120,row A g.length B (List.flatMap aW.cells g) 86 2]∧ah 1 b c a.af.ls r o j∧g.length≤h∧(h=0∨((h:Nat):Int)≤d)∧Int.toNat d - h < C∧df d ((Int.toNat d - 0)+1) ([]) 0 a.af.ls a.ax=df d C g h j l:=by intros; subst Z; exact Iff.rfl
 refine Wp.loop (fun i:(Option Addr) × Nat × (List aW) × Nat × (Option Addr) × Nat × (List UInt8) × Int × Nat=> [(7, .slice i.1 i.2.2.1.length i.2.1),(8, .int .i64 ((i.2.2.2.1:Nat):Int)),(6, .slice none 0 0),(0, .pointer (some ⟨u,0,none⟩)),(1, .int .i64 d),(2, .func (.func 113) #[] #[])]) Y (fun i=>i.2.2.2.2.2.2.2.2) (none,0, [],0,b,c,a.af.ls,a.ax,(Int.toNat d - 0)+1) ⟨rfl,rfl,rfl,rfl,rfl,rfl,trivial⟩ (L.2 ⟨aF,(show ah 1 b c a.af.ls b c a.af.ls∧0≤0∧(0=0∨((0:Nat):Int)≤d)∧Int.toNat d - 0 < ((Int.toNat d - 0)+1)∧df d ((Int.toNat d - 0)+1) ([]) 0 a.af.ls a.ax=df d ((Int.toNat d - 0)+1) ([]) 0 a.af.ls a.ax from ⟨by exact(ah.refl (by omega)),by omega,by omega,by omega,rfl⟩)⟩) ?_
 rintro ⟨A,B,g,h,r,o,j,l,C⟩ bv ae
 show Wp _ _ _ [(7, .slice A g.length B),(8, .int .i64 ((h:Nat):Int)),(6, .slice none 0 0),(0, .pointer (some ⟨u,0,none⟩)),(1, .int .i64 d),(2, .func (.func 113) #[] #[])] _ _
 obtain⟨N,t,aS,aT,aU,M⟩:=L.1 ae
 have aV:=(t).le
 obtain⟨T,af⟩:∃ q,C=q+1:=⟨C - 1,by omega⟩
 subst af
 refine Wp.seq (sr (Mz rfl (Mz rfl (Kz (.bool (decide (((h:Nat):Int) < d))) (Mz rfl ?_)))))
 by_cases f:((h:Nat):Int) < d
 refine gw (.pointer (some ⟨u,0,none⟩)) (dT f) (Yl.move rfl) (Gz (.pointer (some ⟨u,0,none⟩)) (dT f) (Gz (.pointer (some ⟨u,1,none⟩)) (dT f) (Gl (.int .i64 l) (dT f) N 0 Tryz.isAgg32 (Gz (.bool (decide (l=0))) (dT f) (fw (.bool (decide (l=0))) (Yl.pickT rfl (dT f) rfl) (nt ?_))))))
 by_cases O:l=0
 refine jT (dT O) (sk (Wp.seq (bo (Wp.region (Mz rfl (Mz rfl (Mz rfl ?_)))))))
 obtain⟨⟨x,P⟩,Q⟩:∃ q:aW × ReaderT,jr (ReaderT.mk (Ll.mk j) l)=q:=⟨_,rfl⟩
 obtain⟨bz,ag,ai,aj,aX⟩:=Own.enter1 N
 refine WL.do rfl (Do.callV Tryz.call113 rfl rfl (p9 _ _ u (ReaderT.mk (Ll.mk j) l) r o x P ag (fun w9 h9=>ah.rds av (by decide) t ((ai _ S) w9 h9)) (show j.length≤o∧j.length≤9223372036854775807 from by omega) Q) ?_)
 rintro _ bC ⟨ak,au,rfl,ax,z⟩
 have aG:=aj _ _ ax
 replace z:ah 1 r o j ak au P.af.ls:=z
 have aY:=(z).le
 refine iP (aW.cells x) 86 2 1 aG ?_
 intro aH bE U
 replace U:=Own.reh (y:=row aH 1 1 (List.flatMap aW.cells ([x])) 86 2) rfl U
 have ay:=U.pk [2,0,1]
 refine WL.do rfl (Do.appendW (k:=g.length) (m:=1) (pX) ay rfl rfl (cz Tryz.underlying82 (ay.rds (i:=1) rfl) (bK aW.one ([x]))) rfl (by omega) (s:=List.length (g++ [x])) (by first | omega | (simp only [List.length_append,List.length_cons,List.length_nil] <;> omega)) (List.flatMap_append).symm ?_)
 intro aI aJ bF aK
 have aZ:List.length (g++ [x])=g.length+1:=by simp only [List.length_append,List.length_cons,List.length_nil]
 refine Az rfl (WL.nil (bN (Fin.then (Wp.region (Mz rfl (fw (.int .i64 ((h+1:Nat):Int)) (Yl.int (e:=IntKind.i64.wrap (((h:Nat):Int)+1)) yk (by rw [IntWalk.i64_in _ (by omega)]; omega)) (Az rfl (WL.nil ?_))))))))
 have aL:=aK.pk [2,0]
 exact Fin.round (aI,aJ,(g++ [x]),h+1,ak,au,P.af.ls,P.ax,T) ⟨rfl,rfl,rfl,rfl,rfl,rfl,trivial⟩ (L.2 ⟨aL,by exact(ah.trans t z),by omega,by omega,by omega,et (M) (et (ip f) (et (ip O) (aa Q)))⟩) (by show T < T+1; omega)
 refine jF (dF O) (Wp.exit (Fin.thenX (Fin.thenX (Fin.blockX ?_))))
 have aM:=N.pk [0,1]
 exact Fin.join (A,B,g,r,o,j,l) ⟨rfl,rfl,trivial⟩ (E.2 ⟨aM,by exact t,by omega,by omega,by omega,by omega,aa (et (M) (et (ip f) (iN O)))⟩)
 refine Sz (dF f) (Sz (dF f) (Sz (dF f) (Sz (dF f) (Sz (dF f) (fw (.bool false) (Yl.pickF rfl (dF f) rfl) (nt (jf (Wp.exit (Fin.thenX (Fin.thenX (Fin.blockX ?_)))))))))))
 have aN:=N.pk [0,1]
 exact Fin.join (A,B,g,r,o,j,l) ⟨rfl,rfl,trivial⟩ (E.2 ⟨aN,by exact t,by omega,by omega,by omega,by omega,aa (et (M) (iN f))⟩)
 rintro ⟨F,G,n,I,J,p,K⟩ bG az
 show Wp _ _ _ [(7, .slice F n.length G),(6, .slice none 0 0)] _ _
 obtain⟨aO,R,bf,bg,bi,bn,aA⟩:=E.1 az
 have bq:=(R).le
 refine sr (Mz rfl (An rfl (rt (rs ?_))))
 have aP:=aO.pk [1,0]
 have e:iL a d=(n,ReaderT.mk (Ll.mk p) K):=aa aA
 obtain⟨rfl,rfl⟩:=dL (e.symm.trans hr)
 exact⟨F,G,I,J,rfl,aP,R,(by omega)⟩
def gU (c:ReaderT) (d:Nat):(List aW) × ReaderT:=
 bnd (aH c d) fun a=>bnd (iL a.2 ((a.1:Nat):Int)) fun b=>(b.1,b.2)
theorem mW (w:World) (D:Nat→Prop) (r:Nat) (f:ReaderT) (b:Option Addr) (a:Nat) (k:Nat) (x:List aW) (L:ReaderT) (H:Own w D w [blk r [.slice b f.af.ls.length a, .int .i64 f.ax] 120]) (j:Ro w D fun w'=>bD w' 1 b f.af.ls.length (List.flatMap eB f.af.ls)) (M:f.af.ls.length≤a∧f.af.ls.length≤9223372036854775807) (Y:k≤1000) (hr:gU f k=(x,L)):
    Calls Tryz.prog 112 #[.pointer (some ⟨r,0,none⟩), .int .u64 ((k:Nat):Int), .func (.func 113) #[] #[]] w (cK fun v w'=> ∃ (R:Option Addr) (S:Nat) (B1ox0:Option Addr) (b1ox0:Nat),v= .slice R x.length S∧Own w D w' [row R x.length S (List.flatMap aW.cells x) 86 2,blk r [.slice B1ox0 L.af.ls.length b1ox0, .int .i64 L.ax] 120]∧(ah 1 b a f.af.ls B1ox0 b1ox0 L.af.ls)∧(x.length≤1000)):=by
 refine Calls.body (args:= [.pointer (some ⟨r,0,none⟩), .int .u64 ((k:Nat):Int), .func (.func 113) #[] #[]]) Tryz.func112 rfl rfl rfl ?_
 show Wp _ _ _ [(0, .pointer (some ⟨r,0,none⟩)),(1, .int .u64 ((k:Nat):Int)),(2, .func (.func 113) #[] #[])] _ _
 refine sr (Ar rfl (Mz rfl (Mz rfl (Mz rfl ?_))))
 obtain⟨⟨h,d⟩,m⟩:∃ q:Nat × ReaderT,aH f k=q:=⟨_,rfl⟩
 obtain⟨Z,y,z,A,T⟩:=Own.enter1 H
 refine cl Tryz.call79 (dR _ _ r f b a k h d y (z _ j) (show f.af.ls.length≤a∧f.af.ls.length≤9223372036854775807 from by omega) m) ?_
 rintro _ ae ⟨s,l,rfl,B,c,n⟩
 have N:=A _ _ B
 replace c:ah 1 b a f.af.ls s l d.af.ls:=c
 have U:=(c).le
 replace n:h≤k:=n
 refine fw (.int .i64 ((h:Nat):Int)) (Yl.int (e:=IntKind.i64.wrap ((h:Nat):Int)) yk (IntWalk.i64_in _ (by omega))) (Mz rfl ?_)
 obtain⟨⟨t,u⟩,o⟩:∃ q:(List aW) × ReaderT,iL d ((h:Nat):Int)=q:=⟨_,rfl⟩
 obtain⟨af,C,E,F,V⟩:=Own.enter1 N
 refine cl Tryz.call124 (mO _ _ r d s l ((h:Nat):Int) t u C (fun w9 h9=>ah.rds av (by decide) c ((E _ j) w9 h9)) (show d.af.ls.length≤l∧d.af.ls.length≤9223372036854775807 from by omega) (by omega) o) ?_
 rintro _ aj ⟨O,P,G,I,rfl,J,g,p⟩
 have K:=F _ _ J
 replace g:ah 1 s l d.af.ls G I u.af.ls:=g
 have W:=(g).le
 have X:=K.rowC (i:=0) rfl
 replace p:t.length≤1000:=p
 refine An rfl (rt (rs ?_))
 have Q:=K.pk [0,1]
 have e:gU f k=(t,u):=et (aa m) (aa o)
 obtain⟨rfl,rfl⟩:=dL (e.symm.trans hr)
 exact⟨O,P,G,I,rfl,Q,(ah.trans c g),(by omega)⟩
def iT (d:ReaderT):aX × ReaderT:=
 bnd (fT d) fun a=>bnd (bA a.2 255) fun b=>bnd (gU b.2 255) fun c=>(aX.mk a.1 b.1 (Ll.mk c.1),c.2)
theorem oP (w:World) (D:Nat→Prop) (t:Nat) (o:ReaderT) (c:Option Addr) (a:Nat) (N:aX) (r1:ReaderT) (H:Own w D w [blk t [.slice c o.af.ls.length a, .int .i64 o.ax] 120]) (g:Ro w D fun w'=>bD w' 1 c o.af.ls.length (List.flatMap eB o.af.ls)) (az:o.af.ls.length≤a∧o.af.ls.length≤9223372036854775807) (hr:iT o=(N,r1)):
    Calls Tryz.prog 85 #[.pointer (some ⟨t,0,none⟩)] w (cK fun v w'=> ∃ (C:Option Addr) (E:Nat) (B1ox0:Option Addr) (b1ox0:Nat),v= .agg #[.bool N.dX, .string ⟨List.toArray N.au⟩, .slice C N.ay.ls.length E]∧Own w D w' [row C N.ay.ls.length E (List.flatMap aW.cells N.ay.ls) 86 2,blk t [.slice B1ox0 r1.af.ls.length b1ox0, .int .i64 r1.ax] 120]∧(ah 1 c a o.af.ls B1ox0 b1ox0 r1.af.ls)):=by
 refine Calls.body (args:= [.pointer (some ⟨t,0,none⟩)]) Tryz.func85 rfl rfl rfl ?_
 show Wp _ _ _ [(0, .pointer (some ⟨t,0,none⟩))] _ _
 refine sr ?_
 refine dD [.bool false, .string ⟨List.toArray ([])⟩, .slice none 0 0] 84 H ?_
 intro aY aZ aA
 refine ns (Mz rfl ?_)
 have aB:=aA.pk [1,0]
 obtain⟨⟨h,j⟩,F⟩:∃ q:Bool × ReaderT,fT o=q:=⟨_,rfl⟩
 obtain⟨bf,O,P,Q,aP⟩:=Own.enter1 aB
 refine cl Tryz.call80 (mq _ _ t o c a h j O (P _ g) (show o.af.ls.length≤a∧o.af.ls.length≤9223372036854775807 from by omega) F) ?_
 rintro _ bg ⟨K,A,rfl,R,b⟩
 have aC:=Q _ _ R
 replace b:ah 1 c a o.af.ls K A j.af.ls:=b
 have aQ:=(b).le
 refine Kz (.agg #[.bool h, .string ⟨List.toArray ([])⟩, .slice none 0 0]) ?_
 refine dD [.bool false, .string ⟨List.toArray ([])⟩, .slice none 0 0] 84 aC ?_
 intro d bi aD
 refine bz [.bool h, .string ⟨List.toArray ([])⟩, .slice none 0 0] 0 aD Tryz.sizeOf84 ?_
 intro bn aF
 refine ns (Mz rfl (Kz (.pointer (some ⟨d,1,none⟩)) ?_))
 refine iP [.pointer (some ⟨d,1,none⟩)] 124 1 1 aF ?_
 intro r bq u
 replace u:=Own.reh (y:=row r 1 1 (List.flatMap eV ([(Value.pointer (some ⟨d,1,none⟩))])) 124 1) rfl u
 refine WL.do rfl (Do.call Tryz.call81 rfl ?_ (fun _ _ k=>k))
 refine Calls.body (args:= [.pointer (some ⟨t,0,none⟩), .slice r 1 1]) Tryz.func81 rfl rfl rfl ?_
 show Wp _ _ _ [(0, .pointer (some ⟨t,0,none⟩)),(1, .slice r 1 1)] _ _
 refine sr (Mz rfl (Kz (.int .i64 1) (Mn rfl (bo (Wp.unroll 200 (sr (Kz (.bool true) (nt (Wp.seq (jt (sk (Wp.seq (bo (sr ?_))))))))))))))
 have S:([(Value.pointer (some ⟨d,1,none⟩))]:List Value)[0]? =some (Value.pointer (some ⟨d,1,none⟩)):=rfl
 refine fw (.pointer (some ⟨ab r,ao r+0 *1,none⟩)) (Yl.indexAddr (l5) rfl rfl ((u.rds (i:=0) rfl).addr (i:=0) (by omega)) (by omega)) (fw (.pointer (some ⟨d,1,none⟩)) (Yl.load rfl (bu.one Tryz.isAgg124 (((u.rds (i:=0) rfl).elem kT S (by decide)).at_ (k:=0) rfl))) (An rfl (Wp.region (Mz rfl (Mz rfl ?_)))))
 have aG:=u.pk [2,0,1,3]
 obtain⟨⟨s,l⟩,G⟩:∃ q:(List UInt8) × ReaderT,bA j 255=q:=⟨_,rfl⟩
 obtain⟨bv,T,U,V,aR⟩:=Own.enter1 aG
 refine cl Tryz.call109 (eY _ _ t j K A 255 s l T (fun W X=>ah.rds av (by decide) b ((U _ g) W X)) (show j.af.ls.length≤A∧j.af.ls.length≤9223372036854775807 from by omega) G) ?_
 rintro _ bB ⟨L,B,rfl,Y,f⟩
 have aH:=V _ _ Y
 replace f:ah 1 K A j.af.ls L B l.af.ls:=f
 have aS:=(f).le
 refine Kz (.pointer (some ⟨d,1,none⟩)) ?_
 have aI:=aH.pk [2,0,1,3]
 refine bz [.string ⟨List.toArray s⟩] 1 aI Tryz.sizeOf9 ?_
 intro bC aJ
 refine WL.nil (bN (Fin.then (Wp.region (Kz (.int .i64 1) (Mz rfl (WL.nil (Fin.again [(8, .int .i64 1),(7, .int .i64 1),(6, .slice r 1 1),(0, .pointer (some ⟨t,0,none⟩))] ⟨rfl,rfl,rfl,rfl,trivial⟩ (sr (Kz (.bool false) (nt (Wp.seq (jf (Wp.exit (Fin.thenX (Fin.thenX (Fin.blockX (Fin.res0 (res0 rfl) (nt (Wp.seq ?_)))))))))))))))))))
 have aK:=aJ.pk [0,1,3]
 refine Wp.region (Mz rfl ?_)
 have aL:=aK.pk [1,0,2]
 obtain⟨⟨n,M⟩,I⟩:∃ q:(List aW) × ReaderT,gU l 255=q:=⟨_,rfl⟩
 obtain⟨bE,Z,ae,af,aT⟩:=Own.enter1 aL
 refine cl Tryz.call112 (mW _ _ t l L B 255 n M Z (fun W X=>ah.rds av (by decide) f ((fun W X=>ah.rds av (by decide) b ((ae _ g) W X)) W X)) (show l.af.ls.length≤B∧l.af.ls.length≤9223372036854775807 from by omega) (by omega) I) ?_
 rintro _ bF ⟨x,z,ag,ai,rfl,aj,p,J⟩
 have ak:=af _ _ aj
 replace p:ah 1 L B l.af.ls ag ai M.af.ls:=p
 have aU:=(p).le
 have aV:=ak.rowC (i:=0) rfl
 replace J:n.length≤1000:=J
 refine Kz (.pointer (some ⟨d,2,none⟩)) ?_
 have aM:=ak.pk [2,0,1,3]
 refine bz [.slice x n.length z] 2 aM Tryz.sizeOf82 ?_
 intro bG au
 refine ns (La ([.bool h, .string ⟨List.toArray s⟩, .slice x n.length z]) au 0 Tryz.isAgg84 Tryz.sizeOf84 ?_)
 have aN:=au.pk [3,0,1,2]
 refine bz [.bool h, .string ⟨List.toArray s⟩, .slice x n.length z] 0 aN Tryz.sizeOf84 ?_
 intro bH ax
 refine nt (rt (Fin.res (lQ rfl rfl (bu.agg (cs:= [.bool h, .string ⟨List.toArray s⟩, .slice x n.length z]) Tryz.isAgg84 Tryz.sizeOf84 ((ax.cls (i:=0) rfl).lit (k:=0) (m:=3) rfl))) ?_))
 have aO:=ax.pk [2,3]
 have e:iT o=(aX.mk h s (Ll.mk n),M):=et (aa F) (et (aa G) (aa I))
 obtain⟨rfl,rfl⟩:=dL (e.symm.trans hr)
 exact⟨x,z,ag,ai,rfl,aO,(ah.trans (ah.trans b f) p)⟩
end Go.Proofs.YtccjclalngabhaaGreat
