/-
 record: what is read.
-/
import Derived.Test.YtcnkpjheifkgnaaGreatRcA
namespace Go.Proofs.YtcnkpjheifkgnaaGreat
set_option maxRecDepth 100000
open Go.RowKit
set_option linter.unusedVariables false
set_option linter.unusedSectionVars false
set_option linter.unusedSimpArgs false
def di:List UInt8→Nat→Unit ⊕ Int
  | [],a=>Sum.inl ()
  | b::c,a=>if((a:Nat):Int)=10 then Sum.inr (0) else if((b.toNat:Nat):Int) < 128 then Sum.inr ((a+1:Nat):Int) else di c (a+1)
def kL (a:List UInt8):Int:=
 lp (di a 0) fun _=>0
theorem qi (w:World) (D:Nat→Prop) (l:Option Addr) (z p:Nat) (b:List UInt8) (r:Int) (H:Own w D w []) (n:Ro w D fun w'=>bn w' 1 l z (List.flatMap eB b)) (A:z=b.length) (K:b.length≤9223372036854775807) (hr:kL b=r):
    Calls Tryz.prog 135 #[.slice l z p] w (dE fun v w'=>v= .int .i64 r∧Own w D w' []∧(0≤r∧r≤10∧r≤((b.length:Nat):Int))):=by
 subst A
 refine zg (args:= [.slice l b.length p]) Tryz.func135 rfl rfl rfl ?_
 show Wp _ _ _ [(0, .slice l b.length p)] _ _
 refine sr (An rfl (ze (sr (Mz rfl (Kz (.int .i64 ((b.length:Nat):Int)) (Mn rfl (bo ?_)))))))
 have B:Own w D w []:=H.pk []
 obtain⟨s,t⟩:∃ q:Nat→World→Prop,q=fun(i:Nat) w'=>Own w D w' []∧(i≤b.length∧i≤10∧di b 0=di (List.drop i b) i):=⟨_,rfl⟩
 have f:∀ {a:Nat} {w':World},s a w'↔Own w D w' []∧a≤b.length∧a≤10∧di b 0=di (List.drop a b) a:=by intros; subst t; exact Iff.rfl
 refine Wp.loop (fun i:Nat=> [(2, .int .i64 0),(7, .int .i64 ((i:Nat):Int)),(6, .int .i64 ((b.length:Nat):Int)),(5, .slice l b.length p)]) s (fun i=>b.length - i) 0 ⟨rfl,rfl,rfl,rfl,trivial⟩ (f.2 ⟨B,by omega,by omega,rfl⟩) ?_
 rintro a L u
 show Wp _ _ _ [(2, .int .i64 0),(7, .int .i64 ((a:Nat):Int)),(6, .int .i64 ((b.length:Nat):Int)),(5, .slice l b.length p)] _ _
 obtain⟨c,I,J,d⟩:=f.1 u
 refine sr (Kz (.bool (decide (((a:Nat):Int) < ((b.length:Nat):Int)))) (nt (ze ?_)))
 by_cases x:((a:Nat):Int) < ((b.length:Nat):Int)
 obtain⟨o,m⟩:=eH (ls:=b) (i:=a) bi (by decide) (c.ro n) (by first | omega | (simp; done) | (simp; omega))
 have g:=drop_at m
 refine jT (dT x) (sk (ze (bo (sr (Mz rfl (fw (.pointer (some ⟨ab l,ao l+a *1,none⟩)) (zn (lD) rfl rfl ((c.ro n).addr (i:=a) (by omega)) (by omega)) (fw (.int .u8 ((o.toNat:Nat):Int)) (zi rfl (bf.one Tryz.isAgg5 (((c.ro n).elem bi m (by decide)).at_ (k:=0) rfl))) (Az rfl (An rfl (ze (sr (Mz rfl (Kz (.bool (decide (((a:Nat):Int)=10))) (nt ?_))))))))))))))
 by_cases h:((a:Nat):Int)=10
 refine jT (dT h) (sr (An rfl (rt (tR (bR (tR (tR (bR (tR (rs ?_))))))))))
 have C:=c.pk []
 obtain rfl:_=0:=hr.symm.trans (fE (et (d) (et (congrArg (fun q=>di q a) g) (ip h))))
 exact⟨rfl,C,(by omega)⟩
 refine jF (dF h) (sk (sr (Mz rfl (Kz (.bool (decide (((o.toNat:Nat):Int) < 128))) (nt ?_)))))
 by_cases j:((o.toNat:Nat):Int) < 128
 refine jT (dT j) (sr (Mz rfl (fw (.int .i64 ((a+1:Nat):Int)) (zy (e:=IntKind.i64.wrap (((a:Nat):Int)+1)) yk (by rw [Cb _ (by omega)]; omega)) (An rfl (rt (bR (tR (tR (bR (tR (rs ?_)))))))))))
 have E:=c.pk []
 obtain rfl:_=((a+1:Nat):Int):=hr.symm.trans (fE (et (d) (et (congrArg (fun q=>di q a) g) (et (iN h) (ip j)))))
 exact⟨rfl,E,(by omega)⟩
 refine jF (dF j) (zS (bN (zu (zb (fw (.int .i64 ((a+1:Nat):Int)) (zy (e:=IntKind.i64.wrap (((a:Nat):Int)+1)) yk (by rw [Cb _ (by omega)]; omega)) (Mz rfl (zq ?_)))))))
 have F:=c.pk []
 exact zH (a+1) ⟨rfl,rfl,rfl,rfl,trivial⟩ (f.2 ⟨F,by omega,by omega,et (d) (et (congrArg (fun q=>di q a) g) (et (iN h) (iN j)))⟩) (by show b.length - (a+1) < b.length - a; omega)
 refine jF (dF x) (Wp.exit (zk ?_))
 have y:di b 0=Sum.inl ():=et (d) (et (congrArg (fun q=>di q a) (eF (ls:=b) (i:=a) (by omega))) rfl)
 refine zk (zA (zu (sr (An rfl (rt (rs ?_))))))
 have G:=c.pk []
 obtain rfl:_=0:=hr.symm.trans (gL y)
 exact⟨rfl,G,(by omega)⟩
def gy (f:List UInt8) (c:Int):Nat→Nat→Nat→Nat
  | 0,b,a=>b
  | e+1,b,a=>bnd (List.getD (List.take (Int.toNat c) f) a default) fun d=>gy f c e (mY b (fZ ((d &&& (127:UInt8)).toNat) (7 *a))) (a+1)
def bU (c:List UInt8):Nat × Int × Int:=
 bnd (kL c) fun a=>if a=0 then if((c.length:Nat):Int) ≥ 10 then(0,0,11) else(0,0,10) else bnd (List.getD c (Int.toNat (a - 1)) default) fun b=>bnd (if a > 1 then if((b.toNat:Nat):Int)=0 then true else if a=10 then decide (((b.toNat:Nat):Int) > 1) else false else false) fun sJrbfbJ=>if sJrbfbJ=true then(0,0,11) else bnd (gy c a (Int.toNat a) 0 0) fun sLrbfbJafL=>(sLrbfbJafL,a,0)
theorem mH (w:World) (D:Nat→Prop) (t:Option Addr) (Z E:Nat) (d:List UInt8) (r0:Nat) (L:Int) (r2:Int) (H:Own w D w []) (s:Ro w D fun w'=>bn w' 1 t Z (List.flatMap eB d)) (ag:Z=d.length) (aI:d.length≤9223372036854775807) (aJ:d.length≤E) (hr:bU d=(r0,L,r2)):
    Calls Tryz.prog 112 #[.slice t Z E] w (dE fun v w'=>v= .tuple #[.int .u64 ((r0:Nat):Int), .int .i64 L, .int .i64 r2]∧Own w D w' []∧(¬ (r2=0)∨(1≤L∧L≤10∧L≤((d.length:Nat):Int)))∧(r0≤18446744073709551615)):=by
 subst ag
 refine zg (args:= [.slice t d.length E]) Tryz.func112 rfl rfl rfl ?_
 show Wp _ _ _ [(0, .slice t d.length E)] _ _
 refine sr (Az rfl (Az rfl (Ar rfl (Mz rfl ?_))))
 obtain⟨a,o⟩:∃ q,kL d=q:=⟨_,rfl⟩
 obtain⟨aK,M,N,O,aB⟩:=zt H
 refine cl Tryz.call135 (qi _ _ t d.length E d a M (N _ s) rfl (by omega) o) ?_
 rintro _ aL ⟨rfl,P,G⟩
 have l:=O _ _ P
 replace G:0≤a∧a≤10∧a≤((d.length:Nat):Int):=G
 refine An rfl (ze (sr (Mz rfl (Kz (.bool (decide (a=0))) (nt ?_)))))
 by_cases u:a=0
 refine jT (dT u) (ze (sr (Mz rfl (Kz (.int .i64 ((d.length:Nat):Int)) (Kz (.bool (decide (((d.length:Nat):Int) ≥ 10))) (nt ?_))))))
 by_cases F:((d.length:Nat):Int) ≥ 10
 refine jT (dT F) (sr (Az rfl (Az rfl (An rfl (rt (tR (tR (zO (nN rfl rfl rfl rfl) ?_))))))))
 have ah:=l.pk []
 have e:bU d=(0,0,11):=et (ae o) (et (ip u) (ip F))
 obtain⟨rfl,rfl,rfl⟩:=qa (e.symm.trans hr)
 exact⟨rfl,ah,(by omega),(by omega)⟩
 refine jF (dF F) (sk (sr (Az rfl (Az rfl (An rfl (rt (tR (zO (nN rfl rfl rfl rfl) ?_))))))))
 have ai:=l.pk []
 have e:bU d=(0,0,10):=et (ae o) (et (ip u) (iN F))
 obtain⟨rfl,rfl,rfl⟩:=qa (e.symm.trans hr)
 exact⟨rfl,ai,(by omega),(by omega)⟩
 refine jF (dF u) (sk (sr (Mz rfl (Mz rfl (fw (.int .i64 ((Int.toNat (a - 1):Nat):Int)) (zy (e:=IntKind.i64.wrap (a - 1)) yk (by rw [Cb _ (by omega)]; omega)) ?_)))))
 obtain⟨f,x⟩:=eH (ls:=d) (i:=Int.toNat (a - 1)) bi (by decide) (l.ro s) (by first | omega | (simp; done) | (simp; omega))
 refine fw (.pointer (some ⟨ab t,ao t+(Int.toNat (a - 1)) *1,none⟩)) (zn (lD) rfl rfl ((l.ro s).addr (i:=Int.toNat (a - 1)) (by omega)) (by omega)) (fw (.int .u8 ((f.toNat:Nat):Int)) (zi rfl (bf.one Tryz.isAgg5 (((l.ro s).elem bi x (by decide)).at_ (k:=0) rfl))) (An rfl (ze (ze ?_))))
 obtain⟨Q,R⟩:∃ q:Bool→World→Prop,q=fun(i:Bool) w'=>Own w D w' []∧((if a > 1 then if((f.toNat:Nat):Int)=0 then true else if a=10 then decide (((f.toNat:Nat):Int) > 1) else false else false)=i):=⟨_,rfl⟩
 have p:∀ {y:Bool} {w':World},Q y w'↔Own w D w' []∧(if a > 1 then if((f.toNat:Nat):Int)=0 then true else if a=10 then decide (((f.toNat:Nat):Int) > 1) else false else false)=y:=by intros; subst R; exact Iff.rfl
 refine Ae (fun i:Bool=> [(35, .bool i),(5, .int .i64 a),(4, .int .i64 0),(3, .int .i64 0),(2, .int .u64 0),(0, .slice t d.length E)]) Q ?_ ?_
 refine zb (Mz rfl (Kz (.bool (decide (a > 1))) (Mz rfl ?_)))
 by_cases j:a > 1
 refine gw (.int .u8 ((f.toNat:Nat):Int)) (dT j) (zo rfl) (Gz (.bool (decide (((f.toNat:Nat):Int)=0))) (dT j) (fw (.bool (decide (((f.toNat:Nat):Int)=0))) (zf rfl (dT j) rfl) (Mz rfl ?_)))
 by_cases c:((f.toNat:Nat):Int)=0
 refine Sz (dT c) (Sz (dT c) (Sz (dT c) (zP rfl rfl rfl (zP rfl rfl rfl (Sz (dT c) (fw (.bool true) (zf rfl (dT c) rfl) (zq ?_)))))))
 have aj:=l.pk []
 exact zU true ⟨rfl,rfl,rfl,rfl,rfl,rfl,trivial⟩ (p.2 ⟨aj,et (ip j) (ip c)⟩)
 refine gw (.int .i64 a) (dF c) (zo rfl) (Gz (.bool (decide (a=10))) (dF c) (gw (.bool (decide (a=10))) (dF c) (zo rfl) ?_))
 by_cases r:a=10
 refine gw (.int .u8 ((f.toNat:Nat):Int)) (dT r) (zo rfl) (Gz (.bool (decide (((f.toNat:Nat):Int) > 1))) (dT r) (gw (.bool (decide (((f.toNat:Nat):Int) > 1))) (dF c) (zf rfl (dT r) rfl) (fw (.bool (decide (((f.toNat:Nat):Int) > 1))) (zh rfl (dF c) rfl) (zq ?_))))
 have ak:=l.pk []
 exact zU (decide (((f.toNat:Nat):Int) > 1)) ⟨rfl,rfl,rfl,rfl,rfl,rfl,trivial⟩ (p.2 ⟨ak,et (ip j) (et (iN c) (ip r))⟩)
 refine Sz (dF r) (Sz (dF r) (gw (.bool false) (dF c) (zh rfl (dF r) rfl) (fw (.bool false) (zh rfl (dF c) rfl) (zq ?_))))
 have au:=l.pk []
 exact zU false ⟨rfl,rfl,rfl,rfl,rfl,rfl,trivial⟩ (p.2 ⟨au,et (ip j) (et (iN c) (iN r))⟩)
 refine Sz (dF j) (Sz (dF j) (fw (.bool false) (zh rfl (dF j) rfl) (Mz rfl (gw (.int .i64 a) rfl (zo rfl) (Gz (.bool (decide (a=10))) rfl (gw (.bool (decide (a=10))) rfl (zo rfl) ?_))))))
 have z:(decide (a=10))=false:=(dF (by omega))
 refine Sz z (Sz z (gw (.bool false) rfl (zh rfl z rfl) (fw (.bool false) (zh rfl rfl rfl) (zq ?_))))
 have av:=l.pk []
 exact zU false ⟨rfl,rfl,rfl,rfl,rfl,rfl,trivial⟩ (p.2 ⟨av,iN j⟩)
 rintro y aM S
 show Wp _ _ _ [(35, .bool y),(5, .int .i64 a),(4, .int .i64 0),(3, .int .i64 0),(2, .int .u64 0),(0, .slice t d.length E)] _ _
 obtain⟨T,I⟩:=p.1 S
 rcases Cf (y) with A | A
 refine jT A (sr (Az rfl (Az rfl (An rfl (rt (tR (zO (nN rfl rfl rfl rfl) ?_)))))))
 have ax:=T.pk []
 have e:bU d=(0,0,11):=et (ae o) (et (iN u) (et (ae (bJ x)) (et (ae I) (ip A))))
 obtain⟨rfl,rfl,rfl⟩:=qa (e.symm.trans hr)
 exact⟨rfl,ax,(by omega),(by omega)⟩
 refine jF A (sk (sr (An rfl (ze (sr (Mz rfl (fw (.int .i64 ((Int.toNat a:Nat):Int)) (zy (e:=a) (zo rfl) (by omega)) (fw (.slice t (Int.toNat a) E) (Bv (lD) rfl rfl (by omega)) (Kz (.int .i64 ((Int.toNat a:Nat):Int)) (Mn rfl (bo ?_)))))))))))
 have ay:=T.pk []
 obtain⟨U,V⟩:∃ q:(Nat × Nat)→World→Prop,q=fun(i:Nat × Nat) w'=>Own w D w' []∧(i.2≤Int.toNat a∧(i.1≤18446744073709551615∧i.2≤18446744073709551615)∧gy d a (Int.toNat a) 0 0=gy d a ((Int.toNat a) - i.2) i.1 i.2):=⟨_,rfl⟩
 have B:∀ {g:Nat} {b:Nat} {w':World},U (g,b) w'↔Own w D w' []∧b≤Int.toNat a∧(g≤18446744073709551615∧b≤18446744073709551615)∧gy d a (Int.toNat a) 0 0=gy d a ((Int.toNat a) - b) g b:=by intros; subst V; exact Iff.rfl
 refine Wp.loop (fun i:Nat × Nat=> [(7, .int .u64 ((i.1:Nat):Int)),(40, .int .i64 ((i.2:Nat):Int)),(39, .int .i64 ((Int.toNat a:Nat):Int)),(38, .slice t (Int.toNat a) E),(5, .int .i64 a),(4, .int .i64 0),(3, .int .i64 0),(2, .int .u64 0)]) U (fun i=>(Int.toNat a) - i.2) (0,0) ⟨rfl,rfl,rfl,rfl,rfl,rfl,rfl,rfl,trivial⟩ (B.2 ⟨ay,by omega,by omega,rfl⟩) ?_
 rintro ⟨g,b⟩ aN W
 show Wp _ _ _ [(7, .int .u64 ((g:Nat):Int)),(40, .int .i64 ((b:Nat):Int)),(39, .int .i64 ((Int.toNat a:Nat):Int)),(38, .slice t (Int.toNat a) E),(5, .int .i64 a),(4, .int .i64 0),(3, .int .i64 0),(2, .int .u64 0)] _ _
 obtain⟨C,aC,aD,J⟩:=B.1 W
 refine sr (Kz (.bool (decide (((b:Nat):Int) < ((Int.toNat a:Nat):Int)))) (nt (ze ?_)))
 by_cases X:((b:Nat):Int) < ((Int.toNat a:Nat):Int)
 refine jT (dT X) (sk (ze (bo (sr (Mz rfl ?_)))))
 obtain⟨h,K⟩:=eH (ls:=(List.take (Int.toNat a) d)) (i:=b) bi (by decide) (AR (hi:=Int.toNat a) bi (C.ro s) (by omega)) (by first | omega | (simp; done) | (simp; omega))
 refine fw (.pointer (some ⟨ab t,ao t+b *1,none⟩)) (zn (lD) rfl rfl ((AR (hi:=Int.toNat a) bi (C.ro s) (by omega)).addr (i:=b) (by omega)) (by omega)) (fw (.int .u8 ((h.toNat:Nat):Int)) (zi rfl (bf.one Tryz.isAgg5 (((AR (hi:=Int.toNat a) bi (C.ro s) (by omega)).elem bi K (by decide)).at_ (k:=0) rfl))) (Az rfl (An rfl (zb (Mz rfl (Mz rfl (fw (.int .u8 (((h &&& (127:UInt8)).toNat:Nat):Int)) (zy (e:=IntKind.u8.wrap (((BitVec.ofInt 8 ((h.toNat:Nat):Int) &&& BitVec.ofInt 8 127).toNat:Nat):Int)) yk (u8_and h (127:UInt8))) ?_)))))))
 have aF:(h &&& (127:UInt8)).toNat≤255:=Nat.le_of_lt_succ (UInt8.toNat_lt _)
 refine fw (.int .u64 (((h &&& (127:UInt8)).toNat:Nat):Int)) (zy (e:=IntKind.u64.wrap (((h &&& (127:UInt8)).toNat:Nat):Int)) yk (IntWalk.u64_in _ (by omega))) (Mz rfl (fw (.int .u64 ((b:Nat):Int)) (zy (e:=IntKind.u64.wrap ((b:Nat):Int)) yk (IntWalk.u64_in _ (by omega))) (fw (.int .u64 ((7 *b:Nat):Int)) (zy (e:=IntKind.u64.wrap (7 *((b:Nat):Int))) yk (by rw [IntWalk.u64_in _ (by omega)]; omega)) ?_)))
 have aG:fZ ((h &&& (127:UInt8)).toNat) (7 *b)≤18446744073709551615:=oz _ _
 refine fw (.int .u64 ((fZ ((h &&& (127:UInt8)).toNat) (7 *b):Nat):Int)) (zy (A7 (m:=7 *b) rfl rfl) (gI _)) ?_
 have aH:mY g (fZ ((h &&& (127:UInt8)).toNat) (7 *b))≤18446744073709551615:=uj _ _
 refine fw (.int .u64 ((mY g (fZ ((h &&& (127:UInt8)).toNat) (7 *b)):Nat):Int)) (zy (e:=IntKind.u64.wrap (((BitVec.ofInt 64 ((g:Nat):Int) ||| BitVec.ofInt 64 ((fZ ((h &&& (127:UInt8)).toNat) (7 *b):Nat):Int)).toNat:Nat):Int)) yk (gI _)) (Az rfl (zq (bN (zu (zb (fw (.int .i64 ((b+1:Nat):Int)) (zy (e:=IntKind.i64.wrap (((b:Nat):Int)+1)) yk (by rw [Cb _ (by omega)]; omega)) (Mz rfl (zq ?_))))))))
 have az:=C.pk []
 exact zH (mY g (fZ ((h &&& (127:UInt8)).toNat) (7 *b)),b+1) ⟨rfl,rfl,rfl,rfl,rfl,rfl,rfl,rfl,trivial⟩ (B.2 ⟨az,by omega,by omega,et (J) (et (congrArg (fun q=>gy d a q g b) (ow (n:=Int.toNat a) (i:=b) (by omega))) (ae (bJ K)))⟩) (by show (Int.toNat a) - (b+1) < (Int.toNat a) - b; omega)
 refine jF (dF X) (Wp.exit (zk ?_))
 have Y:gy d a (Int.toNat a) 0 0=g:=et (J) (et (congrArg (fun q=>gy d a q g b) (qC (n:=Int.toNat a) (i:=b) (by omega))) rfl)
 refine zk (zA (zu (sr (Mz rfl (Mz rfl (Az rfl (Az rfl (An rfl (rt (zO (nN rfl rfl rfl rfl) ?_))))))))))
 have aA:=C.pk []
 have e:bU d=(g,a,0):=et (ae o) (et (iN u) (et (ae (bJ x)) (et (ae I) (et (jV A) (ae Y)))))
 obtain⟨rfl,rfl,rfl⟩:=qa (e.symm.trans hr)
 exact⟨rfl,aA,(by omega),(by omega)⟩
def dH (b:List UInt8) (p1:Int):(List UInt8) × Int × Int:=
 bnd (bU b) fun a=>if a.2.2=0 then if p1 < 0 then([],0,2) else if((a.1:Nat):Int) > ((Int.toNat (IntKind.u64.wrap p1):Nat):Int) then([],0,2) else if((a.1:Nat):Int) > ((Int.toNat (((b.length:Nat):Int) - a.2.1):Nat):Int) then([],0,10) else((List.take ((Int.toNat (a.2.1+((a.1:Nat):Int))) - (Int.toNat a.2.1)) (List.drop (Int.toNat a.2.1) b)),a.2.1+((a.1:Nat):Int),0) else([],0,a.2.2)
theorem o8 (w:World) (D:Nat→Prop) (p:Option Addr) (z o:Nat) (d:List UInt8) (p1:Int) (A:List UInt8) (y:Int) (B:Int) (H:Own w D w []) (r:Ro w D fun w'=>bn w' 1 p z (List.flatMap eB d)) (C:z=d.length) (M:d.length≤9223372036854775807) (N:d.length≤o) (hr:dH d p1=(A,y,B)):
    Calls Tryz.prog 136 #[.slice p z o, .int .i64 p1] w (dE fun v w'=>v= .tuple #[.string ⟨List.toArray A⟩, .int .i64 y, .int .i64 B]∧Own w D w' []∧(¬ (B=0)∨(1≤y∧y≤((d.length:Nat):Int)∧A.length≤d.length))):=by
 subst C
 refine zg (args:= [.slice p d.length o, .int .i64 p1]) Tryz.func136 rfl rfl rfl ?_
 show Wp _ _ _ [(0, .slice p d.length o),(1, .int .i64 p1)] _ _
 refine sr (Az rfl (Az rfl (Ar rfl (Mz rfl ?_))))
 obtain⟨⟨b,a,g⟩,f⟩:∃ q:Nat × Int × Int,bU d=q:=⟨_,rfl⟩
 obtain⟨O,s,t,u,K⟩:=zt H
 refine cl Tryz.call112 (mH _ _ p d.length o d b a g s (t _ r) rfl (by omega) (by first | omega | (simp only [List.length_take,List.length_drop]; omega) | exact Nat.le_refl _) f) ?_
 rintro _ P ⟨rfl,x,m,n⟩
 have i:=u _ _ x
 replace m: ¬ (g=0)∨(1≤a∧a≤10∧a≤((d.length:Nat):Int)):=m
 replace n:b≤18446744073709551615:=n
 refine Mz rfl (Kz (.int .u64 ((b:Nat):Int)) (Kz (.int .i64 a) (Kz (.int .i64 g) (Az rfl (Az rfl (An rfl (ze (sr (Mz rfl (fw (.bool (decide (¬ (g=0)))) (zF (e:= !(decide (g=0))) yk decide_not.symm) (nt ?_)))))))))))
 by_cases h:g=0
 refine jF (dF (Ce h)) (sk (ze (sr (Mz rfl (Kz (.bool (decide (p1 < 0))) (Mz rfl ?_))))))
 by_cases c:p1 < 0
 refine Sz (dT c) (Sz (dT c) (Sz (dT c) (Sz (dT c) (fw (.bool true) (zf rfl (dT c) rfl) (nt (jt (sr (Az rfl (Az rfl (An rfl (rt (tR (zO (nN rfl rfl rfl rfl) ?_)))))))))))))
 have E:=i.pk []
 have e:dH d p1=([],0,2):=et (ae f) (et (ip h) (ip c))
 obtain⟨rfl,rfl,rfl⟩:=qa (e.symm.trans hr)
 exact⟨rfl,E,(by first | omega | (simp only [List.length_take,List.length_drop]; omega))⟩
 refine gw (.int .u64 ((b:Nat):Int)) (dF c) (zo rfl) (gw (.int .i64 p1) (dF c) (zo rfl) ?_)
 have L:Int.toNat (IntKind.u64.wrap p1)≤18446744073709551615:=jW _
 refine gw (.int .u64 ((Int.toNat (IntKind.u64.wrap p1):Nat):Int)) (dF c) (zy (e:=IntKind.u64.wrap p1) yk (gI _)) (Gz (.bool (decide (((b:Nat):Int) > ((Int.toNat (IntKind.u64.wrap p1):Nat):Int)))) (dF c) (fw (.bool (decide (((b:Nat):Int) > ((Int.toNat (IntKind.u64.wrap p1):Nat):Int)))) (zh rfl (dF c) rfl) (nt ?_)))
 by_cases j:((b:Nat):Int) > ((Int.toNat (IntKind.u64.wrap p1):Nat):Int)
 refine jT (dT j) (sr (Az rfl (Az rfl (An rfl (rt (tR (zO (nN rfl rfl rfl rfl) ?_)))))))
 have F:=i.pk []
 have e:dH d p1=([],0,2):=et (ae f) (et (ip h) (et (iN c) (ip j)))
 obtain⟨rfl,rfl,rfl⟩:=qa (e.symm.trans hr)
 exact⟨rfl,F,(by first | omega | (simp only [List.length_take,List.length_drop]; omega))⟩
 refine jF (dF j) (sk (ze (sr (Mz rfl (Mz rfl (Kz (.int .i64 ((d.length:Nat):Int)) (Mz rfl (fw (.int .i64 (((d.length:Nat):Int) - a)) (zy (e:=IntKind.i64.wrap (((d.length:Nat):Int) - a)) yk (by rw [Cb _ (by omega)])) (fw (.int .u64 ((Int.toNat (((d.length:Nat):Int) - a):Nat):Int)) (zy (e:=IntKind.u64.wrap (((d.length:Nat):Int) - a)) yk (by rw [IntWalk.u64_in _ (by omega)]; omega)) (Kz (.bool (decide (((b:Nat):Int) > ((Int.toNat (((d.length:Nat):Int) - a):Nat):Int)))) (nt ?_)))))))))))
 by_cases k:((b:Nat):Int) > ((Int.toNat (((d.length:Nat):Int) - a):Nat):Int)
 refine jT (dT k) (sr (Az rfl (Az rfl (An rfl (rt (tR (zO (nN rfl rfl rfl rfl) ?_)))))))
 have G:=i.pk []
 have e:dH d p1=([],0,10):=et (ae f) (et (ip h) (et (iN c) (et (iN j) (ip k))))
 obtain⟨rfl,rfl,rfl⟩:=qa (e.symm.trans hr)
 exact⟨rfl,G,(by first | omega | (simp only [List.length_take,List.length_drop]; omega))⟩
 refine jF (dF k) (sk (sr (Mz rfl (Mz rfl (fw (.int .i64 ((b:Nat):Int)) (zy (e:=IntKind.i64.wrap ((b:Nat):Int)) yk (Cb _ (by omega))) (fw (.int .i64 (a+((b:Nat):Int))) (zy (e:=IntKind.i64.wrap (a+((b:Nat):Int))) yk (by rw [Cb _ (by omega)])) (Ar rfl (Mz rfl (fw (.int .i64 ((Int.toNat a:Nat):Int)) (zy (e:=a) (zo rfl) (by omega)) (fw (.int .i64 ((Int.toNat (a+((b:Nat):Int)):Nat):Int)) (zy (e:=a+((b:Nat):Int)) (zo rfl) (by omega)) (fw (.slice (jK p (Int.toNat a) 1 o) ((Int.toNat (a+((b:Nat):Int))) - (Int.toNat a)) (o - (Int.toNat a))) (Yl.cut (lD) rfl rfl rfl (by omega) (by omega)) (fw (.string ⟨List.toArray (List.take ((Int.toNat (a+((b:Nat):Int))) - (Int.toNat a)) (List.drop (Int.toNat a) d))⟩) (Ai (l:=(List.take ((Int.toNat (a+((b:Nat):Int))) - (Int.toNat a)) (List.drop (Int.toNat a) d))) Tryz.underlying37 Tryz.underlying5 Tryz.underlying9 (bn.cutE (lo:=Int.toNat a) (hi:=Int.toNat (a+((b:Nat):Int))) bi (i.ro r) (by omega) (by omega) (by omega)) rfl) (Mz rfl (Az rfl (Az rfl (An rfl (rt (zO (nN rfl rfl rfl rfl) ?_))))))))))))))))))
 have I:=i.pk []
 have e:dH d p1=((List.take ((Int.toNat (a+((b:Nat):Int))) - (Int.toNat a)) (List.drop (Int.toNat a) d)),a+((b:Nat):Int),0):=et (ae f) (et (ip h) (et (iN c) (et (iN j) (iN k))))
 obtain⟨rfl,rfl,rfl⟩:=qa (e.symm.trans hr)
 exact⟨rfl,I,(by first | omega | (simp only [List.length_take,List.length_drop]; omega))⟩
 refine jT (dT h) (sr (Mz rfl (Az rfl (Az rfl (An rfl (rt (tR (zO (nN rfl rfl rfl rfl) ?_))))))))
 have J:=i.pk []
 have e:dH d p1=([],0,g):=et (ae f) (iN h)
 obtain⟨rfl,rfl,rfl⟩:=qa (e.symm.trans hr)
 exact⟨rfl,J,(by first | omega | (simp only [List.length_take,List.length_drop]; omega))⟩
def mq (a:List UInt8):ReaderT:=
 ReaderT.mk (Ll.mk a) 0
theorem rf (w:World) (D:Nat→Prop) (b:Option Addr) (e c:Nat) (a:List UInt8) (d:ReaderT) (H:Own w D w []) (k:Ro w D fun w'=>bn w' 1 b e (List.flatMap eB a)) (f:e=a.length) (l:a.length *1≤211106232532992) (m:a.length≤c) (hr:mq a=d):
    Calls Tryz.prog 90 #[.slice b e c] w (dE fun v w'=> ∃ (j:Nat) (B0nx0:Option Addr) (b0nx0:Nat),v= .pointer (some ⟨j,0,none⟩)∧Own w D w' [blk j [.slice B0nx0 d.aa.ls.length b0nx0, .int .i64 d.av] 150]∧(ay 1 b c a B0nx0 b0nx0 d.aa.ls)):=by
 subst f
 refine zg (args:= [.slice b a.length c]) Tryz.func90 rfl rfl rfl ?_
 show Wp _ _ _ [(0, .slice b a.length c)] _ _
 refine sr (Ar rfl (Mz rfl (Kz (.agg #[.slice b a.length c, .int .i64 0]) ?_)))
 refine dC [.slice b a.length c, .int .i64 0] 150 H ?_
 intro g n h
 refine An rfl (rt (rs ?_))
 have i:=h.pk [0]
 obtain rfl:_=ReaderT.mk (Ll.mk a) 0:=hr.symm.trans rfl
 exact⟨g,b,c,rfl,i,(ay.refl (by omega))⟩
def bC (a:ReaderT) (p1:Int):ReaderT:=
 if a.av=0 then ReaderT.mk (Ll.mk ([])) p1 else a
theorem gq (w:World) (D:Nat→Prop) (d:Nat) (c:ReaderT) (a:Option Addr) (b:Nat) (p1:Int) (f:ReaderT) (H:Own w D w [blk d [.slice a c.aa.ls.length b, .int .i64 c.av] 150]) (g:Ro w D fun w'=>bn w' 1 a c.aa.ls.length (List.flatMap eB c.aa.ls)) (h:c.aa.ls.length≤b∧c.aa.ls.length≤9223372036854775807) (hr:bC c p1=f):
    Calls Tryz.prog 91 #[.pointer (some ⟨d,0,none⟩), .int .i64 p1] w (dE fun v w'=> ∃ (B0ox0:Option Addr) (b0ox0:Nat),v= .tuple #[]∧Own w D w' [blk d [.slice B0ox0 f.aa.ls.length b0ox0, .int .i64 f.av] 150]∧(ay 1 a b c.aa.ls B0ox0 b0ox0 f.aa.ls)):=by
 refine zg (args:= [.pointer (some ⟨d,0,none⟩), .int .i64 p1]) Tryz.func91 rfl rfl rfl ?_
 show Wp _ _ _ [(0, .pointer (some ⟨d,0,none⟩)),(1, .int .i64 p1)] _ _
 refine sr (Mz rfl (Kz (.pointer (some ⟨d,0,none⟩)) (Kz (.pointer (some ⟨d,1,none⟩)) (Lz (.int .i64 c.av) H 0 Tryz.isAgg38 (Kz (.bool (decide (c.av=0))) (nt ?_))))))
 by_cases e:c.av=0
 refine jT (dT e) (sr (Mz rfl (Mz rfl (Kz (.pointer (some ⟨d,0,none⟩)) (Kz (.pointer (some ⟨d,1,none⟩)) ?_)))))
 refine df [.int .i64 p1] 1 H Tryz.sizeOf38 ?_
 intro m i
 refine nt (zb (Mz rfl (Kz (.pointer (some ⟨d,0,none⟩)) (Kz (.pointer (some ⟨d,0,none⟩)) ?_))))
 refine df [.slice none 0 0] 0 i Tryz.sizeOf37 ?_
 intro n j
 refine zq (zC (res0 rfl) ?_)
 have k:=j.pk [0]
 obtain rfl:_=ReaderT.mk (Ll.mk ([])) p1:=hr.symm.trans (ip e)
 exact⟨none,0,rfl,k,ay.nil⟩
 refine jF (dF e) (zS (zC (res0 rfl) ?_))
 have l:Own w D w [blk d [.slice a c.aa.ls.length b, .int .i64 c.av] 150]:=H.pk [0]
 obtain rfl:_=c:=hr.symm.trans (iN e)
 exact⟨a,b,rfl,l,(ay.refl (by omega))⟩
def dZ (a:ReaderT):UInt8 × ReaderT:=
 if((a.aa.ls.length:Nat):Int)=0 then bnd (bC a 10) fun b=>((0:UInt8),b) else bnd (List.getD a.aa.ls 0 default) fun c=>(c,ReaderT.mk (Ll.mk (List.drop 1 a.aa.ls)) a.av)
theorem kU (w:World) (D:Nat→Prop) (f:Nat) (c:ReaderT) (b:Option Addr) (a:Nat) (I:UInt8) (y:ReaderT) (H:Own w D w [blk f [.slice b c.aa.ls.length a, .int .i64 c.av] 150]) (d:Ro w D fun w'=>bn w' 1 b c.aa.ls.length (List.flatMap eB c.aa.ls)) (z:c.aa.ls.length≤a∧c.aa.ls.length≤9223372036854775807) (hr:dZ c=(I,y)):
    Calls Tryz.prog 92 #[.pointer (some ⟨f,0,none⟩)] w (dE fun v w'=> ∃ (B1ox0:Option Addr) (b1ox0:Nat),v= .int .u8 ((I.toNat:Nat):Int)∧Own w D w' [blk f [.slice B1ox0 y.aa.ls.length b1ox0, .int .i64 y.av] 150]∧(ay 1 b a c.aa.ls B1ox0 b1ox0 y.aa.ls)):=by
 refine zg (args:= [.pointer (some ⟨f,0,none⟩)]) Tryz.func92 rfl rfl rfl ?_
 show Wp _ _ _ [(0, .pointer (some ⟨f,0,none⟩))] _ _
 refine sr (An rfl (ze (sr (Mz rfl (Kz (.pointer (some ⟨f,0,none⟩)) (Kz (.pointer (some ⟨f,0,none⟩)) (Lz (.slice b c.aa.ls.length a) H 0 Tryz.isAgg37 (Kz (.int .i64 ((c.aa.ls.length:Nat):Int)) (Kz (.bool (decide (((c.aa.ls.length:Nat):Int)=0))) (nt ?_))))))))))
 by_cases j:((c.aa.ls.length:Nat):Int)=0
 refine jT (dT j) (sr (Mz rfl ?_))
 obtain⟨n,l⟩:∃ q,bC c 10=q:=⟨_,rfl⟩
 obtain⟨L,o,p,r,J⟩:=zx H
 refine cl Tryz.call91 (gq _ _ f c b a 10 n o (p _ d) (show c.aa.ls.length≤a∧c.aa.ls.length≤9223372036854775807 from by omega) l) ?_
 rintro _ M ⟨s,t,rfl,u,g⟩
 have A:=r _ _ u
 replace g:ay 1 b a c.aa.ls s t n.aa.ls:=g
 have K:=(g).le
 refine ns (An rfl (rt (tR (rs ?_))))
 have B:=A.pk [0]
 have e:dZ c=((0:UInt8),n):=et (ip j) (ae l)
 obtain⟨rfl,rfl⟩:=ig (e.symm.trans hr)
 exact⟨s,t,rfl,B,g⟩
 refine jF (dF j) (sk (sr (Mz rfl (Kz (.pointer (some ⟨f,0,none⟩)) (Kz (.pointer (some ⟨f,0,none⟩)) (Lz (.slice b c.aa.ls.length a) H 0 Tryz.isAgg37 ?_))))))
 obtain⟨x,m⟩:=eH (ls:=c.aa.ls) (i:=0) bi (by decide) (H.ro d) (by first | omega | (simp; done) | (simp; omega))
 refine fw (.pointer (some ⟨ab b,ao b+0 *1,none⟩)) (zn (lD) rfl rfl ((H.ro d).addr (i:=0) (by omega)) (by omega)) (fw (.int .u8 ((x.toNat:Nat):Int)) (zi rfl (bf.one Tryz.isAgg5 (((H.ro d).elem bi m (by decide)).at_ (k:=0) rfl))) (Ar rfl (Mz rfl (Mz rfl (Kz (.pointer (some ⟨f,0,none⟩)) (Kz (.pointer (some ⟨f,0,none⟩)) (Lz (.slice b c.aa.ls.length a) H 0 Tryz.isAgg37 (fw (.slice (jK b 1 1 a) (c.aa.ls.length - 1) (a - 1)) (Av (lD) rfl rfl (by omega)) (Kz (.pointer (some ⟨f,0,none⟩)) (Kz (.pointer (some ⟨f,0,none⟩)) ?_))))))))))
 refine df [.slice (jK b 1 1 a) (c.aa.ls.length - 1) (a - 1)] 0 H Tryz.sizeOf37 ?_
 intro C E
 refine ns (Mz rfl (An rfl (rt (rs ?_))))
 have h:c.aa.ls.length - 1=List.length (List.drop 1 c.aa.ls):=by first | omega | (simp only [List.length_drop,List.length_take] <;> omega)
 have F:Own w D C [blk f [.slice (jK b 1 1 a) (List.length (List.drop 1 c.aa.ls)) (a - 1), .int .i64 c.av] 150]:=by rw [← h]; exact E
 have G:=F.pk [0]
 have e:dZ c=(x,ReaderT.mk (Ll.mk (List.drop 1 c.aa.ls)) c.av):=et (iN j) (ae (bJ m))
 obtain⟨rfl,rfl⟩:=ig (e.symm.trans hr)
 exact⟨jK b 1 1 a,a - 1,(by first | rfl | (rw [← h]; done) | (rw [← h]; rfl)),G,(ay.cut (ay.refl (by omega)) (by first | omega | (simp only [List.length_drop]; omega)))⟩
def aI (b:ReaderT) (p1:Nat):Nat × ReaderT:=
 bnd (bU b.aa.ls) fun a=>if a.2.2=0 then if((a.1:Nat):Int) > ((p1:Nat):Int) then bnd (bC b 11) fun c=>(0,c) else(a.1,ReaderT.mk (Ll.mk (List.drop (Int.toNat a.2.1) b.aa.ls)) b.av) else bnd (bC b a.2.2) fun d=>(0,d)
theorem eT (w:World) (D:Nat→Prop) (j:Nat) (d:ReaderT) (b:Option Addr) (a:Nat) (p1:Nat) (U:Nat) (T:ReaderT) (H:Own w D w [blk j [.slice b d.aa.ls.length a, .int .i64 d.av] 150]) (i:Ro w D fun w'=>bn w' 1 b d.aa.ls.length (List.flatMap eB d.aa.ls)) (V:d.aa.ls.length≤a∧d.aa.ls.length≤9223372036854775807) (hr:aI d p1=(U,T)):
    Calls Tryz.prog 93 #[.pointer (some ⟨j,0,none⟩), .int .u64 ((p1:Nat):Int)] w (dE fun v w'=> ∃ (B1ox0:Option Addr) (b1ox0:Nat),v= .int .u64 ((U:Nat):Int)∧Own w D w' [blk j [.slice B1ox0 T.aa.ls.length b1ox0, .int .i64 T.av] 150]∧(ay 1 b a d.aa.ls B1ox0 b1ox0 T.aa.ls)∧(U≤p1)):=by
 refine zg (args:= [.pointer (some ⟨j,0,none⟩), .int .u64 ((p1:Nat):Int)]) Tryz.func93 rfl rfl rfl ?_
 show Wp _ _ _ [(0, .pointer (some ⟨j,0,none⟩)),(1, .int .u64 ((p1:Nat):Int))] _ _
 refine sr (Ar rfl (Mz rfl (Kz (.pointer (some ⟨j,0,none⟩)) (Kz (.pointer (some ⟨j,0,none⟩)) (Lz (.slice b d.aa.ls.length a) H 0 Tryz.isAgg37 ?_)))))
 obtain⟨⟨h,c,f⟩,k⟩:∃ q:Nat × Int × Int,bU d.aa.ls=q:=⟨_,rfl⟩
 obtain⟨ax,z,A,B,ai⟩:=zt H
 refine cl Tryz.call112 (mH _ _ b d.aa.ls.length a d.aa.ls h c f z (A _ i) rfl (by omega) (by first | omega | (simp only [List.length_take,List.length_drop]; omega) | exact Nat.le_refl _) k) ?_
 rintro _ az ⟨rfl,C,r,s⟩
 have o:=B _ _ C
 replace r: ¬ (f=0)∨(1≤c∧c≤10∧c≤((d.aa.ls.length:Nat):Int)):=r
 replace s:h≤18446744073709551615:=s
 refine Mz rfl (Kz (.int .u64 ((h:Nat):Int)) (Kz (.int .i64 c) (Kz (.int .i64 f) (Az rfl (Az rfl (An rfl (ze (sr (Mz rfl (Kz (.bool (decide (f=0))) (Mz rfl ?_)))))))))))
 by_cases g:f=0
 refine gw (.int .u64 ((h:Nat):Int)) (dT g) (zo rfl) (gw (.int .u64 ((p1:Nat):Int)) (dT g) (zo rfl) (Gz (.bool (decide (((h:Nat):Int) > ((p1:Nat):Int)))) (dT g) (fw (.bool (decide (((h:Nat):Int) > ((p1:Nat):Int)))) (zf rfl (dT g) rfl) (nt ?_))))
 by_cases p:((h:Nat):Int) > ((p1:Nat):Int)
 refine jT (dT p) (zb (An rfl (ze (sr (Mz rfl (Kz (.bool true) (nt (jt (sr (Mz rfl (Mz rfl ?_)))))))))))
 obtain⟨x,t⟩:∃ q,bC d 11=q:=⟨_,rfl⟩
 obtain⟨aA,E,F,G,aj⟩:=zx o
 refine cl Tryz.call91 (gq _ _ j d b a 11 x E (F _ i) (show d.aa.ls.length≤a∧d.aa.ls.length≤9223372036854775807 from by omega) t) ?_
 rintro _ aB ⟨I,J,rfl,K,l⟩
 have W:=G _ _ K
 replace l:ay 1 b a d.aa.ls I J x.aa.ls:=l
 have ak:=(l).le
 refine ns (An rfl (rt (tR (rs ?_))))
 have X:=W.pk [0]
 have e:aI d p1=(0,x):=et (ae k) (et (ip g) (et (ip p) (ae t)))
 obtain⟨rfl,rfl⟩:=ig (e.symm.trans hr)
 exact⟨I,J,rfl,X,l,(by omega)⟩
 refine jF (dF p) (sk (ze (sr (Mz rfl (fw (.bool (decide (¬ (f=0)))) (zF (e:= !(decide (f=0))) yk decide_not.symm) (nt ?_))))))
 have L:(decide (¬ (f=0)))=false:=(dF (by omega))
 refine jF L (sk (sr (Mz rfl (Mz rfl (Kz (.pointer (some ⟨j,0,none⟩)) (Kz (.pointer (some ⟨j,0,none⟩)) (Lz (.slice b d.aa.ls.length a) o 0 Tryz.isAgg37 (fw (.int .i64 ((Int.toNat c:Nat):Int)) (zy (e:=c) (zo rfl) (by omega)) (fw (.slice (jK b (Int.toNat c) 1 a) (d.aa.ls.length - (Int.toNat c)) (a - (Int.toNat c))) (Av (lD) rfl rfl (by omega)) (Kz (.pointer (some ⟨j,0,none⟩)) (Kz (.pointer (some ⟨j,0,none⟩)) ?_)))))))))))
 refine df [.slice (jK b (Int.toNat c) 1 a) (d.aa.ls.length - (Int.toNat c)) (a - (Int.toNat c))] 0 o Tryz.sizeOf37 ?_
 intro Y Z
 refine ns (Mz rfl (An rfl (rt (rs ?_))))
 have n:d.aa.ls.length - (Int.toNat c)=List.length (List.drop (Int.toNat c) d.aa.ls):=by first | omega | (simp only [List.length_drop,List.length_take] <;> omega)
 have aa:Own w D Y [blk j [.slice (jK b (Int.toNat c) 1 a) (List.length (List.drop (Int.toNat c) d.aa.ls)) (a - (Int.toNat c)), .int .i64 d.av] 150]:=by rw [← n]; exact Z
 have af:=aa.pk [0]
 have e:aI d p1=(h,ReaderT.mk (Ll.mk (List.drop (Int.toNat c) d.aa.ls)) d.av):=et (ae k) (et (ip g) (iN p))
 obtain⟨rfl,rfl⟩:=ig (e.symm.trans hr)
 exact⟨jK b (Int.toNat c) 1 a,a - (Int.toNat c),(by first | rfl | (rw [← n]; done) | (rw [← n]; rfl)),af,(ay.cut (ay.refl (by omega)) (by first | omega | (simp only [List.length_drop]; omega))),(by omega)⟩
 refine Sz (dF g) (Sz (dF g) (Sz (dF g) (fw (.bool false) (zh rfl (dF g) rfl) (nt (jf (sk (ze (sr (Mz rfl (fw (.bool (decide (¬ (f=0)))) (zF (e:= !(decide (f=0))) yk decide_not.symm) (nt ?_)))))))))))
 have M:(decide (¬ (f=0)))=true:=(dT (by omega))
 refine jT M (sr (Mz rfl (Mz rfl ?_)))
 obtain⟨y,u⟩:∃ q,bC d f=q:=⟨_,rfl⟩
 obtain⟨aC,N,O,P,au⟩:=zx o
 refine cl Tryz.call91 (gq _ _ j d b a f y N (O _ i) (show d.aa.ls.length≤a∧d.aa.ls.length≤9223372036854775807 from by omega) u) ?_
 rintro _ aD ⟨Q,R,rfl,S,m⟩
 have ag:=P _ _ S
 replace m:ay 1 b a d.aa.ls Q R y.aa.ls:=m
 have av:=(m).le
 refine ns (An rfl (rt (tR (rs ?_))))
 have ah:=ag.pk [0]
 have e:aI d p1=(0,y):=et (ae k) (et (iN g) (ae u))
 obtain⟨rfl,rfl⟩:=ig (e.symm.trans hr)
 exact⟨Q,R,rfl,ah,m,(by omega)⟩
def cO (b:ReaderT) (p1:Int):(List UInt8) × ReaderT:=
 bnd (dH b.aa.ls p1) fun a=>if a.2.2=2 then bnd (bC b 11) fun c=>([],c) else if a.2.2=0 then(a.1,ReaderT.mk (Ll.mk (List.drop (Int.toNat a.2.1) b.aa.ls)) b.av) else bnd (bC b a.2.2) fun d=>([],d)
theorem nJ (w:World) (D:Nat→Prop) (h:Nat) (d:ReaderT) (b:Option Addr) (a:Nat) (p1:Int) (r0:List UInt8) (Q:ReaderT) (H:Own w D w [blk h [.slice b d.aa.ls.length a, .int .i64 d.av] 150]) (g:Ro w D fun w'=>bn w' 1 b d.aa.ls.length (List.flatMap eB d.aa.ls)) (R:d.aa.ls.length≤a∧d.aa.ls.length≤9223372036854775807) (hr:cO d p1=(r0,Q)):
    Calls Tryz.prog 113 #[.pointer (some ⟨h,0,none⟩), .int .i64 p1] w (dE fun v w'=> ∃ (B1ox0:Option Addr) (b1ox0:Nat),v= .string ⟨List.toArray r0⟩∧Own w D w' [blk h [.slice B1ox0 Q.aa.ls.length b1ox0, .int .i64 Q.av] 150]∧(ay 1 b a d.aa.ls B1ox0 b1ox0 Q.aa.ls)):=by
 refine zg (args:= [.pointer (some ⟨h,0,none⟩), .int .i64 p1]) Tryz.func113 rfl rfl rfl ?_
 show Wp _ _ _ [(0, .pointer (some ⟨h,0,none⟩)),(1, .int .i64 p1)] _ _
 refine sr (Ar rfl (Mz rfl (Kz (.pointer (some ⟨h,0,none⟩)) (Kz (.pointer (some ⟨h,0,none⟩)) (Lz (.slice b d.aa.ls.length a) H 0 Tryz.isAgg37 (Mz rfl ?_))))))
 obtain⟨⟨n,c,f⟩,i⟩:∃ q:(List UInt8) × Int × Int,dH d.aa.ls p1=q:=⟨_,rfl⟩
 obtain⟨ak,y,z,A,af⟩:=zt H
 refine cl Tryz.call136 (o8 _ _ b d.aa.ls.length a d.aa.ls p1 n c f y (z _ g) rfl (by omega) (by first | omega | (simp only [List.length_take,List.length_drop]; omega) | exact Nat.le_refl _) i) ?_
 rintro _ au ⟨rfl,B,r⟩
 have o:=A _ _ B
 replace r: ¬ (f=0)∨(1≤c∧c≤((d.aa.ls.length:Nat):Int)∧n.length≤d.aa.ls.length):=r
 refine Mz rfl (Kz (.string ⟨List.toArray n⟩) (Kz (.int .i64 c) (Kz (.int .i64 f) (Az rfl (Az rfl (An rfl (ze (sr (Mz rfl (Kz (.bool (decide (f=2))) (nt ?_)))))))))))
 by_cases l:f=2
 refine jT (dT l) (zb (An rfl (ze (sr (Mz rfl (Kz (.bool true) (nt (jt (sr (Mz rfl (Mz rfl ?_)))))))))))
 obtain⟨u,s⟩:∃ q,bC d 11=q:=⟨_,rfl⟩
 obtain⟨av,C,E,F,ag⟩:=zx o
 refine cl Tryz.call91 (gq _ _ h d b a 11 u C (E _ g) (show d.aa.ls.length≤a∧d.aa.ls.length≤9223372036854775807 from by omega) s) ?_
 rintro _ ax ⟨G,I,rfl,J,j⟩
 have S:=F _ _ J
 replace j:ay 1 b a d.aa.ls G I u.aa.ls:=j
 have ah:=(j).le
 refine ns (An rfl (rt (tR (rs ?_))))
 have T:=S.pk [0]
 have e:cO d p1=([],u):=et (ae i) (et (ip l) (ae s))
 obtain⟨rfl,rfl⟩:=ig (e.symm.trans hr)
 exact⟨G,I,rfl,T,j⟩
 refine jF (dF l) (sk (ze (sr (Mz rfl (fw (.bool (decide (¬ (f=0)))) (zF (e:= !(decide (f=0))) yk decide_not.symm) (nt ?_))))))
 by_cases p:f=0
 refine jF (dF (Ce p)) (sk (sr (Mz rfl (Mz rfl (Kz (.pointer (some ⟨h,0,none⟩)) (Kz (.pointer (some ⟨h,0,none⟩)) (Lz (.slice b d.aa.ls.length a) o 0 Tryz.isAgg37 (fw (.int .i64 ((Int.toNat c:Nat):Int)) (zy (e:=c) (zo rfl) (by omega)) (fw (.slice (jK b (Int.toNat c) 1 a) (d.aa.ls.length - (Int.toNat c)) (a - (Int.toNat c))) (Av (lD) rfl rfl (by omega)) (Kz (.pointer (some ⟨h,0,none⟩)) (Kz (.pointer (some ⟨h,0,none⟩)) ?_)))))))))))
 refine df [.slice (jK b (Int.toNat c) 1 a) (d.aa.ls.length - (Int.toNat c)) (a - (Int.toNat c))] 0 o Tryz.sizeOf37 ?_
 intro U V
 refine ns (Mz rfl (An rfl (rt (rs ?_))))
 have m:d.aa.ls.length - (Int.toNat c)=List.length (List.drop (Int.toNat c) d.aa.ls):=by first | omega | (simp only [List.length_drop,List.length_take] <;> omega)
 have W:Own w D U [blk h [.slice (jK b (Int.toNat c) 1 a) (List.length (List.drop (Int.toNat c) d.aa.ls)) (a - (Int.toNat c)), .int .i64 d.av] 150]:=by rw [← m]; exact V
 have X:=W.pk [0]
 have e:cO d p1=(n,ReaderT.mk (Ll.mk (List.drop (Int.toNat c) d.aa.ls)) d.av):=et (ae i) (et (iN l) (ip p))
 obtain⟨rfl,rfl⟩:=ig (e.symm.trans hr)
 exact⟨jK b (Int.toNat c) 1 a,a - (Int.toNat c),(by first | rfl | (rw [← m]; done) | (rw [← m]; rfl)),X,(ay.cut (ay.refl (by omega)) (by first | omega | (simp only [List.length_drop]; omega)))⟩
 refine jT (dT p) (sr (Mz rfl (Mz rfl ?_)))
 obtain⟨x,t⟩:∃ q,bC d f=q:=⟨_,rfl⟩
 obtain⟨az,K,L,M,ai⟩:=zx o
 refine cl Tryz.call91 (gq _ _ h d b a f x K (L _ g) (show d.aa.ls.length≤a∧d.aa.ls.length≤9223372036854775807 from by omega) t) ?_
 rintro _ aA ⟨N,O,rfl,P,k⟩
 have Y:=M _ _ P
 replace k:ay 1 b a d.aa.ls N O x.aa.ls:=k
 have aj:=(k).le
 refine ns (An rfl (rt (tR (rs ?_))))
 have Z:=Y.pk [0]
 have e:cO d p1=([],x):=et (ae i) (et (iN l) (et (iN p) (ae t)))
 obtain⟨rfl,rfl⟩:=ig (e.symm.trans hr)
 exact⟨N,O,rfl,Z,k⟩
def eG (b:ReaderT):ReaderT:=
 if((b.aa.ls.length:Nat):Int) > 0 then bnd (bC b 11) fun a=>a else b
theorem lH (w:World) (D:Nat→Prop) (e:Nat) (c:ReaderT) (b:Option Addr) (a:Nat) (p:ReaderT) (H:Own w D w [blk e [.slice b c.aa.ls.length a, .int .i64 c.av] 150]) (h:Ro w D fun w'=>bn w' 1 b c.aa.ls.length (List.flatMap eB c.aa.ls)) (r:c.aa.ls.length≤a∧c.aa.ls.length≤9223372036854775807) (hr:eG c=p):
    Calls Tryz.prog 59 #[.pointer (some ⟨e,0,none⟩)] w (dE fun v w'=> ∃ (B0ox0:Option Addr) (b0ox0:Nat),v= .tuple #[]∧Own w D w' [blk e [.slice B0ox0 p.aa.ls.length b0ox0, .int .i64 p.av] 150]∧(ay 1 b a c.aa.ls B0ox0 b0ox0 p.aa.ls)):=by
 refine zg (args:= [.pointer (some ⟨e,0,none⟩)]) Tryz.func59 rfl rfl rfl ?_
 show Wp _ _ _ [(0, .pointer (some ⟨e,0,none⟩))] _ _
 refine sr (Mz rfl (Kz (.pointer (some ⟨e,0,none⟩)) (Kz (.pointer (some ⟨e,0,none⟩)) (Lz (.slice b c.aa.ls.length a) H 0 Tryz.isAgg37 (Kz (.int .i64 ((c.aa.ls.length:Nat):Int)) (Kz (.bool (decide (((c.aa.ls.length:Nat):Int) > 0))) (nt ?_)))))))
 by_cases f:((c.aa.ls.length:Nat):Int) > 0
 refine jT (dT f) (zb (Mz rfl ?_))
 obtain⟨i,g⟩:∃ q,bC c 11=q:=⟨_,rfl⟩
 obtain⟨z,j,k,l,x⟩:=zx H
 refine cl Tryz.call91 (gq _ _ e c b a 11 i j (k _ h) (show c.aa.ls.length≤a∧c.aa.ls.length≤9223372036854775807 from by omega) g) ?_
 rintro _ A ⟨m,n,rfl,o,d⟩
 have s:=l _ _ o
 replace d:ay 1 b a c.aa.ls m n i.aa.ls:=d
 have y:=(d).le
 refine zq (zC (res0 rfl) ?_)
 have t:=s.pk [0]
 obtain rfl:_=i:=hr.symm.trans (et (ip f) (ae g))
 exact⟨m,n,rfl,t,d⟩
 refine jF (dF f) (zS (zC (res0 rfl) ?_))
 have u:Own w D w [blk e [.slice b c.aa.ls.length a, .int .i64 c.av] 150]:=H.pk [0]
 obtain rfl:_=c:=hr.symm.trans (iN f)
 exact⟨b,a,rfl,u,(ay.refl (by omega))⟩
def iR (a:ReaderT):Int:=
 a.av
theorem lI (w:World) (D:Nat→Prop) (d:Nat) (c:ReaderT) (a:Option Addr) (b:Nat) (h:Int) (H:Own w D w [blk d [.slice a c.aa.ls.length b, .int .i64 c.av] 150]) (e:Ro w D fun w'=>bn w' 1 a c.aa.ls.length (List.flatMap eB c.aa.ls)) (f:c.aa.ls.length≤b∧c.aa.ls.length≤9223372036854775807) (hr:iR c=h):
    Calls Tryz.prog 60 #[.pointer (some ⟨d,0,none⟩)] w (dE fun v w'=>v= .int .i64 h∧Own w D w' [blk d [.slice a c.aa.ls.length b, .int .i64 c.av] 150]):=by
 refine zg (args:= [.pointer (some ⟨d,0,none⟩)]) Tryz.func60 rfl rfl rfl ?_
 show Wp _ _ _ [(0, .pointer (some ⟨d,0,none⟩))] _ _
 refine sr (Ar rfl (Mz rfl (Kz (.pointer (some ⟨d,0,none⟩)) (Kz (.pointer (some ⟨d,1,none⟩)) (Lz (.int .i64 c.av) H 0 Tryz.isAgg38 (An rfl (rt (rs ?_))))))))
 have g:Own w D w [blk d [.slice a c.aa.ls.length b, .int .i64 c.av] 150]:=H.pk [0]
 obtain rfl:_=c.av:=hr.symm.trans rfl
 exact⟨rfl,g⟩
def aU (b:ReaderT):Nat × ReaderT:=
 bnd (aI b 18446744073709551615) fun a=>(a.1,a.2)
theorem dw (w:World) (D:Nat→Prop) (k:Nat) (c:ReaderT) (b:Option Addr) (a:Nat) (t:Nat) (s:ReaderT) (H:Own w D w [blk k [.slice b c.aa.ls.length a, .int .i64 c.av] 150]) (h:Ro w D fun w'=>bn w' 1 b c.aa.ls.length (List.flatMap eB c.aa.ls)) (u:c.aa.ls.length≤a∧c.aa.ls.length≤9223372036854775807) (hr:aU c=(t,s)):
    Calls Tryz.prog 51 #[.pointer (some ⟨k,0,none⟩)] w (dE fun v w'=> ∃ (B1ox0:Option Addr) (b1ox0:Nat),v= .int .u64 ((t:Nat):Int)∧Own w D w' [blk k [.slice B1ox0 s.aa.ls.length b1ox0, .int .i64 s.av] 150]∧(ay 1 b a c.aa.ls B1ox0 b1ox0 s.aa.ls)∧(t≤18446744073709551615)):=by
 refine zg (args:= [.pointer (some ⟨k,0,none⟩)]) Tryz.func51 rfl rfl rfl ?_
 show Wp _ _ _ [(0, .pointer (some ⟨k,0,none⟩))] _ _
 refine sr (Ar rfl (Mz rfl ?_))
 obtain⟨⟨i,j⟩,f⟩:∃ q:Nat × ReaderT,aI c 18446744073709551615=q:=⟨_,rfl⟩
 obtain⟨B,l,m,n,z⟩:=zx H
 refine cl Tryz.call93 (eT _ _ k c b a 18446744073709551615 i j l (m _ h) (show c.aa.ls.length≤a∧c.aa.ls.length≤9223372036854775807 from by omega) f) ?_
 rintro _ C ⟨o,p,rfl,r,d,g⟩
 have x:=n _ _ r
 replace d:ay 1 b a c.aa.ls o p j.aa.ls:=d
 have A:=(d).le
 replace g:i≤18446744073709551615:=g
 refine An rfl (rt (rs ?_))
 have y:=x.pk [0]
 have e:aU c=(i,j):=ae f
 obtain⟨rfl,rfl⟩:=ig (e.symm.trans hr)
 exact⟨o,p,rfl,y,d,(by omega)⟩
def dA (b:ReaderT):Int × ReaderT:=
 bnd (aI b 255) fun a=>(((a.1:Nat):Int),a.2)
theorem iq (w:World) (D:Nat→Prop) (k:Nat) (c:ReaderT) (b:Option Addr) (a:Nat) (s:Int) (t:ReaderT) (H:Own w D w [blk k [.slice b c.aa.ls.length a, .int .i64 c.av] 150]) (i:Ro w D fun w'=>bn w' 1 b c.aa.ls.length (List.flatMap eB c.aa.ls)) (u:c.aa.ls.length≤a∧c.aa.ls.length≤9223372036854775807) (hr:dA c=(s,t)):
    Calls Tryz.prog 50 #[.pointer (some ⟨k,0,none⟩)] w (dE fun v w'=> ∃ (B1ox0:Option Addr) (b1ox0:Nat),v= .int .i64 s∧Own w D w' [blk k [.slice B1ox0 t.aa.ls.length b1ox0, .int .i64 t.av] 150]∧(ay 1 b a c.aa.ls B1ox0 b1ox0 t.aa.ls)∧(0≤s∧s≤255)):=by
 refine zg (args:= [.pointer (some ⟨k,0,none⟩)]) Tryz.func50 rfl rfl rfl ?_
 show Wp _ _ _ [(0, .pointer (some ⟨k,0,none⟩))] _ _
 refine sr (Ar rfl (Mz rfl ?_))
 obtain⟨⟨f,j⟩,g⟩:∃ q:Nat × ReaderT,aI c 255=q:=⟨_,rfl⟩
 obtain⟨B,l,m,n,z⟩:=zx H
 refine cl Tryz.call93 (eT _ _ k c b a 255 f j l (m _ i) (show c.aa.ls.length≤a∧c.aa.ls.length≤9223372036854775807 from by omega) g) ?_
 rintro _ C ⟨o,p,rfl,r,d,h⟩
 have x:=n _ _ r
 replace d:ay 1 b a c.aa.ls o p j.aa.ls:=d
 have A:=(d).le
 replace h:f≤255:=h
 refine fw (.int .i64 ((f:Nat):Int)) (zy (e:=IntKind.i64.wrap ((f:Nat):Int)) yk (Cb _ (by omega))) (An rfl (rt (rs ?_)))
 have y:=x.pk [0]
 have e:dA c=(((f:Nat):Int),j):=ae g
 obtain⟨rfl,rfl⟩:=ig (e.symm.trans hr)
 exact⟨o,p,rfl,y,d,(by omega)⟩
def cZ (b:ReaderT):(List UInt8) × ReaderT:=
 bnd (cO b 255) fun a=>(a.1,a.2)
theorem gF (w:World) (D:Nat→Prop) (i:Nat) (c:ReaderT) (b:Option Addr) (a:Nat) (x:List UInt8) (r:ReaderT) (H:Own w D w [blk i [.slice b c.aa.ls.length a, .int .i64 c.av] 150]) (g:Ro w D fun w'=>bn w' 1 b c.aa.ls.length (List.flatMap eB c.aa.ls)) (s:c.aa.ls.length≤a∧c.aa.ls.length≤9223372036854775807) (hr:cZ c=(x,r)):
    Calls Tryz.prog 95 #[.pointer (some ⟨i,0,none⟩)] w (dE fun v w'=> ∃ (B1ox0:Option Addr) (b1ox0:Nat),v= .string ⟨List.toArray x⟩∧Own w D w' [blk i [.slice B1ox0 r.aa.ls.length b1ox0, .int .i64 r.av] 150]∧(ay 1 b a c.aa.ls B1ox0 b1ox0 r.aa.ls)):=by
 refine zg (args:= [.pointer (some ⟨i,0,none⟩)]) Tryz.func95 rfl rfl rfl ?_
 show Wp _ _ _ [(0, .pointer (some ⟨i,0,none⟩))] _ _
 refine sr (Ar rfl (Mz rfl ?_))
 obtain⟨⟨j,h⟩,f⟩:∃ q:(List UInt8) × ReaderT,cO c 255=q:=⟨_,rfl⟩
 obtain⟨A,k,l,m,y⟩:=zx H
 refine cl Tryz.call113 (nJ _ _ i c b a 255 j h k (l _ g) (show c.aa.ls.length≤a∧c.aa.ls.length≤9223372036854775807 from by omega) f) ?_
 rintro _ B ⟨n,o,rfl,p,d⟩
 have t:=m _ _ p
 replace d:ay 1 b a c.aa.ls n o h.aa.ls:=d
 have z:=(d).le
 refine An rfl (rt (rs ?_))
 have u:=t.pk [0]
 have e:cZ c=(j,h):=ae f
 obtain⟨rfl,rfl⟩:=ig (e.symm.trans hr)
 exact⟨n,o,rfl,u,d⟩
def ic (c:ReaderT):bI × ReaderT:=
 bnd (cZ c) fun a=>bnd (cZ a.2) fun b=>(bI.mk a.1 b.1,b.2)
theorem lL (w:World) (D:Nat→Prop) (r:Nat) (f:ReaderT) (b:Option Addr) (a:Nat) (R:bI) (J:ReaderT) (H:Own w D w [blk r [.slice b f.aa.ls.length a, .int .i64 f.av] 150]) (h:Ro w D fun w'=>bn w' 1 b f.aa.ls.length (List.flatMap eB f.aa.ls)) (K:f.aa.ls.length≤a∧f.aa.ls.length≤9223372036854775807) (hr:ic f=(R,J)):
    Calls Tryz.prog 57 #[.pointer (some ⟨r,0,none⟩)] w (dE fun v w'=> ∃ (B1ox0:Option Addr) (b1ox0:Nat),v= .agg (bI.cells R).toArray∧Own w D w' [blk r [.slice B1ox0 J.aa.ls.length b1ox0, .int .i64 J.av] 150]∧(ay 1 b a f.aa.ls B1ox0 b1ox0 J.aa.ls)):=by
 refine zg (args:= [.pointer (some ⟨r,0,none⟩)]) Tryz.func57 rfl rfl rfl ?_
 show Wp _ _ _ [(0, .pointer (some ⟨r,0,none⟩))] _ _
 refine sr ?_
 refine dC [.string ⟨List.toArray ([])⟩, .string ⟨List.toArray ([])⟩] 27 H ?_
 intro W X L
 refine ns (Mz rfl ?_)
 have M:=L.pk [1,0]
 obtain⟨⟨j,d⟩,o⟩:∃ q:(List UInt8) × ReaderT,cZ f=q:=⟨_,rfl⟩
 obtain⟨Y,u,x,y,S⟩:=zx M
 refine cl Tryz.call95 (gF _ _ r f b a j d u (x _ h) (show f.aa.ls.length≤a∧f.aa.ls.length≤9223372036854775807 from by omega) o) ?_
 rintro _ Z ⟨s,n,rfl,z,c⟩
 have N:=y _ _ z
 replace c:ay 1 b a f.aa.ls s n d.aa.ls:=c
 have T:=(c).le
 refine Ar rfl (Mz rfl (Mz rfl ?_))
 obtain⟨⟨l,t⟩,p⟩:∃ q:(List UInt8) × ReaderT,cZ d=q:=⟨_,rfl⟩
 obtain⟨aa,A,B,C,U⟩:=zx N
 refine cl Tryz.call95 (gF _ _ r d s n l t A (fun w9 h9=>ay.rds bi (by decide) c ((B _ h) w9 h9)) (show d.aa.ls.length≤n∧d.aa.ls.length≤9223372036854775807 from by omega) p) ?_
 rintro _ ah ⟨E,F,rfl,G,g⟩
 have O:=C _ _ G
 replace g:ay 1 s n d.aa.ls E F t.aa.ls:=g
 have V:=(g).le
 refine Kz (.agg #[.string ⟨List.toArray j⟩, .string ⟨List.toArray l⟩]) ?_
 have P:=O.pk [1,0]
 refine df [.string ⟨List.toArray j⟩, .string ⟨List.toArray l⟩] 0 P Tryz.sizeOf27 ?_
 intro ai I
 refine nt (rt (zO (lv rfl rfl (zD (cs:= [.string ⟨List.toArray j⟩, .string ⟨List.toArray l⟩]) Tryz.isAgg27 Tryz.sizeOf27 ((I.cls (i:=0) rfl).lit (k:=0) (m:=2) rfl))) ?_))
 have Q:=I.pk [1]
 have e:ic f=(bI.mk j l,t):=et (ae o) (ae p)
 obtain⟨rfl,rfl⟩:=ig (e.symm.trans hr)
 exact⟨E,F,rfl,Q,(ay.trans c g)⟩
def ji (c:ReaderT):aH × ReaderT:=
 bnd (cZ c) fun a=>bnd (dA a.2) fun b=>(aH.mk a.1 b.1,b.2)
theorem ol (w:World) (D:Nat→Prop) (s:Nat) (g:ReaderT) (b:Option Addr) (a:Nat) (S:aH) (K:ReaderT) (H:Own w D w [blk s [.slice b g.aa.ls.length a, .int .i64 g.av] 150]) (j:Ro w D fun w'=>bn w' 1 b g.aa.ls.length (List.flatMap eB g.aa.ls)) (L:g.aa.ls.length≤a∧g.aa.ls.length≤9223372036854775807) (hr:ji g=(S,K)):
    Calls Tryz.prog 53 #[.pointer (some ⟨s,0,none⟩)] w (dE fun v w'=> ∃ (B1ox0:Option Addr) (b1ox0:Nat),v= .agg (aH.cells S).toArray∧Own w D w' [blk s [.slice B1ox0 K.aa.ls.length b1ox0, .int .i64 K.av] 150]∧(ay 1 b a g.aa.ls B1ox0 b1ox0 K.aa.ls)):=by
 refine zg (args:= [.pointer (some ⟨s,0,none⟩)]) Tryz.func53 rfl rfl rfl ?_
 show Wp _ _ _ [(0, .pointer (some ⟨s,0,none⟩))] _ _
 refine sr ?_
 refine dC [.string ⟨List.toArray ([])⟩, .int .i64 0] 54 H ?_
 intro X Y M
 refine ns (Mz rfl ?_)
 have N:=M.pk [1,0]
 obtain⟨⟨l,d⟩,o⟩:∃ q:(List UInt8) × ReaderT,cZ g=q:=⟨_,rfl⟩
 obtain⟨Z,x,y,z,T⟩:=zx N
 refine cl Tryz.call95 (gF _ _ s g b a l d x (y _ j) (show g.aa.ls.length≤a∧g.aa.ls.length≤9223372036854775807 from by omega) o) ?_
 rintro _ aa ⟨t,n,rfl,A,c⟩
 have O:=z _ _ A
 replace c:ay 1 b a g.aa.ls t n d.aa.ls:=c
 have U:=(c).le
 refine Ar rfl (Mz rfl (Mz rfl ?_))
 obtain⟨⟨f,u⟩,p⟩:∃ q:Int × ReaderT,dA d=q:=⟨_,rfl⟩
 obtain⟨af,B,C,E,V⟩:=zx O
 refine cl Tryz.call50 (iq _ _ s d t n f u B (fun w9 h9=>ay.rds bi (by decide) c ((C _ j) w9 h9)) (show d.aa.ls.length≤n∧d.aa.ls.length≤9223372036854775807 from by omega) p) ?_
 rintro _ ai ⟨F,G,rfl,I,h,r⟩
 have P:=E _ _ I
 replace h:ay 1 t n d.aa.ls F G u.aa.ls:=h
 have W:=(h).le
 replace r:0≤f∧f≤255:=r
 refine Kz (.agg #[.string ⟨List.toArray l⟩, .int .i64 f]) ?_
 have Q:=P.pk [1,0]
 refine df [.string ⟨List.toArray l⟩, .int .i64 f] 0 Q Tryz.sizeOf54 ?_
 intro aj J
 refine nt (rt (zO (lv rfl rfl (zD (cs:= [.string ⟨List.toArray l⟩, .int .i64 f]) Tryz.isAgg54 Tryz.sizeOf54 ((J.cls (i:=0) rfl).lit (k:=0) (m:=2) rfl))) ?_))
 have R:=J.pk [1]
 have e:ji g=(aH.mk l f,u):=et (ae o) (ae p)
 obtain⟨rfl,rfl⟩:=ig (e.symm.trans hr)
 exact⟨F,G,rfl,R,(ay.trans c h)⟩
def jL (g:ReaderT):aW × ReaderT:=
 bnd (dA g) fun c=>bnd (cZ c.2) fun d=>bnd (cZ d.2) fun e=>bnd (cZ e.2) fun f=>bnd (cZ f.2) fun a=>bnd (dA a.2) fun b=>(aW.mk c.1 d.1 e.1 f.1 a.1 b.1,b.2)
theorem pU (w:World) (D:Nat→Prop) (G:Nat) (A:ReaderT) (t:Option Addr) (n:Nat) (r0:aW) (r1:ReaderT) (H:Own w D w [blk G [.slice t A.aa.ls.length n, .int .i64 A.av] 150]) (d:Ro w D fun w'=>bn w' 1 t A.aa.ls.length (List.flatMap eB A.aa.ls)) (bA:A.aa.ls.length≤n∧A.aa.ls.length≤9223372036854775807) (hr:jL A=(r0,r1)):
    Calls Tryz.prog 98 #[.pointer (some ⟨G,0,none⟩)] w (dE fun v w'=> ∃ (B1ox0:Option Addr) (b1ox0:Nat),v= .agg (aW.cells r0).toArray∧Own w D w' [blk G [.slice B1ox0 r1.aa.ls.length b1ox0, .int .i64 r1.av] 150]∧(ay 1 t n A.aa.ls B1ox0 b1ox0 r1.aa.ls)):=by
 refine zg (args:= [.pointer (some ⟨G,0,none⟩)]) Tryz.func98 rfl rfl rfl ?_
 show Wp _ _ _ [(0, .pointer (some ⟨G,0,none⟩))] _ _
 refine sr ?_
 refine dC [.int .i64 0, .string ⟨List.toArray ([])⟩, .string ⟨List.toArray ([])⟩, .string ⟨List.toArray ([])⟩, .string ⟨List.toArray ([])⟩, .int .i64 0] 74 H ?_
 intro dz dB bB
 refine ns (Mz rfl ?_)
 have bC:=bB.pk [1,0]
 obtain⟨⟨r,u⟩,S⟩:∃ q:Int × ReaderT,dA A=q:=⟨_,rfl⟩
 obtain⟨dD,aC,aD,aF,bV⟩:=zx bC
 refine cl Tryz.call50 (iq _ _ G A t n r u aC (aD _ d) (show A.aa.ls.length≤n∧A.aa.ls.length≤9223372036854775807 from by omega) S) ?_
 rintro _ dF ⟨af,O,rfl,aG,a,T⟩
 have bD:=aF _ _ aG
 replace a:ay 1 t n A.aa.ls af O u.aa.ls:=a
 have bW:=(a).le
 replace T:0≤r∧r≤255:=T
 refine Kz (.agg #[.int .i64 r, .string ⟨List.toArray ([])⟩, .string ⟨List.toArray ([])⟩, .string ⟨List.toArray ([])⟩, .string ⟨List.toArray ([])⟩, .int .i64 0]) ?_
 refine dC [.int .i64 0, .string ⟨List.toArray ([])⟩, .string ⟨List.toArray ([])⟩, .string ⟨List.toArray ([])⟩, .string ⟨List.toArray ([])⟩, .int .i64 0] 74 bD ?_
 intro I dG bE
 refine df [.int .i64 r, .string ⟨List.toArray ([])⟩, .string ⟨List.toArray ([])⟩, .string ⟨List.toArray ([])⟩, .string ⟨List.toArray ([])⟩, .int .i64 0] 0 bE Tryz.sizeOf74 ?_
 intro dH bF
 refine ns (Mz rfl ?_)
 have bG:=bF.pk [1,0,2]
 obtain⟨⟨C,x⟩,U⟩:∃ q:(List UInt8) × ReaderT,cZ u=q:=⟨_,rfl⟩
 obtain⟨dI,aH,aI,aJ,bX⟩:=zx bG
 refine cl Tryz.call95 (gF _ _ G u af O C x aH (fun b c=>ay.rds bi (by decide) a ((aI _ d) b c)) (show u.aa.ls.length≤O∧u.aa.ls.length≤9223372036854775807 from by omega) U) ?_
 rintro _ dJ ⟨ag,P,rfl,aK,f⟩
 have bH:=aJ _ _ aK
 replace f:ay 1 af O u.aa.ls ag P x.aa.ls:=f
 have bY:=(f).le
 refine Kz (.pointer (some ⟨I,1,none⟩)) ?_
 have bI:=bH.pk [1,0,2]
 refine df [.string ⟨List.toArray C⟩] 1 bI Tryz.sizeOf9 ?_
 intro dK bJ
 refine ns (Mz rfl ?_)
 have bK:=bJ.pk [1,0,2]
 obtain⟨⟨E,y⟩,V⟩:∃ q:(List UInt8) × ReaderT,cZ x=q:=⟨_,rfl⟩
 obtain⟨dL,aL,aM,aN,bZ⟩:=zx bK
 refine cl Tryz.call95 (gF _ _ G x ag P E y aL (fun b c=>ay.rds bi (by decide) f ((fun b c=>ay.rds bi (by decide) a ((aM _ d) b c)) b c)) (show x.aa.ls.length≤P∧x.aa.ls.length≤9223372036854775807 from by omega) V) ?_
 rintro _ dM ⟨ah,Q,rfl,aO,h⟩
 have bL:=aN _ _ aO
 replace h:ay 1 ag P x.aa.ls ah Q y.aa.ls:=h
 have cu:=(h).le
 refine Kz (.pointer (some ⟨I,2,none⟩)) ?_
 have bM:=bL.pk [1,0,2]
 refine df [.string ⟨List.toArray E⟩] 2 bM Tryz.sizeOf9 ?_
 intro dN bN
 refine ns (Mz rfl ?_)
 have bO:=bN.pk [1,0,2]
 obtain⟨⟨F,z⟩,W⟩:∃ q:(List UInt8) × ReaderT,cZ y=q:=⟨_,rfl⟩
 obtain⟨dO,aP,aQ,aR,cz⟩:=zx bO
 refine cl Tryz.call95 (gF _ _ G y ah Q F z aP (fun b c=>ay.rds bi (by decide) h ((fun b c=>ay.rds bi (by decide) f ((fun b c=>ay.rds bi (by decide) a ((aQ _ d) b c)) b c)) b c)) (show y.aa.ls.length≤Q∧y.aa.ls.length≤9223372036854775807 from by omega) W) ?_
 rintro _ dP ⟨ai,R,rfl,aS,o⟩
 have bP:=aR _ _ aS
 replace o:ay 1 ah Q y.aa.ls ai R z.aa.ls:=o
 have cB:=(o).le
 refine Kz (.pointer (some ⟨I,3,none⟩)) ?_
 have aT:=bP.pk [1,0,2]
 refine df [.string ⟨List.toArray F⟩] 3 aT Tryz.sizeOf9 ?_
 intro cK aU
 refine ns (Mz rfl ?_)
 have aV:=aU.pk [1,0,2]
 obtain⟨⟨p,j⟩,J⟩:∃ q:(List UInt8) × ReaderT,cZ z=q:=⟨_,rfl⟩
 obtain⟨cO,aj,ak,au,bQ⟩:=zx aV
 refine cl Tryz.call95 (gF _ _ G z ai R p j aj (fun b c=>ay.rds bi (by decide) o ((fun b c=>ay.rds bi (by decide) h ((fun b c=>ay.rds bi (by decide) f ((fun b c=>ay.rds bi (by decide) a ((ak _ d) b c)) b c)) b c)) b c)) (show z.aa.ls.length≤R∧z.aa.ls.length≤9223372036854775807 from by omega) J) ?_
 rintro _ dh ⟨K,B,rfl,av,l⟩
 have aX:=au _ _ av
 replace l:ay 1 ai R z.aa.ls K B j.aa.ls:=l
 have bR:=(l).le
 refine Kz (.pointer (some ⟨I,4,none⟩)) ?_
 have aY:=aX.pk [1,0,2]
 refine df [.string ⟨List.toArray p⟩] 4 aY Tryz.sizeOf9 ?_
 intro di aZ
 refine ns (Mz rfl ?_)
 have bf:=aZ.pk [1,0,2]
 obtain⟨⟨g,L⟩,M⟩:∃ q:Int × ReaderT,dA j=q:=⟨_,rfl⟩
 obtain⟨dm,ax,az,aA,bS⟩:=zx bf
 refine cl Tryz.call50 (iq _ _ G j K B g L ax (fun b c=>ay.rds bi (by decide) l ((fun b c=>ay.rds bi (by decide) o ((fun b c=>ay.rds bi (by decide) h ((fun b c=>ay.rds bi (by decide) f ((fun b c=>ay.rds bi (by decide) a ((az _ d) b c)) b c)) b c)) b c)) b c)) (show j.aa.ls.length≤B∧j.aa.ls.length≤9223372036854775807 from by omega) M) ?_
 rintro _ dn ⟨X,Y,rfl,aB,s,N⟩
 have bg:=aA _ _ aB
 replace s:ay 1 K B j.aa.ls X Y L.aa.ls:=s
 have bT:=(s).le
 replace N:0≤g∧g≤255:=N
 refine Kz (.pointer (some ⟨I,5,none⟩)) ?_
 have bq:=bg.pk [1,0,2]
 refine df [.int .i64 g] 5 bq Tryz.sizeOf3 ?_
 intro dw Z
 refine ns (La ([.int .i64 r, .string ⟨List.toArray C⟩, .string ⟨List.toArray E⟩, .string ⟨List.toArray F⟩, .string ⟨List.toArray p⟩, .int .i64 g]) Z 0 Tryz.isAgg74 Tryz.sizeOf74 ?_)
 have bu:=Z.pk [2,0,1]
 refine df [.int .i64 r, .string ⟨List.toArray C⟩, .string ⟨List.toArray E⟩, .string ⟨List.toArray F⟩, .string ⟨List.toArray p⟩, .int .i64 g] 0 bu Tryz.sizeOf74 ?_
 intro dx aa
 refine nt (rt (zO (lv rfl rfl (zD (cs:= [.int .i64 r, .string ⟨List.toArray C⟩, .string ⟨List.toArray E⟩, .string ⟨List.toArray F⟩, .string ⟨List.toArray p⟩, .int .i64 g]) Tryz.isAgg74 Tryz.sizeOf74 ((aa.cls (i:=0) rfl).lit (k:=0) (m:=6) rfl))) ?_))
 have bv:=aa.pk [2]
 have e:jL A=(aW.mk r C E F p g,L):=et (ae S) (et (ae U) (et (ae V) (et (ae W) (et (ae J) (ae M)))))
 obtain⟨rfl,rfl⟩:=ig (e.symm.trans hr)
 exact⟨X,Y,rfl,bv,(ay.trans (ay.trans (ay.trans (ay.trans (ay.trans a f) h) o) l) s)⟩
def jv (c:ReaderT):bu × ReaderT:=
 bnd (cZ c) fun a=>bnd (cZ a.2) fun b=>(bu.mk a.1 b.1,b.2)
theorem oI (w:World) (D:Nat→Prop) (r:Nat) (f:ReaderT) (b:Option Addr) (a:Nat) (R:bu) (J:ReaderT) (H:Own w D w [blk r [.slice b f.aa.ls.length a, .int .i64 f.av] 150]) (h:Ro w D fun w'=>bn w' 1 b f.aa.ls.length (List.flatMap eB f.aa.ls)) (K:f.aa.ls.length≤a∧f.aa.ls.length≤9223372036854775807) (hr:jv f=(R,J)):
    Calls Tryz.prog 118 #[.pointer (some ⟨r,0,none⟩)] w (dE fun v w'=> ∃ (B1ox0:Option Addr) (b1ox0:Nat),v= .agg (bu.cells R).toArray∧Own w D w' [blk r [.slice B1ox0 J.aa.ls.length b1ox0, .int .i64 J.av] 150]∧(ay 1 b a f.aa.ls B1ox0 b1ox0 J.aa.ls)):=by
 refine zg (args:= [.pointer (some ⟨r,0,none⟩)]) Tryz.func118 rfl rfl rfl ?_
 show Wp _ _ _ [(0, .pointer (some ⟨r,0,none⟩))] _ _
 refine sr ?_
 refine dC [.string ⟨List.toArray ([])⟩, .string ⟨List.toArray ([])⟩] 133 H ?_
 intro W X L
 refine ns (Mz rfl ?_)
 have M:=L.pk [1,0]
 obtain⟨⟨j,d⟩,o⟩:∃ q:(List UInt8) × ReaderT,cZ f=q:=⟨_,rfl⟩
 obtain⟨Y,u,x,y,S⟩:=zx M
 refine cl Tryz.call95 (gF _ _ r f b a j d u (x _ h) (show f.aa.ls.length≤a∧f.aa.ls.length≤9223372036854775807 from by omega) o) ?_
 rintro _ Z ⟨s,n,rfl,z,c⟩
 have N:=y _ _ z
 replace c:ay 1 b a f.aa.ls s n d.aa.ls:=c
 have T:=(c).le
 refine Ar rfl (Mz rfl (Mz rfl ?_))
 obtain⟨⟨l,t⟩,p⟩:∃ q:(List UInt8) × ReaderT,cZ d=q:=⟨_,rfl⟩
 obtain⟨aa,A,B,C,U⟩:=zx N
 refine cl Tryz.call95 (gF _ _ r d s n l t A (fun w9 h9=>ay.rds bi (by decide) c ((B _ h) w9 h9)) (show d.aa.ls.length≤n∧d.aa.ls.length≤9223372036854775807 from by omega) p) ?_
 rintro _ ah ⟨E,F,rfl,G,g⟩
 have O:=C _ _ G
 replace g:ay 1 s n d.aa.ls E F t.aa.ls:=g
 have V:=(g).le
 refine Kz (.agg #[.string ⟨List.toArray j⟩, .string ⟨List.toArray l⟩]) ?_
 have P:=O.pk [1,0]
 refine df [.string ⟨List.toArray j⟩, .string ⟨List.toArray l⟩] 0 P Tryz.sizeOf133 ?_
 intro ai I
 refine nt (rt (zO (lv rfl rfl (zD (cs:= [.string ⟨List.toArray j⟩, .string ⟨List.toArray l⟩]) Tryz.isAgg133 Tryz.sizeOf133 ((I.cls (i:=0) rfl).lit (k:=0) (m:=2) rfl))) ?_))
 have Q:=I.pk [1]
 have e:jv f=(bu.mk j l,t):=et (ae o) (ae p)
 obtain⟨rfl,rfl⟩:=ig (e.symm.trans hr)
 exact⟨E,F,rfl,Q,(ay.trans c g)⟩
def gJ (e:ReaderT):eU × ReaderT:=
 bnd (aU e) fun a=>bnd (aU a.2) fun b=>bnd (aU b.2) fun c=>bnd (ic c.2) fun d=>(eU.mk a.1 b.1 c.1 d.1,d.2)
theorem om (w:World) (D:Nat→Prop) (y:Nat) (t:ReaderT) (h:Option Addr) (b:Nat) (r0:eU) (r1:ReaderT) (H:Own w D w [blk y [.slice h t.aa.ls.length b, .int .i64 t.av] 150]) (d:Ro w D fun w'=>bn w' 1 h t.aa.ls.length (List.flatMap eB t.aa.ls)) (aD:t.aa.ls.length≤b∧t.aa.ls.length≤9223372036854775807) (hr:gJ t=(r0,r1)):
    Calls Tryz.prog 58 #[.pointer (some ⟨y,0,none⟩)] w (dE fun v w'=> ∃ (B1ox0:Option Addr) (b1ox0:Nat),v= .agg (eU.cells r0).toArray∧Own w D w' [blk y [.slice B1ox0 r1.aa.ls.length b1ox0, .int .i64 r1.av] 150]∧(ay 1 h b t.aa.ls B1ox0 b1ox0 r1.aa.ls)):=by
 refine zg (args:= [.pointer (some ⟨y,0,none⟩)]) Tryz.func58 rfl rfl rfl ?_
 show Wp _ _ _ [(0, .pointer (some ⟨y,0,none⟩))] _ _
 refine sr ?_
 refine dC [.int .u64 0, .int .u64 0, .int .u64 0, .string ⟨List.toArray ([])⟩, .string ⟨List.toArray ([])⟩] 29 H ?_
 intro bA bB aF
 refine ns (Mz rfl ?_)
 have aG:=aF.pk [1,0]
 obtain⟨⟨j,n⟩,C⟩:∃ q:Nat × ReaderT,aU t=q:=⟨_,rfl⟩
 obtain⟨bC,S,T,U,aX⟩:=zx aG
 refine cl Tryz.call51 (dw _ _ y t h b j n S (T _ d) (show t.aa.ls.length≤b∧t.aa.ls.length≤9223372036854775807 from by omega) C) ?_
 rintro _ bD ⟨N,z,rfl,V,a,E⟩
 have aH:=U _ _ V
 replace a:ay 1 h b t.aa.ls N z n.aa.ls:=a
 have aY:=(a).le
 replace E:j≤18446744073709551615:=E
 refine Kz (.agg #[.int .u64 ((j:Nat):Int), .int .u64 0, .int .u64 0, .string ⟨List.toArray ([])⟩, .string ⟨List.toArray ([])⟩]) ?_
 refine dC [.int .u64 0, .int .u64 0, .int .u64 0, .string ⟨List.toArray ([])⟩, .string ⟨List.toArray ([])⟩] 29 aH ?_
 intro O bE aI
 refine df [.int .u64 ((j:Nat):Int), .int .u64 0, .int .u64 0, .string ⟨List.toArray ([])⟩, .string ⟨List.toArray ([])⟩] 0 aI Tryz.sizeOf29 ?_
 intro bF aJ
 refine ns (Mz rfl ?_)
 have aK:=aJ.pk [1,0,2]
 obtain⟨⟨o,p⟩,F⟩:∃ q:Nat × ReaderT,aU n=q:=⟨_,rfl⟩
 obtain⟨bG,W,X,Y,aZ⟩:=zx aK
 refine cl Tryz.call51 (dw _ _ y n N z o p W (fun u x=>ay.rds bi (by decide) a ((X _ d) u x)) (show n.aa.ls.length≤z∧n.aa.ls.length≤9223372036854775807 from by omega) F) ?_
 rintro _ bH ⟨P,A,rfl,Z,c,G⟩
 have aL:=Y _ _ Z
 replace c:ay 1 N z n.aa.ls P A p.aa.ls:=c
 have bf:=(c).le
 replace G:o≤18446744073709551615:=G
 refine Kz (.pointer (some ⟨O,1,none⟩)) ?_
 have aM:=aL.pk [1,0,2]
 refine df [.int .u64 ((o:Nat):Int)] 1 aM Tryz.sizeOf22 ?_
 intro bJ aN
 refine ns (Mz rfl ?_)
 have aO:=aN.pk [1,0,2]
 obtain⟨⟨r,s⟩,I⟩:∃ q:Nat × ReaderT,aU p=q:=⟨_,rfl⟩
 obtain⟨bK,aa,af,ag,bg⟩:=zx aO
 refine cl Tryz.call51 (dw _ _ y p P A r s aa (fun u x=>ay.rds bi (by decide) c ((fun u x=>ay.rds bi (by decide) a ((af _ d) u x)) u x)) (show p.aa.ls.length≤A∧p.aa.ls.length≤9223372036854775807 from by omega) I) ?_
 rintro _ bL ⟨Q,B,rfl,ah,l,J⟩
 have aP:=ag _ _ ah
 replace l:ay 1 P A p.aa.ls Q B s.aa.ls:=l
 have bq:=(l).le
 replace J:r≤18446744073709551615:=J
 refine Kz (.pointer (some ⟨O,2,none⟩)) ?_
 have aQ:=aP.pk [1,0,2]
 refine df [.int .u64 ((r:Nat):Int)] 2 aQ Tryz.sizeOf22 ?_
 intro bM aR
 refine ns (Mz rfl ?_)
 have aS:=aR.pk [1,0,2]
 obtain⟨⟨f,R⟩,K⟩:∃ q:bI × ReaderT,ic s=q:=⟨_,rfl⟩
 obtain⟨bN,ai,aj,ak,bu⟩:=zx aS
 refine cl Tryz.call57 (lL _ _ y s Q B f R ai (fun u x=>ay.rds bi (by decide) l ((fun u x=>ay.rds bi (by decide) c ((fun u x=>ay.rds bi (by decide) a ((aj _ d) u x)) u x)) u x)) (show s.aa.ls.length≤B∧s.aa.ls.length≤9223372036854775807 from by omega) K) ?_
 rintro _ bO ⟨au,av,rfl,ax,g⟩
 have aT:=ak _ _ ax
 replace g:ay 1 Q B s.aa.ls au av R.aa.ls:=g
 have aV:=(g).le
 refine Kz (.pointer (some ⟨O,3,none⟩)) ?_
 have az:=aT.pk [1,0,2]
 refine df (bI.cells f) 3 az Tryz.sizeOf27 ?_
 intro bv L
 refine ns (La ([.int .u64 ((j:Nat):Int), .int .u64 ((o:Nat):Int), .int .u64 ((r:Nat):Int), .string ⟨List.toArray f.aJ⟩, .string ⟨List.toArray f.aN⟩]) L 0 Tryz.isAgg29 Tryz.sizeOf29 ?_)
 have aA:=L.pk [2,0,1]
 refine df [.int .u64 ((j:Nat):Int), .int .u64 ((o:Nat):Int), .int .u64 ((r:Nat):Int), .string ⟨List.toArray f.aJ⟩, .string ⟨List.toArray f.aN⟩] 0 aA Tryz.sizeOf29 ?_
 intro bz M
 refine nt (rt (zO (lv rfl rfl (zD (cs:= [.int .u64 ((j:Nat):Int), .int .u64 ((o:Nat):Int), .int .u64 ((r:Nat):Int), .string ⟨List.toArray f.aJ⟩, .string ⟨List.toArray f.aN⟩]) Tryz.isAgg29 Tryz.sizeOf29 ((M.cls (i:=0) rfl).lit (k:=0) (m:=5) rfl))) ?_))
 have aB:=M.pk [2]
 have e:gJ t=(eU.mk j o r f,R):=et (ae C) (et (ae F) (et (ae I) (ae K)))
 obtain⟨rfl,rfl⟩:=ig (e.symm.trans hr)
 exact⟨au,av,rfl,aB,(ay.trans (ay.trans (ay.trans a c) l) g)⟩
def dX (p1:Int):Nat→List aW→Nat→List UInt8→Int→(List aW) × (List UInt8) × Int
  | 0,c,e,d,a=>default
  | f+1,c,e,d,a=>if((e:Nat):Int) < p1 then if a=0 then bnd (jL (ReaderT.mk (Ll.mk d) a)) fun b=>dX p1 f (c++ [b.1]) (e+1) b.2.aa.ls b.2.av else(c,d,a) else(c,d,a)
def jy (a:ReaderT) (p1:Int):(List aW) × ReaderT:=
 bnd (bnd (dX p1 ((Int.toNat p1 - 0)+1) ([]) 0 a.aa.ls a.av) fun sLrJjL=>(sLrJjL.1,sLrJjL.2.1,sLrJjL.2.2)) fun sJrJ=>(sJrJ.1,ReaderT.mk (Ll.mk sJrJ.2.1) sJrJ.2.2)
theorem nu (w:World) (D:Nat→Prop) (t:Nat) (a:ReaderT) (b:Option Addr) (c:Nat) (p1:Int) (U:List aW) (r1:ReaderT) (H:Own w D w [blk t [.slice b a.aa.ls.length c, .int .i64 a.av] 150]) (R:Ro w D fun w'=>bn w' 1 b a.aa.ls.length (List.flatMap eB a.aa.ls)) (aA:a.aa.ls.length≤c∧a.aa.ls.length≤9223372036854775807) (bu:p1≤1000) (hr:jy a p1=(U,r1)):
    Calls Tryz.prog 114 #[.pointer (some ⟨t,0,none⟩), .int .i64 p1, .func (.func 98) #[] #[]] w (dE fun v w'=> ∃ (B0:Option Addr) (b0:Nat) (B1ox0:Option Addr) (b1ox0:Nat),v= .slice B0 U.length b0∧Own w D w' [row B0 U.length b0 (List.flatMap aW.cells U) 74 6,blk t [.slice B1ox0 r1.aa.ls.length b1ox0, .int .i64 r1.av] 150]∧(ay 1 b c a.aa.ls B1ox0 b1ox0 r1.aa.ls)∧(U.length≤1000)):=by
 refine zg (args:= [.pointer (some ⟨t,0,none⟩), .int .i64 p1, .func (.func 98) #[] #[]]) Tryz.func114 rfl rfl rfl ?_
 show Wp _ _ _ [(0, .pointer (some ⟨t,0,none⟩)),(1, .int .i64 p1),(2, .func (.func 98) #[] #[])] _ _
 refine sr (Ar rfl (An rfl (ze (sr (An rfl ?_)))))
 obtain⟨V,W⟩:∃ q:((Option Addr) × Nat × (List aW) × (Option Addr) × Nat × (List UInt8) × Int)→World→Prop,q=fun(i:(Option Addr) × Nat × (List aW) × (Option Addr) × Nat × (List UInt8) × Int) w'=>Own w D w' [blk t [.slice i.2.2.2.1 i.2.2.2.2.2.1.length i.2.2.2.2.1, .int .i64 i.2.2.2.2.2.2] 150,row i.1 i.2.2.1.length i.2.1 (List.flatMap aW.cells i.2.2.1) 74 6]∧(ay 1 b c a.aa.ls i.2.2.2.1 i.2.2.2.2.1 i.2.2.2.2.2.1∧0≤i.2.2.1.length∧i.2.2.2.2.2.1.length≤a.aa.ls.length∧i.2.2.2.2.2.1.length≤a.aa.ls.length+1∧i.2.2.1.length≤1000∧(bnd (dX p1 ((Int.toNat p1 - 0)+1) ([]) 0 a.aa.ls a.av) fun sLrJjL=>(sLrJjL.1,sLrJjL.2.1,sLrJjL.2.2))=(i.2.2.1,i.2.2.2.2.2.1,i.2.2.2.2.2.2)):=⟨_,rfl⟩
 have C:∀ {E:Option Addr} {F:Nat} {l:List aW} {G:Option Addr} {I:Nat} {o:List UInt8} {J:Int} {w':World},V (E,F,l,G,I,o,J) w'↔Own w D w' [blk t [.slice G o.length I, .int .i64 J] 150,row E l.length F (List.flatMap aW.cells l) 74 6]∧ay 1 b c a.aa.ls G I o∧0≤l.length∧o.length≤a.aa.ls.length∧o.length≤a.aa.ls.length+1∧l.length≤1000∧(bnd (dX p1 ((Int.toNat p1 - 0)+1) ([]) 0 a.aa.ls a.av) fun sLrJjL=>(sLrJjL.1,sLrJjL.2.1,sLrJjL.2.2))=(l,o,J):=by intros; subst W; exact Iff.rfl
 refine Ae (fun i:(Option Addr) × Nat × (List aW) × (Option Addr) × Nat × (List UInt8) × Int=> [(7, .slice i.1 i.2.2.1.length i.2.1),(6, .slice none 0 0)]) V ?_ ?_
 refine bo ?_
 have aB:Own w D w [row none 0 0 (List.flatMap aW.cells ([])) 74 6,blk t [.slice b a.aa.ls.length c, .int .i64 a.av] 150]:=H.free (gX 74 6)
 have aC:=aB.pk [1,0]
 obtain⟨X,Y⟩:∃ q:((Option Addr) × Nat × (List aW) × Nat × (Option Addr) × Nat × (List UInt8) × Int × Nat)→World→Prop,q=fun(i:(Option Addr) × Nat × (List aW) × Nat × (Option Addr) × Nat × (List UInt8) × Int × Nat) w'=>Own w D w' [blk t [.slice i.2.2.2.2.1 i.2.2.2.2.2.2.1.length i.2.2.2.2.2.1, .int .i64 i.2.2.2.2.2.2.2.1] 150,row i.1 i.2.2.1.length i.2.1 (List.flatMap aW.cells i.2.2.1) 74 6]∧(ay 1 b c a.aa.ls i.2.2.2.2.1 i.2.2.2.2.2.1 i.2.2.2.2.2.2.1∧i.2.2.1.length≤i.2.2.2.1∧(i.2.2.2.1=0∨((i.2.2.2.1:Nat):Int)≤p1)∧Int.toNat p1 - i.2.2.2.1 < i.2.2.2.2.2.2.2.2∧dX p1 ((Int.toNat p1 - 0)+1) ([]) 0 a.aa.ls a.av=dX p1 i.2.2.2.2.2.2.2.2 i.2.2.1 i.2.2.2.1 i.2.2.2.2.2.2.1 i.2.2.2.2.2.2.2.1):=⟨_,rfl⟩
 have K:∀ {z:Option Addr} {A:Nat} {f:List aW} {g:Nat} {p:Option Addr} {n:Nat} {h:List UInt8} {j:Int} {B:Nat} {w':World},X (z,A,f,g,p,n,h,j,B) w'↔Own w D w' [blk t [.slice p h.length n, .int .i64 j] 150,row z f.length A (List.flatMap aW.cells f) 74 6]∧ay 1 b c a.aa.ls p n h∧f.length≤g∧(g=0∨((g:Nat):Int)≤p1)∧Int.toNat p1 - g < B∧dX p1 ((Int.toNat p1 - 0)+1) ([]) 0 a.aa.ls a.av=dX p1 B f g h j:=by intros; subst Y; exact Iff.rfl
 refine Wp.loop (fun i:(Option Addr) × Nat × (List aW) × Nat × (Option Addr) × Nat × (List UInt8) × Int × Nat=> [(7, .slice i.1 i.2.2.1.length i.2.1),(8, .int .i64 ((i.2.2.2.1:Nat):Int)),(6, .slice none 0 0),(0, .pointer (some ⟨t,0,none⟩)),(1, .int .i64 p1),(2, .func (.func 98) #[] #[])]) X (fun i=>i.2.2.2.2.2.2.2.2) (none,0, [],0,b,c,a.aa.ls,a.av,(Int.toNat p1 - 0)+1) ⟨rfl,rfl,rfl,rfl,rfl,rfl,trivial⟩ (K.2 ⟨aC,(show ay 1 b c a.aa.ls b c a.aa.ls∧0≤0∧(0=0∨((0:Nat):Int)≤p1)∧Int.toNat p1 - 0 < ((Int.toNat p1 - 0)+1)∧dX p1 ((Int.toNat p1 - 0)+1) ([]) 0 a.aa.ls a.av=dX p1 ((Int.toNat p1 - 0)+1) ([]) 0 a.aa.ls a.av from ⟨by exact(ay.refl (by omega)),by omega,by omega,by omega,rfl⟩)⟩) ?_
 rintro ⟨z,A,f,g,p,n,h,j,B⟩ bv Z
 show Wp _ _ _ [(7, .slice z f.length A),(8, .int .i64 ((g:Nat):Int)),(6, .slice none 0 0),(0, .pointer (some ⟨t,0,none⟩)),(1, .int .i64 p1),(2, .func (.func 98) #[] #[])] _ _
 obtain⟨M,r,aQ,aR,aS,L⟩:=K.1 Z
 have aT:=(r).le
 obtain⟨S,aa⟩:∃ q,B=q+1:=⟨B - 1,by omega⟩
 subst aa
 refine ze (sr (Mz rfl (Mz rfl (Kz (.bool (decide (((g:Nat):Int) < p1))) (Mz rfl ?_)))))
 by_cases d:((g:Nat):Int) < p1
 refine gw (.pointer (some ⟨t,0,none⟩)) (dT d) (zo rfl) (Gz (.pointer (some ⟨t,0,none⟩)) (dT d) (Gz (.pointer (some ⟨t,1,none⟩)) (dT d) (Gl (.int .i64 j) (dT d) M 0 Tryz.isAgg38 (Gz (.bool (decide (j=0))) (dT d) (fw (.bool (decide (j=0))) (zf rfl (dT d) rfl) (nt ?_))))))
 by_cases N:j=0
 refine jT (dT N) (sk (ze (bo (zb (Mz rfl (Mz rfl (Mz rfl ?_)))))))
 obtain⟨⟨u,O⟩,P⟩:∃ q:aW × ReaderT,jL (ReaderT.mk (Ll.mk h) j)=q:=⟨_,rfl⟩
 obtain⟨bz,af,ag,ah,aU⟩:=zx M
 refine WL.do rfl (zK Tryz.call98 rfl rfl (pU _ _ t (ReaderT.mk (Ll.mk h) j) p n u O af (fun w9 h9=>ay.rds bi (by decide) r ((ag _ R) w9 h9)) (show h.length≤n∧h.length≤9223372036854775807 from by omega) P) ?_)
 rintro _ bC ⟨ai,aj,rfl,ak,x⟩
 have aD:=ah _ _ ak
 replace x:ay 1 p n h ai aj O.aa.ls:=x
 have aV:=(x).le
 refine kF (aW.cells u) 74 6 1 aD ?_
 intro aF bD T
 replace T:=zY (y:=row aF 1 1 (List.flatMap aW.cells ([u])) 74 6) rfl T
 have au:=T.pk [2,0,1]
 refine WL.do rfl (Aa (k:=f.length) (m:=1) (qD) au rfl rfl (j3 Tryz.underlying64 (au.rds (i:=1) rfl) (jA aW.one ([u]))) rfl (by omega) (s:=List.length (f++ [u])) (by first | omega | (simp only [List.length_append,List.length_cons,List.length_nil] <;> omega)) (List.flatMap_append).symm ?_)
 intro aG aH bE aI
 have aX:List.length (f++ [u])=f.length+1:=by simp only [List.length_append,List.length_cons,List.length_nil]
 refine Az rfl (zq (bN (zu (zb (Mz rfl (fw (.int .i64 ((g+1:Nat):Int)) (zy (e:=IntKind.i64.wrap (((g:Nat):Int)+1)) yk (by rw [Cb _ (by omega)]; omega)) (Az rfl (zq ?_))))))))
 have aJ:=aI.pk [2,0]
 exact zH (aG,aH,(f++ [u]),g+1,ai,aj,O.aa.ls,O.av,S) ⟨rfl,rfl,rfl,rfl,rfl,rfl,trivial⟩ (K.2 ⟨aJ,by exact(ay.trans r x),by omega,by omega,by omega,et (L) (et (ip d) (et (ip N) (ae P)))⟩) (by show S < S+1; omega)
 refine jF (dF N) (Wp.exit (zk (zk (zA ?_))))
 have aK:=M.pk [0,1]
 exact zU (z,A,f,p,n,h,j) ⟨rfl,rfl,trivial⟩ (C.2 ⟨aK,by exact r,by omega,by omega,by omega,by omega,ae (et (L) (et (ip d) (iN N)))⟩)
 refine Sz (dF d) (Sz (dF d) (Sz (dF d) (Sz (dF d) (Sz (dF d) (fw (.bool false) (zh rfl (dF d) rfl) (nt (jf (Wp.exit (zk (zk (zA ?_)))))))))))
 have aL:=M.pk [0,1]
 exact zU (z,A,f,p,n,h,j) ⟨rfl,rfl,trivial⟩ (C.2 ⟨aL,by exact r,by omega,by omega,by omega,by omega,ae (et (L) (iN d))⟩)
 rintro ⟨E,F,l,G,I,o,J⟩ bF av
 show Wp _ _ _ [(7, .slice E l.length F),(6, .slice none 0 0)] _ _
 obtain⟨aM,Q,aY,aZ,bf,bg,ax⟩:=C.1 av
 have bq:=(Q).le
 refine sr (Mz rfl (An rfl (rt (rs ?_))))
 have aN:=aM.pk [1,0]
 have e:jy a p1=(l,ReaderT.mk (Ll.mk o) J):=ae ax
 obtain⟨rfl,rfl⟩:=ig (e.symm.trans hr)
 exact⟨E,F,G,I,rfl,aN,Q,(by omega)⟩
def jk (c:ReaderT) (p1:Nat):(List aW) × ReaderT:=
 bnd (aI c p1) fun a=>bnd (jy a.2 ((a.1:Nat):Int)) fun b=>(b.1,b.2)
theorem nK (w:World) (D:Nat→Prop) (p:Nat) (f:ReaderT) (b:Option Addr) (a:Nat) (p1:Nat) (u:List aW) (K:ReaderT) (H:Own w D w [blk p [.slice b f.aa.ls.length a, .int .i64 f.av] 150]) (j:Ro w D fun w'=>bn w' 1 b f.aa.ls.length (List.flatMap eB f.aa.ls)) (L:f.aa.ls.length≤a∧f.aa.ls.length≤9223372036854775807) (X:p1≤1000) (hr:jk f p1=(u,K)):
    Calls Tryz.prog 97 #[.pointer (some ⟨p,0,none⟩), .int .u64 ((p1:Nat):Int), .func (.func 98) #[] #[]] w (dE fun v w'=> ∃ (Q:Option Addr) (R:Nat) (B1ox0:Option Addr) (b1ox0:Nat),v= .slice Q u.length R∧Own w D w' [row Q u.length R (List.flatMap aW.cells u) 74 6,blk p [.slice B1ox0 K.aa.ls.length b1ox0, .int .i64 K.av] 150]∧(ay 1 b a f.aa.ls B1ox0 b1ox0 K.aa.ls)∧(u.length≤1000)):=by
 refine zg (args:= [.pointer (some ⟨p,0,none⟩), .int .u64 ((p1:Nat):Int), .func (.func 98) #[] #[]]) Tryz.func97 rfl rfl rfl ?_
 show Wp _ _ _ [(0, .pointer (some ⟨p,0,none⟩)),(1, .int .u64 ((p1:Nat):Int)),(2, .func (.func 98) #[] #[])] _ _
 refine sr (Ar rfl (Mz rfl (Mz rfl (Mz rfl ?_))))
 obtain⟨⟨h,d⟩,l⟩:∃ q:Nat × ReaderT,aI f p1=q:=⟨_,rfl⟩
 obtain⟨Y,x,y,z,S⟩:=zx H
 refine cl Tryz.call93 (eT _ _ p f b a p1 h d x (y _ j) (show f.aa.ls.length≤a∧f.aa.ls.length≤9223372036854775807 from by omega) l) ?_
 rintro _ Z ⟨r,k,rfl,A,c,m⟩
 have M:=z _ _ A
 replace c:ay 1 b a f.aa.ls r k d.aa.ls:=c
 have T:=(c).le
 replace m:h≤p1:=m
 refine fw (.int .i64 ((h:Nat):Int)) (zy (e:=IntKind.i64.wrap ((h:Nat):Int)) yk (Cb _ (by omega))) (Mz rfl ?_)
 obtain⟨⟨s,t⟩,n⟩:∃ q:(List aW) × ReaderT,jy d ((h:Nat):Int)=q:=⟨_,rfl⟩
 obtain⟨aa,B,C,E,U⟩:=zx M
 refine cl Tryz.call114 (nu _ _ p d r k ((h:Nat):Int) s t B (fun w9 h9=>ay.rds bi (by decide) c ((C _ j) w9 h9)) (show d.aa.ls.length≤k∧d.aa.ls.length≤9223372036854775807 from by omega) (by omega) n) ?_
 rintro _ ah ⟨N,O,F,G,rfl,I,g,o⟩
 have J:=E _ _ I
 replace g:ay 1 r k d.aa.ls F G t.aa.ls:=g
 have V:=(g).le
 have W:=J.rowC (i:=0) rfl
 replace o:s.length≤1000:=o
 refine An rfl (rt (rs ?_))
 have P:=J.pk [0,1]
 have e:jk f p1=(s,t):=et (ae l) (ae n)
 obtain⟨rfl,rfl⟩:=ig (e.symm.trans hr)
 exact⟨N,O,F,G,rfl,P,(ay.trans c g),(by omega)⟩
def iU (c:ReaderT):fK × ReaderT:=
 bnd (aU c) fun a=>bnd (jk a.2 255) fun b=>(fK.mk a.1 (Ll.mk b.1),b.2)
set_option maxHeartbeats 1000000 in
theorem oJ (w:World) (D:Nat→Prop) (z:Nat) (f:ReaderT) (b:Option Addr) (a:Nat) (C:fK) (R:ReaderT) (H:Own w D w [blk z [.slice b f.aa.ls.length a, .int .i64 f.av] 150]) (l:Ro w D fun w'=>bn w' 1 b f.aa.ls.length (List.flatMap eB f.aa.ls)) (S:f.aa.ls.length≤a∧f.aa.ls.length≤9223372036854775807) (hr:iU f=(C,R)):
    Calls Tryz.prog 55 #[.pointer (some ⟨z,0,none⟩)] w (dE fun v w'=> ∃ (r:Option Addr) (s:Nat) (B1ox0:Option Addr) (b1ox0:Nat),v= .agg #[.int .u64 ((C.aS:Nat):Int), .slice r C.aL.ls.length s]∧Own w D w' [row r C.aL.ls.length s (List.flatMap aW.cells C.aL.ls) 74 6,blk z [.slice B1ox0 R.aa.ls.length b1ox0, .int .i64 R.av] 150]∧(ay 1 b a f.aa.ls B1ox0 b1ox0 R.aa.ls)∧(C.aL.ls.length≤1000)):=by
 refine zg (args:= [.pointer (some ⟨z,0,none⟩)]) Tryz.func55 rfl rfl rfl ?_
 show Wp _ _ _ [(0, .pointer (some ⟨z,0,none⟩))] _ _
 refine sr ?_
 refine dC [.int .u64 0, .slice none 0 0] 66 H ?_
 intro ah ai T
 refine ns (Mz rfl ?_)
 have U:=T.pk [1,0]
 obtain⟨⟨h,d⟩,t⟩:∃ q:Nat × ReaderT,aU f=q:=⟨_,rfl⟩
 obtain⟨aj,E,F,G,Y⟩:=zx U
 refine cl Tryz.call51 (dw _ _ z f b a h d E (F _ l) (show f.aa.ls.length≤a∧f.aa.ls.length≤9223372036854775807 from by omega) t) ?_
 rintro _ ak ⟨A,n,rfl,I,c,u⟩
 have V:=G _ _ I
 replace c:ay 1 b a f.aa.ls A n d.aa.ls:=c
 have Z:=(c).le
 replace u:h≤18446744073709551615:=u
 refine Ar rfl (Mz rfl (Mz rfl ?_))
 obtain⟨⟨j,B⟩,x⟩:∃ q:(List aW) × ReaderT,jk d 255=q:=⟨_,rfl⟩
 obtain⟨au,J,K,L,aa⟩:=zx V
 refine cl Tryz.call97 (nK _ _ z d A n 255 j B J (fun w9 h9=>ay.rds bi (by decide) c ((K _ l) w9 h9)) (show d.aa.ls.length≤n∧d.aa.ls.length≤9223372036854775807 from by omega) (by omega) x) ?_
 rintro _ az ⟨o,p,M,N,rfl,O,g,y⟩
 have P:=L _ _ O
 replace g:ay 1 A n d.aa.ls M N B.aa.ls:=g
 have af:=(g).le
 have ag:=P.rowC (i:=0) rfl
 replace y:j.length≤1000:=y
 refine Kz (.agg #[.int .u64 ((h:Nat):Int), .slice o j.length p]) ?_
 have W:=P.pk [2,0,1]
 refine df [.int .u64 ((h:Nat):Int), .slice o j.length p] 0 W Tryz.sizeOf66 ?_
 intro aA Q
 refine nt (rt (zO (lv rfl rfl (zD (cs:= [.int .u64 ((h:Nat):Int), .slice o j.length p]) Tryz.isAgg66 Tryz.sizeOf66 ((Q.cls (i:=0) rfl).lit (k:=0) (m:=2) rfl))) ?_))
 have X:=Q.pk [1,2]
 have e:iU f=(fK.mk h (Ll.mk j),B):=et (ae t) (ae x)
 obtain⟨rfl,rfl⟩:=ig (e.symm.trans hr)
 exact⟨o,p,M,N,rfl,X,(ay.trans c g),(by first | omega | (dsimp only; omega) | (simp only [List.length_nil]; omega) | decide)⟩
def fG (p1:Int):Nat→List Int→Nat→List UInt8→Int→(List Int) × (List UInt8) × Int
  | 0,c,e,d,a=>default
  | f+1,c,e,d,a=>if((e:Nat):Int) < p1 then if a=0 then bnd (dA (ReaderT.mk (Ll.mk d) a)) fun b=>fG p1 f (c++ [b.1]) (e+1) b.2.aa.ls b.2.av else(c,d,a) else(c,d,a)
def jQ (a:ReaderT) (p1:Int):(List Int) × ReaderT:=
 bnd (bnd (fG p1 ((Int.toNat p1 - 0)+1) ([]) 0 a.aa.ls a.av) fun sLrJjL=>(sLrJjL.1,sLrJjL.2.1,sLrJjL.2.2)) fun sJrJ=>(sJrJ.1,ReaderT.mk (Ll.mk sJrJ.2.1) sJrJ.2.2)
theorem oo (w:World) (D:Nat→Prop) (u:Nat) (a:ReaderT) (b:Option Addr) (c:Nat) (p1:Int) (V:List Int) (r1:ReaderT) (H:Own w D w [blk u [.slice b a.aa.ls.length c, .int .i64 a.av] 150]) (S:Ro w D fun w'=>bn w' 1 b a.aa.ls.length (List.flatMap eB a.aa.ls)) (aB:a.aa.ls.length≤c∧a.aa.ls.length≤9223372036854775807) (bu:p1≤1000) (hr:jQ a p1=(V,r1)):
    Calls Tryz.prog 115 #[.pointer (some ⟨u,0,none⟩), .int .i64 p1, .func (.func 50) #[] #[]] w (dE fun v w'=> ∃ (B0:Option Addr) (b0:Nat) (B1ox0:Option Addr) (b1ox0:Nat),v= .slice B0 V.length b0∧Own w D w' [row B0 V.length b0 (List.flatMap (eI .i64) V) 3 1,blk u [.slice B1ox0 r1.aa.ls.length b1ox0, .int .i64 r1.av] 150]∧(ay 1 b c a.aa.ls B1ox0 b1ox0 r1.aa.ls)∧(V.length≤1000)):=by
 refine zg (args:= [.pointer (some ⟨u,0,none⟩), .int .i64 p1, .func (.func 50) #[] #[]]) Tryz.func115 rfl rfl rfl ?_
 show Wp _ _ _ [(0, .pointer (some ⟨u,0,none⟩)),(1, .int .i64 p1),(2, .func (.func 50) #[] #[])] _ _
 refine sr (Ar rfl (An rfl (ze (sr (An rfl ?_)))))
 obtain⟨W,X⟩:∃ q:((Option Addr) × Nat × (List Int) × (Option Addr) × Nat × (List UInt8) × Int)→World→Prop,q=fun(i:(Option Addr) × Nat × (List Int) × (Option Addr) × Nat × (List UInt8) × Int) w'=>Own w D w' [blk u [.slice i.2.2.2.1 i.2.2.2.2.2.1.length i.2.2.2.2.1, .int .i64 i.2.2.2.2.2.2] 150,row i.1 i.2.2.1.length i.2.1 (List.flatMap (eI .i64) i.2.2.1) 3 1]∧(ay 1 b c a.aa.ls i.2.2.2.1 i.2.2.2.2.1 i.2.2.2.2.2.1∧0≤i.2.2.1.length∧i.2.2.2.2.2.1.length≤a.aa.ls.length∧i.2.2.2.2.2.1.length≤a.aa.ls.length+1∧i.2.2.1.length≤1000∧(bnd (fG p1 ((Int.toNat p1 - 0)+1) ([]) 0 a.aa.ls a.av) fun sLrJjL=>(sLrJjL.1,sLrJjL.2.1,sLrJjL.2.2))=(i.2.2.1,i.2.2.2.2.2.1,i.2.2.2.2.2.2)):=⟨_,rfl⟩
 have C:∀ {E:Option Addr} {F:Nat} {l:List Int} {G:Option Addr} {I:Nat} {p:List UInt8} {J:Int} {w':World},W (E,F,l,G,I,p,J) w'↔Own w D w' [blk u [.slice G p.length I, .int .i64 J] 150,row E l.length F (List.flatMap (eI .i64) l) 3 1]∧ay 1 b c a.aa.ls G I p∧0≤l.length∧p.length≤a.aa.ls.length∧p.length≤a.aa.ls.length+1∧l.length≤1000∧(bnd (fG p1 ((Int.toNat p1 - 0)+1) ([]) 0 a.aa.ls a.av) fun sLrJjL=>(sLrJjL.1,sLrJjL.2.1,sLrJjL.2.2))=(l,p,J):=by intros; subst X; exact Iff.rfl
 refine Ae (fun i:(Option Addr) × Nat × (List Int) × (Option Addr) × Nat × (List UInt8) × Int=> [(7, .slice i.1 i.2.2.1.length i.2.1),(6, .slice none 0 0)]) W ?_ ?_
 refine bo ?_
 have aC:Own w D w [row none 0 0 (List.flatMap (eI .i64) ([])) 3 1,blk u [.slice b a.aa.ls.length c, .int .i64 a.av] 150]:=H.free (gX 3 1)
 have aD:=aC.pk [1,0]
 obtain⟨Y,Z⟩:∃ q:((Option Addr) × Nat × (List Int) × Nat × (Option Addr) × Nat × (List UInt8) × Int × Nat)→World→Prop,q=fun(i:(Option Addr) × Nat × (List Int) × Nat × (Option Addr) × Nat × (List UInt8) × Int × Nat) w'=>Own w D w' [blk u [.slice i.2.2.2.2.1 i.2.2.2.2.2.2.1.length i.2.2.2.2.2.1, .int .i64 i.2.2.2.2.2.2.2.1] 150,row i.1 i.2.2.1.length i.2.1 (List.flatMap (eI .i64) i.2.2.1) 3 1]∧(ay 1 b c a.aa.ls i.2.2.2.2.1 i.2.2.2.2.2.1 i.2.2.2.2.2.2.1∧i.2.2.1.length≤i.2.2.2.1∧(i.2.2.2.1=0∨((i.2.2.2.1:Nat):Int)≤p1)∧Int.toNat p1 - i.2.2.2.1 < i.2.2.2.2.2.2.2.2∧fG p1 ((Int.toNat p1 - 0)+1) ([]) 0 a.aa.ls a.av=fG p1 i.2.2.2.2.2.2.2.2 i.2.2.1 i.2.2.2.1 i.2.2.2.2.2.2.1 i.2.2.2.2.2.2.2.1):=⟨_,rfl⟩
 have K:∀ {z:Option Addr} {A:Nat} {f:List Int} {g:Nat} {r:Option Addr} {n:Nat} {h:List UInt8} {j:Int} {B:Nat} {w':World},Y (z,A,f,g,r,n,h,j,B) w'↔Own w D w' [blk u [.slice r h.length n, .int .i64 j] 150,row z f.length A (List.flatMap (eI .i64) f) 3 1]∧ay 1 b c a.aa.ls r n h∧f.length≤g∧(g=0∨((g:Nat):Int)≤p1)∧Int.toNat p1 - g < B∧fG p1 ((Int.toNat p1 - 0)+1) ([]) 0 a.aa.ls a.av=fG p1 B f g h j:=by intros; subst Z; exact Iff.rfl
 refine Wp.loop (fun i:(Option Addr) × Nat × (List Int) × Nat × (Option Addr) × Nat × (List UInt8) × Int × Nat=> [(7, .slice i.1 i.2.2.1.length i.2.1),(8, .int .i64 ((i.2.2.2.1:Nat):Int)),(6, .slice none 0 0),(0, .pointer (some ⟨u,0,none⟩)),(1, .int .i64 p1),(2, .func (.func 50) #[] #[])]) Y (fun i=>i.2.2.2.2.2.2.2.2) (none,0, [],0,b,c,a.aa.ls,a.av,(Int.toNat p1 - 0)+1) ⟨rfl,rfl,rfl,rfl,rfl,rfl,trivial⟩ (K.2 ⟨aD,(show ay 1 b c a.aa.ls b c a.aa.ls∧0≤0∧(0=0∨((0:Nat):Int)≤p1)∧Int.toNat p1 - 0 < ((Int.toNat p1 - 0)+1)∧fG p1 ((Int.toNat p1 - 0)+1) ([]) 0 a.aa.ls a.av=fG p1 ((Int.toNat p1 - 0)+1) ([]) 0 a.aa.ls a.av from ⟨by exact(ay.refl (by omega)),by omega,by omega,by omega,rfl⟩)⟩) ?_
 rintro ⟨z,A,f,g,r,n,h,j,B⟩ bv aa
 show Wp _ _ _ [(7, .slice z f.length A),(8, .int .i64 ((g:Nat):Int)),(6, .slice none 0 0),(0, .pointer (some ⟨u,0,none⟩)),(1, .int .i64 p1),(2, .func (.func 50) #[] #[])] _ _
 obtain⟨M,t,aR,aS,aT,L⟩:=K.1 aa
 have aU:=(t).le
 obtain⟨T,af⟩:∃ q,B=q+1:=⟨B - 1,by omega⟩
 subst af
 refine ze (sr (Mz rfl (Mz rfl (Kz (.bool (decide (((g:Nat):Int) < p1))) (Mz rfl ?_)))))
 by_cases d:((g:Nat):Int) < p1
 refine gw (.pointer (some ⟨u,0,none⟩)) (dT d) (zo rfl) (Gz (.pointer (some ⟨u,0,none⟩)) (dT d) (Gz (.pointer (some ⟨u,1,none⟩)) (dT d) (Gl (.int .i64 j) (dT d) M 0 Tryz.isAgg38 (Gz (.bool (decide (j=0))) (dT d) (fw (.bool (decide (j=0))) (zf rfl (dT d) rfl) (nt ?_))))))
 by_cases N:j=0
 refine jT (dT N) (sk (ze (bo (zb (Mz rfl (Mz rfl (Mz rfl ?_)))))))
 obtain⟨⟨o,O⟩,P⟩:∃ q:Int × ReaderT,dA (ReaderT.mk (Ll.mk h) j)=q:=⟨_,rfl⟩
 obtain⟨bz,ag,ah,ai,aV⟩:=zx M
 refine WL.do rfl (zK Tryz.call50 rfl rfl (iq _ _ u (ReaderT.mk (Ll.mk h) j) r n o O ag (fun w9 h9=>ay.rds bi (by decide) t ((ah _ S) w9 h9)) (show h.length≤n∧h.length≤9223372036854775807 from by omega) P) ?_)
 rintro _ bC ⟨aj,ak,rfl,au,x,Q⟩
 have aF:=ai _ _ au
 replace x:ay 1 r n h aj ak O.aa.ls:=x
 have aW:=(x).le
 replace Q:0≤o∧o≤255:=Q
 refine kF [.int .i64 o] 3 1 1 aF ?_
 intro aG bD U
 replace U:=zY (y:=row aG 1 1 (List.flatMap (eI .i64) ([o])) 3 1) rfl U
 have av:=U.pk [2,0,1]
 refine WL.do rfl (Aa (k:=f.length) (m:=1) (oF) av rfl rfl (j3 Tryz.underlying77 (av.rds (i:=1) rfl) (jA vQ ([o]))) rfl (by omega) (s:=List.length (f++ [o])) (by first | omega | (simp only [List.length_append,List.length_cons,List.length_nil] <;> omega)) (List.flatMap_append).symm ?_)
 intro aH aI bE aJ
 have aX:List.length (f++ [o])=f.length+1:=by simp only [List.length_append,List.length_cons,List.length_nil]
 refine Az rfl (zq (bN (zu (zb (Mz rfl (fw (.int .i64 ((g+1:Nat):Int)) (zy (e:=IntKind.i64.wrap (((g:Nat):Int)+1)) yk (by rw [Cb _ (by omega)]; omega)) (Az rfl (zq ?_))))))))
 have aK:=aJ.pk [2,0]
 exact zH (aH,aI,(f++ [o]),g+1,aj,ak,O.aa.ls,O.av,T) ⟨rfl,rfl,rfl,rfl,rfl,rfl,trivial⟩ (K.2 ⟨aK,by exact(ay.trans t x),by omega,by omega,by omega,et (L) (et (ip d) (et (ip N) (ae P)))⟩) (by show T < T+1; omega)
 refine jF (dF N) (Wp.exit (zk (zk (zA ?_))))
 have aL:=M.pk [0,1]
 exact zU (z,A,f,r,n,h,j) ⟨rfl,rfl,trivial⟩ (C.2 ⟨aL,by exact t,by omega,by omega,by omega,by omega,ae (et (L) (et (ip d) (iN N)))⟩)
 refine Sz (dF d) (Sz (dF d) (Sz (dF d) (Sz (dF d) (Sz (dF d) (fw (.bool false) (zh rfl (dF d) rfl) (nt (jf (Wp.exit (zk (zk (zA ?_)))))))))))
 have aM:=M.pk [0,1]
 exact zU (z,A,f,r,n,h,j) ⟨rfl,rfl,trivial⟩ (C.2 ⟨aM,by exact t,by omega,by omega,by omega,by omega,ae (et (L) (iN d))⟩)
 rintro ⟨E,F,l,G,I,p,J⟩ bF ax
 show Wp _ _ _ [(7, .slice E l.length F),(6, .slice none 0 0)] _ _
 obtain⟨aN,R,aY,aZ,bf,bg,az⟩:=C.1 ax
 have bq:=(R).le
 refine sr (Mz rfl (An rfl (rt (rs ?_))))
 have aO:=aN.pk [1,0]
 have e:jQ a p1=(l,ReaderT.mk (Ll.mk p) J):=ae az
 obtain⟨rfl,rfl⟩:=ig (e.symm.trans hr)
 exact⟨E,F,G,I,rfl,aO,R,(by omega)⟩
def jI (c:ReaderT) (p1:Nat):(List Int) × ReaderT:=
 bnd (aI c p1) fun a=>bnd (jQ a.2 ((a.1:Nat):Int)) fun b=>(b.1,b.2)
theorem oK (w:World) (D:Nat→Prop) (p:Nat) (f:ReaderT) (b:Option Addr) (a:Nat) (p1:Nat) (u:List Int) (K:ReaderT) (H:Own w D w [blk p [.slice b f.aa.ls.length a, .int .i64 f.av] 150]) (j:Ro w D fun w'=>bn w' 1 b f.aa.ls.length (List.flatMap eB f.aa.ls)) (L:f.aa.ls.length≤a∧f.aa.ls.length≤9223372036854775807) (X:p1≤1000) (hr:jI f p1=(u,K)):
    Calls Tryz.prog 101 #[.pointer (some ⟨p,0,none⟩), .int .u64 ((p1:Nat):Int), .func (.func 50) #[] #[]] w (dE fun v w'=> ∃ (Q:Option Addr) (R:Nat) (B1ox0:Option Addr) (b1ox0:Nat),v= .slice Q u.length R∧Own w D w' [row Q u.length R (List.flatMap (eI .i64) u) 3 1,blk p [.slice B1ox0 K.aa.ls.length b1ox0, .int .i64 K.av] 150]∧(ay 1 b a f.aa.ls B1ox0 b1ox0 K.aa.ls)∧(u.length≤1000)):=by
 refine zg (args:= [.pointer (some ⟨p,0,none⟩), .int .u64 ((p1:Nat):Int), .func (.func 50) #[] #[]]) Tryz.func101 rfl rfl rfl ?_
 show Wp _ _ _ [(0, .pointer (some ⟨p,0,none⟩)),(1, .int .u64 ((p1:Nat):Int)),(2, .func (.func 50) #[] #[])] _ _
 refine sr (Ar rfl (Mz rfl (Mz rfl (Mz rfl ?_))))
 obtain⟨⟨h,d⟩,l⟩:∃ q:Nat × ReaderT,aI f p1=q:=⟨_,rfl⟩
 obtain⟨Y,x,y,z,S⟩:=zx H
 refine cl Tryz.call93 (eT _ _ p f b a p1 h d x (y _ j) (show f.aa.ls.length≤a∧f.aa.ls.length≤9223372036854775807 from by omega) l) ?_
 rintro _ Z ⟨r,k,rfl,A,c,m⟩
 have M:=z _ _ A
 replace c:ay 1 b a f.aa.ls r k d.aa.ls:=c
 have T:=(c).le
 replace m:h≤p1:=m
 refine fw (.int .i64 ((h:Nat):Int)) (zy (e:=IntKind.i64.wrap ((h:Nat):Int)) yk (Cb _ (by omega))) (Mz rfl ?_)
 obtain⟨⟨s,t⟩,n⟩:∃ q:(List Int) × ReaderT,jQ d ((h:Nat):Int)=q:=⟨_,rfl⟩
 obtain⟨aa,B,C,E,U⟩:=zx M
 refine cl Tryz.call115 (oo _ _ p d r k ((h:Nat):Int) s t B (fun w9 h9=>ay.rds bi (by decide) c ((C _ j) w9 h9)) (show d.aa.ls.length≤k∧d.aa.ls.length≤9223372036854775807 from by omega) (by omega) n) ?_
 rintro _ ah ⟨N,O,F,G,rfl,I,g,o⟩
 have J:=E _ _ I
 replace g:ay 1 r k d.aa.ls F G t.aa.ls:=g
 have V:=(g).le
 have W:=J.rowC (i:=0) rfl
 replace o:s.length≤1000:=o
 refine An rfl (rt (rs ?_))
 have P:=J.pk [0,1]
 have e:jI f p1=(s,t):=et (ae l) (ae n)
 obtain⟨rfl,rfl⟩:=ig (e.symm.trans hr)
 exact⟨N,O,F,G,rfl,P,(ay.trans c g),(by omega)⟩
def gK (f:ReaderT):bO × ReaderT:=
 bnd (aU f) fun b=>bnd (dA b.2) fun c=>bnd (aU c.2) fun d=>bnd (aU d.2) fun e=>bnd (jI e.2 255) fun a=>(bO.mk b.1 c.1 d.1 e.1 (Ll.mk a.1),a.2)
set_option maxHeartbeats 1000000 in
theorem ny (w:World) (D:Nat→Prop) (J:Nat) (C:ReaderT) (o:Option Addr) (g:Nat) (K:bO) (r1:ReaderT) (H:Own w D w [blk J [.slice o C.aa.ls.length g, .int .i64 C.av] 150]) (b:Ro w D fun w'=>bn w' 1 o C.aa.ls.length (List.flatMap eB C.aa.ls)) (bf:C.aa.ls.length≤g∧C.aa.ls.length≤9223372036854775807) (hr:gK C=(K,r1)):
    Calls Tryz.prog 64 #[.pointer (some ⟨J,0,none⟩)] w (dE fun v w'=> ∃ (Q:Option Addr) (R:Nat) (B1ox0:Option Addr) (b1ox0:Nat),v= .agg #[.int .u64 ((K.aS:Nat):Int), .int .i64 K.aC, .int .u64 ((K.au:Nat):Int), .int .u64 ((K.bB:Nat):Int), .slice Q K.af.ls.length R]∧Own w D w' [row Q K.af.ls.length R (List.flatMap (eI .i64) K.af.ls) 3 1,blk J [.slice B1ox0 r1.aa.ls.length b1ox0, .int .i64 r1.av] 150]∧(ay 1 o g C.aa.ls B1ox0 b1ox0 r1.aa.ls)∧(K.af.ls.length≤1000)):=by
 refine zg (args:= [.pointer (some ⟨J,0,none⟩)]) Tryz.func64 rfl rfl rfl ?_
 show Wp _ _ _ [(0, .pointer (some ⟨J,0,none⟩))] _ _
 refine sr ?_
 refine dC [.int .u64 0, .int .i64 0, .int .u64 0, .int .u64 0, .slice none 0 0] 79 H ?_
 intro cz cB bg
 refine ns (Mz rfl ?_)
 have bq:=bg.pk [1,0]
 obtain⟨⟨p,u⟩,S⟩:∃ q:Nat × ReaderT,aU C=q:=⟨_,rfl⟩
 obtain⟨cK,aB,aC,aD,bP⟩:=zx bq
 refine cl Tryz.call51 (dw _ _ J C o g p u aB (aC _ b) (show C.aa.ls.length≤g∧C.aa.ls.length≤9223372036854775807 from by omega) S) ?_
 rintro _ cO ⟨ai,L,rfl,aF,a,T⟩
 have bu:=aD _ _ aF
 replace a:ay 1 o g C.aa.ls ai L u.aa.ls:=a
 have bQ:=(a).le
 replace T:p≤18446744073709551615:=T
 refine Kz (.agg #[.int .u64 ((p:Nat):Int), .int .i64 0, .int .u64 0, .int .u64 0, .slice none 0 0]) ?_
 refine dC [.int .u64 0, .int .i64 0, .int .u64 0, .int .u64 0, .slice none 0 0] 79 bu ?_
 intro M cZ bv
 refine df [.int .u64 ((p:Nat):Int), .int .i64 0, .int .u64 0, .int .u64 0, .slice none 0 0] 0 bv Tryz.sizeOf79 ?_
 intro dh bz
 refine ns (Mz rfl ?_)
 have bA:=bz.pk [1,0,2]
 obtain⟨⟨r,x⟩,U⟩:∃ q:Int × ReaderT,dA u=q:=⟨_,rfl⟩
 obtain⟨di,aG,aH,aI,bR⟩:=zx bA
 refine cl Tryz.call50 (iq _ _ J u ai L r x aG (fun j l=>ay.rds bi (by decide) a ((aH _ b) j l)) (show u.aa.ls.length≤L∧u.aa.ls.length≤9223372036854775807 from by omega) U) ?_
 rintro _ dm ⟨aj,N,rfl,aJ,c,V⟩
 have bB:=aI _ _ aJ
 replace c:ay 1 ai L u.aa.ls aj N x.aa.ls:=c
 have bS:=(c).le
 replace V:0≤r∧r≤255:=V
 refine Kz (.pointer (some ⟨M,1,none⟩)) ?_
 have bC:=bB.pk [1,0,2]
 refine df [.int .i64 r] 1 bC Tryz.sizeOf3 ?_
 intro dn bD
 refine ns (Mz rfl ?_)
 have bE:=bD.pk [1,0,2]
 obtain⟨⟨y,z⟩,W⟩:∃ q:Nat × ReaderT,aU x=q:=⟨_,rfl⟩
 obtain⟨dx,aK,aL,aM,bT⟩:=zx bE
 refine cl Tryz.call51 (dw _ _ J x aj N y z aK (fun j l=>ay.rds bi (by decide) c ((fun j l=>ay.rds bi (by decide) a ((aL _ b) j l)) j l)) (show x.aa.ls.length≤N∧x.aa.ls.length≤9223372036854775807 from by omega) W) ?_
 rintro _ dz ⟨ak,O,rfl,aN,h,X⟩
 have bF:=aM _ _ aN
 replace h:ay 1 aj N x.aa.ls ak O z.aa.ls:=h
 have bU:=(h).le
 replace X:y≤18446744073709551615:=X
 refine Kz (.pointer (some ⟨M,2,none⟩)) ?_
 have bG:=bF.pk [1,0,2]
 refine df [.int .u64 ((y:Nat):Int)] 2 bG Tryz.sizeOf22 ?_
 intro dB bH
 refine ns (Mz rfl ?_)
 have bI:=bH.pk [1,0,2]
 obtain⟨⟨A,B⟩,Y⟩:∃ q:Nat × ReaderT,aU z=q:=⟨_,rfl⟩
 obtain⟨dD,aO,aP,aQ,bV⟩:=zx bI
 refine cl Tryz.call51 (dw _ _ J z ak O A B aO (fun j l=>ay.rds bi (by decide) h ((fun j l=>ay.rds bi (by decide) c ((fun j l=>ay.rds bi (by decide) a ((aP _ b) j l)) j l)) j l)) (show z.aa.ls.length≤O∧z.aa.ls.length≤9223372036854775807 from by omega) Y) ?_
 rintro _ dF ⟨au,P,rfl,aR,d,E⟩
 have bJ:=aQ _ _ aR
 replace d:ay 1 ak O z.aa.ls au P B.aa.ls:=d
 have bK:=(d).le
 replace E:A≤18446744073709551615:=E
 refine Kz (.pointer (some ⟨M,3,none⟩)) ?_
 have aS:=bJ.pk [1,0,2]
 refine df [.int .u64 ((A:Nat):Int)] 3 aS Tryz.sizeOf22 ?_
 intro bW aT
 refine ns (Mz rfl ?_)
 have aV:=aT.pk [1,0,2]
 obtain⟨⟨f,F⟩,G⟩:∃ q:(List Int) × ReaderT,jI B 255=q:=⟨_,rfl⟩
 obtain⟨bX,av,ax,az,bL⟩:=zx aV
 refine cl Tryz.call101 (oK _ _ J B au P 255 f F av (fun j l=>ay.rds bi (by decide) d ((fun j l=>ay.rds bi (by decide) h ((fun j l=>ay.rds bi (by decide) c ((fun j l=>ay.rds bi (by decide) a ((ax _ b) j l)) j l)) j l)) j l)) (show B.aa.ls.length≤P∧B.aa.ls.length≤9223372036854775807 from by omega) (by omega) G) ?_
 rintro _ bY ⟨s,t,Z,aa,rfl,aA,n,I⟩
 have af:=az _ _ aA
 replace n:ay 1 au P B.aa.ls Z aa F.aa.ls:=n
 have bM:=(n).le
 have bN:=af.rowC (i:=0) rfl
 replace I:f.length≤1000:=I
 refine Kz (.pointer (some ⟨M,4,none⟩)) ?_
 have aW:=af.pk [2,0,1,3]
 refine df [.slice s f.length t] 4 aW Tryz.sizeOf77 ?_
 intro bZ ag
 refine ns (La ([.int .u64 ((p:Nat):Int), .int .i64 r, .int .u64 ((y:Nat):Int), .int .u64 ((A:Nat):Int), .slice s f.length t]) ag 0 Tryz.isAgg79 Tryz.sizeOf79 ?_)
 have aX:=ag.pk [3,0,1,2]
 refine df [.int .u64 ((p:Nat):Int), .int .i64 r, .int .u64 ((y:Nat):Int), .int .u64 ((A:Nat):Int), .slice s f.length t] 0 aX Tryz.sizeOf79 ?_
 intro cu ah
 refine nt (rt (zO (lv rfl rfl (zD (cs:= [.int .u64 ((p:Nat):Int), .int .i64 r, .int .u64 ((y:Nat):Int), .int .u64 ((A:Nat):Int), .slice s f.length t]) Tryz.isAgg79 Tryz.sizeOf79 ((ah.cls (i:=0) rfl).lit (k:=0) (m:=5) rfl))) ?_))
 have aY:=ah.pk [2,3]
 have e:gK C=(bO.mk p r y A (Ll.mk f),F):=et (ae S) (et (ae U) (et (ae W) (et (ae Y) (ae G))))
 obtain⟨rfl,rfl⟩:=ig (e.symm.trans hr)
 exact⟨s,t,Z,aa,rfl,aY,(ay.trans (ay.trans (ay.trans (ay.trans a c) h) d) n),(by first | omega | (dsimp only; omega) | (simp only [List.length_nil]; omega) | decide)⟩
def dJ (p1:Int):Nat→List bu→Nat→List UInt8→Int→(List bu) × (List UInt8) × Int
  | 0,c,e,d,a=>default
  | f+1,c,e,d,a=>if((e:Nat):Int) < p1 then if a=0 then bnd (jv (ReaderT.mk (Ll.mk d) a)) fun b=>dJ p1 f (c++ [b.1]) (e+1) b.2.aa.ls b.2.av else(c,d,a) else(c,d,a)
def jl (a:ReaderT) (p1:Int):(List bu) × ReaderT:=
 bnd (bnd (dJ p1 ((Int.toNat p1 - 0)+1) ([]) 0 a.aa.ls a.av) fun sLrJjL=>(sLrJjL.1,sLrJjL.2.1,sLrJjL.2.2)) fun sJrJ=>(sJrJ.1,ReaderT.mk (Ll.mk sJrJ.2.1) sJrJ.2.2)
theorem mI (w:World) (D:Nat→Prop) (t:Nat) (a:ReaderT) (b:Option Addr) (c:Nat) (p1:Int) (U:List bu) (r1:ReaderT) (H:Own w D w [blk t [.slice b a.aa.ls.length c, .int .i64 a.av] 150]) (R:Ro w D fun w'=>bn w' 1 b a.aa.ls.length (List.flatMap eB a.aa.ls)) (aA:a.aa.ls.length≤c∧a.aa.ls.length≤9223372036854775807) (bq:p1≤1000) (hr:jl a p1=(U,r1)):
    Calls Tryz.prog 137 #[.pointer (some ⟨t,0,none⟩), .int .i64 p1, .func (.func 118) #[] #[]] w (dE fun v w'=> ∃ (B0:Option Addr) (b0:Nat) (B1ox0:Option Addr) (b1ox0:Nat),v= .slice B0 U.length b0∧Own w D w' [row B0 U.length b0 (List.flatMap bu.cells U) 133 2,blk t [.slice B1ox0 r1.aa.ls.length b1ox0, .int .i64 r1.av] 150]∧(ay 1 b c a.aa.ls B1ox0 b1ox0 r1.aa.ls)∧(U.length≤1000)):=by
 refine zg (args:= [.pointer (some ⟨t,0,none⟩), .int .i64 p1, .func (.func 118) #[] #[]]) Tryz.func137 rfl rfl rfl ?_
 show Wp _ _ _ [(0, .pointer (some ⟨t,0,none⟩)),(1, .int .i64 p1),(2, .func (.func 118) #[] #[])] _ _
 refine sr (Ar rfl (An rfl (ze (sr (An rfl ?_)))))
 obtain⟨V,W⟩:∃ q:((Option Addr) × Nat × (List bu) × (Option Addr) × Nat × (List UInt8) × Int)→World→Prop,q=fun(i:(Option Addr) × Nat × (List bu) × (Option Addr) × Nat × (List UInt8) × Int) w'=>Own w D w' [blk t [.slice i.2.2.2.1 i.2.2.2.2.2.1.length i.2.2.2.2.1, .int .i64 i.2.2.2.2.2.2] 150,row i.1 i.2.2.1.length i.2.1 (List.flatMap bu.cells i.2.2.1) 133 2]∧(ay 1 b c a.aa.ls i.2.2.2.1 i.2.2.2.2.1 i.2.2.2.2.2.1∧0≤i.2.2.1.length∧i.2.2.2.2.2.1.length≤a.aa.ls.length∧i.2.2.2.2.2.1.length≤a.aa.ls.length+1∧i.2.2.1.length≤1000∧(bnd (dJ p1 ((Int.toNat p1 - 0)+1) ([]) 0 a.aa.ls a.av) fun sLrJjL=>(sLrJjL.1,sLrJjL.2.1,sLrJjL.2.2))=(i.2.2.1,i.2.2.2.2.2.1,i.2.2.2.2.2.2)):=⟨_,rfl⟩
 have C:∀ {E:Option Addr} {F:Nat} {l:List bu} {G:Option Addr} {I:Nat} {o:List UInt8} {J:Int} {w':World},V (E,F,l,G,I,o,J) w'↔Own w D w' [blk t [.slice G o.length I, .int .i64 J] 150,row E l.length F (List.flatMap bu.cells l) 133 2]∧ay 1 b c a.aa.ls G I o∧0≤l.length∧o.length≤a.aa.ls.length∧o.length≤a.aa.ls.length+1∧l.length≤1000∧(bnd (dJ p1 ((Int.toNat p1 - 0)+1) ([]) 0 a.aa.ls a.av) fun sLrJjL=>(sLrJjL.1,sLrJjL.2.1,sLrJjL.2.2))=(l,o,J):=by intros; subst W; exact Iff.rfl
 refine Ae (fun i:(Option Addr) × Nat × (List bu) × (Option Addr) × Nat × (List UInt8) × Int=> [(7, .slice i.1 i.2.2.1.length i.2.1),(6, .slice none 0 0)]) V ?_ ?_
 refine bo ?_
 have aB:Own w D w [row none 0 0 (List.flatMap bu.cells ([])) 133 2,blk t [.slice b a.aa.ls.length c, .int .i64 a.av] 150]:=H.free (gX 133 2)
 have aC:=aB.pk [1,0]
 obtain⟨X,Y⟩:∃ q:((Option Addr) × Nat × (List bu) × Nat × (Option Addr) × Nat × (List UInt8) × Int × Nat)→World→Prop,q=fun(i:(Option Addr) × Nat × (List bu) × Nat × (Option Addr) × Nat × (List UInt8) × Int × Nat) w'=>Own w D w' [blk t [.slice i.2.2.2.2.1 i.2.2.2.2.2.2.1.length i.2.2.2.2.2.1, .int .i64 i.2.2.2.2.2.2.2.1] 150,row i.1 i.2.2.1.length i.2.1 (List.flatMap bu.cells i.2.2.1) 133 2]∧(ay 1 b c a.aa.ls i.2.2.2.2.1 i.2.2.2.2.2.1 i.2.2.2.2.2.2.1∧i.2.2.1.length≤i.2.2.2.1∧(i.2.2.2.1=0∨((i.2.2.2.1:Nat):Int)≤p1)∧Int.toNat p1 - i.2.2.2.1 < i.2.2.2.2.2.2.2.2∧dJ p1 ((Int.toNat p1 - 0)+1) ([]) 0 a.aa.ls a.av=dJ p1 i.2.2.2.2.2.2.2.2 i.2.2.1 i.2.2.2.1 i.2.2.2.2.2.2.1 i.2.2.2.2.2.2.2.1):=⟨_,rfl⟩
 have K:∀ {z:Option Addr} {A:Nat} {f:List bu} {g:Nat} {p:Option Addr} {n:Nat} {h:List UInt8} {j:Int} {B:Nat} {w':World},X (z,A,f,g,p,n,h,j,B) w'↔Own w D w' [blk t [.slice p h.length n, .int .i64 j] 150,row z f.length A (List.flatMap bu.cells f) 133 2]∧ay 1 b c a.aa.ls p n h∧f.length≤g∧(g=0∨((g:Nat):Int)≤p1)∧Int.toNat p1 - g < B∧dJ p1 ((Int.toNat p1 - 0)+1) ([]) 0 a.aa.ls a.av=dJ p1 B f g h j:=by intros; subst Y; exact Iff.rfl
 refine Wp.loop (fun i:(Option Addr) × Nat × (List bu) × Nat × (Option Addr) × Nat × (List UInt8) × Int × Nat=> [(7, .slice i.1 i.2.2.1.length i.2.1),(8, .int .i64 ((i.2.2.2.1:Nat):Int)),(6, .slice none 0 0),(0, .pointer (some ⟨t,0,none⟩)),(1, .int .i64 p1),(2, .func (.func 118) #[] #[])]) X (fun i=>i.2.2.2.2.2.2.2.2) (none,0, [],0,b,c,a.aa.ls,a.av,(Int.toNat p1 - 0)+1) ⟨rfl,rfl,rfl,rfl,rfl,rfl,trivial⟩ (K.2 ⟨aC,(show ay 1 b c a.aa.ls b c a.aa.ls∧0≤0∧(0=0∨((0:Nat):Int)≤p1)∧Int.toNat p1 - 0 < ((Int.toNat p1 - 0)+1)∧dJ p1 ((Int.toNat p1 - 0)+1) ([]) 0 a.aa.ls a.av=dJ p1 ((Int.toNat p1 - 0)+1) ([]) 0 a.aa.ls a.av from ⟨by exact(ay.refl (by omega)),by omega,by omega,by omega,rfl⟩)⟩) ?_
 rintro ⟨z,A,f,g,p,n,h,j,B⟩ bv Z
 show Wp _ _ _ [(7, .slice z f.length A),(8, .int .i64 ((g:Nat):Int)),(6, .slice none 0 0),(0, .pointer (some ⟨t,0,none⟩)),(1, .int .i64 p1),(2, .func (.func 118) #[] #[])] _ _
 obtain⟨M,r,aQ,aR,aS,L⟩:=K.1 Z
 have aT:=(r).le
 obtain⟨S,aa⟩:∃ q,B=q+1:=⟨B - 1,by omega⟩
 subst aa
 refine ze (sr (Mz rfl (Mz rfl (Kz (.bool (decide (((g:Nat):Int) < p1))) (Mz rfl ?_)))))
 by_cases d:((g:Nat):Int) < p1
 refine gw (.pointer (some ⟨t,0,none⟩)) (dT d) (zo rfl) (Gz (.pointer (some ⟨t,0,none⟩)) (dT d) (Gz (.pointer (some ⟨t,1,none⟩)) (dT d) (Gl (.int .i64 j) (dT d) M 0 Tryz.isAgg38 (Gz (.bool (decide (j=0))) (dT d) (fw (.bool (decide (j=0))) (zf rfl (dT d) rfl) (nt ?_))))))
 by_cases N:j=0
 refine jT (dT N) (sk (ze (bo (zb (Mz rfl (Mz rfl (Mz rfl ?_)))))))
 obtain⟨⟨u,O⟩,P⟩:∃ q:bu × ReaderT,jv (ReaderT.mk (Ll.mk h) j)=q:=⟨_,rfl⟩
 obtain⟨bz,af,ag,ah,aU⟩:=zx M
 refine WL.do rfl (zK Tryz.call118 rfl rfl (oI _ _ t (ReaderT.mk (Ll.mk h) j) p n u O af (fun w9 h9=>ay.rds bi (by decide) r ((ag _ R) w9 h9)) (show h.length≤n∧h.length≤9223372036854775807 from by omega) P) ?_)
 rintro _ bC ⟨ai,aj,rfl,ak,x⟩
 have aD:=ah _ _ ak
 replace x:ay 1 p n h ai aj O.aa.ls:=x
 have aV:=(x).le
 refine kF (bu.cells u) 133 2 1 aD ?_
 intro aF bD T
 replace T:=zY (y:=row aF 1 1 (List.flatMap bu.cells ([u])) 133 2) rfl T
 have au:=T.pk [2,0,1]
 refine WL.do rfl (Aa (k:=f.length) (m:=1) (oU) au rfl rfl (j3 Tryz.underlying127 (au.rds (i:=1) rfl) (jA bu.one ([u]))) rfl (by omega) (s:=List.length (f++ [u])) (by first | omega | (simp only [List.length_append,List.length_cons,List.length_nil] <;> omega)) (List.flatMap_append).symm ?_)
 intro aG aH bE aI
 have aW:List.length (f++ [u])=f.length+1:=by simp only [List.length_append,List.length_cons,List.length_nil]
 refine Az rfl (zq (bN (zu (zb (Mz rfl (fw (.int .i64 ((g+1:Nat):Int)) (zy (e:=IntKind.i64.wrap (((g:Nat):Int)+1)) yk (by rw [Cb _ (by omega)]; omega)) (Az rfl (zq ?_))))))))
 have aJ:=aI.pk [2,0]
 exact zH (aG,aH,(f++ [u]),g+1,ai,aj,O.aa.ls,O.av,S) ⟨rfl,rfl,rfl,rfl,rfl,rfl,trivial⟩ (K.2 ⟨aJ,by exact(ay.trans r x),by omega,by omega,by omega,et (L) (et (ip d) (et (ip N) (ae P)))⟩) (by show S < S+1; omega)
 refine jF (dF N) (Wp.exit (zk (zk (zA ?_))))
 have aK:=M.pk [0,1]
 exact zU (z,A,f,p,n,h,j) ⟨rfl,rfl,trivial⟩ (C.2 ⟨aK,by exact r,by omega,by omega,by omega,by omega,ae (et (L) (et (ip d) (iN N)))⟩)
 refine Sz (dF d) (Sz (dF d) (Sz (dF d) (Sz (dF d) (Sz (dF d) (fw (.bool false) (zh rfl (dF d) rfl) (nt (jf (Wp.exit (zk (zk (zA ?_)))))))))))
 have aL:=M.pk [0,1]
 exact zU (z,A,f,p,n,h,j) ⟨rfl,rfl,trivial⟩ (C.2 ⟨aL,by exact r,by omega,by omega,by omega,by omega,ae (et (L) (iN d))⟩)
 rintro ⟨E,F,l,G,I,o,J⟩ bF av
 show Wp _ _ _ [(7, .slice E l.length F),(6, .slice none 0 0)] _ _
 obtain⟨aM,Q,aX,aY,aZ,bf,ax⟩:=C.1 av
 have bg:=(Q).le
 refine sr (Mz rfl (An rfl (rt (rs ?_))))
 have aN:=aM.pk [1,0]
 have e:jl a p1=(l,ReaderT.mk (Ll.mk o) J):=ae ax
 obtain⟨rfl,rfl⟩:=ig (e.symm.trans hr)
 exact⟨E,F,G,I,rfl,aN,Q,(by omega)⟩
def iM (c:ReaderT) (p1:Nat):(List bu) × ReaderT:=
 bnd (aI c p1) fun a=>bnd (jl a.2 ((a.1:Nat):Int)) fun b=>(b.1,b.2)
theorem mU (w:World) (D:Nat→Prop) (p:Nat) (f:ReaderT) (b:Option Addr) (a:Nat) (p1:Nat) (u:List bu) (K:ReaderT) (H:Own w D w [blk p [.slice b f.aa.ls.length a, .int .i64 f.av] 150]) (j:Ro w D fun w'=>bn w' 1 b f.aa.ls.length (List.flatMap eB f.aa.ls)) (L:f.aa.ls.length≤a∧f.aa.ls.length≤9223372036854775807) (X:p1≤1000) (hr:iM f p1=(u,K)):
    Calls Tryz.prog 117 #[.pointer (some ⟨p,0,none⟩), .int .u64 ((p1:Nat):Int), .func (.func 118) #[] #[]] w (dE fun v w'=> ∃ (Q:Option Addr) (R:Nat) (B1ox0:Option Addr) (b1ox0:Nat),v= .slice Q u.length R∧Own w D w' [row Q u.length R (List.flatMap bu.cells u) 133 2,blk p [.slice B1ox0 K.aa.ls.length b1ox0, .int .i64 K.av] 150]∧(ay 1 b a f.aa.ls B1ox0 b1ox0 K.aa.ls)∧(u.length≤1000)):=by
 refine zg (args:= [.pointer (some ⟨p,0,none⟩), .int .u64 ((p1:Nat):Int), .func (.func 118) #[] #[]]) Tryz.func117 rfl rfl rfl ?_
 show Wp _ _ _ [(0, .pointer (some ⟨p,0,none⟩)),(1, .int .u64 ((p1:Nat):Int)),(2, .func (.func 118) #[] #[])] _ _
 refine sr (Ar rfl (Mz rfl (Mz rfl (Mz rfl ?_))))
 obtain⟨⟨h,d⟩,l⟩:∃ q:Nat × ReaderT,aI f p1=q:=⟨_,rfl⟩
 obtain⟨Y,x,y,z,S⟩:=zx H
 refine cl Tryz.call93 (eT _ _ p f b a p1 h d x (y _ j) (show f.aa.ls.length≤a∧f.aa.ls.length≤9223372036854775807 from by omega) l) ?_
 rintro _ Z ⟨r,k,rfl,A,c,m⟩
 have M:=z _ _ A
 replace c:ay 1 b a f.aa.ls r k d.aa.ls:=c
 have T:=(c).le
 replace m:h≤p1:=m
 refine fw (.int .i64 ((h:Nat):Int)) (zy (e:=IntKind.i64.wrap ((h:Nat):Int)) yk (Cb _ (by omega))) (Mz rfl ?_)
 obtain⟨⟨s,t⟩,n⟩:∃ q:(List bu) × ReaderT,jl d ((h:Nat):Int)=q:=⟨_,rfl⟩
 obtain⟨aa,B,C,E,U⟩:=zx M
 refine cl Tryz.call137 (mI _ _ p d r k ((h:Nat):Int) s t B (fun w9 h9=>ay.rds bi (by decide) c ((C _ j) w9 h9)) (show d.aa.ls.length≤k∧d.aa.ls.length≤9223372036854775807 from by omega) (by omega) n) ?_
 rintro _ ah ⟨N,O,F,G,rfl,I,g,o⟩
 have J:=E _ _ I
 replace g:ay 1 r k d.aa.ls F G t.aa.ls:=g
 have V:=(g).le
 have W:=J.rowC (i:=0) rfl
 replace o:s.length≤1000:=o
 refine An rfl (rt (rs ?_))
 have P:=J.pk [0,1]
 have e:iM f p1=(s,t):=et (ae l) (ae n)
 obtain⟨rfl,rfl⟩:=ig (e.symm.trans hr)
 exact⟨N,O,F,G,rfl,P,(ay.trans c g),(by omega)⟩
def iT (d:ReaderT):bX × ReaderT:=
 bnd (aI d 1) fun a=>bnd (cZ a.2) fun b=>bnd (iM b.2 255) fun c=>(bX.mk (decide (((a.1:Nat):Int)=1)) b.1 (Ll.mk c.1),c.2)
set_option maxHeartbeats 1000000 in
theorem nT (w:World) (D:Nat→Prop) (x:Nat) (n:ReaderT) (d:Option Addr) (a:Nat) (G:bX) (r1:ReaderT) (H:Own w D w [blk x [.slice d n.aa.ls.length a, .int .i64 n.av] 150]) (g:Ro w D fun w'=>bn w' 1 d n.aa.ls.length (List.flatMap eB n.aa.ls)) (ak:n.aa.ls.length≤a∧n.aa.ls.length≤9223372036854775807) (hr:iT n=(G,r1)):
    Calls Tryz.prog 104 #[.pointer (some ⟨x,0,none⟩)] w (dE fun v w'=> ∃ (y:Option Addr) (z:Nat) (B1ox0:Option Addr) (b1ox0:Nat),v= .agg #[.bool G.dm, .string ⟨List.toArray G.aB⟩, .slice y G.ax.ls.length z]∧Own w D w' [row y G.ax.ls.length z (List.flatMap bu.cells G.ax.ls) 133 2,blk x [.slice B1ox0 r1.aa.ls.length b1ox0, .int .i64 r1.av] 150]∧(ay 1 d a n.aa.ls B1ox0 b1ox0 r1.aa.ls)∧(G.ax.ls.length≤1000)):=by
 refine zg (args:= [.pointer (some ⟨x,0,none⟩)]) Tryz.func104 rfl rfl rfl ?_
 show Wp _ _ _ [(0, .pointer (some ⟨x,0,none⟩))] _ _
 refine sr ?_
 refine dC [.bool false, .string ⟨List.toArray ([])⟩, .slice none 0 0] 129 H ?_
 intro aS aT au
 refine ns (Mz rfl ?_)
 have av:=au.pk [1,0]
 obtain⟨⟨c,h⟩,A⟩:∃ q:Nat × ReaderT,aI n 1=q:=⟨_,rfl⟩
 obtain⟨aU,L,M,N,aL⟩:=zx av
 refine cl Tryz.call93 (eT _ _ x n d a 1 c h L (M _ g) (show n.aa.ls.length≤a∧n.aa.ls.length≤9223372036854775807 from by omega) A) ?_
 rintro _ aV ⟨I,t,rfl,O,b,B⟩
 have ax:=N _ _ O
 replace b:ay 1 d a n.aa.ls I t h.aa.ls:=b
 have aM:=(b).le
 replace B:c≤1:=B
 refine Kz (.bool (decide (((c:Nat):Int)=1))) (Kz (.agg #[.bool (decide (((c:Nat):Int)=1)), .string ⟨List.toArray ([])⟩, .slice none 0 0]) ?_)
 refine dC [.bool false, .string ⟨List.toArray ([])⟩, .slice none 0 0] 129 ax ?_
 intro P aW az
 refine df [.bool (decide (((c:Nat):Int)=1)), .string ⟨List.toArray ([])⟩, .slice none 0 0] 0 az Tryz.sizeOf129 ?_
 intro aX aA
 refine ns (Mz rfl ?_)
 have aB:=aA.pk [1,0,2]
 obtain⟨⟨p,j⟩,C⟩:∃ q:(List UInt8) × ReaderT,cZ h=q:=⟨_,rfl⟩
 obtain⟨aY,Q,R,S,aN⟩:=zx aB
 refine cl Tryz.call95 (gF _ _ x h I t p j Q (fun T U=>ay.rds bi (by decide) b ((R _ g) T U)) (show h.aa.ls.length≤t∧h.aa.ls.length≤9223372036854775807 from by omega) C) ?_
 rintro _ aZ ⟨J,u,rfl,V,f⟩
 have aC:=S _ _ V
 replace f:ay 1 I t h.aa.ls J u j.aa.ls:=f
 have aO:=(f).le
 refine Kz (.pointer (some ⟨P,1,none⟩)) ?_
 have aD:=aC.pk [1,0,2]
 refine df [.string ⟨List.toArray p⟩] 1 aD Tryz.sizeOf9 ?_
 intro bf aF
 refine ns (Mz rfl ?_)
 have aG:=aF.pk [1,0,2]
 obtain⟨⟨l,K⟩,E⟩:∃ q:(List bu) × ReaderT,iM j 255=q:=⟨_,rfl⟩
 obtain⟨bg,W,X,Y,aP⟩:=zx aG
 refine cl Tryz.call117 (mU _ _ x j J u 255 l K W (fun T U=>ay.rds bi (by decide) f ((fun T U=>ay.rds bi (by decide) b ((X _ g) T U)) T U)) (show j.aa.ls.length≤u∧j.aa.ls.length≤9223372036854775807 from by omega) (by omega) E) ?_
 rintro _ bq ⟨r,s,Z,aa,rfl,af,o,F⟩
 have ag:=Y _ _ af
 replace o:ay 1 J u j.aa.ls Z aa K.aa.ls:=o
 have aQ:=(o).le
 have aR:=ag.rowC (i:=0) rfl
 replace F:l.length≤1000:=F
 refine Kz (.pointer (some ⟨P,2,none⟩)) ?_
 have aH:=ag.pk [2,0,1,3]
 refine df [.slice r l.length s] 2 aH Tryz.sizeOf127 ?_
 intro bv ah
 refine ns (La ([.bool (decide (((c:Nat):Int)=1)), .string ⟨List.toArray p⟩, .slice r l.length s]) ah 0 Tryz.isAgg129 Tryz.sizeOf129 ?_)
 have aJ:=ah.pk [3,0,1,2]
 refine df [.bool (decide (((c:Nat):Int)=1)), .string ⟨List.toArray p⟩, .slice r l.length s] 0 aJ Tryz.sizeOf129 ?_
 intro bz ai
 refine nt (rt (zO (lv rfl rfl (zD (cs:= [.bool (decide (((c:Nat):Int)=1)), .string ⟨List.toArray p⟩, .slice r l.length s]) Tryz.isAgg129 Tryz.sizeOf129 ((ai.cls (i:=0) rfl).lit (k:=0) (m:=3) rfl))) ?_))
 have aK:=ai.pk [2,3]
 have e:iT n=(bX.mk (decide (((c:Nat):Int)=1)) p (Ll.mk l),K):=et (ae A) (et (ae C) (ae E))
 obtain⟨rfl,rfl⟩:=ig (e.symm.trans hr)
 exact⟨r,s,Z,aa,rfl,aK,(ay.trans (ay.trans b f) o),(by first | omega | (dsimp only; omega) | (simp only [List.length_nil]; omega) | decide)⟩
def dz (p1:Int):Nat→List bX→Nat→List UInt8→Int→(List bX) × (List UInt8) × Int
  | 0,c,e,d,a=>default
  | f+1,c,e,d,a=>if((e:Nat):Int) < p1 then if a=0 then bnd (iT (ReaderT.mk (Ll.mk d) a)) fun b=>dz p1 f (c++ [b.1]) (e+1) b.2.aa.ls b.2.av else(c,d,a) else(c,d,a)
def iQ (a:ReaderT) (p1:Int):(List bX) × ReaderT:=
 bnd (bnd (dz p1 ((Int.toNat p1 - 0)+1) ([]) 0 a.aa.ls a.av) fun sLrJjL=>(sLrJjL.1,sLrJjL.2.1,sLrJjL.2.2)) fun sJrJ=>(sJrJ.1,ReaderT.mk (Ll.mk sJrJ.2.1) sJrJ.2.2)
theorem mf (w:World) (D:Nat→Prop) (x:Nat) (d:ReaderT) (b:Option Addr) (c:Nat) (p1:Int) (r0:List bX) (r1:ReaderT) (H:Own w D w [blk x [.slice b d.aa.ls.length c, .int .i64 d.av] 150]) (Z:Ro w D fun w'=>bn w' 1 b d.aa.ls.length (List.flatMap eB d.aa.ls)) (aP:d.aa.ls.length≤c∧d.aa.ls.length≤9223372036854775807) (bQ:p1≤1000) (hr:iQ d p1=(r0,r1)):
    Calls Tryz.prog 116 #[.pointer (some ⟨x,0,none⟩), .int .i64 p1, .func (.func 104) #[] #[]] w (dE fun v w'=> ∃ (B0:Option Addr) (b0:Nat) (e0:List az) (B1ox0:Option Addr) (b1ox0:Nat),v= .slice B0 r0.length b0∧Own w D w' [row B0 r0.length b0 (List.flatMap az.cells e0) 129 3,sepL (List.flatMap zZ e0),blk x [.slice B1ox0 r1.aa.ls.length b1ox0, .int .i64 r1.av] 150]∧(List.map zm e0=r0)∧(ay 1 b c d.aa.ls B1ox0 b1ox0 r1.aa.ls)∧(r0.length≤1000)):=by
 refine zg (args:= [.pointer (some ⟨x,0,none⟩), .int .i64 p1, .func (.func 104) #[] #[]]) Tryz.func116 rfl rfl rfl ?_
 show Wp _ _ _ [(0, .pointer (some ⟨x,0,none⟩)),(1, .int .i64 p1),(2, .func (.func 104) #[] #[])] _ _
 refine sr (Ar rfl (An rfl (ze (sr (An rfl ?_)))))
 obtain⟨au,av⟩:∃ q:((Option Addr) × Nat × (List az) × (List bX) × (Option Addr) × Nat × (List UInt8) × Int)→World→Prop,q=fun(i:(Option Addr) × Nat × (List az) × (List bX) × (Option Addr) × Nat × (List UInt8) × Int) w'=>Own w D w' [blk x [.slice i.2.2.2.2.1 i.2.2.2.2.2.2.1.length i.2.2.2.2.2.1, .int .i64 i.2.2.2.2.2.2.2] 150,row i.1 i.2.2.2.1.length i.2.1 (List.flatMap az.cells i.2.2.1) 129 3,sepL (List.flatMap zZ i.2.2.1)]∧(List.map zm i.2.2.1=i.2.2.2.1∧ay 1 b c d.aa.ls i.2.2.2.2.1 i.2.2.2.2.2.1 i.2.2.2.2.2.2.1∧0≤i.2.2.2.1.length∧i.2.2.2.2.2.2.1.length≤d.aa.ls.length∧i.2.2.2.2.2.2.1.length≤d.aa.ls.length+1∧i.2.2.2.1.length≤1000∧(bnd (dz p1 ((Int.toNat p1 - 0)+1) ([]) 0 d.aa.ls d.av) fun sLrJjL=>(sLrJjL.1,sLrJjL.2.1,sLrJjL.2.2))=(i.2.2.2.1,i.2.2.2.2.2.2.1,i.2.2.2.2.2.2.2)):=⟨_,rfl⟩
 have L:∀ {M:Option Addr} {N:Nat} {F:List az} {t:List bX} {O:Option Addr} {P:Nat} {z:List UInt8} {Q:Int} {w':World},au (M,N,F,t,O,P,z,Q) w'↔Own w D w' [blk x [.slice O z.length P, .int .i64 Q] 150,row M t.length N (List.flatMap az.cells F) 129 3,sepL (List.flatMap zZ F)]∧List.map zm F=t∧ay 1 b c d.aa.ls O P z∧0≤t.length∧z.length≤d.aa.ls.length∧z.length≤d.aa.ls.length+1∧t.length≤1000∧(bnd (dz p1 ((Int.toNat p1 - 0)+1) ([]) 0 d.aa.ls d.av) fun sLrJjL=>(sLrJjL.1,sLrJjL.2.1,sLrJjL.2.2))=(t,z,Q):=by intros; subst av; exact Iff.rfl
 refine Ae (fun i:(Option Addr) × Nat × (List az) × (List bX) × (Option Addr) × Nat × (List UInt8) × Int=> [(7, .slice i.1 i.2.2.2.1.length i.2.1),(6, .slice none 0 0)]) au ?_ ?_
 refine bo ?_
 have aR:Own w D w [sepL (List.flatMap zZ ([])),blk x [.slice b d.aa.ls.length c, .int .i64 d.av] 150]:=H.sepNil
 have aS:Own w D w [row none 0 0 (List.flatMap az.cells ([])) 129 3,sepL (List.flatMap zZ ([])),blk x [.slice b d.aa.ls.length c, .int .i64 d.av] 150]:=aR.free (gX 129 3)
 have aT:=aS.pk [2,0,1]
 obtain⟨ax,aA⟩:∃ q:((Option Addr) × Nat × (List az) × (List bX) × Nat × (Option Addr) × Nat × (List UInt8) × Int × Nat)→World→Prop,q=fun(i:(Option Addr) × Nat × (List az) × (List bX) × Nat × (Option Addr) × Nat × (List UInt8) × Int × Nat) w'=>Own w D w' [blk x [.slice i.2.2.2.2.2.1 i.2.2.2.2.2.2.2.1.length i.2.2.2.2.2.2.1, .int .i64 i.2.2.2.2.2.2.2.2.1] 150,row i.1 i.2.2.2.1.length i.2.1 (List.flatMap az.cells i.2.2.1) 129 3,sepL (List.flatMap zZ i.2.2.1)]∧(List.map zm i.2.2.1=i.2.2.2.1∧ay 1 b c d.aa.ls i.2.2.2.2.2.1 i.2.2.2.2.2.2.1 i.2.2.2.2.2.2.2.1∧i.2.2.2.1.length≤i.2.2.2.2.1∧(i.2.2.2.2.1=0∨((i.2.2.2.2.1:Nat):Int)≤p1)∧Int.toNat p1 - i.2.2.2.2.1 < i.2.2.2.2.2.2.2.2.2∧dz p1 ((Int.toNat p1 - 0)+1) ([]) 0 d.aa.ls d.av=dz p1 i.2.2.2.2.2.2.2.2.2 i.2.2.2.1 i.2.2.2.2.1 i.2.2.2.2.2.2.2.1 i.2.2.2.2.2.2.2.2.1):=⟨_,rfl⟩
 have R:∀ {G:Option Addr} {I:Nat} {o:List az} {g:List bX} {j:Nat} {A:Option Addr} {u:Nat} {l:List UInt8} {n:Int} {J:Nat} {w':World},ax (G,I,o,g,j,A,u,l,n,J) w'↔Own w D w' [blk x [.slice A l.length u, .int .i64 n] 150,row G g.length I (List.flatMap az.cells o) 129 3,sepL (List.flatMap zZ o)]∧List.map zm o=g∧ay 1 b c d.aa.ls A u l∧g.length≤j∧(j=0∨((j:Nat):Int)≤p1)∧Int.toNat p1 - j < J∧dz p1 ((Int.toNat p1 - 0)+1) ([]) 0 d.aa.ls d.av=dz p1 J g j l n:=by intros; subst aA; exact Iff.rfl
 refine Wp.loop (fun i:(Option Addr) × Nat × (List az) × (List bX) × Nat × (Option Addr) × Nat × (List UInt8) × Int × Nat=> [(7, .slice i.1 i.2.2.2.1.length i.2.1),(8, .int .i64 ((i.2.2.2.2.1:Nat):Int)),(6, .slice none 0 0),(0, .pointer (some ⟨x,0,none⟩)),(1, .int .i64 p1),(2, .func (.func 104) #[] #[])]) ax (fun i=>i.2.2.2.2.2.2.2.2.2) (none,0, [], [],0,b,c,d.aa.ls,d.av,(Int.toNat p1 - 0)+1) ⟨rfl,rfl,rfl,rfl,rfl,rfl,trivial⟩ (R.2 ⟨aT,(show List.map zm ([])=([])∧ay 1 b c d.aa.ls b c d.aa.ls∧0≤0∧(0=0∨((0:Nat):Int)≤p1)∧Int.toNat p1 - 0 < ((Int.toNat p1 - 0)+1)∧dz p1 ((Int.toNat p1 - 0)+1) ([]) 0 d.aa.ls d.av=dz p1 ((Int.toNat p1 - 0)+1) ([]) 0 d.aa.ls d.av from ⟨by exact rfl,by exact(ay.refl (by omega)),by omega,by omega,by omega,rfl⟩)⟩) ?_
 rintro ⟨G,I,o,g,j,A,u,l,n,J⟩ bR aB
 show Wp _ _ _ [(7, .slice G g.length I),(8, .int .i64 ((j:Nat):Int)),(6, .slice none 0 0),(0, .pointer (some ⟨x,0,none⟩)),(1, .int .i64 p1),(2, .func (.func 104) #[] #[])] _ _
 obtain⟨V,B,C,bF,bG,bH,S⟩:=R.1 aB
 have bI:=bS B
 have bJ:=(C).le
 obtain⟨aa,aC⟩:∃ q,J=q+1:=⟨J - 1,by omega⟩
 subst aC
 refine ze (sr (Mz rfl (Mz rfl (Kz (.bool (decide (((j:Nat):Int) < p1))) (Mz rfl ?_)))))
 by_cases h:((j:Nat):Int) < p1
 refine gw (.pointer (some ⟨x,0,none⟩)) (dT h) (zo rfl) (Gz (.pointer (some ⟨x,0,none⟩)) (dT h) (Gz (.pointer (some ⟨x,1,none⟩)) (dT h) (Gl (.int .i64 n) (dT h) V 0 Tryz.isAgg38 (Gz (.bool (decide (n=0))) (dT h) (fw (.bool (decide (n=0))) (zf rfl (dT h) rfl) (nt ?_))))))
 by_cases W:n=0
 refine jT (dT W) (sk (ze (bo (zb (Mz rfl (Mz rfl (Mz rfl ?_)))))))
 obtain⟨⟨a,K⟩,X⟩:∃ q:bX × ReaderT,iT (ReaderT.mk (Ll.mk l) n)=q:=⟨_,rfl⟩
 obtain⟨bT,aD,aF,aG,bK⟩:=zx V
 refine WL.do rfl (zK Tryz.call104 rfl rfl (nT _ _ x (ReaderT.mk (Ll.mk l) n) A u a K aD (fun w9 h9=>ay.rds bi (by decide) C ((aF _ Z) w9 h9)) (show l.length≤u∧l.length≤9223372036854775807 from by omega) X) ?_)
 rintro _ bW ⟨p,r,af,ag,rfl,aH,E,Y⟩
 have aI:=aG _ _ aH
 replace E:ay 1 A u l af ag K.aa.ls:=E
 have bL:=(E).le
 have bM:=aI.rowC (i:=0) rfl
 replace Y:a.ax.ls.length≤1000:=Y
 refine kF [.bool a.dm, .string ⟨List.toArray a.aB⟩, .slice p a.ax.ls.length r] 129 3 1 aI ?_
 intro aJ bY ah
 replace ah:=zY (y:=row aJ 1 1 (List.flatMap az.cells ([(az.mk a.dm a.aB (Sv.mk p r a.ax.ls))])) 129 3) rfl ah
 have aK:=ah.pk [3,4,1,0,2]
 refine WL.do rfl (Aa (k:=g.length) (m:=1) (nk) aK rfl rfl (j3 Tryz.underlying82 (aK.rds (i:=3) rfl) (jA az.one ([(az.mk a.dm a.aB (Sv.mk p r a.ax.ls))]))) rfl (by omega) (s:=List.length (g++ [a])) (by first | omega | (simp only [List.length_append,List.length_cons,List.length_nil] <;> omega)) (List.flatMap_append).symm ?_)
 intro aL aM aU aV
 have aW:=aV.pk [1,2,0,3,4]
 have aX:Own w D aU [sepL (List.flatMap zZ (o++ [(az.mk a.dm a.aB (Sv.mk p r a.ax.ls))])),row aL (List.length (g++ [a])) aM (List.flatMap az.cells (o++ [(az.mk a.dm a.aB (Sv.mk p r a.ax.ls))])) 129 3,row aJ 1 1 (List.flatMap az.cells ([(az.mk a.dm a.aB (Sv.mk p r a.ax.ls))])) 129 3,blk x [.slice af K.aa.ls.length ag, .int .i64 K.av] 150]:=aW.sepAdd (L2:= [row p a.ax.ls.length r (List.flatMap bu.cells a.ax.ls) 133 2]) (List.flatMap_append (f:=zZ) (xs:=o) (ys:= [(az.mk a.dm a.aB (Sv.mk p r a.ax.ls))])).symm
 have bO:List.length (g++ [a])=g.length+1:=by simp only [List.length_append,List.length_cons,List.length_nil]
 have bP:=bS (lq (es:= [(az.mk a.dm a.aB (Sv.mk p r a.ax.ls))]) (ms:= [a]) B rfl)
 refine Az rfl (zq (bN (zu (zb (Mz rfl (fw (.int .i64 ((j+1:Nat):Int)) (zy (e:=IntKind.i64.wrap (((j:Nat):Int)+1)) yk (by rw [Cb _ (by omega)]; omega)) (Az rfl (zq ?_))))))))
 have aY:=aX.pk [3,1,0]
 exact zH (aL,aM,(o++ [(az.mk a.dm a.aB (Sv.mk p r a.ax.ls))]),(g++ [a]),j+1,af,ag,K.aa.ls,K.av,aa) ⟨rfl,rfl,rfl,rfl,rfl,rfl,trivial⟩ (R.2 ⟨aY,by exact(lq (es:= [(az.mk a.dm a.aB (Sv.mk p r a.ax.ls))]) (ms:= [a]) B rfl),by exact(ay.trans C E),by omega,by omega,by omega,et (S) (et (ip h) (et (ip W) (ae X)))⟩) (by show aa < aa+1; omega)
 refine jF (dF W) (Wp.exit (zk (zk (zA ?_))))
 have aZ:=V.pk [0,1,2]
 exact zU (G,I,o,g,A,u,l,n) ⟨rfl,rfl,trivial⟩ (L.2 ⟨aZ,by exact B,by exact C,by omega,by omega,by omega,by omega,ae (et (S) (et (ip h) (iN W)))⟩)
 refine Sz (dF h) (Sz (dF h) (Sz (dF h) (Sz (dF h) (Sz (dF h) (fw (.bool false) (zh rfl (dF h) rfl) (nt (jf (Wp.exit (zk (zk (zA ?_)))))))))))
 have bf:=V.pk [0,1,2]
 exact zU (G,I,o,g,A,u,l,n) ⟨rfl,rfl,trivial⟩ (L.2 ⟨bf,by exact B,by exact C,by omega,by omega,by omega,by omega,ae (et (S) (iN h))⟩)
 rintro ⟨M,N,F,t,O,P,z,Q⟩ bZ ai
 show Wp _ _ _ [(7, .slice M t.length N),(6, .slice none 0 0)] _ _
 obtain⟨bg,T,U,bq,bv,bz,bA,aj⟩:=L.1 ai
 have bB:=bS T
 have bC:=(U).le
 refine sr (Mz rfl (An rfl (rt (rs ?_))))
 have aN:=bg.pk [1,2,0]
 have e:iQ d p1=(t,ReaderT.mk (Ll.mk z) Q):=ae aj
 obtain⟨rfl,rfl⟩:=ig (e.symm.trans hr)
 exact⟨M,N,F,O,P,rfl,aN,T,U,(by omega)⟩
def il (c:ReaderT) (p1:Nat):(List bX) × ReaderT:=
 bnd (aI c p1) fun a=>bnd (iQ a.2 ((a.1:Nat):Int)) fun b=>(b.1,b.2)
theorem mr (w:World) (D:Nat→Prop) (r:Nat) (f:ReaderT) (b:Option Addr) (a:Nat) (p1:Nat) (x:List bX) (L:ReaderT) (H:Own w D w [blk r [.slice b f.aa.ls.length a, .int .i64 f.av] 150]) (j:Ro w D fun w'=>bn w' 1 b f.aa.ls.length (List.flatMap eB f.aa.ls)) (M:f.aa.ls.length≤a∧f.aa.ls.length≤9223372036854775807) (af:p1≤1000) (hr:il f p1=(x,L)):
    Calls Tryz.prog 103 #[.pointer (some ⟨r,0,none⟩), .int .u64 ((p1:Nat):Int), .func (.func 104) #[] #[]] w (dE fun v w'=> ∃ (T:Option Addr) (U:Nat) (N:List az) (B1ox0:Option Addr) (b1ox0:Nat),v= .slice T x.length U∧Own w D w' [row T x.length U (List.flatMap az.cells N) 129 3,sepL (List.flatMap zZ N),blk r [.slice B1ox0 L.aa.ls.length b1ox0, .int .i64 L.av] 150]∧(List.map zm N=x)∧(ay 1 b a f.aa.ls B1ox0 b1ox0 L.aa.ls)∧(x.length≤1000)):=by
 refine zg (args:= [.pointer (some ⟨r,0,none⟩), .int .u64 ((p1:Nat):Int), .func (.func 104) #[] #[]]) Tryz.func103 rfl rfl rfl ?_
 show Wp _ _ _ [(0, .pointer (some ⟨r,0,none⟩)),(1, .int .u64 ((p1:Nat):Int)),(2, .func (.func 104) #[] #[])] _ _
 refine sr (Ar rfl (Mz rfl (Mz rfl (Mz rfl ?_))))
 obtain⟨⟨h,d⟩,l⟩:∃ q:Nat × ReaderT,aI f p1=q:=⟨_,rfl⟩
 obtain⟨ag,y,z,A,V⟩:=zx H
 refine cl Tryz.call93 (eT _ _ r f b a p1 h d y (z _ j) (show f.aa.ls.length≤a∧f.aa.ls.length≤9223372036854775807 from by omega) l) ?_
 rintro _ ah ⟨s,k,rfl,B,c,m⟩
 have O:=A _ _ B
 replace c:ay 1 b a f.aa.ls s k d.aa.ls:=c
 have W:=(c).le
 replace m:h≤p1:=m
 refine fw (.int .i64 ((h:Nat):Int)) (zy (e:=IntKind.i64.wrap ((h:Nat):Int)) yk (Cb _ (by omega))) (Mz rfl ?_)
 obtain⟨⟨t,u⟩,n⟩:∃ q:(List bX) × ReaderT,iQ d ((h:Nat):Int)=q:=⟨_,rfl⟩
 obtain⟨ai,C,E,F,X⟩:=zx O
 refine cl Tryz.call116 (mf _ _ r d s k ((h:Nat):Int) t u C (fun w9 h9=>ay.rds bi (by decide) c ((E _ j) w9 h9)) (show d.aa.ls.length≤k∧d.aa.ls.length≤9223372036854775807 from by omega) (by omega) n) ?_
 rintro _ au ⟨P,Q,R,G,I,rfl,J,o,g,p⟩
 have K:=F _ _ J
 replace g:ay 1 s k d.aa.ls G I u.aa.ls:=g
 have Y:=(g).le
 have Z:=bS o
 have aa:=K.rowC (i:=0) rfl
 replace p:t.length≤1000:=p
 refine An rfl (rt (rs ?_))
 have S:=K.pk [0,1,2]
 have e:il f p1=(t,u):=et (ae l) (ae n)
 obtain⟨rfl,rfl⟩:=ig (e.symm.trans hr)
 exact⟨P,Q,R,G,I,rfl,S,o,(ay.trans c g),(by omega)⟩
def iE (e:ReaderT):eD × ReaderT:=
 bnd (dA e) fun a=>bnd (aU a.2) fun b=>bnd (aU b.2) fun c=>bnd (il c.2 255) fun d=>(eD.mk a.1 b.1 c.1 (Ll.mk d.1),d.2)
set_option maxHeartbeats 1000000 in
theorem oL (w:World) (D:Nat→Prop) (E:Nat) (t:ReaderT) (h:Option Addr) (b:Nat) (J:eD) (r1:ReaderT) (H:Own w D w [blk E [.slice h t.aa.ls.length b, .int .i64 t.av] 150]) (d:Ro w D fun w'=>bn w' 1 h t.aa.ls.length (List.flatMap eB t.aa.ls)) (aP:t.aa.ls.length≤b∧t.aa.ls.length≤9223372036854775807) (hr:iE t=(J,r1)):
    Calls Tryz.prog 66 #[.pointer (some ⟨E,0,none⟩)] w (dE fun v w'=> ∃ (K:Option Addr) (L:Nat) (u:List az) (B1ox0:Option Addr) (b1ox0:Nat),v= .agg #[.int .i64 J.aC, .int .u64 ((J.au:Nat):Int), .int .u64 ((J.bB:Nat):Int), .slice K J.ah.ls.length L]∧Own w D w' [row K J.ah.ls.length L (List.flatMap az.cells u) 129 3,sepL (List.flatMap zZ u),blk E [.slice B1ox0 r1.aa.ls.length b1ox0, .int .i64 r1.av] 150]∧(List.map zm u=J.ah.ls)∧(ay 1 h b t.aa.ls B1ox0 b1ox0 r1.aa.ls)∧(J.ah.ls.length≤1000)):=by
 refine zg (args:= [.pointer (some ⟨E,0,none⟩)]) Tryz.func66 rfl rfl rfl ?_
 show Wp _ _ _ [(0, .pointer (some ⟨E,0,none⟩))] _ _
 refine sr ?_
 refine dC [.int .i64 0, .int .u64 0, .int .u64 0, .slice none 0 0] 84 H ?_
 intro bL bM aQ
 refine ns (Mz rfl ?_)
 have aR:=aQ.pk [1,0]
 obtain⟨⟨f,l⟩,M⟩:∃ q:Int × ReaderT,dA t=q:=⟨_,rfl⟩
 obtain⟨bN,ag,ah,ai,bC⟩:=zx aR
 refine cl Tryz.call50 (iq _ _ E t h b f l ag (ah _ d) (show t.aa.ls.length≤b∧t.aa.ls.length≤9223372036854775807 from by omega) M) ?_
 rintro _ bO ⟨X,F,rfl,aj,a,N⟩
 have aS:=ai _ _ aj
 replace a:ay 1 h b t.aa.ls X F l.aa.ls:=a
 have bD:=(a).le
 replace N:0≤f∧f≤255:=N
 refine Kz (.agg #[.int .i64 f, .int .u64 0, .int .u64 0, .slice none 0 0]) ?_
 refine dC [.int .i64 0, .int .u64 0, .int .u64 0, .slice none 0 0] 84 aS ?_
 intro Y bP aT
 refine df [.int .i64 f, .int .u64 0, .int .u64 0, .slice none 0 0] 0 aT Tryz.sizeOf84 ?_
 intro bQ aV
 refine ns (Mz rfl ?_)
 have aW:=aV.pk [1,0,2]
 obtain⟨⟨n,o⟩,O⟩:∃ q:Nat × ReaderT,aU l=q:=⟨_,rfl⟩
 obtain⟨bR,ak,au,av,bE⟩:=zx aW
 refine cl Tryz.call51 (dw _ _ E l X F n o ak (fun x y=>ay.rds bi (by decide) a ((au _ d) x y)) (show l.aa.ls.length≤F∧l.aa.ls.length≤9223372036854775807 from by omega) O) ?_
 rintro _ bT ⟨Z,G,rfl,ax,c,P⟩
 have aX:=av _ _ ax
 replace c:ay 1 X F l.aa.ls Z G o.aa.ls:=c
 have bF:=(c).le
 replace P:n≤18446744073709551615:=P
 refine Kz (.pointer (some ⟨Y,1,none⟩)) ?_
 have aY:=aX.pk [1,0,2]
 refine df [.int .u64 ((n:Nat):Int)] 1 aY Tryz.sizeOf22 ?_
 intro bU aZ
 refine ns (Mz rfl ?_)
 have bf:=aZ.pk [1,0,2]
 obtain⟨⟨p,r⟩,Q⟩:∃ q:Nat × ReaderT,aU o=q:=⟨_,rfl⟩
 obtain⟨bV,aA,aB,aC,bG⟩:=zx bf
 refine cl Tryz.call51 (dw _ _ E o Z G p r aA (fun x y=>ay.rds bi (by decide) c ((fun x y=>ay.rds bi (by decide) a ((aB _ d) x y)) x y)) (show o.aa.ls.length≤G∧o.aa.ls.length≤9223372036854775807 from by omega) Q) ?_
 rintro _ bW ⟨aa,I,rfl,aD,j,R⟩
 have bg:=aC _ _ aD
 replace j:ay 1 Z G o.aa.ls aa I r.aa.ls:=j
 have bH:=(j).le
 replace R:p≤18446744073709551615:=R
 refine Kz (.pointer (some ⟨Y,2,none⟩)) ?_
 have bq:=bg.pk [1,0,2]
 refine df [.int .u64 ((p:Nat):Int)] 2 bq Tryz.sizeOf22 ?_
 intro bY bu
 refine ns (Mz rfl ?_)
 have bv:=bu.pk [1,0,2]
 obtain⟨⟨s,af⟩,S⟩:∃ q:(List bX) × ReaderT,il r 255=q:=⟨_,rfl⟩
 obtain⟨bZ,aF,aG,aH,bI⟩:=zx bv
 refine cl Tryz.call103 (mr _ _ E r aa I 255 s af aF (fun x y=>ay.rds bi (by decide) j ((fun x y=>ay.rds bi (by decide) c ((fun x y=>ay.rds bi (by decide) a ((aG _ d) x y)) x y)) x y)) (show r.aa.ls.length≤I∧r.aa.ls.length≤9223372036854775807 from by omega) (by omega) S) ?_
 rintro _ cu ⟨z,A,aI,T,U,rfl,aJ,B,g,C⟩
 have aK:=aH _ _ aJ
 replace g:ay 1 aa I r.aa.ls T U af.aa.ls:=g
 have bz:=(g).le
 have bA:=bS B
 have bB:=aK.rowC (i:=0) rfl
 replace C:s.length≤1000:=C
 refine Kz (.pointer (some ⟨Y,3,none⟩)) ?_
 have aL:=aK.pk [3,0,1,2,4]
 refine df [.slice z s.length A] 3 aL Tryz.sizeOf82 ?_
 intro bJ V
 refine ns (La ([.int .i64 f, .int .u64 ((n:Nat):Int), .int .u64 ((p:Nat):Int), .slice z s.length A]) V 0 Tryz.isAgg84 Tryz.sizeOf84 ?_)
 have aM:=V.pk [4,0,1,2,3]
 refine df [.int .i64 f, .int .u64 ((n:Nat):Int), .int .u64 ((p:Nat):Int), .slice z s.length A] 0 aM Tryz.sizeOf84 ?_
 intro bK W
 refine nt (rt (zO (lv rfl rfl (zD (cs:= [.int .i64 f, .int .u64 ((n:Nat):Int), .int .u64 ((p:Nat):Int), .slice z s.length A]) Tryz.isAgg84 Tryz.sizeOf84 ((W.cls (i:=0) rfl).lit (k:=0) (m:=4) rfl))) ?_))
 have aN:=W.pk [2,3,4]
 have e:iE t=(eD.mk f n p (Ll.mk s),af):=et (ae M) (et (ae O) (et (ae Q) (ae S)))
 obtain⟨rfl,rfl⟩:=ig (e.symm.trans hr)
 exact⟨z,A,aI,T,U,rfl,aN,B,(ay.trans (ay.trans (ay.trans a c) j) g),(by first | omega | (dsimp only; omega) | (simp only [List.length_nil]; omega) | decide)⟩
def dG (g:List UInt8) (p1:UInt8):ReaderT:=
 bnd (mq g) fun c=>if((g.length:Nat):Int) > 8192 then bnd (bC c 2) fun e=>bnd (dZ e) fun a=>if((a.1.toNat:Nat):Int)=((p1.toNat:Nat):Int) then a.2 else bnd (bC a.2 11) fun f=>f else bnd (dZ c) fun b=>if((b.1.toNat:Nat):Int)=((p1.toNat:Nat):Int) then b.2 else bnd (bC b.2 11) fun d=>d
theorem ng (w:World) (D:Nat→Prop) (Q:Option Addr) (n0 R:Nat) (n:List UInt8) (p1:UInt8) (r0:ReaderT) (H:Own w D w []) (s:Ro w D fun w'=>bn w' 1 Q n0 (List.flatMap eB n)) (aR:n0=n.length) (bH:n.length *1≤211106232532992) (bI:n.length≤R) (hr:dG n p1=r0):
    Calls Tryz.prog 49 #[.slice Q n0 R, .int .u8 ((p1.toNat:Nat):Int)] w (dE fun v w'=> ∃ (G0:Nat) (B0nx0:Option Addr) (b0nx0:Nat),v= .pointer (some ⟨G0,0,none⟩)∧Own w D w' [blk G0 [.slice B0nx0 r0.aa.ls.length b0nx0, .int .i64 r0.av] 150]∧(ay 1 Q R n B0nx0 b0nx0 r0.aa.ls)):=by
 subst aR
 refine zg (args:= [.slice Q n.length R, .int .u8 ((p1.toNat:Nat):Int)]) Tryz.func49 rfl rfl rfl ?_
 show Wp _ _ _ [(0, .slice Q n.length R),(1, .int .u8 ((p1.toNat:Nat):Int))] _ _
 refine sr (Ar rfl (Mz rfl ?_))
 obtain⟨b,i⟩:∃ q,mq n=q:=⟨_,rfl⟩
 obtain⟨bJ,Y,Z,aa,bf⟩:=zt H
 refine cl Tryz.call90 (rf _ _ Q n.length R n b Y (Z _ s) rfl (by omega) (by first | omega | (simp only [List.length_take,List.length_drop]; omega) | exact Nat.le_refl _) i) ?_
 rintro _ bK ⟨g,u,o,rfl,af,a⟩
 have ag:=aa _ _ af
 replace a:ay 1 Q R n u o b.aa.ls:=a
 have bg:=(a).le
 refine An rfl (ze (sr (Mz rfl (Kz (.int .i64 ((n.length:Nat):Int)) (Kz (.bool (decide (((n.length:Nat):Int) > 8192))) (nt ?_))))))
 by_cases t:((n.length:Nat):Int) > 8192
 refine jT (dT t) (zb (Mz rfl ?_))
 obtain⟨p,x⟩:∃ q,bC b 2=q:=⟨_,rfl⟩
 obtain⟨bL,ah,ai,aj,bq⟩:=zx ag
 refine cl Tryz.call91 (gq _ _ g b u o 2 p ah (fun j k=>ay.rds bi (by decide) a ((ai _ s) j k)) (show b.aa.ls.length≤o∧b.aa.ls.length≤9223372036854775807 from by omega) x) ?_
 rintro _ bM ⟨S,F,rfl,ak,c⟩
 have aS:=aj _ _ ak
 replace c:ay 1 u o b.aa.ls S F p.aa.ls:=c
 have bu:=(c).le
 refine nt (ze (sr (Mz rfl ?_)))
 obtain⟨⟨G,l⟩,y⟩:∃ q:UInt8 × ReaderT,dZ p=q:=⟨_,rfl⟩
 obtain⟨bN,au,av,ax,bv⟩:=zx aS
 refine cl Tryz.call92 (kU _ _ g p S F G l au (fun j k=>ay.rds bi (by decide) c ((fun j k=>ay.rds bi (by decide) a ((av _ s) j k)) j k)) (show p.aa.ls.length≤F∧p.aa.ls.length≤9223372036854775807 from by omega) y) ?_
 rintro _ bO ⟨I,z,rfl,az,d⟩
 have aA:=ax _ _ az
 replace d:ay 1 S F p.aa.ls I z l.aa.ls:=d
 have bz:=(d).le
 refine Mz rfl (fw (.bool (decide (¬ (((G.toNat:Nat):Int)=((p1.toNat:Nat):Int))))) (zF (e:= !(decide (((G.toNat:Nat):Int)=((p1.toNat:Nat):Int)))) yk decide_not.symm) (nt ?_))
 by_cases J:((G.toNat:Nat):Int)=((p1.toNat:Nat):Int)
 refine jF (dF (Ce J)) (sk (sr (Mz rfl (An rfl (rt (rs ?_))))))
 have aT:=aA.pk [0]
 obtain rfl:_=l:=hr.symm.trans (et (ae i) (et (ip t) (et (ae x) (et (ae y) (ip J)))))
 exact⟨g,I,z,rfl,aT,(ay.trans (ay.trans a c) d)⟩
 refine jT (dT J) (zb (Mz rfl ?_))
 obtain⟨T,N⟩:∃ q,bC l 11=q:=⟨_,rfl⟩
 obtain⟨bP,aB,aC,aD,bA⟩:=zx aA
 refine cl Tryz.call91 (gq _ _ g l I z 11 T aB (fun j k=>ay.rds bi (by decide) d ((fun j k=>ay.rds bi (by decide) c ((fun j k=>ay.rds bi (by decide) a ((aC _ s) j k)) j k)) j k)) (show l.aa.ls.length≤z∧l.aa.ls.length≤9223372036854775807 from by omega) N) ?_
 rintro _ bQ ⟨aF,aG,rfl,aH,r⟩
 have aU:=aD _ _ aH
 replace r:ay 1 I z l.aa.ls aF aG T.aa.ls:=r
 have bB:=(r).le
 refine ns (Mz rfl (An rfl (rt (rs ?_))))
 have aV:=aU.pk [0]
 obtain rfl:_=T:=hr.symm.trans (et (ae i) (et (ip t) (et (ae x) (et (ae y) (et (iN J) (ae N))))))
 exact⟨g,aF,aG,rfl,aV,(ay.trans (ay.trans (ay.trans a c) d) r)⟩
 refine jF (dF t) (sk (ze (sr (Mz rfl ?_))))
 obtain⟨⟨K,m⟩,A⟩:∃ q:UInt8 × ReaderT,dZ b=q:=⟨_,rfl⟩
 obtain⟨bR,aI,aJ,aK,bD⟩:=zx ag
 refine cl Tryz.call92 (kU _ _ g b u o K m aI (fun j k=>ay.rds bi (by decide) a ((aJ _ s) j k)) (show b.aa.ls.length≤o∧b.aa.ls.length≤9223372036854775807 from by omega) A) ?_
 rintro _ bS ⟨L,B,rfl,aL,f⟩
 have aM:=aK _ _ aL
 replace f:ay 1 u o b.aa.ls L B m.aa.ls:=f
 have bE:=(f).le
 refine Mz rfl (fw (.bool (decide (¬ (((K.toNat:Nat):Int)=((p1.toNat:Nat):Int))))) (zF (e:= !(decide (((K.toNat:Nat):Int)=((p1.toNat:Nat):Int)))) yk decide_not.symm) (nt ?_))
 by_cases M:((K.toNat:Nat):Int)=((p1.toNat:Nat):Int)
 refine jF (dF (Ce M)) (sk (sr (Mz rfl (An rfl (rt (rs ?_))))))
 have aW:=aM.pk [0]
 obtain rfl:_=m:=hr.symm.trans (et (ae i) (et (iN t) (et (ae A) (ip M))))
 exact⟨g,L,B,rfl,aW,(ay.trans a f)⟩
 refine jT (dT M) (zb (Mz rfl ?_))
 obtain⟨C,E⟩:∃ q,bC m 11=q:=⟨_,rfl⟩
 obtain⟨bF,U,V,W,aX⟩:=zx aM
 refine cl Tryz.call91 (gq _ _ g m L B 11 C U (fun j k=>ay.rds bi (by decide) f ((fun j k=>ay.rds bi (by decide) a ((V _ s) j k)) j k)) (show m.aa.ls.length≤B∧m.aa.ls.length≤9223372036854775807 from by omega) E) ?_
 rintro _ bG ⟨O,P,rfl,X,h⟩
 have aN:=W _ _ X
 replace h:ay 1 L B m.aa.ls O P C.aa.ls:=h
 have aY:=(h).le
 refine ns (Mz rfl (An rfl (rt (rs ?_))))
 have aO:=aN.pk [0]
 obtain rfl:_=C:=hr.symm.trans (et (ae i) (et (iN t) (et (ae A) (et (iN M) (ae E)))))
 exact⟨g,O,P,rfl,aO,(ay.trans (ay.trans a f) h)⟩
end Go.Proofs.YtcnkpjheifkgnaaGreat
