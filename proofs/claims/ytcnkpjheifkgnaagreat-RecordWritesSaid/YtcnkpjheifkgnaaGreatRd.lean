/-
 record: what is read.
-/
import Derived.Test.YtcnkpjheifkgnaaGreatRcA
namespace Go.Proofs.YtcnkpjheifkgnaaGreat
set_option maxRecDepth 100000
open Go.RowKit
set_option linter.unusedVariables false
set_option linter.unusedSectionVars false
set_option linter.unusedSimpArgs false
def dM:List UInt8→Nat→Unit ⊕ Int
  | [],a=>Sum.inl ()
  | b::c,a=>if((a:Nat):Int)=10 then Sum.inr (0) else if((b.toNat:Nat):Int) < 128 then Sum.inr ((a+1:Nat):Int) else dM c (a+1)
def mq (a:List UInt8):Int:=
 lp (dM a 0) fun _=>0
theorem sD (w:World) (D:Nat→Prop) (l:Option Addr) (z p:Nat) (b:List UInt8) (r:Int) (H:Own w D w []) (n:Ro w D fun w'=>bG w' 1 l z (List.flatMap eB b)) (A:z=b.length) (K:b.length≤9223372036854775807) (hr:mq b=r):
    Calls Tryz.prog 135 #[.slice l z p] w (dE fun v w'=>v= .int .i64 r∧Own w D w' []∧(0≤r∧r≤10∧r≤((b.length:Nat):Int))):=by
 subst A
 refine Ce (args:= [.slice l b.length p]) Tryz.func135 rfl rfl rfl ?_
 show Wp _ _ _ [(0, .slice l b.length p)] _ _
 refine sr (An rfl (BS (sr (Mz rfl (Kz (.int .i64 ((b.length:Nat):Int)) (Mn rfl (bo ?_)))))))
 have B:Own w D w []:=H.pk []
 obtain⟨s,t⟩:∃ q:Nat→World→Prop,q=fun(i:Nat) w'=>Own w D w' []∧(i≤b.length∧i≤10∧dM b 0=dM (List.drop i b) i):=⟨_,rfl⟩
 have f:∀ {a:Nat} {w':World},s a w'↔Own w D w' []∧a≤b.length∧a≤10∧dM b 0=dM (List.drop a b) a:=by intros; subst t; exact Iff.rfl
 refine Wp.loop (fun i:Nat=> [(2, .int .i64 0),(7, .int .i64 ((i:Nat):Int)),(6, .int .i64 ((b.length:Nat):Int)),(5, .slice l b.length p)]) s (fun i=>b.length - i) 0 ⟨rfl,rfl,rfl,rfl,trivial⟩ (f.2 ⟨B,by omega,by omega,rfl⟩) ?_
 rintro a L u
 show Wp _ _ _ [(2, .int .i64 0),(7, .int .i64 ((a:Nat):Int)),(6, .int .i64 ((b.length:Nat):Int)),(5, .slice l b.length p)] _ _
 obtain⟨c,I,J,d⟩:=f.1 u
 refine sr (Kz (.bool (decide (((a:Nat):Int) < ((b.length:Nat):Int)))) (nt (BS ?_)))
 by_cases x:((a:Nat):Int) < ((b.length:Nat):Int)
 obtain⟨o,m⟩:=bU (ls:=b) (i:=a) bA (by decide) (c.ro n) (by first | omega | (simp; done) | (simp; omega))
 have g:=drop_at m
 refine jT (dT x) (sk (BS (bo (sr (Mz rfl (fw (.pointer (some ⟨ab l,ao l+a *1,none⟩)) (Ch (kV) rfl rfl ((c.ro n).addr (i:=a) (by omega)) (by omega)) (fw (.int .u8 ((o.toNat:Nat):Int)) (Cc rfl (bi.one Tryz.isAgg5 (((c.ro n).elem bA m (by decide)).at_ (k:=0) rfl))) (Az rfl (An rfl (BS (sr (Mz rfl (Kz (.bool (decide (((a:Nat):Int)=10))) (nt ?_))))))))))))))
 by_cases h:((a:Nat):Int)=10
 refine jT (dT h) (sr (An rfl (rt (tR (bR (tR (tR (bR (tR (rs ?_))))))))))
 have C:=c.pk []
 obtain rfl:_=0:=hr.symm.trans (ic (et (d) (et (congrArg (fun q=>dM q a) g) (ip h))))
 exact⟨rfl,C,(by omega)⟩
 refine jF (dF h) (sk (sr (Mz rfl (Kz (.bool (decide (((o.toNat:Nat):Int) < 128))) (nt ?_)))))
 by_cases j:((o.toNat:Nat):Int) < 128
 refine jT (dT j) (sr (Mz rfl (fw (.int .i64 ((a+1:Nat):Int)) (Ci (e:=IntKind.i64.wrap (((a:Nat):Int)+1)) yk (by rw [EL _ (by omega)]; omega)) (An rfl (rt (bR (tR (tR (bR (tR (rs ?_)))))))))))
 have E:=c.pk []
 obtain rfl:_=((a+1:Nat):Int):=hr.symm.trans (ic (et (d) (et (congrArg (fun q=>dM q a) g) (et (iN h) (ip j)))))
 exact⟨rfl,E,(by omega)⟩
 refine jF (dF j) (CW (bN (Ca (BR (fw (.int .i64 ((a+1:Nat):Int)) (Ci (e:=IntKind.i64.wrap (((a:Nat):Int)+1)) yk (by rw [EL _ (by omega)]; omega)) (Mz rfl (Cf ?_)))))))
 have F:=c.pk []
 exact Cm (a+1) ⟨rfl,rfl,rfl,rfl,trivial⟩ (f.2 ⟨F,by omega,by omega,et (d) (et (congrArg (fun q=>dM q a) g) (et (iN h) (iN j)))⟩) (by show b.length - (a+1) < b.length - a; omega)
 refine jF (dF x) (Wp.exit (Cb ?_))
 have y:dM b 0=Sum.inl ():=et (d) (et (congrArg (fun q=>dM q a) (bM (ls:=b) (i:=a) (by omega))) rfl)
 refine Cb (Cn (Ca (sr (An rfl (rt (rs ?_))))))
 have G:=c.pk []
 obtain rfl:_=0:=hr.symm.trans (mF y)
 exact⟨rfl,G,(by omega)⟩
def gV (f:List UInt8) (c:Int):Nat→Nat→Nat→Nat
  | 0,b,a=>b
  | e+1,b,a=>bnd (List.getD (List.take (Int.toNat c) f) a default) fun d=>gV f c e (oO b (aU ((d &&& (127:UInt8)).toNat) (7 *a))) (a+1)
def cB (c:List UInt8):Nat × Int × Int:=
 bnd (mq c) fun a=>if a=0 then if((c.length:Nat):Int) ≥ 10 then(0,0,11) else(0,0,10) else bnd (List.getD c (Int.toNat (a - 1)) default) fun b=>bnd (if a > 1 then if((b.toNat:Nat):Int)=0 then true else if a=10 then decide (((b.toNat:Nat):Int) > 1) else false else false) fun sJrbfbJ=>if sJrbfbJ=true then(0,0,11) else bnd (gV c a (Int.toNat a) 0 0) fun sLrbfbJafL=>(sLrbfbJafL,a,0)
theorem oz (w:World) (D:Nat→Prop) (t:Option Addr) (Z E:Nat) (d:List UInt8) (r0:Nat) (L:Int) (r2:Int) (H:Own w D w []) (s:Ro w D fun w'=>bG w' 1 t Z (List.flatMap eB d)) (af:Z=d.length) (aI:d.length≤9223372036854775807) (aJ:d.length≤E) (hr:cB d=(r0,L,r2)):
    Calls Tryz.prog 112 #[.slice t Z E] w (dE fun v w'=>v= .tuple #[.int .u64 ((r0:Nat):Int), .int .i64 L, .int .i64 r2]∧Own w D w' []∧(¬ (r2=0)∨(1≤L∧L≤10∧L≤((d.length:Nat):Int)))∧(r0≤18446744073709551615)):=by
 subst af
 refine Ce (args:= [.slice t d.length E]) Tryz.func112 rfl rfl rfl ?_
 show Wp _ _ _ [(0, .slice t d.length E)] _ _
 refine sr (Az rfl (Az rfl (Ar rfl (Mz rfl ?_))))
 obtain⟨a,o⟩:∃ q,mq d=q:=⟨_,rfl⟩
 obtain⟨aK,M,N,O,aB⟩:=Ck H
 refine cl Tryz.call135 (sD _ _ t d.length E d a M (N _ s) rfl (by omega) o) ?_
 rintro _ aL ⟨rfl,P,G⟩
 have l:=O _ _ P
 replace G:0≤a∧a≤10∧a≤((d.length:Nat):Int):=G
 refine An rfl (BS (sr (Mz rfl (Kz (.bool (decide (a=0))) (nt ?_)))))
 by_cases u:a=0
 refine jT (dT u) (BS (sr (Mz rfl (Kz (.int .i64 ((d.length:Nat):Int)) (Kz (.bool (decide (((d.length:Nat):Int) ≥ 10))) (nt ?_))))))
 by_cases F:((d.length:Nat):Int) ≥ 10
 refine jT (dT F) (sr (Az rfl (Az rfl (An rfl (rt (tR (tR (CK (pK rfl rfl rfl rfl) ?_))))))))
 have ah:=l.pk []
 have e:cB d=(0,0,11):=et (ag o) (et (ip u) (ip F))
 obtain⟨rfl,rfl,rfl⟩:=rT (e.symm.trans hr)
 exact⟨rfl,ah,(by omega),(by omega)⟩
 refine jF (dF F) (sk (sr (Az rfl (Az rfl (An rfl (rt (tR (CK (pK rfl rfl rfl rfl) ?_))))))))
 have ai:=l.pk []
 have e:cB d=(0,0,10):=et (ag o) (et (ip u) (iN F))
 obtain⟨rfl,rfl,rfl⟩:=rT (e.symm.trans hr)
 exact⟨rfl,ai,(by omega),(by omega)⟩
 refine jF (dF u) (sk (sr (Mz rfl (Mz rfl (fw (.int .i64 ((Int.toNat (a - 1):Nat):Int)) (Ci (e:=IntKind.i64.wrap (a - 1)) yk (by rw [EL _ (by omega)]; omega)) ?_)))))
 obtain⟨f,x⟩:=bU (ls:=d) (i:=Int.toNat (a - 1)) bA (by decide) (l.ro s) (by first | omega | (simp; done) | (simp; omega))
 refine fw (.pointer (some ⟨ab t,ao t+(Int.toNat (a - 1)) *1,none⟩)) (Ch (kV) rfl rfl ((l.ro s).addr (i:=Int.toNat (a - 1)) (by omega)) (by omega)) (fw (.int .u8 ((f.toNat:Nat):Int)) (Cc rfl (bi.one Tryz.isAgg5 (((l.ro s).elem bA x (by decide)).at_ (k:=0) rfl))) (An rfl (BS (BS ?_))))
 obtain⟨Q,R⟩:∃ q:Bool→World→Prop,q=fun(i:Bool) w'=>Own w D w' []∧((if a > 1 then if((f.toNat:Nat):Int)=0 then true else if a=10 then decide (((f.toNat:Nat):Int) > 1) else false else false)=i):=⟨_,rfl⟩
 have p:∀ {y:Bool} {w':World},Q y w'↔Own w D w' []∧(if a > 1 then if((f.toNat:Nat):Int)=0 then true else if a=10 then decide (((f.toNat:Nat):Int) > 1) else false else false)=y:=by intros; subst R; exact Iff.rfl
 refine Df (fun i:Bool=> [(35, .bool i),(5, .int .i64 a),(4, .int .i64 0),(3, .int .i64 0),(2, .int .u64 0),(0, .slice t d.length E)]) Q ?_ ?_
 refine BR (Mz rfl (Kz (.bool (decide (a > 1))) (Mz rfl ?_)))
 by_cases j:a > 1
 refine gw (.int .u8 ((f.toNat:Nat):Int)) (dT j) (BX rfl) (Gz (.bool (decide (((f.toNat:Nat):Int)=0))) (dT j) (fw (.bool (decide (((f.toNat:Nat):Int)=0))) (BZ rfl (dT j) rfl) (Mz rfl ?_)))
 by_cases c:((f.toNat:Nat):Int)=0
 refine Sz (dT c) (Sz (dT c) (Sz (dT c) (BV rfl rfl rfl (BV rfl rfl rfl (Sz (dT c) (fw (.bool true) (BZ rfl (dT c) rfl) (Cf ?_)))))))
 have aj:=l.pk []
 exact CV true ⟨rfl,rfl,rfl,rfl,rfl,rfl,trivial⟩ (p.2 ⟨aj,et (ip j) (ip c)⟩)
 refine gw (.int .i64 a) (dF c) (BX rfl) (Gz (.bool (decide (a=10))) (dF c) (gw (.bool (decide (a=10))) (dF c) (BX rfl) ?_))
 by_cases r:a=10
 refine gw (.int .u8 ((f.toNat:Nat):Int)) (dT r) (BX rfl) (Gz (.bool (decide (((f.toNat:Nat):Int) > 1))) (dT r) (gw (.bool (decide (((f.toNat:Nat):Int) > 1))) (dF c) (BZ rfl (dT r) rfl) (fw (.bool (decide (((f.toNat:Nat):Int) > 1))) (BQ rfl (dF c) rfl) (Cf ?_))))
 have ak:=l.pk []
 exact CV (decide (((f.toNat:Nat):Int) > 1)) ⟨rfl,rfl,rfl,rfl,rfl,rfl,trivial⟩ (p.2 ⟨ak,et (ip j) (et (iN c) (ip r))⟩)
 refine Sz (dF r) (Sz (dF r) (gw (.bool false) (dF c) (BQ rfl (dF r) rfl) (fw (.bool false) (BQ rfl (dF c) rfl) (Cf ?_))))
 have au:=l.pk []
 exact CV false ⟨rfl,rfl,rfl,rfl,rfl,rfl,trivial⟩ (p.2 ⟨au,et (ip j) (et (iN c) (iN r))⟩)
 refine Sz (dF j) (Sz (dF j) (fw (.bool false) (BQ rfl (dF j) rfl) (Mz rfl (gw (.int .i64 a) rfl (BX rfl) (Gz (.bool (decide (a=10))) rfl (gw (.bool (decide (a=10))) rfl (BX rfl) ?_))))))
 have z:(decide (a=10))=false:=(dF (by omega))
 refine Sz z (Sz z (gw (.bool false) rfl (BQ rfl z rfl) (fw (.bool false) (BQ rfl rfl rfl) (Cf ?_))))
 have av:=l.pk []
 exact CV false ⟨rfl,rfl,rfl,rfl,rfl,rfl,trivial⟩ (p.2 ⟨av,iN j⟩)
 rintro y aM S
 show Wp _ _ _ [(35, .bool y),(5, .int .i64 a),(4, .int .i64 0),(3, .int .i64 0),(2, .int .u64 0),(0, .slice t d.length E)] _ _
 obtain⟨T,I⟩:=p.1 S
 rcases EO (y) with A | A
 refine jT A (sr (Az rfl (Az rfl (An rfl (rt (tR (CK (pK rfl rfl rfl rfl) ?_)))))))
 have ax:=T.pk []
 have e:cB d=(0,0,11):=et (ag o) (et (iN u) (et (ag (cu x)) (et (ag I) (ip A))))
 obtain⟨rfl,rfl,rfl⟩:=rT (e.symm.trans hr)
 exact⟨rfl,ax,(by omega),(by omega)⟩
 refine jF A (sk (sr (An rfl (BS (sr (Mz rfl (fw (.int .i64 ((Int.toNat a:Nat):Int)) (Ci (e:=a) (BX rfl) (by omega)) (fw (.slice t (Int.toNat a) E) (Ej (kV) rfl rfl (by omega)) (Kz (.int .i64 ((Int.toNat a:Nat):Int)) (Mn rfl (bo ?_)))))))))))
 have ay:=T.pk []
 obtain⟨U,V⟩:∃ q:(Nat × Nat)→World→Prop,q=fun(i:Nat × Nat) w'=>Own w D w' []∧(i.2≤Int.toNat a∧(i.1≤18446744073709551615∧i.2≤18446744073709551615)∧gV d a (Int.toNat a) 0 0=gV d a ((Int.toNat a) - i.2) i.1 i.2):=⟨_,rfl⟩
 have B:∀ {g:Nat} {b:Nat} {w':World},U (g,b) w'↔Own w D w' []∧b≤Int.toNat a∧(g≤18446744073709551615∧b≤18446744073709551615)∧gV d a (Int.toNat a) 0 0=gV d a ((Int.toNat a) - b) g b:=by intros; subst V; exact Iff.rfl
 refine Wp.loop (fun i:Nat × Nat=> [(7, .int .u64 ((i.1:Nat):Int)),(40, .int .i64 ((i.2:Nat):Int)),(39, .int .i64 ((Int.toNat a:Nat):Int)),(38, .slice t (Int.toNat a) E),(5, .int .i64 a),(4, .int .i64 0),(3, .int .i64 0),(2, .int .u64 0)]) U (fun i=>(Int.toNat a) - i.2) (0,0) ⟨rfl,rfl,rfl,rfl,rfl,rfl,rfl,rfl,trivial⟩ (B.2 ⟨ay,by omega,by omega,rfl⟩) ?_
 rintro ⟨g,b⟩ aN W
 show Wp _ _ _ [(7, .int .u64 ((g:Nat):Int)),(40, .int .i64 ((b:Nat):Int)),(39, .int .i64 ((Int.toNat a:Nat):Int)),(38, .slice t (Int.toNat a) E),(5, .int .i64 a),(4, .int .i64 0),(3, .int .i64 0),(2, .int .u64 0)] _ _
 obtain⟨C,aC,aD,J⟩:=B.1 W
 refine sr (Kz (.bool (decide (((b:Nat):Int) < ((Int.toNat a:Nat):Int)))) (nt (BS ?_)))
 by_cases X:((b:Nat):Int) < ((Int.toNat a:Nat):Int)
 refine jT (dT X) (sk (BS (bo (sr (Mz rfl ?_)))))
 obtain⟨h,K⟩:=bU (ls:=(List.take (Int.toNat a) d)) (i:=b) bA (by decide) (DI (hi:=Int.toNat a) bA (C.ro s) (by omega)) (by first | omega | (simp; done) | (simp; omega))
 refine fw (.pointer (some ⟨ab t,ao t+b *1,none⟩)) (Ch (kV) rfl rfl ((DI (hi:=Int.toNat a) bA (C.ro s) (by omega)).addr (i:=b) (by omega)) (by omega)) (fw (.int .u8 ((h.toNat:Nat):Int)) (Cc rfl (bi.one Tryz.isAgg5 (((DI (hi:=Int.toNat a) bA (C.ro s) (by omega)).elem bA K (by decide)).at_ (k:=0) rfl))) (Az rfl (An rfl (BR (Mz rfl (Mz rfl (fw (.int .u8 (((h &&& (127:UInt8)).toNat:Nat):Int)) (Ci (e:=IntKind.u8.wrap (((BitVec.ofInt 8 ((h.toNat:Nat):Int) &&& BitVec.ofInt 8 127).toNat:Nat):Int)) yk (u8_and h (127:UInt8))) ?_)))))))
 have aF:(h &&& (127:UInt8)).toNat≤255:=Nat.le_of_lt_succ (UInt8.toNat_lt _)
 refine fw (.int .u64 (((h &&& (127:UInt8)).toNat:Nat):Int)) (Ci (e:=IntKind.u64.wrap (((h &&& (127:UInt8)).toNat:Nat):Int)) yk (IntWalk.u64_in _ (by omega))) (Mz rfl (fw (.int .u64 ((b:Nat):Int)) (Ci (e:=IntKind.u64.wrap ((b:Nat):Int)) yk (IntWalk.u64_in _ (by omega))) (fw (.int .u64 ((7 *b:Nat):Int)) (Ci (e:=IntKind.u64.wrap (7 *((b:Nat):Int))) yk (by rw [IntWalk.u64_in _ (by omega)]; omega)) ?_)))
 have aG:aU ((h &&& (127:UInt8)).toNat) (7 *b)≤18446744073709551615:=nQ _ _
 refine fw (.int .u64 ((aU ((h &&& (127:UInt8)).toNat) (7 *b):Nat):Int)) (Ci (Dp (m:=7 *b) rfl rfl) (di _)) ?_
 have aH:oO g (aU ((h &&& (127:UInt8)).toNat) (7 *b))≤18446744073709551615:=wo _ _
 refine fw (.int .u64 ((oO g (aU ((h &&& (127:UInt8)).toNat) (7 *b)):Nat):Int)) (Ci (e:=IntKind.u64.wrap (((BitVec.ofInt 64 ((g:Nat):Int) ||| BitVec.ofInt 64 ((aU ((h &&& (127:UInt8)).toNat) (7 *b):Nat):Int)).toNat:Nat):Int)) yk (di _)) (Az rfl (Cf (bN (Ca (BR (fw (.int .i64 ((b+1:Nat):Int)) (Ci (e:=IntKind.i64.wrap (((b:Nat):Int)+1)) yk (by rw [EL _ (by omega)]; omega)) (Mz rfl (Cf ?_))))))))
 have az:=C.pk []
 exact Cm (oO g (aU ((h &&& (127:UInt8)).toNat) (7 *b)),b+1) ⟨rfl,rfl,rfl,rfl,rfl,rfl,rfl,rfl,trivial⟩ (B.2 ⟨az,by omega,by omega,et (J) (et (congrArg (fun q=>gV d a q g b) (lI (n:=Int.toNat a) (i:=b) (by omega))) (ag (cu K)))⟩) (by show (Int.toNat a) - (b+1) < (Int.toNat a) - b; omega)
 refine jF (dF X) (Wp.exit (Cb ?_))
 have Y:gV d a (Int.toNat a) 0 0=g:=et (J) (et (congrArg (fun q=>gV d a q g b) (oh (n:=Int.toNat a) (i:=b) (by omega))) rfl)
 refine Cb (Cn (Ca (sr (Mz rfl (Mz rfl (Az rfl (Az rfl (An rfl (rt (CK (pK rfl rfl rfl rfl) ?_))))))))))
 have aA:=C.pk []
 have e:cB d=(g,a,0):=et (ag o) (et (iN u) (et (ag (cu x)) (et (ag I) (et (jE A) (ag Y)))))
 obtain⟨rfl,rfl,rfl⟩:=rT (e.symm.trans hr)
 exact⟨rfl,aA,(by omega),(by omega)⟩
def eu (b:List UInt8) (p1:Int):(List UInt8) × Int × Int:=
 bnd (cB b) fun a=>if a.2.2=0 then if p1 < 0 then([],0,2) else if((a.1:Nat):Int) > ((Int.toNat (IntKind.u64.wrap p1):Nat):Int) then([],0,2) else if((a.1:Nat):Int) > ((Int.toNat (((b.length:Nat):Int) - a.2.1):Nat):Int) then([],0,10) else((List.take ((Int.toNat (a.2.1+((a.1:Nat):Int))) - (Int.toNat a.2.1)) (List.drop (Int.toNat a.2.1) b)),a.2.1+((a.1:Nat):Int),0) else([],0,a.2.2)
theorem qZ (w:World) (D:Nat→Prop) (p:Option Addr) (z o:Nat) (d:List UInt8) (p1:Int) (A:List UInt8) (y:Int) (B:Int) (H:Own w D w []) (r:Ro w D fun w'=>bG w' 1 p z (List.flatMap eB d)) (C:z=d.length) (M:d.length≤9223372036854775807) (N:d.length≤o) (hr:eu d p1=(A,y,B)):
    Calls Tryz.prog 136 #[.slice p z o, .int .i64 p1] w (dE fun v w'=>v= .tuple #[.string ⟨List.toArray A⟩, .int .i64 y, .int .i64 B]∧Own w D w' []∧(¬ (B=0)∨(1≤y∧y≤((d.length:Nat):Int)∧A.length≤d.length))):=by
 subst C
 refine Ce (args:= [.slice p d.length o, .int .i64 p1]) Tryz.func136 rfl rfl rfl ?_
 show Wp _ _ _ [(0, .slice p d.length o),(1, .int .i64 p1)] _ _
 refine sr (Az rfl (Az rfl (Ar rfl (Mz rfl ?_))))
 obtain⟨⟨b,a,g⟩,f⟩:∃ q:Nat × Int × Int,cB d=q:=⟨_,rfl⟩
 obtain⟨O,s,t,u,K⟩:=Ck H
 refine cl Tryz.call112 (oz _ _ p d.length o d b a g s (t _ r) rfl (by omega) (by first | omega | (simp only [List.length_take,List.length_drop]; omega) | exact Nat.le_refl _) f) ?_
 rintro _ P ⟨rfl,x,m,n⟩
 have i:=u _ _ x
 replace m: ¬ (g=0)∨(1≤a∧a≤10∧a≤((d.length:Nat):Int)):=m
 replace n:b≤18446744073709551615:=n
 refine Mz rfl (Kz (.int .u64 ((b:Nat):Int)) (Kz (.int .i64 a) (Kz (.int .i64 g) (Az rfl (Az rfl (An rfl (BS (sr (Mz rfl (fw (.bool (decide (¬ (g=0)))) (Cy (e:= !(decide (g=0))) yk decide_not.symm) (nt ?_)))))))))))
 by_cases h:g=0
 refine jF (dF (EN h)) (sk (BS (sr (Mz rfl (Kz (.bool (decide (p1 < 0))) (Mz rfl ?_))))))
 by_cases c:p1 < 0
 refine Sz (dT c) (Sz (dT c) (Sz (dT c) (Sz (dT c) (fw (.bool true) (BZ rfl (dT c) rfl) (nt (jt (sr (Az rfl (Az rfl (An rfl (rt (tR (CK (pK rfl rfl rfl rfl) ?_)))))))))))))
 have E:=i.pk []
 have e:eu d p1=([],0,2):=et (ag f) (et (ip h) (ip c))
 obtain⟨rfl,rfl,rfl⟩:=rT (e.symm.trans hr)
 exact⟨rfl,E,(by first | omega | (simp only [List.length_take,List.length_drop]; omega))⟩
 refine gw (.int .u64 ((b:Nat):Int)) (dF c) (BX rfl) (gw (.int .i64 p1) (dF c) (BX rfl) ?_)
 have L:Int.toNat (IntKind.u64.wrap p1)≤18446744073709551615:=gW _
 refine gw (.int .u64 ((Int.toNat (IntKind.u64.wrap p1):Nat):Int)) (dF c) (Ci (e:=IntKind.u64.wrap p1) yk (di _)) (Gz (.bool (decide (((b:Nat):Int) > ((Int.toNat (IntKind.u64.wrap p1):Nat):Int)))) (dF c) (fw (.bool (decide (((b:Nat):Int) > ((Int.toNat (IntKind.u64.wrap p1):Nat):Int)))) (BQ rfl (dF c) rfl) (nt ?_)))
 by_cases j:((b:Nat):Int) > ((Int.toNat (IntKind.u64.wrap p1):Nat):Int)
 refine jT (dT j) (sr (Az rfl (Az rfl (An rfl (rt (tR (CK (pK rfl rfl rfl rfl) ?_)))))))
 have F:=i.pk []
 have e:eu d p1=([],0,2):=et (ag f) (et (ip h) (et (iN c) (ip j)))
 obtain⟨rfl,rfl,rfl⟩:=rT (e.symm.trans hr)
 exact⟨rfl,F,(by first | omega | (simp only [List.length_take,List.length_drop]; omega))⟩
 refine jF (dF j) (sk (BS (sr (Mz rfl (Mz rfl (Kz (.int .i64 ((d.length:Nat):Int)) (Mz rfl (fw (.int .i64 (((d.length:Nat):Int) - a)) (Ci (e:=IntKind.i64.wrap (((d.length:Nat):Int) - a)) yk (by rw [EL _ (by omega)])) (fw (.int .u64 ((Int.toNat (((d.length:Nat):Int) - a):Nat):Int)) (Ci (e:=IntKind.u64.wrap (((d.length:Nat):Int) - a)) yk (by rw [IntWalk.u64_in _ (by omega)]; omega)) (Kz (.bool (decide (((b:Nat):Int) > ((Int.toNat (((d.length:Nat):Int) - a):Nat):Int)))) (nt ?_)))))))))))
 by_cases k:((b:Nat):Int) > ((Int.toNat (((d.length:Nat):Int) - a):Nat):Int)
 refine jT (dT k) (sr (Az rfl (Az rfl (An rfl (rt (tR (CK (pK rfl rfl rfl rfl) ?_)))))))
 have G:=i.pk []
 have e:eu d p1=([],0,10):=et (ag f) (et (ip h) (et (iN c) (et (iN j) (ip k))))
 obtain⟨rfl,rfl,rfl⟩:=rT (e.symm.trans hr)
 exact⟨rfl,G,(by first | omega | (simp only [List.length_take,List.length_drop]; omega))⟩
 refine jF (dF k) (sk (sr (Mz rfl (Mz rfl (fw (.int .i64 ((b:Nat):Int)) (Ci (e:=IntKind.i64.wrap ((b:Nat):Int)) yk (EL _ (by omega))) (fw (.int .i64 (a+((b:Nat):Int))) (Ci (e:=IntKind.i64.wrap (a+((b:Nat):Int))) yk (by rw [EL _ (by omega)])) (Ar rfl (Mz rfl (fw (.int .i64 ((Int.toNat a:Nat):Int)) (Ci (e:=a) (BX rfl) (by omega)) (fw (.int .i64 ((Int.toNat (a+((b:Nat):Int)):Nat):Int)) (Ci (e:=a+((b:Nat):Int)) (BX rfl) (by omega)) (fw (.slice (lh p (Int.toNat a) 1 o) ((Int.toNat (a+((b:Nat):Int))) - (Int.toNat a)) (o - (Int.toNat a))) (Yl.cut (kV) rfl rfl rfl (by omega) (by omega)) (fw (.string ⟨List.toArray (List.take ((Int.toNat (a+((b:Nat):Int))) - (Int.toNat a)) (List.drop (Int.toNat a) d))⟩) (Db (l:=(List.take ((Int.toNat (a+((b:Nat):Int))) - (Int.toNat a)) (List.drop (Int.toNat a) d))) Tryz.underlying37 Tryz.underlying5 Tryz.underlying9 (bG.cutE (lo:=Int.toNat a) (hi:=Int.toNat (a+((b:Nat):Int))) bA (i.ro r) (by omega) (by omega) (by omega)) rfl) (Mz rfl (Az rfl (Az rfl (An rfl (rt (CK (pK rfl rfl rfl rfl) ?_))))))))))))))))))
 have I:=i.pk []
 have e:eu d p1=((List.take ((Int.toNat (a+((b:Nat):Int))) - (Int.toNat a)) (List.drop (Int.toNat a) d)),a+((b:Nat):Int),0):=et (ag f) (et (ip h) (et (iN c) (et (iN j) (iN k))))
 obtain⟨rfl,rfl,rfl⟩:=rT (e.symm.trans hr)
 exact⟨rfl,I,(by first | omega | (simp only [List.length_take,List.length_drop]; omega))⟩
 refine jT (dT h) (sr (Mz rfl (Az rfl (Az rfl (An rfl (rt (tR (CK (pK rfl rfl rfl rfl) ?_))))))))
 have J:=i.pk []
 have e:eu d p1=([],0,g):=et (ag f) (iN h)
 obtain⟨rfl,rfl,rfl⟩:=rT (e.symm.trans hr)
 exact⟨rfl,J,(by first | omega | (simp only [List.length_take,List.length_drop]; omega))⟩
def pW (a:List UInt8):ReaderT:=
 ReaderT.mk (Ll.mk a) 0
theorem tO (w:World) (D:Nat→Prop) (b:Option Addr) (e c:Nat) (a:List UInt8) (d:ReaderT) (H:Own w D w []) (k:Ro w D fun w'=>bG w' 1 b e (List.flatMap eB a)) (f:e=a.length) (l:a.length *1≤211106232532992) (m:a.length≤c) (hr:pW a=d):
    Calls Tryz.prog 90 #[.slice b e c] w (dE fun v w'=> ∃ (j:Nat) (B0nx0:Option Addr) (b0nx0:Nat),v= .pointer (some ⟨j,0,none⟩)∧Own w D w' [blk j [.slice B0nx0 d.ae.ls.length b0nx0, .int .i64 d.aG] 150]∧(aF 1 b c a B0nx0 b0nx0 d.ae.ls)):=by
 subst f
 refine Ce (args:= [.slice b a.length c]) Tryz.func90 rfl rfl rfl ?_
 show Wp _ _ _ [(0, .slice b a.length c)] _ _
 refine sr (Ar rfl (Mz rfl (Kz (.agg #[.slice b a.length c, .int .i64 0]) ?_)))
 refine dB [.slice b a.length c, .int .i64 0] 150 H ?_
 intro g n h
 refine An rfl (rt (rs ?_))
 have i:=h.pk [0]
 obtain rfl:_=ReaderT.mk (Ll.mk a) 0:=hr.symm.trans rfl
 exact⟨g,b,c,rfl,i,(aF.refl (by omega))⟩
def bL (a:ReaderT) (p1:Int):ReaderT:=
 if a.aG=0 then ReaderT.mk (Ll.mk ([])) p1 else a
theorem gQ (w:World) (D:Nat→Prop) (d:Nat) (c:ReaderT) (a:Option Addr) (b:Nat) (p1:Int) (f:ReaderT) (H:Own w D w [blk d [.slice a c.ae.ls.length b, .int .i64 c.aG] 150]) (g:Ro w D fun w'=>bG w' 1 a c.ae.ls.length (List.flatMap eB c.ae.ls)) (h:c.ae.ls.length≤b∧c.ae.ls.length≤9223372036854775807) (hr:bL c p1=f):
    Calls Tryz.prog 91 #[.pointer (some ⟨d,0,none⟩), .int .i64 p1] w (dE fun v w'=> ∃ (B0ox0:Option Addr) (b0ox0:Nat),v= .tuple #[]∧Own w D w' [blk d [.slice B0ox0 f.ae.ls.length b0ox0, .int .i64 f.aG] 150]∧(aF 1 a b c.ae.ls B0ox0 b0ox0 f.ae.ls)):=by
 refine Ce (args:= [.pointer (some ⟨d,0,none⟩), .int .i64 p1]) Tryz.func91 rfl rfl rfl ?_
 show Wp _ _ _ [(0, .pointer (some ⟨d,0,none⟩)),(1, .int .i64 p1)] _ _
 refine sr (Mz rfl (Kz (.pointer (some ⟨d,0,none⟩)) (Kz (.pointer (some ⟨d,1,none⟩)) (Lz (.int .i64 c.aG) H 0 Tryz.isAgg38 (Kz (.bool (decide (c.aG=0))) (nt ?_))))))
 by_cases e:c.aG=0
 refine jT (dT e) (sr (Mz rfl (Mz rfl (Kz (.pointer (some ⟨d,0,none⟩)) (Kz (.pointer (some ⟨d,1,none⟩)) ?_)))))
 refine dw [.int .i64 p1] 1 H Tryz.sizeOf38 ?_
 intro m i
 refine nt (BR (Mz rfl (Kz (.pointer (some ⟨d,0,none⟩)) (Kz (.pointer (some ⟨d,0,none⟩)) ?_))))
 refine dw [.slice none 0 0] 0 i Tryz.sizeOf37 ?_
 intro n j
 refine Cf (Cw (res0 rfl) ?_)
 have k:=j.pk [0]
 obtain rfl:_=ReaderT.mk (Ll.mk ([])) p1:=hr.symm.trans (ip e)
 exact⟨none,0,rfl,k,aF.nil⟩
 refine jF (dF e) (CW (Cw (res0 rfl) ?_))
 have l:Own w D w [blk d [.slice a c.ae.ls.length b, .int .i64 c.aG] 150]:=H.pk [0]
 obtain rfl:_=c:=hr.symm.trans (iN e)
 exact⟨a,b,rfl,l,(aF.refl (by omega))⟩
def gF (a:ReaderT):UInt8 × ReaderT:=
 if((a.ae.ls.length:Nat):Int)=0 then bnd (bL a 10) fun b=>((0:UInt8),b) else bnd (List.getD a.ae.ls 0 default) fun c=>(c,ReaderT.mk (Ll.mk (List.drop 1 a.ae.ls)) a.aG)
theorem mH (w:World) (D:Nat→Prop) (f:Nat) (c:ReaderT) (b:Option Addr) (a:Nat) (I:UInt8) (y:ReaderT) (H:Own w D w [blk f [.slice b c.ae.ls.length a, .int .i64 c.aG] 150]) (d:Ro w D fun w'=>bG w' 1 b c.ae.ls.length (List.flatMap eB c.ae.ls)) (z:c.ae.ls.length≤a∧c.ae.ls.length≤9223372036854775807) (hr:gF c=(I,y)):
    Calls Tryz.prog 92 #[.pointer (some ⟨f,0,none⟩)] w (dE fun v w'=> ∃ (B1ox0:Option Addr) (b1ox0:Nat),v= .int .u8 ((I.toNat:Nat):Int)∧Own w D w' [blk f [.slice B1ox0 y.ae.ls.length b1ox0, .int .i64 y.aG] 150]∧(aF 1 b a c.ae.ls B1ox0 b1ox0 y.ae.ls)):=by
 refine Ce (args:= [.pointer (some ⟨f,0,none⟩)]) Tryz.func92 rfl rfl rfl ?_
 show Wp _ _ _ [(0, .pointer (some ⟨f,0,none⟩))] _ _
 refine sr (An rfl (BS (sr (Mz rfl (Kz (.pointer (some ⟨f,0,none⟩)) (Kz (.pointer (some ⟨f,0,none⟩)) (Lz (.slice b c.ae.ls.length a) H 0 Tryz.isAgg37 (Kz (.int .i64 ((c.ae.ls.length:Nat):Int)) (Kz (.bool (decide (((c.ae.ls.length:Nat):Int)=0))) (nt ?_))))))))))
 by_cases j:((c.ae.ls.length:Nat):Int)=0
 refine jT (dT j) (sr (Mz rfl ?_))
 obtain⟨n,l⟩:∃ q,bL c 10=q:=⟨_,rfl⟩
 obtain⟨L,o,p,r,J⟩:=Cg H
 refine cl Tryz.call91 (gQ _ _ f c b a 10 n o (p _ d) (show c.ae.ls.length≤a∧c.ae.ls.length≤9223372036854775807 from by omega) l) ?_
 rintro _ M ⟨s,t,rfl,u,g⟩
 have A:=r _ _ u
 replace g:aF 1 b a c.ae.ls s t n.ae.ls:=g
 have K:=(g).le
 refine ns (An rfl (rt (tR (rs ?_))))
 have B:=A.pk [0]
 have e:gF c=((0:UInt8),n):=et (ip j) (ag l)
 obtain⟨rfl,rfl⟩:=iI (e.symm.trans hr)
 exact⟨s,t,rfl,B,g⟩
 refine jF (dF j) (sk (sr (Mz rfl (Kz (.pointer (some ⟨f,0,none⟩)) (Kz (.pointer (some ⟨f,0,none⟩)) (Lz (.slice b c.ae.ls.length a) H 0 Tryz.isAgg37 ?_))))))
 obtain⟨x,m⟩:=bU (ls:=c.ae.ls) (i:=0) bA (by decide) (H.ro d) (by first | omega | (simp; done) | (simp; omega))
 refine fw (.pointer (some ⟨ab b,ao b+0 *1,none⟩)) (Ch (kV) rfl rfl ((H.ro d).addr (i:=0) (by omega)) (by omega)) (fw (.int .u8 ((x.toNat:Nat):Int)) (Cc rfl (bi.one Tryz.isAgg5 (((H.ro d).elem bA m (by decide)).at_ (k:=0) rfl))) (Ar rfl (Mz rfl (Mz rfl (Kz (.pointer (some ⟨f,0,none⟩)) (Kz (.pointer (some ⟨f,0,none⟩)) (Lz (.slice b c.ae.ls.length a) H 0 Tryz.isAgg37 (fw (.slice (lh b 1 1 a) (c.ae.ls.length - 1) (a - 1)) (Dm (kV) rfl rfl (by omega)) (Kz (.pointer (some ⟨f,0,none⟩)) (Kz (.pointer (some ⟨f,0,none⟩)) ?_))))))))))
 refine dw [.slice (lh b 1 1 a) (c.ae.ls.length - 1) (a - 1)] 0 H Tryz.sizeOf37 ?_
 intro C E
 refine ns (Mz rfl (An rfl (rt (rs ?_))))
 have h:c.ae.ls.length - 1=List.length (List.drop 1 c.ae.ls):=by first | omega | (simp only [List.length_drop,List.length_take] <;> omega)
 have F:Own w D C [blk f [.slice (lh b 1 1 a) (List.length (List.drop 1 c.ae.ls)) (a - 1), .int .i64 c.aG] 150]:=by rw [← h]; exact E
 have G:=F.pk [0]
 have e:gF c=(x,ReaderT.mk (Ll.mk (List.drop 1 c.ae.ls)) c.aG):=et (iN j) (ag (cu m))
 obtain⟨rfl,rfl⟩:=iI (e.symm.trans hr)
 exact⟨lh b 1 1 a,a - 1,(by first | rfl | (rw [← h]; done) | (rw [← h]; rfl)),G,(aF.cut (aF.refl (by omega)) (by first | omega | (simp only [List.length_drop]; omega)))⟩
def aQ (b:ReaderT) (p1:Nat):Nat × ReaderT:=
 bnd (cB b.ae.ls) fun a=>if a.2.2=0 then if((a.1:Nat):Int) > ((p1:Nat):Int) then bnd (bL b 11) fun c=>(0,c) else(a.1,ReaderT.mk (Ll.mk (List.drop (Int.toNat a.2.1) b.ae.ls)) b.aG) else bnd (bL b a.2.2) fun d=>(0,d)
theorem fD (w:World) (D:Nat→Prop) (j:Nat) (d:ReaderT) (b:Option Addr) (a:Nat) (p1:Nat) (U:Nat) (T:ReaderT) (H:Own w D w [blk j [.slice b d.ae.ls.length a, .int .i64 d.aG] 150]) (i:Ro w D fun w'=>bG w' 1 b d.ae.ls.length (List.flatMap eB d.ae.ls)) (V:d.ae.ls.length≤a∧d.ae.ls.length≤9223372036854775807) (hr:aQ d p1=(U,T)):
    Calls Tryz.prog 93 #[.pointer (some ⟨j,0,none⟩), .int .u64 ((p1:Nat):Int)] w (dE fun v w'=> ∃ (B1ox0:Option Addr) (b1ox0:Nat),v= .int .u64 ((U:Nat):Int)∧Own w D w' [blk j [.slice B1ox0 T.ae.ls.length b1ox0, .int .i64 T.aG] 150]∧(aF 1 b a d.ae.ls B1ox0 b1ox0 T.ae.ls)∧(U≤p1)):=by
 refine Ce (args:= [.pointer (some ⟨j,0,none⟩), .int .u64 ((p1:Nat):Int)]) Tryz.func93 rfl rfl rfl ?_
 show Wp _ _ _ [(0, .pointer (some ⟨j,0,none⟩)),(1, .int .u64 ((p1:Nat):Int))] _ _
 refine sr (Ar rfl (Mz rfl (Kz (.pointer (some ⟨j,0,none⟩)) (Kz (.pointer (some ⟨j,0,none⟩)) (Lz (.slice b d.ae.ls.length a) H 0 Tryz.isAgg37 ?_)))))
 obtain⟨⟨h,c,f⟩,k⟩:∃ q:Nat × Int × Int,cB d.ae.ls=q:=⟨_,rfl⟩
 obtain⟨ax,z,A,B,ai⟩:=Ck H
 refine cl Tryz.call112 (oz _ _ b d.ae.ls.length a d.ae.ls h c f z (A _ i) rfl (by omega) (by first | omega | (simp only [List.length_take,List.length_drop]; omega) | exact Nat.le_refl _) k) ?_
 rintro _ ay ⟨rfl,C,r,s⟩
 have o:=B _ _ C
 replace r: ¬ (f=0)∨(1≤c∧c≤10∧c≤((d.ae.ls.length:Nat):Int)):=r
 replace s:h≤18446744073709551615:=s
 refine Mz rfl (Kz (.int .u64 ((h:Nat):Int)) (Kz (.int .i64 c) (Kz (.int .i64 f) (Az rfl (Az rfl (An rfl (BS (sr (Mz rfl (Kz (.bool (decide (f=0))) (Mz rfl ?_)))))))))))
 by_cases g:f=0
 refine gw (.int .u64 ((h:Nat):Int)) (dT g) (BX rfl) (gw (.int .u64 ((p1:Nat):Int)) (dT g) (BX rfl) (Gz (.bool (decide (((h:Nat):Int) > ((p1:Nat):Int)))) (dT g) (fw (.bool (decide (((h:Nat):Int) > ((p1:Nat):Int)))) (BZ rfl (dT g) rfl) (nt ?_))))
 by_cases p:((h:Nat):Int) > ((p1:Nat):Int)
 refine jT (dT p) (BR (An rfl (BS (sr (Mz rfl (Kz (.bool true) (nt (jt (sr (Mz rfl (Mz rfl ?_)))))))))))
 obtain⟨x,t⟩:∃ q,bL d 11=q:=⟨_,rfl⟩
 obtain⟨az,E,F,G,aj⟩:=Cg o
 refine cl Tryz.call91 (gQ _ _ j d b a 11 x E (F _ i) (show d.ae.ls.length≤a∧d.ae.ls.length≤9223372036854775807 from by omega) t) ?_
 rintro _ aA ⟨I,J,rfl,K,l⟩
 have W:=G _ _ K
 replace l:aF 1 b a d.ae.ls I J x.ae.ls:=l
 have ak:=(l).le
 refine ns (An rfl (rt (tR (rs ?_))))
 have X:=W.pk [0]
 have e:aQ d p1=(0,x):=et (ag k) (et (ip g) (et (ip p) (ag t)))
 obtain⟨rfl,rfl⟩:=iI (e.symm.trans hr)
 exact⟨I,J,rfl,X,l,(by omega)⟩
 refine jF (dF p) (sk (BS (sr (Mz rfl (fw (.bool (decide (¬ (f=0)))) (Cy (e:= !(decide (f=0))) yk decide_not.symm) (nt ?_))))))
 have L:(decide (¬ (f=0)))=false:=(dF (by omega))
 refine jF L (sk (sr (Mz rfl (Mz rfl (Kz (.pointer (some ⟨j,0,none⟩)) (Kz (.pointer (some ⟨j,0,none⟩)) (Lz (.slice b d.ae.ls.length a) o 0 Tryz.isAgg37 (fw (.int .i64 ((Int.toNat c:Nat):Int)) (Ci (e:=c) (BX rfl) (by omega)) (fw (.slice (lh b (Int.toNat c) 1 a) (d.ae.ls.length - (Int.toNat c)) (a - (Int.toNat c))) (Dm (kV) rfl rfl (by omega)) (Kz (.pointer (some ⟨j,0,none⟩)) (Kz (.pointer (some ⟨j,0,none⟩)) ?_)))))))))))
 refine dw [.slice (lh b (Int.toNat c) 1 a) (d.ae.ls.length - (Int.toNat c)) (a - (Int.toNat c))] 0 o Tryz.sizeOf37 ?_
 intro Y Z
 refine ns (Mz rfl (An rfl (rt (rs ?_))))
 have n:d.ae.ls.length - (Int.toNat c)=List.length (List.drop (Int.toNat c) d.ae.ls):=by first | omega | (simp only [List.length_drop,List.length_take] <;> omega)
 have aa:Own w D Y [blk j [.slice (lh b (Int.toNat c) 1 a) (List.length (List.drop (Int.toNat c) d.ae.ls)) (a - (Int.toNat c)), .int .i64 d.aG] 150]:=by rw [← n]; exact Z
 have ae:=aa.pk [0]
 have e:aQ d p1=(h,ReaderT.mk (Ll.mk (List.drop (Int.toNat c) d.ae.ls)) d.aG):=et (ag k) (et (ip g) (iN p))
 obtain⟨rfl,rfl⟩:=iI (e.symm.trans hr)
 exact⟨lh b (Int.toNat c) 1 a,a - (Int.toNat c),(by first | rfl | (rw [← n]; done) | (rw [← n]; rfl)),ae,(aF.cut (aF.refl (by omega)) (by first | omega | (simp only [List.length_drop]; omega))),(by omega)⟩
 refine Sz (dF g) (Sz (dF g) (Sz (dF g) (fw (.bool false) (BQ rfl (dF g) rfl) (nt (jf (sk (BS (sr (Mz rfl (fw (.bool (decide (¬ (f=0)))) (Cy (e:= !(decide (f=0))) yk decide_not.symm) (nt ?_)))))))))))
 have M:(decide (¬ (f=0)))=true:=(dT (by omega))
 refine jT M (sr (Mz rfl (Mz rfl ?_)))
 obtain⟨y,u⟩:∃ q,bL d f=q:=⟨_,rfl⟩
 obtain⟨aB,N,O,P,au⟩:=Cg o
 refine cl Tryz.call91 (gQ _ _ j d b a f y N (O _ i) (show d.ae.ls.length≤a∧d.ae.ls.length≤9223372036854775807 from by omega) u) ?_
 rintro _ aC ⟨Q,R,rfl,S,m⟩
 have af:=P _ _ S
 replace m:aF 1 b a d.ae.ls Q R y.ae.ls:=m
 have av:=(m).le
 refine ns (An rfl (rt (tR (rs ?_))))
 have ah:=af.pk [0]
 have e:aQ d p1=(0,y):=et (ag k) (et (iN g) (ag u))
 obtain⟨rfl,rfl⟩:=iI (e.symm.trans hr)
 exact⟨Q,R,rfl,ah,m,(by omega)⟩
def dH (b:ReaderT) (p1:Int):(List UInt8) × ReaderT:=
 bnd (eu b.ae.ls p1) fun a=>if a.2.2=2 then bnd (bL b 11) fun c=>([],c) else if a.2.2=0 then(a.1,ReaderT.mk (Ll.mk (List.drop (Int.toNat a.2.1) b.ae.ls)) b.aG) else bnd (bL b a.2.2) fun d=>([],d)
theorem pz (w:World) (D:Nat→Prop) (h:Nat) (d:ReaderT) (b:Option Addr) (a:Nat) (p1:Int) (r0:List UInt8) (Q:ReaderT) (H:Own w D w [blk h [.slice b d.ae.ls.length a, .int .i64 d.aG] 150]) (g:Ro w D fun w'=>bG w' 1 b d.ae.ls.length (List.flatMap eB d.ae.ls)) (R:d.ae.ls.length≤a∧d.ae.ls.length≤9223372036854775807) (hr:dH d p1=(r0,Q)):
    Calls Tryz.prog 113 #[.pointer (some ⟨h,0,none⟩), .int .i64 p1] w (dE fun v w'=> ∃ (B1ox0:Option Addr) (b1ox0:Nat),v= .string ⟨List.toArray r0⟩∧Own w D w' [blk h [.slice B1ox0 Q.ae.ls.length b1ox0, .int .i64 Q.aG] 150]∧(aF 1 b a d.ae.ls B1ox0 b1ox0 Q.ae.ls)):=by
 refine Ce (args:= [.pointer (some ⟨h,0,none⟩), .int .i64 p1]) Tryz.func113 rfl rfl rfl ?_
 show Wp _ _ _ [(0, .pointer (some ⟨h,0,none⟩)),(1, .int .i64 p1)] _ _
 refine sr (Ar rfl (Mz rfl (Kz (.pointer (some ⟨h,0,none⟩)) (Kz (.pointer (some ⟨h,0,none⟩)) (Lz (.slice b d.ae.ls.length a) H 0 Tryz.isAgg37 (Mz rfl ?_))))))
 obtain⟨⟨n,c,f⟩,i⟩:∃ q:(List UInt8) × Int × Int,eu d.ae.ls p1=q:=⟨_,rfl⟩
 obtain⟨ak,y,z,A,ae⟩:=Ck H
 refine cl Tryz.call136 (qZ _ _ b d.ae.ls.length a d.ae.ls p1 n c f y (z _ g) rfl (by omega) (by first | omega | (simp only [List.length_take,List.length_drop]; omega) | exact Nat.le_refl _) i) ?_
 rintro _ au ⟨rfl,B,r⟩
 have o:=A _ _ B
 replace r: ¬ (f=0)∨(1≤c∧c≤((d.ae.ls.length:Nat):Int)∧n.length≤d.ae.ls.length):=r
 refine Mz rfl (Kz (.string ⟨List.toArray n⟩) (Kz (.int .i64 c) (Kz (.int .i64 f) (Az rfl (Az rfl (An rfl (BS (sr (Mz rfl (Kz (.bool (decide (f=2))) (nt ?_)))))))))))
 by_cases l:f=2
 refine jT (dT l) (BR (An rfl (BS (sr (Mz rfl (Kz (.bool true) (nt (jt (sr (Mz rfl (Mz rfl ?_)))))))))))
 obtain⟨u,s⟩:∃ q,bL d 11=q:=⟨_,rfl⟩
 obtain⟨av,C,E,F,af⟩:=Cg o
 refine cl Tryz.call91 (gQ _ _ h d b a 11 u C (E _ g) (show d.ae.ls.length≤a∧d.ae.ls.length≤9223372036854775807 from by omega) s) ?_
 rintro _ ax ⟨G,I,rfl,J,j⟩
 have S:=F _ _ J
 replace j:aF 1 b a d.ae.ls G I u.ae.ls:=j
 have ah:=(j).le
 refine ns (An rfl (rt (tR (rs ?_))))
 have T:=S.pk [0]
 have e:dH d p1=([],u):=et (ag i) (et (ip l) (ag s))
 obtain⟨rfl,rfl⟩:=iI (e.symm.trans hr)
 exact⟨G,I,rfl,T,j⟩
 refine jF (dF l) (sk (BS (sr (Mz rfl (fw (.bool (decide (¬ (f=0)))) (Cy (e:= !(decide (f=0))) yk decide_not.symm) (nt ?_))))))
 by_cases p:f=0
 refine jF (dF (EN p)) (sk (sr (Mz rfl (Mz rfl (Kz (.pointer (some ⟨h,0,none⟩)) (Kz (.pointer (some ⟨h,0,none⟩)) (Lz (.slice b d.ae.ls.length a) o 0 Tryz.isAgg37 (fw (.int .i64 ((Int.toNat c:Nat):Int)) (Ci (e:=c) (BX rfl) (by omega)) (fw (.slice (lh b (Int.toNat c) 1 a) (d.ae.ls.length - (Int.toNat c)) (a - (Int.toNat c))) (Dm (kV) rfl rfl (by omega)) (Kz (.pointer (some ⟨h,0,none⟩)) (Kz (.pointer (some ⟨h,0,none⟩)) ?_)))))))))))
 refine dw [.slice (lh b (Int.toNat c) 1 a) (d.ae.ls.length - (Int.toNat c)) (a - (Int.toNat c))] 0 o Tryz.sizeOf37 ?_
 intro U V
 refine ns (Mz rfl (An rfl (rt (rs ?_))))
 have m:d.ae.ls.length - (Int.toNat c)=List.length (List.drop (Int.toNat c) d.ae.ls):=by first | omega | (simp only [List.length_drop,List.length_take] <;> omega)
 have W:Own w D U [blk h [.slice (lh b (Int.toNat c) 1 a) (List.length (List.drop (Int.toNat c) d.ae.ls)) (a - (Int.toNat c)), .int .i64 d.aG] 150]:=by rw [← m]; exact V
 have X:=W.pk [0]
 have e:dH d p1=(n,ReaderT.mk (Ll.mk (List.drop (Int.toNat c) d.ae.ls)) d.aG):=et (ag i) (et (iN l) (ip p))
 obtain⟨rfl,rfl⟩:=iI (e.symm.trans hr)
 exact⟨lh b (Int.toNat c) 1 a,a - (Int.toNat c),(by first | rfl | (rw [← m]; done) | (rw [← m]; rfl)),X,(aF.cut (aF.refl (by omega)) (by first | omega | (simp only [List.length_drop]; omega)))⟩
 refine jT (dT p) (sr (Mz rfl (Mz rfl ?_)))
 obtain⟨x,t⟩:∃ q,bL d f=q:=⟨_,rfl⟩
 obtain⟨ay,K,L,M,ai⟩:=Cg o
 refine cl Tryz.call91 (gQ _ _ h d b a f x K (L _ g) (show d.ae.ls.length≤a∧d.ae.ls.length≤9223372036854775807 from by omega) t) ?_
 rintro _ az ⟨N,O,rfl,P,k⟩
 have Y:=M _ _ P
 replace k:aF 1 b a d.ae.ls N O x.ae.ls:=k
 have aj:=(k).le
 refine ns (An rfl (rt (tR (rs ?_))))
 have Z:=Y.pk [0]
 have e:dH d p1=([],x):=et (ag i) (et (iN l) (et (iN p) (ag t)))
 obtain⟨rfl,rfl⟩:=iI (e.symm.trans hr)
 exact⟨N,O,rfl,Z,k⟩
def gZ (b:ReaderT):ReaderT:=
 if((b.ae.ls.length:Nat):Int) > 0 then bnd (bL b 11) fun a=>a else b
theorem nu (w:World) (D:Nat→Prop) (e:Nat) (c:ReaderT) (b:Option Addr) (a:Nat) (p:ReaderT) (H:Own w D w [blk e [.slice b c.ae.ls.length a, .int .i64 c.aG] 150]) (h:Ro w D fun w'=>bG w' 1 b c.ae.ls.length (List.flatMap eB c.ae.ls)) (r:c.ae.ls.length≤a∧c.ae.ls.length≤9223372036854775807) (hr:gZ c=p):
    Calls Tryz.prog 59 #[.pointer (some ⟨e,0,none⟩)] w (dE fun v w'=> ∃ (B0ox0:Option Addr) (b0ox0:Nat),v= .tuple #[]∧Own w D w' [blk e [.slice B0ox0 p.ae.ls.length b0ox0, .int .i64 p.aG] 150]∧(aF 1 b a c.ae.ls B0ox0 b0ox0 p.ae.ls)):=by
 refine Ce (args:= [.pointer (some ⟨e,0,none⟩)]) Tryz.func59 rfl rfl rfl ?_
 show Wp _ _ _ [(0, .pointer (some ⟨e,0,none⟩))] _ _
 refine sr (Mz rfl (Kz (.pointer (some ⟨e,0,none⟩)) (Kz (.pointer (some ⟨e,0,none⟩)) (Lz (.slice b c.ae.ls.length a) H 0 Tryz.isAgg37 (Kz (.int .i64 ((c.ae.ls.length:Nat):Int)) (Kz (.bool (decide (((c.ae.ls.length:Nat):Int) > 0))) (nt ?_)))))))
 by_cases f:((c.ae.ls.length:Nat):Int) > 0
 refine jT (dT f) (BR (Mz rfl ?_))
 obtain⟨i,g⟩:∃ q,bL c 11=q:=⟨_,rfl⟩
 obtain⟨z,j,k,l,x⟩:=Cg H
 refine cl Tryz.call91 (gQ _ _ e c b a 11 i j (k _ h) (show c.ae.ls.length≤a∧c.ae.ls.length≤9223372036854775807 from by omega) g) ?_
 rintro _ A ⟨m,n,rfl,o,d⟩
 have s:=l _ _ o
 replace d:aF 1 b a c.ae.ls m n i.ae.ls:=d
 have y:=(d).le
 refine Cf (Cw (res0 rfl) ?_)
 have t:=s.pk [0]
 obtain rfl:_=i:=hr.symm.trans (et (ip f) (ag g))
 exact⟨m,n,rfl,t,d⟩
 refine jF (dF f) (CW (Cw (res0 rfl) ?_))
 have u:Own w D w [blk e [.slice b c.ae.ls.length a, .int .i64 c.aG] 150]:=H.pk [0]
 obtain rfl:_=c:=hr.symm.trans (iN f)
 exact⟨b,a,rfl,u,(aF.refl (by omega))⟩
def jN (a:ReaderT):Int:=
 a.aG
theorem ny (w:World) (D:Nat→Prop) (d:Nat) (c:ReaderT) (a:Option Addr) (b:Nat) (h:Int) (H:Own w D w [blk d [.slice a c.ae.ls.length b, .int .i64 c.aG] 150]) (e:Ro w D fun w'=>bG w' 1 a c.ae.ls.length (List.flatMap eB c.ae.ls)) (f:c.ae.ls.length≤b∧c.ae.ls.length≤9223372036854775807) (hr:jN c=h):
    Calls Tryz.prog 60 #[.pointer (some ⟨d,0,none⟩)] w (dE fun v w'=>v= .int .i64 h∧Own w D w' [blk d [.slice a c.ae.ls.length b, .int .i64 c.aG] 150]):=by
 refine Ce (args:= [.pointer (some ⟨d,0,none⟩)]) Tryz.func60 rfl rfl rfl ?_
 show Wp _ _ _ [(0, .pointer (some ⟨d,0,none⟩))] _ _
 refine sr (Ar rfl (Mz rfl (Kz (.pointer (some ⟨d,0,none⟩)) (Kz (.pointer (some ⟨d,1,none⟩)) (Lz (.int .i64 c.aG) H 0 Tryz.isAgg38 (An rfl (rt (rs ?_))))))))
 have g:Own w D w [blk d [.slice a c.ae.ls.length b, .int .i64 c.aG] 150]:=H.pk [0]
 obtain rfl:_=c.aG:=hr.symm.trans rfl
 exact⟨rfl,g⟩
def bv (b:ReaderT):Nat × ReaderT:=
 bnd (aQ b 18446744073709551615) fun a=>(a.1,a.2)
theorem dW (w:World) (D:Nat→Prop) (k:Nat) (c:ReaderT) (b:Option Addr) (a:Nat) (t:Nat) (s:ReaderT) (H:Own w D w [blk k [.slice b c.ae.ls.length a, .int .i64 c.aG] 150]) (h:Ro w D fun w'=>bG w' 1 b c.ae.ls.length (List.flatMap eB c.ae.ls)) (u:c.ae.ls.length≤a∧c.ae.ls.length≤9223372036854775807) (hr:bv c=(t,s)):
    Calls Tryz.prog 51 #[.pointer (some ⟨k,0,none⟩)] w (dE fun v w'=> ∃ (B1ox0:Option Addr) (b1ox0:Nat),v= .int .u64 ((t:Nat):Int)∧Own w D w' [blk k [.slice B1ox0 s.ae.ls.length b1ox0, .int .i64 s.aG] 150]∧(aF 1 b a c.ae.ls B1ox0 b1ox0 s.ae.ls)∧(t≤18446744073709551615)):=by
 refine Ce (args:= [.pointer (some ⟨k,0,none⟩)]) Tryz.func51 rfl rfl rfl ?_
 show Wp _ _ _ [(0, .pointer (some ⟨k,0,none⟩))] _ _
 refine sr (Ar rfl (Mz rfl ?_))
 obtain⟨⟨i,j⟩,f⟩:∃ q:Nat × ReaderT,aQ c 18446744073709551615=q:=⟨_,rfl⟩
 obtain⟨B,l,m,n,z⟩:=Cg H
 refine cl Tryz.call93 (fD _ _ k c b a 18446744073709551615 i j l (m _ h) (show c.ae.ls.length≤a∧c.ae.ls.length≤9223372036854775807 from by omega) f) ?_
 rintro _ C ⟨o,p,rfl,r,d,g⟩
 have x:=n _ _ r
 replace d:aF 1 b a c.ae.ls o p j.ae.ls:=d
 have A:=(d).le
 replace g:i≤18446744073709551615:=g
 refine An rfl (rt (rs ?_))
 have y:=x.pk [0]
 have e:bv c=(i,j):=ag f
 obtain⟨rfl,rfl⟩:=iI (e.symm.trans hr)
 exact⟨o,p,rfl,y,d,(by omega)⟩
def dZ (b:ReaderT):Int × ReaderT:=
 bnd (aQ b 255) fun a=>(((a.1:Nat):Int),a.2)
theorem jr (w:World) (D:Nat→Prop) (k:Nat) (c:ReaderT) (b:Option Addr) (a:Nat) (s:Int) (t:ReaderT) (H:Own w D w [blk k [.slice b c.ae.ls.length a, .int .i64 c.aG] 150]) (i:Ro w D fun w'=>bG w' 1 b c.ae.ls.length (List.flatMap eB c.ae.ls)) (u:c.ae.ls.length≤a∧c.ae.ls.length≤9223372036854775807) (hr:dZ c=(s,t)):
    Calls Tryz.prog 50 #[.pointer (some ⟨k,0,none⟩)] w (dE fun v w'=> ∃ (B1ox0:Option Addr) (b1ox0:Nat),v= .int .i64 s∧Own w D w' [blk k [.slice B1ox0 t.ae.ls.length b1ox0, .int .i64 t.aG] 150]∧(aF 1 b a c.ae.ls B1ox0 b1ox0 t.ae.ls)∧(0≤s∧s≤255)):=by
 refine Ce (args:= [.pointer (some ⟨k,0,none⟩)]) Tryz.func50 rfl rfl rfl ?_
 show Wp _ _ _ [(0, .pointer (some ⟨k,0,none⟩))] _ _
 refine sr (Ar rfl (Mz rfl ?_))
 obtain⟨⟨f,j⟩,g⟩:∃ q:Nat × ReaderT,aQ c 255=q:=⟨_,rfl⟩
 obtain⟨B,l,m,n,z⟩:=Cg H
 refine cl Tryz.call93 (fD _ _ k c b a 255 f j l (m _ i) (show c.ae.ls.length≤a∧c.ae.ls.length≤9223372036854775807 from by omega) g) ?_
 rintro _ C ⟨o,p,rfl,r,d,h⟩
 have x:=n _ _ r
 replace d:aF 1 b a c.ae.ls o p j.ae.ls:=d
 have A:=(d).le
 replace h:f≤255:=h
 refine fw (.int .i64 ((f:Nat):Int)) (Ci (e:=IntKind.i64.wrap ((f:Nat):Int)) yk (EL _ (by omega))) (An rfl (rt (rs ?_)))
 have y:=x.pk [0]
 have e:dZ c=(((f:Nat):Int),j):=ag g
 obtain⟨rfl,rfl⟩:=iI (e.symm.trans hr)
 exact⟨o,p,rfl,y,d,(by omega)⟩
def dI (b:ReaderT):(List UInt8) × ReaderT:=
 bnd (dH b 255) fun a=>(a.1,a.2)
theorem ig (w:World) (D:Nat→Prop) (i:Nat) (c:ReaderT) (b:Option Addr) (a:Nat) (x:List UInt8) (r:ReaderT) (H:Own w D w [blk i [.slice b c.ae.ls.length a, .int .i64 c.aG] 150]) (g:Ro w D fun w'=>bG w' 1 b c.ae.ls.length (List.flatMap eB c.ae.ls)) (s:c.ae.ls.length≤a∧c.ae.ls.length≤9223372036854775807) (hr:dI c=(x,r)):
    Calls Tryz.prog 95 #[.pointer (some ⟨i,0,none⟩)] w (dE fun v w'=> ∃ (B1ox0:Option Addr) (b1ox0:Nat),v= .string ⟨List.toArray x⟩∧Own w D w' [blk i [.slice B1ox0 r.ae.ls.length b1ox0, .int .i64 r.aG] 150]∧(aF 1 b a c.ae.ls B1ox0 b1ox0 r.ae.ls)):=by
 refine Ce (args:= [.pointer (some ⟨i,0,none⟩)]) Tryz.func95 rfl rfl rfl ?_
 show Wp _ _ _ [(0, .pointer (some ⟨i,0,none⟩))] _ _
 refine sr (Ar rfl (Mz rfl ?_))
 obtain⟨⟨j,h⟩,f⟩:∃ q:(List UInt8) × ReaderT,dH c 255=q:=⟨_,rfl⟩
 obtain⟨A,k,l,m,y⟩:=Cg H
 refine cl Tryz.call113 (pz _ _ i c b a 255 j h k (l _ g) (show c.ae.ls.length≤a∧c.ae.ls.length≤9223372036854775807 from by omega) f) ?_
 rintro _ B ⟨n,o,rfl,p,d⟩
 have t:=m _ _ p
 replace d:aF 1 b a c.ae.ls n o h.ae.ls:=d
 have z:=(d).le
 refine An rfl (rt (rs ?_))
 have u:=t.pk [0]
 have e:dI c=(j,h):=ag f
 obtain⟨rfl,rfl⟩:=iI (e.symm.trans hr)
 exact⟨n,o,rfl,u,d⟩
def je (c:ReaderT):bF × ReaderT:=
 bnd (dI c) fun a=>bnd (dI a.2) fun b=>(bF.mk a.1 b.1,b.2)
theorem nC (w:World) (D:Nat→Prop) (r:Nat) (f:ReaderT) (b:Option Addr) (a:Nat) (R:bF) (J:ReaderT) (H:Own w D w [blk r [.slice b f.ae.ls.length a, .int .i64 f.aG] 150]) (h:Ro w D fun w'=>bG w' 1 b f.ae.ls.length (List.flatMap eB f.ae.ls)) (K:f.ae.ls.length≤a∧f.ae.ls.length≤9223372036854775807) (hr:je f=(R,J)):
    Calls Tryz.prog 57 #[.pointer (some ⟨r,0,none⟩)] w (dE fun v w'=> ∃ (B1ox0:Option Addr) (b1ox0:Nat),v= .agg (bF.cells R).toArray∧Own w D w' [blk r [.slice B1ox0 J.ae.ls.length b1ox0, .int .i64 J.aG] 150]∧(aF 1 b a f.ae.ls B1ox0 b1ox0 J.ae.ls)):=by
 refine Ce (args:= [.pointer (some ⟨r,0,none⟩)]) Tryz.func57 rfl rfl rfl ?_
 show Wp _ _ _ [(0, .pointer (some ⟨r,0,none⟩))] _ _
 refine sr ?_
 refine dB [.string ⟨List.toArray ([])⟩, .string ⟨List.toArray ([])⟩] 27 H ?_
 intro W X L
 refine ns (Mz rfl ?_)
 have M:=L.pk [1,0]
 obtain⟨⟨j,d⟩,o⟩:∃ q:(List UInt8) × ReaderT,dI f=q:=⟨_,rfl⟩
 obtain⟨Y,u,x,y,S⟩:=Cg M
 refine cl Tryz.call95 (ig _ _ r f b a j d u (x _ h) (show f.ae.ls.length≤a∧f.ae.ls.length≤9223372036854775807 from by omega) o) ?_
 rintro _ Z ⟨s,n,rfl,z,c⟩
 have N:=y _ _ z
 replace c:aF 1 b a f.ae.ls s n d.ae.ls:=c
 have T:=(c).le
 refine Ar rfl (Mz rfl (Mz rfl ?_))
 obtain⟨⟨l,t⟩,p⟩:∃ q:(List UInt8) × ReaderT,dI d=q:=⟨_,rfl⟩
 obtain⟨aa,A,B,C,U⟩:=Cg N
 refine cl Tryz.call95 (ig _ _ r d s n l t A (fun w9 h9=>aF.rds bA (by decide) c ((B _ h) w9 h9)) (show d.ae.ls.length≤n∧d.ae.ls.length≤9223372036854775807 from by omega) p) ?_
 rintro _ ah ⟨E,F,rfl,G,g⟩
 have O:=C _ _ G
 replace g:aF 1 s n d.ae.ls E F t.ae.ls:=g
 have V:=(g).le
 refine Kz (.agg #[.string ⟨List.toArray j⟩, .string ⟨List.toArray l⟩]) ?_
 have P:=O.pk [1,0]
 refine dw [.string ⟨List.toArray j⟩, .string ⟨List.toArray l⟩] 0 P Tryz.sizeOf27 ?_
 intro ai I
 refine nt (rt (CK (mY rfl rfl (Cu (cs:= [.string ⟨List.toArray j⟩, .string ⟨List.toArray l⟩]) Tryz.isAgg27 Tryz.sizeOf27 ((I.cls (i:=0) rfl).lit (k:=0) (m:=2) rfl))) ?_))
 have Q:=I.pk [1]
 have e:je f=(bF.mk j l,t):=et (ag o) (ag p)
 obtain⟨rfl,rfl⟩:=iI (e.symm.trans hr)
 exact⟨E,F,rfl,Q,(aF.trans c g)⟩
def j3 (c:ReaderT):aL × ReaderT:=
 bnd (dI c) fun a=>bnd (dZ a.2) fun b=>(aL.mk a.1 b.1,b.2)
theorem qf (w:World) (D:Nat→Prop) (s:Nat) (g:ReaderT) (b:Option Addr) (a:Nat) (S:aL) (K:ReaderT) (H:Own w D w [blk s [.slice b g.ae.ls.length a, .int .i64 g.aG] 150]) (j:Ro w D fun w'=>bG w' 1 b g.ae.ls.length (List.flatMap eB g.ae.ls)) (L:g.ae.ls.length≤a∧g.ae.ls.length≤9223372036854775807) (hr:j3 g=(S,K)):
    Calls Tryz.prog 53 #[.pointer (some ⟨s,0,none⟩)] w (dE fun v w'=> ∃ (B1ox0:Option Addr) (b1ox0:Nat),v= .agg (aL.cells S).toArray∧Own w D w' [blk s [.slice B1ox0 K.ae.ls.length b1ox0, .int .i64 K.aG] 150]∧(aF 1 b a g.ae.ls B1ox0 b1ox0 K.ae.ls)):=by
 refine Ce (args:= [.pointer (some ⟨s,0,none⟩)]) Tryz.func53 rfl rfl rfl ?_
 show Wp _ _ _ [(0, .pointer (some ⟨s,0,none⟩))] _ _
 refine sr ?_
 refine dB [.string ⟨List.toArray ([])⟩, .int .i64 0] 54 H ?_
 intro X Y M
 refine ns (Mz rfl ?_)
 have N:=M.pk [1,0]
 obtain⟨⟨l,d⟩,o⟩:∃ q:(List UInt8) × ReaderT,dI g=q:=⟨_,rfl⟩
 obtain⟨Z,x,y,z,T⟩:=Cg N
 refine cl Tryz.call95 (ig _ _ s g b a l d x (y _ j) (show g.ae.ls.length≤a∧g.ae.ls.length≤9223372036854775807 from by omega) o) ?_
 rintro _ aa ⟨t,n,rfl,A,c⟩
 have O:=z _ _ A
 replace c:aF 1 b a g.ae.ls t n d.ae.ls:=c
 have U:=(c).le
 refine Ar rfl (Mz rfl (Mz rfl ?_))
 obtain⟨⟨f,u⟩,p⟩:∃ q:Int × ReaderT,dZ d=q:=⟨_,rfl⟩
 obtain⟨ae,B,C,E,V⟩:=Cg O
 refine cl Tryz.call50 (jr _ _ s d t n f u B (fun w9 h9=>aF.rds bA (by decide) c ((C _ j) w9 h9)) (show d.ae.ls.length≤n∧d.ae.ls.length≤9223372036854775807 from by omega) p) ?_
 rintro _ ai ⟨F,G,rfl,I,h,r⟩
 have P:=E _ _ I
 replace h:aF 1 t n d.ae.ls F G u.ae.ls:=h
 have W:=(h).le
 replace r:0≤f∧f≤255:=r
 refine Kz (.agg #[.string ⟨List.toArray l⟩, .int .i64 f]) ?_
 have Q:=P.pk [1,0]
 refine dw [.string ⟨List.toArray l⟩, .int .i64 f] 0 Q Tryz.sizeOf54 ?_
 intro aj J
 refine nt (rt (CK (mY rfl rfl (Cu (cs:= [.string ⟨List.toArray l⟩, .int .i64 f]) Tryz.isAgg54 Tryz.sizeOf54 ((J.cls (i:=0) rfl).lit (k:=0) (m:=2) rfl))) ?_))
 have R:=J.pk [1]
 have e:j3 g=(aL.mk l f,u):=et (ag o) (ag p)
 obtain⟨rfl,rfl⟩:=iI (e.symm.trans hr)
 exact⟨F,G,rfl,R,(aF.trans c h)⟩
def lq (g:ReaderT):bq × ReaderT:=
 bnd (dZ g) fun c=>bnd (dI c.2) fun d=>bnd (dI d.2) fun e=>bnd (dI e.2) fun f=>bnd (dI f.2) fun a=>bnd (dZ a.2) fun b=>(bq.mk c.1 d.1 e.1 f.1 a.1 b.1,b.2)
theorem rJ (w:World) (D:Nat→Prop) (G:Nat) (A:ReaderT) (t:Option Addr) (n:Nat) (r0:bq) (r1:ReaderT) (H:Own w D w [blk G [.slice t A.ae.ls.length n, .int .i64 A.aG] 150]) (d:Ro w D fun w'=>bG w' 1 t A.ae.ls.length (List.flatMap eB A.ae.ls)) (bv:A.ae.ls.length≤n∧A.ae.ls.length≤9223372036854775807) (hr:lq A=(r0,r1)):
    Calls Tryz.prog 98 #[.pointer (some ⟨G,0,none⟩)] w (dE fun v w'=> ∃ (B1ox0:Option Addr) (b1ox0:Nat),v= .agg (bq.cells r0).toArray∧Own w D w' [blk G [.slice B1ox0 r1.ae.ls.length b1ox0, .int .i64 r1.aG] 150]∧(aF 1 t n A.ae.ls B1ox0 b1ox0 r1.ae.ls)):=by
 refine Ce (args:= [.pointer (some ⟨G,0,none⟩)]) Tryz.func98 rfl rfl rfl ?_
 show Wp _ _ _ [(0, .pointer (some ⟨G,0,none⟩))] _ _
 refine sr ?_
 refine dB [.int .i64 0, .string ⟨List.toArray ([])⟩, .string ⟨List.toArray ([])⟩, .string ⟨List.toArray ([])⟩, .string ⟨List.toArray ([])⟩, .int .i64 0] 74 H ?_
 intro dx dz bz
 refine ns (Mz rfl ?_)
 have bB:=bz.pk [1,0]
 obtain⟨⟨r,u⟩,S⟩:∃ q:Int × ReaderT,dZ A=q:=⟨_,rfl⟩
 obtain⟨dA,aB,aC,aD,bV⟩:=Cg bB
 refine cl Tryz.call50 (jr _ _ G A t n r u aB (aC _ d) (show A.ae.ls.length≤n∧A.ae.ls.length≤9223372036854775807 from by omega) S) ?_
 rintro _ dC ⟨ae,O,rfl,aG,a,T⟩
 have bC:=aD _ _ aG
 replace a:aF 1 t n A.ae.ls ae O u.ae.ls:=a
 have bW:=(a).le
 replace T:0≤r∧r≤255:=T
 refine Kz (.agg #[.int .i64 r, .string ⟨List.toArray ([])⟩, .string ⟨List.toArray ([])⟩, .string ⟨List.toArray ([])⟩, .string ⟨List.toArray ([])⟩, .int .i64 0]) ?_
 refine dB [.int .i64 0, .string ⟨List.toArray ([])⟩, .string ⟨List.toArray ([])⟩, .string ⟨List.toArray ([])⟩, .string ⟨List.toArray ([])⟩, .int .i64 0] 74 bC ?_
 intro I dD bD
 refine dw [.int .i64 r, .string ⟨List.toArray ([])⟩, .string ⟨List.toArray ([])⟩, .string ⟨List.toArray ([])⟩, .string ⟨List.toArray ([])⟩, .int .i64 0] 0 bD Tryz.sizeOf74 ?_
 intro dF bE
 refine ns (Mz rfl ?_)
 have bF:=bE.pk [1,0,2]
 obtain⟨⟨C,x⟩,U⟩:∃ q:(List UInt8) × ReaderT,dI u=q:=⟨_,rfl⟩
 obtain⟨dG,aH,aI,aJ,bX⟩:=Cg bF
 refine cl Tryz.call95 (ig _ _ G u ae O C x aH (fun b c=>aF.rds bA (by decide) a ((aI _ d) b c)) (show u.ae.ls.length≤O∧u.ae.ls.length≤9223372036854775807 from by omega) U) ?_
 rintro _ dH ⟨af,P,rfl,aK,f⟩
 have bH:=aJ _ _ aK
 replace f:aF 1 ae O u.ae.ls af P x.ae.ls:=f
 have bY:=(f).le
 refine Kz (.pointer (some ⟨I,1,none⟩)) ?_
 have bI:=bH.pk [1,0,2]
 refine dw [.string ⟨List.toArray C⟩] 1 bI Tryz.sizeOf9 ?_
 intro dJ bJ
 refine ns (Mz rfl ?_)
 have bK:=bJ.pk [1,0,2]
 obtain⟨⟨E,y⟩,V⟩:∃ q:(List UInt8) × ReaderT,dI x=q:=⟨_,rfl⟩
 obtain⟨dK,aL,aM,aN,bZ⟩:=Cg bK
 refine cl Tryz.call95 (ig _ _ G x af P E y aL (fun b c=>aF.rds bA (by decide) f ((fun b c=>aF.rds bA (by decide) a ((aM _ d) b c)) b c)) (show x.ae.ls.length≤P∧x.ae.ls.length≤9223372036854775807 from by omega) V) ?_
 rintro _ dL ⟨ah,Q,rfl,aO,h⟩
 have bL:=aN _ _ aO
 replace h:aF 1 af P x.ae.ls ah Q y.ae.ls:=h
 have cu:=(h).le
 refine Kz (.pointer (some ⟨I,2,none⟩)) ?_
 have bM:=bL.pk [1,0,2]
 refine dw [.string ⟨List.toArray E⟩] 2 bM Tryz.sizeOf9 ?_
 intro dM bN
 refine ns (Mz rfl ?_)
 have bO:=bN.pk [1,0,2]
 obtain⟨⟨F,z⟩,W⟩:∃ q:(List UInt8) × ReaderT,dI y=q:=⟨_,rfl⟩
 obtain⟨dN,aP,aQ,aR,cz⟩:=Cg bO
 refine cl Tryz.call95 (ig _ _ G y ah Q F z aP (fun b c=>aF.rds bA (by decide) h ((fun b c=>aF.rds bA (by decide) f ((fun b c=>aF.rds bA (by decide) a ((aQ _ d) b c)) b c)) b c)) (show y.ae.ls.length≤Q∧y.ae.ls.length≤9223372036854775807 from by omega) W) ?_
 rintro _ dO ⟨ai,R,rfl,aS,o⟩
 have bP:=aR _ _ aS
 replace o:aF 1 ah Q y.ae.ls ai R z.ae.ls:=o
 have cB:=(o).le
 refine Kz (.pointer (some ⟨I,3,none⟩)) ?_
 have aT:=bP.pk [1,0,2]
 refine dw [.string ⟨List.toArray F⟩] 3 aT Tryz.sizeOf9 ?_
 intro cK aU
 refine ns (Mz rfl ?_)
 have aV:=aU.pk [1,0,2]
 obtain⟨⟨p,j⟩,J⟩:∃ q:(List UInt8) × ReaderT,dI z=q:=⟨_,rfl⟩
 obtain⟨cO,aj,ak,au,bQ⟩:=Cg aV
 refine cl Tryz.call95 (ig _ _ G z ai R p j aj (fun b c=>aF.rds bA (by decide) o ((fun b c=>aF.rds bA (by decide) h ((fun b c=>aF.rds bA (by decide) f ((fun b c=>aF.rds bA (by decide) a ((ak _ d) b c)) b c)) b c)) b c)) (show z.ae.ls.length≤R∧z.ae.ls.length≤9223372036854775807 from by omega) J) ?_
 rintro _ cZ ⟨K,B,rfl,av,l⟩
 have aW:=au _ _ av
 replace l:aF 1 ai R z.ae.ls K B j.ae.ls:=l
 have bR:=(l).le
 refine Kz (.pointer (some ⟨I,4,none⟩)) ?_
 have aX:=aW.pk [1,0,2]
 refine dw [.string ⟨List.toArray p⟩] 4 aX Tryz.sizeOf9 ?_
 intro df aY
 refine ns (Mz rfl ?_)
 have aZ:=aY.pk [1,0,2]
 obtain⟨⟨g,L⟩,M⟩:∃ q:Int × ReaderT,dZ j=q:=⟨_,rfl⟩
 obtain⟨dh,ax,ay,az,bS⟩:=Cg aZ
 refine cl Tryz.call50 (jr _ _ G j K B g L ax (fun b c=>aF.rds bA (by decide) l ((fun b c=>aF.rds bA (by decide) o ((fun b c=>aF.rds bA (by decide) h ((fun b c=>aF.rds bA (by decide) f ((fun b c=>aF.rds bA (by decide) a ((ay _ d) b c)) b c)) b c)) b c)) b c)) (show j.ae.ls.length≤B∧j.ae.ls.length≤9223372036854775807 from by omega) M) ?_
 rintro _ di ⟨X,Y,rfl,aA,s,N⟩
 have bf:=az _ _ aA
 replace s:aF 1 K B j.ae.ls X Y L.ae.ls:=s
 have bT:=(s).le
 replace N:0≤g∧g≤255:=N
 refine Kz (.pointer (some ⟨I,5,none⟩)) ?_
 have bg:=bf.pk [1,0,2]
 refine dw [.int .i64 g] 5 bg Tryz.sizeOf3 ?_
 intro dm Z
 refine ns (La ([.int .i64 r, .string ⟨List.toArray C⟩, .string ⟨List.toArray E⟩, .string ⟨List.toArray F⟩, .string ⟨List.toArray p⟩, .int .i64 g]) Z 0 Tryz.isAgg74 Tryz.sizeOf74 ?_)
 have bi:=Z.pk [2,0,1]
 refine dw [.int .i64 r, .string ⟨List.toArray C⟩, .string ⟨List.toArray E⟩, .string ⟨List.toArray F⟩, .string ⟨List.toArray p⟩, .int .i64 g] 0 bi Tryz.sizeOf74 ?_
 intro dn aa
 refine nt (rt (CK (mY rfl rfl (Cu (cs:= [.int .i64 r, .string ⟨List.toArray C⟩, .string ⟨List.toArray E⟩, .string ⟨List.toArray F⟩, .string ⟨List.toArray p⟩, .int .i64 g]) Tryz.isAgg74 Tryz.sizeOf74 ((aa.cls (i:=0) rfl).lit (k:=0) (m:=6) rfl))) ?_))
 have bn:=aa.pk [2]
 have e:lq A=(bq.mk r C E F p g,L):=et (ag S) (et (ag U) (et (ag V) (et (ag W) (et (ag J) (ag M)))))
 obtain⟨rfl,rfl⟩:=iI (e.symm.trans hr)
 exact⟨X,Y,rfl,bn,(aF.trans (aF.trans (aF.trans (aF.trans (aF.trans a f) h) o) l) s)⟩
def kG (c:ReaderT):bH × ReaderT:=
 bnd (dI c) fun a=>bnd (dI a.2) fun b=>(bH.mk a.1 b.1,b.2)
theorem qD (w:World) (D:Nat→Prop) (r:Nat) (f:ReaderT) (b:Option Addr) (a:Nat) (R:bH) (J:ReaderT) (H:Own w D w [blk r [.slice b f.ae.ls.length a, .int .i64 f.aG] 150]) (h:Ro w D fun w'=>bG w' 1 b f.ae.ls.length (List.flatMap eB f.ae.ls)) (K:f.ae.ls.length≤a∧f.ae.ls.length≤9223372036854775807) (hr:kG f=(R,J)):
    Calls Tryz.prog 118 #[.pointer (some ⟨r,0,none⟩)] w (dE fun v w'=> ∃ (B1ox0:Option Addr) (b1ox0:Nat),v= .agg (bH.cells R).toArray∧Own w D w' [blk r [.slice B1ox0 J.ae.ls.length b1ox0, .int .i64 J.aG] 150]∧(aF 1 b a f.ae.ls B1ox0 b1ox0 J.ae.ls)):=by
 refine Ce (args:= [.pointer (some ⟨r,0,none⟩)]) Tryz.func118 rfl rfl rfl ?_
 show Wp _ _ _ [(0, .pointer (some ⟨r,0,none⟩))] _ _
 refine sr ?_
 refine dB [.string ⟨List.toArray ([])⟩, .string ⟨List.toArray ([])⟩] 133 H ?_
 intro W X L
 refine ns (Mz rfl ?_)
 have M:=L.pk [1,0]
 obtain⟨⟨j,d⟩,o⟩:∃ q:(List UInt8) × ReaderT,dI f=q:=⟨_,rfl⟩
 obtain⟨Y,u,x,y,S⟩:=Cg M
 refine cl Tryz.call95 (ig _ _ r f b a j d u (x _ h) (show f.ae.ls.length≤a∧f.ae.ls.length≤9223372036854775807 from by omega) o) ?_
 rintro _ Z ⟨s,n,rfl,z,c⟩
 have N:=y _ _ z
 replace c:aF 1 b a f.ae.ls s n d.ae.ls:=c
 have T:=(c).le
 refine Ar rfl (Mz rfl (Mz rfl ?_))
 obtain⟨⟨l,t⟩,p⟩:∃ q:(List UInt8) × ReaderT,dI d=q:=⟨_,rfl⟩
 obtain⟨aa,A,B,C,U⟩:=Cg N
 refine cl Tryz.call95 (ig _ _ r d s n l t A (fun w9 h9=>aF.rds bA (by decide) c ((B _ h) w9 h9)) (show d.ae.ls.length≤n∧d.ae.ls.length≤9223372036854775807 from by omega) p) ?_
 rintro _ ah ⟨E,F,rfl,G,g⟩
 have O:=C _ _ G
 replace g:aF 1 s n d.ae.ls E F t.ae.ls:=g
 have V:=(g).le
 refine Kz (.agg #[.string ⟨List.toArray j⟩, .string ⟨List.toArray l⟩]) ?_
 have P:=O.pk [1,0]
 refine dw [.string ⟨List.toArray j⟩, .string ⟨List.toArray l⟩] 0 P Tryz.sizeOf133 ?_
 intro ai I
 refine nt (rt (CK (mY rfl rfl (Cu (cs:= [.string ⟨List.toArray j⟩, .string ⟨List.toArray l⟩]) Tryz.isAgg133 Tryz.sizeOf133 ((I.cls (i:=0) rfl).lit (k:=0) (m:=2) rfl))) ?_))
 have Q:=I.pk [1]
 have e:kG f=(bH.mk j l,t):=et (ag o) (ag p)
 obtain⟨rfl,rfl⟩:=iI (e.symm.trans hr)
 exact⟨E,F,rfl,Q,(aF.trans c g)⟩
def j4 (e:ReaderT):gp × ReaderT:=
 bnd (bv e) fun a=>bnd (bv a.2) fun b=>bnd (bv b.2) fun c=>bnd (je c.2) fun d=>(gp.mk a.1 b.1 c.1 d.1,d.2)
theorem qg (w:World) (D:Nat→Prop) (y:Nat) (t:ReaderT) (h:Option Addr) (b:Nat) (r0:gp) (r1:ReaderT) (H:Own w D w [blk y [.slice h t.ae.ls.length b, .int .i64 t.aG] 150]) (d:Ro w D fun w'=>bG w' 1 h t.ae.ls.length (List.flatMap eB t.ae.ls)) (aC:t.ae.ls.length≤b∧t.ae.ls.length≤9223372036854775807) (hr:j4 t=(r0,r1)):
    Calls Tryz.prog 58 #[.pointer (some ⟨y,0,none⟩)] w (dE fun v w'=> ∃ (B1ox0:Option Addr) (b1ox0:Nat),v= .agg (gp.cells r0).toArray∧Own w D w' [blk y [.slice B1ox0 r1.ae.ls.length b1ox0, .int .i64 r1.aG] 150]∧(aF 1 h b t.ae.ls B1ox0 b1ox0 r1.ae.ls)):=by
 refine Ce (args:= [.pointer (some ⟨y,0,none⟩)]) Tryz.func58 rfl rfl rfl ?_
 show Wp _ _ _ [(0, .pointer (some ⟨y,0,none⟩))] _ _
 refine sr ?_
 refine dB [.int .u64 0, .int .u64 0, .int .u64 0, .string ⟨List.toArray ([])⟩, .string ⟨List.toArray ([])⟩] 29 H ?_
 intro bu bz aD
 refine ns (Mz rfl ?_)
 have aG:=aD.pk [1,0]
 obtain⟨⟨j,n⟩,C⟩:∃ q:Nat × ReaderT,bv t=q:=⟨_,rfl⟩
 obtain⟨bB,S,T,U,aW⟩:=Cg aG
 refine cl Tryz.call51 (dW _ _ y t h b j n S (T _ d) (show t.ae.ls.length≤b∧t.ae.ls.length≤9223372036854775807 from by omega) C) ?_
 rintro _ bC ⟨N,z,rfl,V,a,E⟩
 have aH:=U _ _ V
 replace a:aF 1 h b t.ae.ls N z n.ae.ls:=a
 have aX:=(a).le
 replace E:j≤18446744073709551615:=E
 refine Kz (.agg #[.int .u64 ((j:Nat):Int), .int .u64 0, .int .u64 0, .string ⟨List.toArray ([])⟩, .string ⟨List.toArray ([])⟩]) ?_
 refine dB [.int .u64 0, .int .u64 0, .int .u64 0, .string ⟨List.toArray ([])⟩, .string ⟨List.toArray ([])⟩] 29 aH ?_
 intro O bD aI
 refine dw [.int .u64 ((j:Nat):Int), .int .u64 0, .int .u64 0, .string ⟨List.toArray ([])⟩, .string ⟨List.toArray ([])⟩] 0 aI Tryz.sizeOf29 ?_
 intro bE aJ
 refine ns (Mz rfl ?_)
 have aK:=aJ.pk [1,0,2]
 obtain⟨⟨o,p⟩,F⟩:∃ q:Nat × ReaderT,bv n=q:=⟨_,rfl⟩
 obtain⟨bH,W,X,Y,aY⟩:=Cg aK
 refine cl Tryz.call51 (dW _ _ y n N z o p W (fun u x=>aF.rds bA (by decide) a ((X _ d) u x)) (show n.ae.ls.length≤z∧n.ae.ls.length≤9223372036854775807 from by omega) F) ?_
 rintro _ bI ⟨P,A,rfl,Z,c,G⟩
 have aL:=Y _ _ Z
 replace c:aF 1 N z n.ae.ls P A p.ae.ls:=c
 have aZ:=(c).le
 replace G:o≤18446744073709551615:=G
 refine Kz (.pointer (some ⟨O,1,none⟩)) ?_
 have aM:=aL.pk [1,0,2]
 refine dw [.int .u64 ((o:Nat):Int)] 1 aM Tryz.sizeOf22 ?_
 intro bJ aN
 refine ns (Mz rfl ?_)
 have aO:=aN.pk [1,0,2]
 obtain⟨⟨r,s⟩,I⟩:∃ q:Nat × ReaderT,bv p=q:=⟨_,rfl⟩
 obtain⟨bK,aa,ae,af,bf⟩:=Cg aO
 refine cl Tryz.call51 (dW _ _ y p P A r s aa (fun u x=>aF.rds bA (by decide) c ((fun u x=>aF.rds bA (by decide) a ((ae _ d) u x)) u x)) (show p.ae.ls.length≤A∧p.ae.ls.length≤9223372036854775807 from by omega) I) ?_
 rintro _ bL ⟨Q,B,rfl,ah,l,J⟩
 have aP:=af _ _ ah
 replace l:aF 1 P A p.ae.ls Q B s.ae.ls:=l
 have bg:=(l).le
 replace J:r≤18446744073709551615:=J
 refine Kz (.pointer (some ⟨O,2,none⟩)) ?_
 have aQ:=aP.pk [1,0,2]
 refine dw [.int .u64 ((r:Nat):Int)] 2 aQ Tryz.sizeOf22 ?_
 intro bM aR
 refine ns (Mz rfl ?_)
 have aS:=aR.pk [1,0,2]
 obtain⟨⟨f,R⟩,K⟩:∃ q:bF × ReaderT,je s=q:=⟨_,rfl⟩
 obtain⟨bN,ai,aj,ak,bi⟩:=Cg aS
 refine cl Tryz.call57 (nC _ _ y s Q B f R ai (fun u x=>aF.rds bA (by decide) l ((fun u x=>aF.rds bA (by decide) c ((fun u x=>aF.rds bA (by decide) a ((aj _ d) u x)) u x)) u x)) (show s.ae.ls.length≤B∧s.ae.ls.length≤9223372036854775807 from by omega) K) ?_
 rintro _ bO ⟨au,av,rfl,ax,g⟩
 have aT:=ak _ _ ax
 replace g:aF 1 Q B s.ae.ls au av R.ae.ls:=g
 have aU:=(g).le
 refine Kz (.pointer (some ⟨O,3,none⟩)) ?_
 have ay:=aT.pk [1,0,2]
 refine dw (bF.cells f) 3 ay Tryz.sizeOf27 ?_
 intro bn L
 refine ns (La ([.int .u64 ((j:Nat):Int), .int .u64 ((o:Nat):Int), .int .u64 ((r:Nat):Int), .string ⟨List.toArray f.aK⟩, .string ⟨List.toArray f.aO⟩]) L 0 Tryz.isAgg29 Tryz.sizeOf29 ?_)
 have az:=L.pk [2,0,1]
 refine dw [.int .u64 ((j:Nat):Int), .int .u64 ((o:Nat):Int), .int .u64 ((r:Nat):Int), .string ⟨List.toArray f.aK⟩, .string ⟨List.toArray f.aO⟩] 0 az Tryz.sizeOf29 ?_
 intro bq M
 refine nt (rt (CK (mY rfl rfl (Cu (cs:= [.int .u64 ((j:Nat):Int), .int .u64 ((o:Nat):Int), .int .u64 ((r:Nat):Int), .string ⟨List.toArray f.aK⟩, .string ⟨List.toArray f.aO⟩]) Tryz.isAgg29 Tryz.sizeOf29 ((M.cls (i:=0) rfl).lit (k:=0) (m:=5) rfl))) ?_))
 have aA:=M.pk [2]
 have e:j4 t=(gp.mk j o r f,R):=et (ag C) (et (ag F) (et (ag I) (ag K)))
 obtain⟨rfl,rfl⟩:=iI (e.symm.trans hr)
 exact⟨au,av,rfl,aA,(aF.trans (aF.trans (aF.trans a c) l) g)⟩
def fo (p1:Int):Nat→List bq→Nat→List UInt8→Int→(List bq) × (List UInt8) × Int
  | 0,c,e,d,a=>default
  | f+1,c,e,d,a=>if((e:Nat):Int) < p1 then if a=0 then bnd (lq (ReaderT.mk (Ll.mk d) a)) fun b=>fo p1 f (c++ [b.1]) (e+1) b.2.ae.ls b.2.aG else(c,d,a) else(c,d,a)
def kL (a:ReaderT) (p1:Int):(List bq) × ReaderT:=
 bnd (bnd (fo p1 ((Int.toNat p1 - 0)+1) ([]) 0 a.ae.ls a.aG) fun sLrJjL=>(sLrJjL.1,sLrJjL.2.1,sLrJjL.2.2)) fun sJrJ=>(sJrJ.1,ReaderT.mk (Ll.mk sJrJ.2.1) sJrJ.2.2)
theorem oW (w:World) (D:Nat→Prop) (t:Nat) (a:ReaderT) (b:Option Addr) (c:Nat) (p1:Int) (U:List bq) (r1:ReaderT) (H:Own w D w [blk t [.slice b a.ae.ls.length c, .int .i64 a.aG] 150]) (R:Ro w D fun w'=>bG w' 1 b a.ae.ls.length (List.flatMap eB a.ae.ls)) (az:a.ae.ls.length≤c∧a.ae.ls.length≤9223372036854775807) (bi:p1≤1000) (hr:kL a p1=(U,r1)):
    Calls Tryz.prog 114 #[.pointer (some ⟨t,0,none⟩), .int .i64 p1, .func (.func 98) #[] #[]] w (dE fun v w'=> ∃ (B0:Option Addr) (b0:Nat) (B1ox0:Option Addr) (b1ox0:Nat),v= .slice B0 U.length b0∧Own w D w' [row B0 U.length b0 (List.flatMap bq.cells U) 74 6,blk t [.slice B1ox0 r1.ae.ls.length b1ox0, .int .i64 r1.aG] 150]∧(aF 1 b c a.ae.ls B1ox0 b1ox0 r1.ae.ls)∧(U.length≤1000)):=by
 refine Ce (args:= [.pointer (some ⟨t,0,none⟩), .int .i64 p1, .func (.func 98) #[] #[]]) Tryz.func114 rfl rfl rfl ?_
 show Wp _ _ _ [(0, .pointer (some ⟨t,0,none⟩)),(1, .int .i64 p1),(2, .func (.func 98) #[] #[])] _ _
 refine sr (Ar rfl (An rfl (BS (sr (An rfl ?_)))))
 obtain⟨V,W⟩:∃ q:((Option Addr) × Nat × (List bq) × (Option Addr) × Nat × (List UInt8) × Int)→World→Prop,q=fun(i:(Option Addr) × Nat × (List bq) × (Option Addr) × Nat × (List UInt8) × Int) w'=>Own w D w' [blk t [.slice i.2.2.2.1 i.2.2.2.2.2.1.length i.2.2.2.2.1, .int .i64 i.2.2.2.2.2.2] 150,row i.1 i.2.2.1.length i.2.1 (List.flatMap bq.cells i.2.2.1) 74 6]∧(aF 1 b c a.ae.ls i.2.2.2.1 i.2.2.2.2.1 i.2.2.2.2.2.1∧0≤i.2.2.1.length∧i.2.2.2.2.2.1.length≤a.ae.ls.length∧i.2.2.2.2.2.1.length≤a.ae.ls.length+1∧i.2.2.1.length≤1000∧(bnd (fo p1 ((Int.toNat p1 - 0)+1) ([]) 0 a.ae.ls a.aG) fun sLrJjL=>(sLrJjL.1,sLrJjL.2.1,sLrJjL.2.2))=(i.2.2.1,i.2.2.2.2.2.1,i.2.2.2.2.2.2)):=⟨_,rfl⟩
 have C:∀ {E:Option Addr} {F:Nat} {l:List bq} {G:Option Addr} {I:Nat} {o:List UInt8} {J:Int} {w':World},V (E,F,l,G,I,o,J) w'↔Own w D w' [blk t [.slice G o.length I, .int .i64 J] 150,row E l.length F (List.flatMap bq.cells l) 74 6]∧aF 1 b c a.ae.ls G I o∧0≤l.length∧o.length≤a.ae.ls.length∧o.length≤a.ae.ls.length+1∧l.length≤1000∧(bnd (fo p1 ((Int.toNat p1 - 0)+1) ([]) 0 a.ae.ls a.aG) fun sLrJjL=>(sLrJjL.1,sLrJjL.2.1,sLrJjL.2.2))=(l,o,J):=by intros; subst W; exact Iff.rfl
 refine Df (fun i:(Option Addr) × Nat × (List bq) × (Option Addr) × Nat × (List UInt8) × Int=> [(7, .slice i.1 i.2.2.1.length i.2.1),(6, .slice none 0 0)]) V ?_ ?_
 refine bo ?_
 have aA:Own w D w [row none 0 0 (List.flatMap bq.cells ([])) 74 6,blk t [.slice b a.ae.ls.length c, .int .i64 a.aG] 150]:=H.free (iD 74 6)
 have aB:=aA.pk [1,0]
 obtain⟨X,Y⟩:∃ q:((Option Addr) × Nat × (List bq) × Nat × (Option Addr) × Nat × (List UInt8) × Int × Nat)→World→Prop,q=fun(i:(Option Addr) × Nat × (List bq) × Nat × (Option Addr) × Nat × (List UInt8) × Int × Nat) w'=>Own w D w' [blk t [.slice i.2.2.2.2.1 i.2.2.2.2.2.2.1.length i.2.2.2.2.2.1, .int .i64 i.2.2.2.2.2.2.2.1] 150,row i.1 i.2.2.1.length i.2.1 (List.flatMap bq.cells i.2.2.1) 74 6]∧(aF 1 b c a.ae.ls i.2.2.2.2.1 i.2.2.2.2.2.1 i.2.2.2.2.2.2.1∧i.2.2.1.length≤i.2.2.2.1∧(i.2.2.2.1=0∨((i.2.2.2.1:Nat):Int)≤p1)∧Int.toNat p1 - i.2.2.2.1 < i.2.2.2.2.2.2.2.2∧fo p1 ((Int.toNat p1 - 0)+1) ([]) 0 a.ae.ls a.aG=fo p1 i.2.2.2.2.2.2.2.2 i.2.2.1 i.2.2.2.1 i.2.2.2.2.2.2.1 i.2.2.2.2.2.2.2.1):=⟨_,rfl⟩
 have K:∀ {z:Option Addr} {A:Nat} {f:List bq} {g:Nat} {p:Option Addr} {n:Nat} {h:List UInt8} {j:Int} {B:Nat} {w':World},X (z,A,f,g,p,n,h,j,B) w'↔Own w D w' [blk t [.slice p h.length n, .int .i64 j] 150,row z f.length A (List.flatMap bq.cells f) 74 6]∧aF 1 b c a.ae.ls p n h∧f.length≤g∧(g=0∨((g:Nat):Int)≤p1)∧Int.toNat p1 - g < B∧fo p1 ((Int.toNat p1 - 0)+1) ([]) 0 a.ae.ls a.aG=fo p1 B f g h j:=by intros; subst Y; exact Iff.rfl
 refine Wp.loop (fun i:(Option Addr) × Nat × (List bq) × Nat × (Option Addr) × Nat × (List UInt8) × Int × Nat=> [(7, .slice i.1 i.2.2.1.length i.2.1),(8, .int .i64 ((i.2.2.2.1:Nat):Int)),(6, .slice none 0 0),(0, .pointer (some ⟨t,0,none⟩)),(1, .int .i64 p1),(2, .func (.func 98) #[] #[])]) X (fun i=>i.2.2.2.2.2.2.2.2) (none,0, [],0,b,c,a.ae.ls,a.aG,(Int.toNat p1 - 0)+1) ⟨rfl,rfl,rfl,rfl,rfl,rfl,trivial⟩ (K.2 ⟨aB,(show aF 1 b c a.ae.ls b c a.ae.ls∧0≤0∧(0=0∨((0:Nat):Int)≤p1)∧Int.toNat p1 - 0 < ((Int.toNat p1 - 0)+1)∧fo p1 ((Int.toNat p1 - 0)+1) ([]) 0 a.ae.ls a.aG=fo p1 ((Int.toNat p1 - 0)+1) ([]) 0 a.ae.ls a.aG from ⟨by exact(aF.refl (by omega)),by omega,by omega,by omega,rfl⟩)⟩) ?_
 rintro ⟨z,A,f,g,p,n,h,j,B⟩ bn Z
 show Wp _ _ _ [(7, .slice z f.length A),(8, .int .i64 ((g:Nat):Int)),(6, .slice none 0 0),(0, .pointer (some ⟨t,0,none⟩)),(1, .int .i64 p1),(2, .func (.func 98) #[] #[])] _ _
 obtain⟨M,r,aQ,aR,aS,L⟩:=K.1 Z
 have aT:=(r).le
 obtain⟨S,aa⟩:∃ q,B=q+1:=⟨B - 1,by omega⟩
 subst aa
 refine BS (sr (Mz rfl (Mz rfl (Kz (.bool (decide (((g:Nat):Int) < p1))) (Mz rfl ?_)))))
 by_cases d:((g:Nat):Int) < p1
 refine gw (.pointer (some ⟨t,0,none⟩)) (dT d) (BX rfl) (Gz (.pointer (some ⟨t,0,none⟩)) (dT d) (Gz (.pointer (some ⟨t,1,none⟩)) (dT d) (Gl (.int .i64 j) (dT d) M 0 Tryz.isAgg38 (Gz (.bool (decide (j=0))) (dT d) (fw (.bool (decide (j=0))) (BZ rfl (dT d) rfl) (nt ?_))))))
 by_cases N:j=0
 refine jT (dT N) (sk (BS (bo (BR (Mz rfl (Mz rfl (Mz rfl ?_)))))))
 obtain⟨⟨u,O⟩,P⟩:∃ q:bq × ReaderT,lq (ReaderT.mk (Ll.mk h) j)=q:=⟨_,rfl⟩
 obtain⟨bu,ae,af,ah,aU⟩:=Cg M
 refine WL.do rfl (CB Tryz.call98 rfl rfl (rJ _ _ t (ReaderT.mk (Ll.mk h) j) p n u O ae (fun w9 h9=>aF.rds bA (by decide) r ((af _ R) w9 h9)) (show h.length≤n∧h.length≤9223372036854775807 from by omega) P) ?_)
 rintro _ bB ⟨ai,aj,rfl,ak,x⟩
 have aC:=ah _ _ ak
 replace x:aF 1 p n h ai aj O.ae.ls:=x
 have aV:=(x).le
 refine ji (bq.cells u) 74 6 1 aC ?_
 intro aD bC T
 replace T:=CG (y:=row aD 1 1 (List.flatMap bq.cells ([u])) 74 6) rfl T
 have au:=T.pk [2,0,1]
 refine WL.do rfl (CU (k:=f.length) (m:=1) (rF) au rfl rfl (j5 Tryz.underlying64 (au.rds (i:=1) rfl) (ja bq.one ([u]))) rfl (by omega) (s:=List.length (f++ [u])) (by first | omega | (simp only [List.length_append,List.length_cons,List.length_nil] <;> omega)) (List.flatMap_append).symm ?_)
 intro aG aH bD aI
 have aW:List.length (f++ [u])=f.length+1:=by simp only [List.length_append,List.length_cons,List.length_nil]
 refine Az rfl (Cf (bN (Ca (BR (Mz rfl (fw (.int .i64 ((g+1:Nat):Int)) (Ci (e:=IntKind.i64.wrap (((g:Nat):Int)+1)) yk (by rw [EL _ (by omega)]; omega)) (Az rfl (Cf ?_))))))))
 have aJ:=aI.pk [2,0]
 exact Cm (aG,aH,(f++ [u]),g+1,ai,aj,O.ae.ls,O.aG,S) ⟨rfl,rfl,rfl,rfl,rfl,rfl,trivial⟩ (K.2 ⟨aJ,by exact(aF.trans r x),by omega,by omega,by omega,et (L) (et (ip d) (et (ip N) (ag P)))⟩) (by show S < S+1; omega)
 refine jF (dF N) (Wp.exit (Cb (Cb (Cn ?_))))
 have aK:=M.pk [0,1]
 exact CV (z,A,f,p,n,h,j) ⟨rfl,rfl,trivial⟩ (C.2 ⟨aK,by exact r,by omega,by omega,by omega,by omega,ag (et (L) (et (ip d) (iN N)))⟩)
 refine Sz (dF d) (Sz (dF d) (Sz (dF d) (Sz (dF d) (Sz (dF d) (fw (.bool false) (BQ rfl (dF d) rfl) (nt (jf (Wp.exit (Cb (Cb (Cn ?_)))))))))))
 have aL:=M.pk [0,1]
 exact CV (z,A,f,p,n,h,j) ⟨rfl,rfl,trivial⟩ (C.2 ⟨aL,by exact r,by omega,by omega,by omega,by omega,ag (et (L) (iN d))⟩)
 rintro ⟨E,F,l,G,I,o,J⟩ bE av
 show Wp _ _ _ [(7, .slice E l.length F),(6, .slice none 0 0)] _ _
 obtain⟨aM,Q,aX,aY,aZ,bf,ax⟩:=C.1 av
 have bg:=(Q).le
 refine sr (Mz rfl (An rfl (rt (rs ?_))))
 have aN:=aM.pk [1,0]
 have e:kL a p1=(l,ReaderT.mk (Ll.mk o) J):=ag ax
 obtain⟨rfl,rfl⟩:=iI (e.symm.trans hr)
 exact⟨E,F,G,I,rfl,aN,Q,(by omega)⟩
def ko (c:ReaderT) (p1:Nat):(List bq) × ReaderT:=
 bnd (aQ c p1) fun a=>bnd (kL a.2 ((a.1:Nat):Int)) fun b=>(b.1,b.2)
theorem pE (w:World) (D:Nat→Prop) (p:Nat) (f:ReaderT) (b:Option Addr) (a:Nat) (p1:Nat) (u:List bq) (K:ReaderT) (H:Own w D w [blk p [.slice b f.ae.ls.length a, .int .i64 f.aG] 150]) (j:Ro w D fun w'=>bG w' 1 b f.ae.ls.length (List.flatMap eB f.ae.ls)) (L:f.ae.ls.length≤a∧f.ae.ls.length≤9223372036854775807) (X:p1≤1000) (hr:ko f p1=(u,K)):
    Calls Tryz.prog 97 #[.pointer (some ⟨p,0,none⟩), .int .u64 ((p1:Nat):Int), .func (.func 98) #[] #[]] w (dE fun v w'=> ∃ (Q:Option Addr) (R:Nat) (B1ox0:Option Addr) (b1ox0:Nat),v= .slice Q u.length R∧Own w D w' [row Q u.length R (List.flatMap bq.cells u) 74 6,blk p [.slice B1ox0 K.ae.ls.length b1ox0, .int .i64 K.aG] 150]∧(aF 1 b a f.ae.ls B1ox0 b1ox0 K.ae.ls)∧(u.length≤1000)):=by
 refine Ce (args:= [.pointer (some ⟨p,0,none⟩), .int .u64 ((p1:Nat):Int), .func (.func 98) #[] #[]]) Tryz.func97 rfl rfl rfl ?_
 show Wp _ _ _ [(0, .pointer (some ⟨p,0,none⟩)),(1, .int .u64 ((p1:Nat):Int)),(2, .func (.func 98) #[] #[])] _ _
 refine sr (Ar rfl (Mz rfl (Mz rfl (Mz rfl ?_))))
 obtain⟨⟨h,d⟩,l⟩:∃ q:Nat × ReaderT,aQ f p1=q:=⟨_,rfl⟩
 obtain⟨Y,x,y,z,S⟩:=Cg H
 refine cl Tryz.call93 (fD _ _ p f b a p1 h d x (y _ j) (show f.ae.ls.length≤a∧f.ae.ls.length≤9223372036854775807 from by omega) l) ?_
 rintro _ Z ⟨r,k,rfl,A,c,m⟩
 have M:=z _ _ A
 replace c:aF 1 b a f.ae.ls r k d.ae.ls:=c
 have T:=(c).le
 replace m:h≤p1:=m
 refine fw (.int .i64 ((h:Nat):Int)) (Ci (e:=IntKind.i64.wrap ((h:Nat):Int)) yk (EL _ (by omega))) (Mz rfl ?_)
 obtain⟨⟨s,t⟩,n⟩:∃ q:(List bq) × ReaderT,kL d ((h:Nat):Int)=q:=⟨_,rfl⟩
 obtain⟨aa,B,C,E,U⟩:=Cg M
 refine cl Tryz.call114 (oW _ _ p d r k ((h:Nat):Int) s t B (fun w9 h9=>aF.rds bA (by decide) c ((C _ j) w9 h9)) (show d.ae.ls.length≤k∧d.ae.ls.length≤9223372036854775807 from by omega) (by omega) n) ?_
 rintro _ ah ⟨N,O,F,G,rfl,I,g,o⟩
 have J:=E _ _ I
 replace g:aF 1 r k d.ae.ls F G t.ae.ls:=g
 have V:=(g).le
 have W:=J.rowC (i:=0) rfl
 replace o:s.length≤1000:=o
 refine An rfl (rt (rs ?_))
 have P:=J.pk [0,1]
 have e:ko f p1=(s,t):=et (ag l) (ag n)
 obtain⟨rfl,rfl⟩:=iI (e.symm.trans hr)
 exact⟨N,O,F,G,rfl,P,(aF.trans c g),(by omega)⟩
def kH (c:ReaderT):eZ × ReaderT:=
 bnd (bv c) fun a=>bnd (ko a.2 255) fun b=>(eZ.mk a.1 (Ll.mk b.1),b.2)
set_option maxHeartbeats 1000000 in
theorem qE (w:World) (D:Nat→Prop) (z:Nat) (f:ReaderT) (b:Option Addr) (a:Nat) (C:eZ) (R:ReaderT) (H:Own w D w [blk z [.slice b f.ae.ls.length a, .int .i64 f.aG] 150]) (l:Ro w D fun w'=>bG w' 1 b f.ae.ls.length (List.flatMap eB f.ae.ls)) (S:f.ae.ls.length≤a∧f.ae.ls.length≤9223372036854775807) (hr:kH f=(C,R)):
    Calls Tryz.prog 55 #[.pointer (some ⟨z,0,none⟩)] w (dE fun v w'=> ∃ (r:Option Addr) (s:Nat) (B1ox0:Option Addr) (b1ox0:Nat),v= .agg #[.int .u64 ((C.av:Nat):Int), .slice r C.ay.ls.length s]∧Own w D w' [row r C.ay.ls.length s (List.flatMap bq.cells C.ay.ls) 74 6,blk z [.slice B1ox0 R.ae.ls.length b1ox0, .int .i64 R.aG] 150]∧(aF 1 b a f.ae.ls B1ox0 b1ox0 R.ae.ls)∧(C.ay.ls.length≤1000)):=by
 refine Ce (args:= [.pointer (some ⟨z,0,none⟩)]) Tryz.func55 rfl rfl rfl ?_
 show Wp _ _ _ [(0, .pointer (some ⟨z,0,none⟩))] _ _
 refine sr ?_
 refine dB [.int .u64 0, .slice none 0 0] 66 H ?_
 intro ah ai T
 refine ns (Mz rfl ?_)
 have U:=T.pk [1,0]
 obtain⟨⟨h,d⟩,t⟩:∃ q:Nat × ReaderT,bv f=q:=⟨_,rfl⟩
 obtain⟨aj,E,F,G,Y⟩:=Cg U
 refine cl Tryz.call51 (dW _ _ z f b a h d E (F _ l) (show f.ae.ls.length≤a∧f.ae.ls.length≤9223372036854775807 from by omega) t) ?_
 rintro _ ak ⟨A,n,rfl,I,c,u⟩
 have V:=G _ _ I
 replace c:aF 1 b a f.ae.ls A n d.ae.ls:=c
 have Z:=(c).le
 replace u:h≤18446744073709551615:=u
 refine Ar rfl (Mz rfl (Mz rfl ?_))
 obtain⟨⟨j,B⟩,x⟩:∃ q:(List bq) × ReaderT,ko d 255=q:=⟨_,rfl⟩
 obtain⟨au,J,K,L,aa⟩:=Cg V
 refine cl Tryz.call97 (pE _ _ z d A n 255 j B J (fun w9 h9=>aF.rds bA (by decide) c ((K _ l) w9 h9)) (show d.ae.ls.length≤n∧d.ae.ls.length≤9223372036854775807 from by omega) (by omega) x) ?_
 rintro _ ay ⟨o,p,M,N,rfl,O,g,y⟩
 have P:=L _ _ O
 replace g:aF 1 A n d.ae.ls M N B.ae.ls:=g
 have ae:=(g).le
 have af:=P.rowC (i:=0) rfl
 replace y:j.length≤1000:=y
 refine Kz (.agg #[.int .u64 ((h:Nat):Int), .slice o j.length p]) ?_
 have W:=P.pk [2,0,1]
 refine dw [.int .u64 ((h:Nat):Int), .slice o j.length p] 0 W Tryz.sizeOf66 ?_
 intro az Q
 refine nt (rt (CK (mY rfl rfl (Cu (cs:= [.int .u64 ((h:Nat):Int), .slice o j.length p]) Tryz.isAgg66 Tryz.sizeOf66 ((Q.cls (i:=0) rfl).lit (k:=0) (m:=2) rfl))) ?_))
 have X:=Q.pk [1,2]
 have e:kH f=(eZ.mk h (Ll.mk j),B):=et (ag t) (ag x)
 obtain⟨rfl,rfl⟩:=iI (e.symm.trans hr)
 exact⟨o,p,M,N,rfl,X,(aF.trans c g),(by first | omega | (dsimp only; omega) | (simp only [List.length_nil]; omega) | decide)⟩
def gm (p1:Int):Nat→List Int→Nat→List UInt8→Int→(List Int) × (List UInt8) × Int
  | 0,c,e,d,a=>default
  | f+1,c,e,d,a=>if((e:Nat):Int) < p1 then if a=0 then bnd (dZ (ReaderT.mk (Ll.mk d) a)) fun b=>gm p1 f (c++ [b.1]) (e+1) b.2.ae.ls b.2.aG else(c,d,a) else(c,d,a)
def lG (a:ReaderT) (p1:Int):(List Int) × ReaderT:=
 bnd (bnd (gm p1 ((Int.toNat p1 - 0)+1) ([]) 0 a.ae.ls a.aG) fun sLrJjL=>(sLrJjL.1,sLrJjL.2.1,sLrJjL.2.2)) fun sJrJ=>(sJrJ.1,ReaderT.mk (Ll.mk sJrJ.2.1) sJrJ.2.2)
theorem qh (w:World) (D:Nat→Prop) (u:Nat) (a:ReaderT) (b:Option Addr) (c:Nat) (p1:Int) (V:List Int) (r1:ReaderT) (H:Own w D w [blk u [.slice b a.ae.ls.length c, .int .i64 a.aG] 150]) (S:Ro w D fun w'=>bG w' 1 b a.ae.ls.length (List.flatMap eB a.ae.ls)) (aA:a.ae.ls.length≤c∧a.ae.ls.length≤9223372036854775807) (bn:p1≤1000) (hr:lG a p1=(V,r1)):
    Calls Tryz.prog 115 #[.pointer (some ⟨u,0,none⟩), .int .i64 p1, .func (.func 50) #[] #[]] w (dE fun v w'=> ∃ (B0:Option Addr) (b0:Nat) (B1ox0:Option Addr) (b1ox0:Nat),v= .slice B0 V.length b0∧Own w D w' [row B0 V.length b0 (List.flatMap (eI .i64) V) 3 1,blk u [.slice B1ox0 r1.ae.ls.length b1ox0, .int .i64 r1.aG] 150]∧(aF 1 b c a.ae.ls B1ox0 b1ox0 r1.ae.ls)∧(V.length≤1000)):=by
 refine Ce (args:= [.pointer (some ⟨u,0,none⟩), .int .i64 p1, .func (.func 50) #[] #[]]) Tryz.func115 rfl rfl rfl ?_
 show Wp _ _ _ [(0, .pointer (some ⟨u,0,none⟩)),(1, .int .i64 p1),(2, .func (.func 50) #[] #[])] _ _
 refine sr (Ar rfl (An rfl (BS (sr (An rfl ?_)))))
 obtain⟨W,X⟩:∃ q:((Option Addr) × Nat × (List Int) × (Option Addr) × Nat × (List UInt8) × Int)→World→Prop,q=fun(i:(Option Addr) × Nat × (List Int) × (Option Addr) × Nat × (List UInt8) × Int) w'=>Own w D w' [blk u [.slice i.2.2.2.1 i.2.2.2.2.2.1.length i.2.2.2.2.1, .int .i64 i.2.2.2.2.2.2] 150,row i.1 i.2.2.1.length i.2.1 (List.flatMap (eI .i64) i.2.2.1) 3 1]∧(aF 1 b c a.ae.ls i.2.2.2.1 i.2.2.2.2.1 i.2.2.2.2.2.1∧0≤i.2.2.1.length∧i.2.2.2.2.2.1.length≤a.ae.ls.length∧i.2.2.2.2.2.1.length≤a.ae.ls.length+1∧i.2.2.1.length≤1000∧(bnd (gm p1 ((Int.toNat p1 - 0)+1) ([]) 0 a.ae.ls a.aG) fun sLrJjL=>(sLrJjL.1,sLrJjL.2.1,sLrJjL.2.2))=(i.2.2.1,i.2.2.2.2.2.1,i.2.2.2.2.2.2)):=⟨_,rfl⟩
 have C:∀ {E:Option Addr} {F:Nat} {l:List Int} {G:Option Addr} {I:Nat} {p:List UInt8} {J:Int} {w':World},W (E,F,l,G,I,p,J) w'↔Own w D w' [blk u [.slice G p.length I, .int .i64 J] 150,row E l.length F (List.flatMap (eI .i64) l) 3 1]∧aF 1 b c a.ae.ls G I p∧0≤l.length∧p.length≤a.ae.ls.length∧p.length≤a.ae.ls.length+1∧l.length≤1000∧(bnd (gm p1 ((Int.toNat p1 - 0)+1) ([]) 0 a.ae.ls a.aG) fun sLrJjL=>(sLrJjL.1,sLrJjL.2.1,sLrJjL.2.2))=(l,p,J):=by intros; subst X; exact Iff.rfl
 refine Df (fun i:(Option Addr) × Nat × (List Int) × (Option Addr) × Nat × (List UInt8) × Int=> [(7, .slice i.1 i.2.2.1.length i.2.1),(6, .slice none 0 0)]) W ?_ ?_
 refine bo ?_
 have aB:Own w D w [row none 0 0 (List.flatMap (eI .i64) ([])) 3 1,blk u [.slice b a.ae.ls.length c, .int .i64 a.aG] 150]:=H.free (iD 3 1)
 have aC:=aB.pk [1,0]
 obtain⟨Y,Z⟩:∃ q:((Option Addr) × Nat × (List Int) × Nat × (Option Addr) × Nat × (List UInt8) × Int × Nat)→World→Prop,q=fun(i:(Option Addr) × Nat × (List Int) × Nat × (Option Addr) × Nat × (List UInt8) × Int × Nat) w'=>Own w D w' [blk u [.slice i.2.2.2.2.1 i.2.2.2.2.2.2.1.length i.2.2.2.2.2.1, .int .i64 i.2.2.2.2.2.2.2.1] 150,row i.1 i.2.2.1.length i.2.1 (List.flatMap (eI .i64) i.2.2.1) 3 1]∧(aF 1 b c a.ae.ls i.2.2.2.2.1 i.2.2.2.2.2.1 i.2.2.2.2.2.2.1∧i.2.2.1.length≤i.2.2.2.1∧(i.2.2.2.1=0∨((i.2.2.2.1:Nat):Int)≤p1)∧Int.toNat p1 - i.2.2.2.1 < i.2.2.2.2.2.2.2.2∧gm p1 ((Int.toNat p1 - 0)+1) ([]) 0 a.ae.ls a.aG=gm p1 i.2.2.2.2.2.2.2.2 i.2.2.1 i.2.2.2.1 i.2.2.2.2.2.2.1 i.2.2.2.2.2.2.2.1):=⟨_,rfl⟩
 have K:∀ {z:Option Addr} {A:Nat} {f:List Int} {g:Nat} {r:Option Addr} {n:Nat} {h:List UInt8} {j:Int} {B:Nat} {w':World},Y (z,A,f,g,r,n,h,j,B) w'↔Own w D w' [blk u [.slice r h.length n, .int .i64 j] 150,row z f.length A (List.flatMap (eI .i64) f) 3 1]∧aF 1 b c a.ae.ls r n h∧f.length≤g∧(g=0∨((g:Nat):Int)≤p1)∧Int.toNat p1 - g < B∧gm p1 ((Int.toNat p1 - 0)+1) ([]) 0 a.ae.ls a.aG=gm p1 B f g h j:=by intros; subst Z; exact Iff.rfl
 refine Wp.loop (fun i:(Option Addr) × Nat × (List Int) × Nat × (Option Addr) × Nat × (List UInt8) × Int × Nat=> [(7, .slice i.1 i.2.2.1.length i.2.1),(8, .int .i64 ((i.2.2.2.1:Nat):Int)),(6, .slice none 0 0),(0, .pointer (some ⟨u,0,none⟩)),(1, .int .i64 p1),(2, .func (.func 50) #[] #[])]) Y (fun i=>i.2.2.2.2.2.2.2.2) (none,0, [],0,b,c,a.ae.ls,a.aG,(Int.toNat p1 - 0)+1) ⟨rfl,rfl,rfl,rfl,rfl,rfl,trivial⟩ (K.2 ⟨aC,(show aF 1 b c a.ae.ls b c a.ae.ls∧0≤0∧(0=0∨((0:Nat):Int)≤p1)∧Int.toNat p1 - 0 < ((Int.toNat p1 - 0)+1)∧gm p1 ((Int.toNat p1 - 0)+1) ([]) 0 a.ae.ls a.aG=gm p1 ((Int.toNat p1 - 0)+1) ([]) 0 a.ae.ls a.aG from ⟨by exact(aF.refl (by omega)),by omega,by omega,by omega,rfl⟩)⟩) ?_
 rintro ⟨z,A,f,g,r,n,h,j,B⟩ bq aa
 show Wp _ _ _ [(7, .slice z f.length A),(8, .int .i64 ((g:Nat):Int)),(6, .slice none 0 0),(0, .pointer (some ⟨u,0,none⟩)),(1, .int .i64 p1),(2, .func (.func 50) #[] #[])] _ _
 obtain⟨M,t,aR,aS,aT,L⟩:=K.1 aa
 have aU:=(t).le
 obtain⟨T,ae⟩:∃ q,B=q+1:=⟨B - 1,by omega⟩
 subst ae
 refine BS (sr (Mz rfl (Mz rfl (Kz (.bool (decide (((g:Nat):Int) < p1))) (Mz rfl ?_)))))
 by_cases d:((g:Nat):Int) < p1
 refine gw (.pointer (some ⟨u,0,none⟩)) (dT d) (BX rfl) (Gz (.pointer (some ⟨u,0,none⟩)) (dT d) (Gz (.pointer (some ⟨u,1,none⟩)) (dT d) (Gl (.int .i64 j) (dT d) M 0 Tryz.isAgg38 (Gz (.bool (decide (j=0))) (dT d) (fw (.bool (decide (j=0))) (BZ rfl (dT d) rfl) (nt ?_))))))
 by_cases N:j=0
 refine jT (dT N) (sk (BS (bo (BR (Mz rfl (Mz rfl (Mz rfl ?_)))))))
 obtain⟨⟨o,O⟩,P⟩:∃ q:Int × ReaderT,dZ (ReaderT.mk (Ll.mk h) j)=q:=⟨_,rfl⟩
 obtain⟨bu,af,ah,ai,aV⟩:=Cg M
 refine WL.do rfl (CB Tryz.call50 rfl rfl (jr _ _ u (ReaderT.mk (Ll.mk h) j) r n o O af (fun w9 h9=>aF.rds bA (by decide) t ((ah _ S) w9 h9)) (show h.length≤n∧h.length≤9223372036854775807 from by omega) P) ?_)
 rintro _ bB ⟨aj,ak,rfl,au,x,Q⟩
 have aD:=ai _ _ au
 replace x:aF 1 r n h aj ak O.ae.ls:=x
 have aW:=(x).le
 replace Q:0≤o∧o≤255:=Q
 refine ji [.int .i64 o] 3 1 1 aD ?_
 intro aG bC U
 replace U:=CG (y:=row aG 1 1 (List.flatMap (eI .i64) ([o])) 3 1) rfl U
 have av:=U.pk [2,0,1]
 refine WL.do rfl (CU (k:=f.length) (m:=1) (lU) av rfl rfl (j5 Tryz.underlying77 (av.rds (i:=1) rfl) (ja yB ([o]))) rfl (by omega) (s:=List.length (f++ [o])) (by first | omega | (simp only [List.length_append,List.length_cons,List.length_nil] <;> omega)) (List.flatMap_append).symm ?_)
 intro aH aI bD aJ
 have aX:List.length (f++ [o])=f.length+1:=by simp only [List.length_append,List.length_cons,List.length_nil]
 refine Az rfl (Cf (bN (Ca (BR (Mz rfl (fw (.int .i64 ((g+1:Nat):Int)) (Ci (e:=IntKind.i64.wrap (((g:Nat):Int)+1)) yk (by rw [EL _ (by omega)]; omega)) (Az rfl (Cf ?_))))))))
 have aK:=aJ.pk [2,0]
 exact Cm (aH,aI,(f++ [o]),g+1,aj,ak,O.ae.ls,O.aG,T) ⟨rfl,rfl,rfl,rfl,rfl,rfl,trivial⟩ (K.2 ⟨aK,by exact(aF.trans t x),by omega,by omega,by omega,et (L) (et (ip d) (et (ip N) (ag P)))⟩) (by show T < T+1; omega)
 refine jF (dF N) (Wp.exit (Cb (Cb (Cn ?_))))
 have aL:=M.pk [0,1]
 exact CV (z,A,f,r,n,h,j) ⟨rfl,rfl,trivial⟩ (C.2 ⟨aL,by exact t,by omega,by omega,by omega,by omega,ag (et (L) (et (ip d) (iN N)))⟩)
 refine Sz (dF d) (Sz (dF d) (Sz (dF d) (Sz (dF d) (Sz (dF d) (fw (.bool false) (BQ rfl (dF d) rfl) (nt (jf (Wp.exit (Cb (Cb (Cn ?_)))))))))))
 have aM:=M.pk [0,1]
 exact CV (z,A,f,r,n,h,j) ⟨rfl,rfl,trivial⟩ (C.2 ⟨aM,by exact t,by omega,by omega,by omega,by omega,ag (et (L) (iN d))⟩)
 rintro ⟨E,F,l,G,I,p,J⟩ bE ax
 show Wp _ _ _ [(7, .slice E l.length F),(6, .slice none 0 0)] _ _
 obtain⟨aN,R,aY,aZ,bf,bg,ay⟩:=C.1 ax
 have bi:=(R).le
 refine sr (Mz rfl (An rfl (rt (rs ?_))))
 have aO:=aN.pk [1,0]
 have e:lG a p1=(l,ReaderT.mk (Ll.mk p) J):=ag ay
 obtain⟨rfl,rfl⟩:=iI (e.symm.trans hr)
 exact⟨E,F,G,I,rfl,aO,R,(by omega)⟩
def kZ (c:ReaderT) (p1:Nat):(List Int) × ReaderT:=
 bnd (aQ c p1) fun a=>bnd (lG a.2 ((a.1:Nat):Int)) fun b=>(b.1,b.2)
theorem qF (w:World) (D:Nat→Prop) (p:Nat) (f:ReaderT) (b:Option Addr) (a:Nat) (p1:Nat) (u:List Int) (K:ReaderT) (H:Own w D w [blk p [.slice b f.ae.ls.length a, .int .i64 f.aG] 150]) (j:Ro w D fun w'=>bG w' 1 b f.ae.ls.length (List.flatMap eB f.ae.ls)) (L:f.ae.ls.length≤a∧f.ae.ls.length≤9223372036854775807) (X:p1≤1000) (hr:kZ f p1=(u,K)):
    Calls Tryz.prog 101 #[.pointer (some ⟨p,0,none⟩), .int .u64 ((p1:Nat):Int), .func (.func 50) #[] #[]] w (dE fun v w'=> ∃ (Q:Option Addr) (R:Nat) (B1ox0:Option Addr) (b1ox0:Nat),v= .slice Q u.length R∧Own w D w' [row Q u.length R (List.flatMap (eI .i64) u) 3 1,blk p [.slice B1ox0 K.ae.ls.length b1ox0, .int .i64 K.aG] 150]∧(aF 1 b a f.ae.ls B1ox0 b1ox0 K.ae.ls)∧(u.length≤1000)):=by
 refine Ce (args:= [.pointer (some ⟨p,0,none⟩), .int .u64 ((p1:Nat):Int), .func (.func 50) #[] #[]]) Tryz.func101 rfl rfl rfl ?_
 show Wp _ _ _ [(0, .pointer (some ⟨p,0,none⟩)),(1, .int .u64 ((p1:Nat):Int)),(2, .func (.func 50) #[] #[])] _ _
 refine sr (Ar rfl (Mz rfl (Mz rfl (Mz rfl ?_))))
 obtain⟨⟨h,d⟩,l⟩:∃ q:Nat × ReaderT,aQ f p1=q:=⟨_,rfl⟩
 obtain⟨Y,x,y,z,S⟩:=Cg H
 refine cl Tryz.call93 (fD _ _ p f b a p1 h d x (y _ j) (show f.ae.ls.length≤a∧f.ae.ls.length≤9223372036854775807 from by omega) l) ?_
 rintro _ Z ⟨r,k,rfl,A,c,m⟩
 have M:=z _ _ A
 replace c:aF 1 b a f.ae.ls r k d.ae.ls:=c
 have T:=(c).le
 replace m:h≤p1:=m
 refine fw (.int .i64 ((h:Nat):Int)) (Ci (e:=IntKind.i64.wrap ((h:Nat):Int)) yk (EL _ (by omega))) (Mz rfl ?_)
 obtain⟨⟨s,t⟩,n⟩:∃ q:(List Int) × ReaderT,lG d ((h:Nat):Int)=q:=⟨_,rfl⟩
 obtain⟨aa,B,C,E,U⟩:=Cg M
 refine cl Tryz.call115 (qh _ _ p d r k ((h:Nat):Int) s t B (fun w9 h9=>aF.rds bA (by decide) c ((C _ j) w9 h9)) (show d.ae.ls.length≤k∧d.ae.ls.length≤9223372036854775807 from by omega) (by omega) n) ?_
 rintro _ ah ⟨N,O,F,G,rfl,I,g,o⟩
 have J:=E _ _ I
 replace g:aF 1 r k d.ae.ls F G t.ae.ls:=g
 have V:=(g).le
 have W:=J.rowC (i:=0) rfl
 replace o:s.length≤1000:=o
 refine An rfl (rt (rs ?_))
 have P:=J.pk [0,1]
 have e:kZ f p1=(s,t):=et (ag l) (ag n)
 obtain⟨rfl,rfl⟩:=iI (e.symm.trans hr)
 exact⟨N,O,F,G,rfl,P,(aF.trans c g),(by omega)⟩
def jw (f:ReaderT):bK × ReaderT:=
 bnd (bv f) fun b=>bnd (dZ b.2) fun c=>bnd (bv c.2) fun d=>bnd (bv d.2) fun e=>bnd (kZ e.2 255) fun a=>(bK.mk b.1 c.1 d.1 e.1 (Ll.mk a.1),a.2)
set_option maxHeartbeats 1000000 in
theorem oZ (w:World) (D:Nat→Prop) (J:Nat) (C:ReaderT) (o:Option Addr) (g:Nat) (K:bK) (r1:ReaderT) (H:Own w D w [blk J [.slice o C.ae.ls.length g, .int .i64 C.aG] 150]) (b:Ro w D fun w'=>bG w' 1 o C.ae.ls.length (List.flatMap eB C.ae.ls)) (aZ:C.ae.ls.length≤g∧C.ae.ls.length≤9223372036854775807) (hr:jw C=(K,r1)):
    Calls Tryz.prog 64 #[.pointer (some ⟨J,0,none⟩)] w (dE fun v w'=> ∃ (Q:Option Addr) (R:Nat) (B1ox0:Option Addr) (b1ox0:Nat),v= .agg #[.int .u64 ((K.av:Nat):Int), .int .i64 K.ak, .int .u64 ((K.aj:Nat):Int), .int .u64 ((K.bJ:Nat):Int), .slice Q K.aa.ls.length R]∧Own w D w' [row Q K.aa.ls.length R (List.flatMap (eI .i64) K.aa.ls) 3 1,blk J [.slice B1ox0 r1.ae.ls.length b1ox0, .int .i64 r1.aG] 150]∧(aF 1 o g C.ae.ls B1ox0 b1ox0 r1.ae.ls)∧(K.aa.ls.length≤1000)):=by
 refine Ce (args:= [.pointer (some ⟨J,0,none⟩)]) Tryz.func64 rfl rfl rfl ?_
 show Wp _ _ _ [(0, .pointer (some ⟨J,0,none⟩))] _ _
 refine sr ?_
 refine dB [.int .u64 0, .int .i64 0, .int .u64 0, .int .u64 0, .slice none 0 0] 79 H ?_
 intro cz cB bf
 refine ns (Mz rfl ?_)
 have bg:=bf.pk [1,0]
 obtain⟨⟨p,u⟩,S⟩:∃ q:Nat × ReaderT,bv C=q:=⟨_,rfl⟩
 obtain⟨cK,aA,aB,aC,bP⟩:=Cg bg
 refine cl Tryz.call51 (dW _ _ J C o g p u aA (aB _ b) (show C.ae.ls.length≤g∧C.ae.ls.length≤9223372036854775807 from by omega) S) ?_
 rintro _ cO ⟨ai,L,rfl,aD,a,T⟩
 have bi:=aC _ _ aD
 replace a:aF 1 o g C.ae.ls ai L u.ae.ls:=a
 have bQ:=(a).le
 replace T:p≤18446744073709551615:=T
 refine Kz (.agg #[.int .u64 ((p:Nat):Int), .int .i64 0, .int .u64 0, .int .u64 0, .slice none 0 0]) ?_
 refine dB [.int .u64 0, .int .i64 0, .int .u64 0, .int .u64 0, .slice none 0 0] 79 bi ?_
 intro M cZ bn
 refine dw [.int .u64 ((p:Nat):Int), .int .i64 0, .int .u64 0, .int .u64 0, .slice none 0 0] 0 bn Tryz.sizeOf79 ?_
 intro df bq
 refine ns (Mz rfl ?_)
 have bu:=bq.pk [1,0,2]
 obtain⟨⟨r,x⟩,U⟩:∃ q:Int × ReaderT,dZ u=q:=⟨_,rfl⟩
 obtain⟨dh,aG,aH,aI,bR⟩:=Cg bu
 refine cl Tryz.call50 (jr _ _ J u ai L r x aG (fun j l=>aF.rds bA (by decide) a ((aH _ b) j l)) (show u.ae.ls.length≤L∧u.ae.ls.length≤9223372036854775807 from by omega) U) ?_
 rintro _ di ⟨aj,N,rfl,aJ,c,V⟩
 have bz:=aI _ _ aJ
 replace c:aF 1 ai L u.ae.ls aj N x.ae.ls:=c
 have bS:=(c).le
 replace V:0≤r∧r≤255:=V
 refine Kz (.pointer (some ⟨M,1,none⟩)) ?_
 have bB:=bz.pk [1,0,2]
 refine dw [.int .i64 r] 1 bB Tryz.sizeOf3 ?_
 intro dm bC
 refine ns (Mz rfl ?_)
 have bD:=bC.pk [1,0,2]
 obtain⟨⟨y,z⟩,W⟩:∃ q:Nat × ReaderT,bv x=q:=⟨_,rfl⟩
 obtain⟨dn,aK,aL,aM,bT⟩:=Cg bD
 refine cl Tryz.call51 (dW _ _ J x aj N y z aK (fun j l=>aF.rds bA (by decide) c ((fun j l=>aF.rds bA (by decide) a ((aL _ b) j l)) j l)) (show x.ae.ls.length≤N∧x.ae.ls.length≤9223372036854775807 from by omega) W) ?_
 rintro _ dx ⟨ak,O,rfl,aN,h,X⟩
 have bE:=aM _ _ aN
 replace h:aF 1 aj N x.ae.ls ak O z.ae.ls:=h
 have bU:=(h).le
 replace X:y≤18446744073709551615:=X
 refine Kz (.pointer (some ⟨M,2,none⟩)) ?_
 have bF:=bE.pk [1,0,2]
 refine dw [.int .u64 ((y:Nat):Int)] 2 bF Tryz.sizeOf22 ?_
 intro dz bH
 refine ns (Mz rfl ?_)
 have bI:=bH.pk [1,0,2]
 obtain⟨⟨A,B⟩,Y⟩:∃ q:Nat × ReaderT,bv z=q:=⟨_,rfl⟩
 obtain⟨dA,aO,aP,aQ,bV⟩:=Cg bI
 refine cl Tryz.call51 (dW _ _ J z ak O A B aO (fun j l=>aF.rds bA (by decide) h ((fun j l=>aF.rds bA (by decide) c ((fun j l=>aF.rds bA (by decide) a ((aP _ b) j l)) j l)) j l)) (show z.ae.ls.length≤O∧z.ae.ls.length≤9223372036854775807 from by omega) Y) ?_
 rintro _ dC ⟨au,P,rfl,aR,d,E⟩
 have bJ:=aQ _ _ aR
 replace d:aF 1 ak O z.ae.ls au P B.ae.ls:=d
 have bL:=(d).le
 replace E:A≤18446744073709551615:=E
 refine Kz (.pointer (some ⟨M,3,none⟩)) ?_
 have aS:=bJ.pk [1,0,2]
 refine dw [.int .u64 ((A:Nat):Int)] 3 aS Tryz.sizeOf22 ?_
 intro bW aT
 refine ns (Mz rfl ?_)
 have aU:=aT.pk [1,0,2]
 obtain⟨⟨f,F⟩,G⟩:∃ q:(List Int) × ReaderT,kZ B 255=q:=⟨_,rfl⟩
 obtain⟨bX,av,ax,ay,bM⟩:=Cg aU
 refine cl Tryz.call101 (qF _ _ J B au P 255 f F av (fun j l=>aF.rds bA (by decide) d ((fun j l=>aF.rds bA (by decide) h ((fun j l=>aF.rds bA (by decide) c ((fun j l=>aF.rds bA (by decide) a ((ax _ b) j l)) j l)) j l)) j l)) (show B.ae.ls.length≤P∧B.ae.ls.length≤9223372036854775807 from by omega) (by omega) G) ?_
 rintro _ bY ⟨s,t,Z,aa,rfl,az,n,I⟩
 have ae:=ay _ _ az
 replace n:aF 1 au P B.ae.ls Z aa F.ae.ls:=n
 have bN:=(n).le
 have bO:=ae.rowC (i:=0) rfl
 replace I:f.length≤1000:=I
 refine Kz (.pointer (some ⟨M,4,none⟩)) ?_
 have aV:=ae.pk [2,0,1,3]
 refine dw [.slice s f.length t] 4 aV Tryz.sizeOf77 ?_
 intro bZ af
 refine ns (La ([.int .u64 ((p:Nat):Int), .int .i64 r, .int .u64 ((y:Nat):Int), .int .u64 ((A:Nat):Int), .slice s f.length t]) af 0 Tryz.isAgg79 Tryz.sizeOf79 ?_)
 have aW:=af.pk [3,0,1,2]
 refine dw [.int .u64 ((p:Nat):Int), .int .i64 r, .int .u64 ((y:Nat):Int), .int .u64 ((A:Nat):Int), .slice s f.length t] 0 aW Tryz.sizeOf79 ?_
 intro cu ah
 refine nt (rt (CK (mY rfl rfl (Cu (cs:= [.int .u64 ((p:Nat):Int), .int .i64 r, .int .u64 ((y:Nat):Int), .int .u64 ((A:Nat):Int), .slice s f.length t]) Tryz.isAgg79 Tryz.sizeOf79 ((ah.cls (i:=0) rfl).lit (k:=0) (m:=5) rfl))) ?_))
 have aX:=ah.pk [2,3]
 have e:jw C=(bK.mk p r y A (Ll.mk f),F):=et (ag S) (et (ag U) (et (ag W) (et (ag Y) (ag G))))
 obtain⟨rfl,rfl⟩:=iI (e.symm.trans hr)
 exact⟨s,t,Z,aa,rfl,aX,(aF.trans (aF.trans (aF.trans (aF.trans a c) h) d) n),(by first | omega | (dsimp only; omega) | (simp only [List.length_nil]; omega) | decide)⟩
def eO (p1:Int):Nat→List bH→Nat→List UInt8→Int→(List bH) × (List UInt8) × Int
  | 0,c,e,d,a=>default
  | f+1,c,e,d,a=>if((e:Nat):Int) < p1 then if a=0 then bnd (kG (ReaderT.mk (Ll.mk d) a)) fun b=>eO p1 f (c++ [b.1]) (e+1) b.2.ae.ls b.2.aG else(c,d,a) else(c,d,a)
def kr (a:ReaderT) (p1:Int):(List bH) × ReaderT:=
 bnd (bnd (eO p1 ((Int.toNat p1 - 0)+1) ([]) 0 a.ae.ls a.aG) fun sLrJjL=>(sLrJjL.1,sLrJjL.2.1,sLrJjL.2.2)) fun sJrJ=>(sJrJ.1,ReaderT.mk (Ll.mk sJrJ.2.1) sJrJ.2.2)
theorem oC (w:World) (D:Nat→Prop) (t:Nat) (a:ReaderT) (b:Option Addr) (c:Nat) (p1:Int) (U:List bH) (r1:ReaderT) (H:Own w D w [blk t [.slice b a.ae.ls.length c, .int .i64 a.aG] 150]) (R:Ro w D fun w'=>bG w' 1 b a.ae.ls.length (List.flatMap eB a.ae.ls)) (az:a.ae.ls.length≤c∧a.ae.ls.length≤9223372036854775807) (bi:p1≤1000) (hr:kr a p1=(U,r1)):
    Calls Tryz.prog 137 #[.pointer (some ⟨t,0,none⟩), .int .i64 p1, .func (.func 118) #[] #[]] w (dE fun v w'=> ∃ (B0:Option Addr) (b0:Nat) (B1ox0:Option Addr) (b1ox0:Nat),v= .slice B0 U.length b0∧Own w D w' [row B0 U.length b0 (List.flatMap bH.cells U) 133 2,blk t [.slice B1ox0 r1.ae.ls.length b1ox0, .int .i64 r1.aG] 150]∧(aF 1 b c a.ae.ls B1ox0 b1ox0 r1.ae.ls)∧(U.length≤1000)):=by
 refine Ce (args:= [.pointer (some ⟨t,0,none⟩), .int .i64 p1, .func (.func 118) #[] #[]]) Tryz.func137 rfl rfl rfl ?_
 show Wp _ _ _ [(0, .pointer (some ⟨t,0,none⟩)),(1, .int .i64 p1),(2, .func (.func 118) #[] #[])] _ _
 refine sr (Ar rfl (An rfl (BS (sr (An rfl ?_)))))
 obtain⟨V,W⟩:∃ q:((Option Addr) × Nat × (List bH) × (Option Addr) × Nat × (List UInt8) × Int)→World→Prop,q=fun(i:(Option Addr) × Nat × (List bH) × (Option Addr) × Nat × (List UInt8) × Int) w'=>Own w D w' [blk t [.slice i.2.2.2.1 i.2.2.2.2.2.1.length i.2.2.2.2.1, .int .i64 i.2.2.2.2.2.2] 150,row i.1 i.2.2.1.length i.2.1 (List.flatMap bH.cells i.2.2.1) 133 2]∧(aF 1 b c a.ae.ls i.2.2.2.1 i.2.2.2.2.1 i.2.2.2.2.2.1∧0≤i.2.2.1.length∧i.2.2.2.2.2.1.length≤a.ae.ls.length∧i.2.2.2.2.2.1.length≤a.ae.ls.length+1∧i.2.2.1.length≤1000∧(bnd (eO p1 ((Int.toNat p1 - 0)+1) ([]) 0 a.ae.ls a.aG) fun sLrJjL=>(sLrJjL.1,sLrJjL.2.1,sLrJjL.2.2))=(i.2.2.1,i.2.2.2.2.2.1,i.2.2.2.2.2.2)):=⟨_,rfl⟩
 have C:∀ {E:Option Addr} {F:Nat} {l:List bH} {G:Option Addr} {I:Nat} {o:List UInt8} {J:Int} {w':World},V (E,F,l,G,I,o,J) w'↔Own w D w' [blk t [.slice G o.length I, .int .i64 J] 150,row E l.length F (List.flatMap bH.cells l) 133 2]∧aF 1 b c a.ae.ls G I o∧0≤l.length∧o.length≤a.ae.ls.length∧o.length≤a.ae.ls.length+1∧l.length≤1000∧(bnd (eO p1 ((Int.toNat p1 - 0)+1) ([]) 0 a.ae.ls a.aG) fun sLrJjL=>(sLrJjL.1,sLrJjL.2.1,sLrJjL.2.2))=(l,o,J):=by intros; subst W; exact Iff.rfl
 refine Df (fun i:(Option Addr) × Nat × (List bH) × (Option Addr) × Nat × (List UInt8) × Int=> [(7, .slice i.1 i.2.2.1.length i.2.1),(6, .slice none 0 0)]) V ?_ ?_
 refine bo ?_
 have aA:Own w D w [row none 0 0 (List.flatMap bH.cells ([])) 133 2,blk t [.slice b a.ae.ls.length c, .int .i64 a.aG] 150]:=H.free (iD 133 2)
 have aB:=aA.pk [1,0]
 obtain⟨X,Y⟩:∃ q:((Option Addr) × Nat × (List bH) × Nat × (Option Addr) × Nat × (List UInt8) × Int × Nat)→World→Prop,q=fun(i:(Option Addr) × Nat × (List bH) × Nat × (Option Addr) × Nat × (List UInt8) × Int × Nat) w'=>Own w D w' [blk t [.slice i.2.2.2.2.1 i.2.2.2.2.2.2.1.length i.2.2.2.2.2.1, .int .i64 i.2.2.2.2.2.2.2.1] 150,row i.1 i.2.2.1.length i.2.1 (List.flatMap bH.cells i.2.2.1) 133 2]∧(aF 1 b c a.ae.ls i.2.2.2.2.1 i.2.2.2.2.2.1 i.2.2.2.2.2.2.1∧i.2.2.1.length≤i.2.2.2.1∧(i.2.2.2.1=0∨((i.2.2.2.1:Nat):Int)≤p1)∧Int.toNat p1 - i.2.2.2.1 < i.2.2.2.2.2.2.2.2∧eO p1 ((Int.toNat p1 - 0)+1) ([]) 0 a.ae.ls a.aG=eO p1 i.2.2.2.2.2.2.2.2 i.2.2.1 i.2.2.2.1 i.2.2.2.2.2.2.1 i.2.2.2.2.2.2.2.1):=⟨_,rfl⟩
 have K:∀ {z:Option Addr} {A:Nat} {f:List bH} {g:Nat} {p:Option Addr} {n:Nat} {h:List UInt8} {j:Int} {B:Nat} {w':World},X (z,A,f,g,p,n,h,j,B) w'↔Own w D w' [blk t [.slice p h.length n, .int .i64 j] 150,row z f.length A (List.flatMap bH.cells f) 133 2]∧aF 1 b c a.ae.ls p n h∧f.length≤g∧(g=0∨((g:Nat):Int)≤p1)∧Int.toNat p1 - g < B∧eO p1 ((Int.toNat p1 - 0)+1) ([]) 0 a.ae.ls a.aG=eO p1 B f g h j:=by intros; subst Y; exact Iff.rfl
 refine Wp.loop (fun i:(Option Addr) × Nat × (List bH) × Nat × (Option Addr) × Nat × (List UInt8) × Int × Nat=> [(7, .slice i.1 i.2.2.1.length i.2.1),(8, .int .i64 ((i.2.2.2.1:Nat):Int)),(6, .slice none 0 0),(0, .pointer (some ⟨t,0,none⟩)),(1, .int .i64 p1),(2, .func (.func 118) #[] #[])]) X (fun i=>i.2.2.2.2.2.2.2.2) (none,0, [],0,b,c,a.ae.ls,a.aG,(Int.toNat p1 - 0)+1) ⟨rfl,rfl,rfl,rfl,rfl,rfl,trivial⟩ (K.2 ⟨aB,(show aF 1 b c a.ae.ls b c a.ae.ls∧0≤0∧(0=0∨((0:Nat):Int)≤p1)∧Int.toNat p1 - 0 < ((Int.toNat p1 - 0)+1)∧eO p1 ((Int.toNat p1 - 0)+1) ([]) 0 a.ae.ls a.aG=eO p1 ((Int.toNat p1 - 0)+1) ([]) 0 a.ae.ls a.aG from ⟨by exact(aF.refl (by omega)),by omega,by omega,by omega,rfl⟩)⟩) ?_
 rintro ⟨z,A,f,g,p,n,h,j,B⟩ bn Z
 show Wp _ _ _ [(7, .slice z f.length A),(8, .int .i64 ((g:Nat):Int)),(6, .slice none 0 0),(0, .pointer (some ⟨t,0,none⟩)),(1, .int .i64 p1),(2, .func (.func 118) #[] #[])] _ _
 obtain⟨M,r,aQ,aR,aS,L⟩:=K.1 Z
 have aT:=(r).le
 obtain⟨S,aa⟩:∃ q,B=q+1:=⟨B - 1,by omega⟩
 subst aa
 refine BS (sr (Mz rfl (Mz rfl (Kz (.bool (decide (((g:Nat):Int) < p1))) (Mz rfl ?_)))))
 by_cases d:((g:Nat):Int) < p1
 refine gw (.pointer (some ⟨t,0,none⟩)) (dT d) (BX rfl) (Gz (.pointer (some ⟨t,0,none⟩)) (dT d) (Gz (.pointer (some ⟨t,1,none⟩)) (dT d) (Gl (.int .i64 j) (dT d) M 0 Tryz.isAgg38 (Gz (.bool (decide (j=0))) (dT d) (fw (.bool (decide (j=0))) (BZ rfl (dT d) rfl) (nt ?_))))))
 by_cases N:j=0
 refine jT (dT N) (sk (BS (bo (BR (Mz rfl (Mz rfl (Mz rfl ?_)))))))
 obtain⟨⟨u,O⟩,P⟩:∃ q:bH × ReaderT,kG (ReaderT.mk (Ll.mk h) j)=q:=⟨_,rfl⟩
 obtain⟨bq,ae,af,ah,aU⟩:=Cg M
 refine WL.do rfl (CB Tryz.call118 rfl rfl (qD _ _ t (ReaderT.mk (Ll.mk h) j) p n u O ae (fun w9 h9=>aF.rds bA (by decide) r ((af _ R) w9 h9)) (show h.length≤n∧h.length≤9223372036854775807 from by omega) P) ?_)
 rintro _ bz ⟨ai,aj,rfl,ak,x⟩
 have aC:=ah _ _ ak
 replace x:aF 1 p n h ai aj O.ae.ls:=x
 have aV:=(x).le
 refine ji (bH.cells u) 133 2 1 aC ?_
 intro aD bB T
 replace T:=CG (y:=row aD 1 1 (List.flatMap bH.cells ([u])) 133 2) rfl T
 have au:=T.pk [2,0,1]
 refine WL.do rfl (CU (k:=f.length) (m:=1) (qR) au rfl rfl (j5 Tryz.underlying127 (au.rds (i:=1) rfl) (ja bH.one ([u]))) rfl (by omega) (s:=List.length (f++ [u])) (by first | omega | (simp only [List.length_append,List.length_cons,List.length_nil] <;> omega)) (List.flatMap_append).symm ?_)
 intro aG aH bC aI
 have aW:List.length (f++ [u])=f.length+1:=by simp only [List.length_append,List.length_cons,List.length_nil]
 refine Az rfl (Cf (bN (Ca (BR (Mz rfl (fw (.int .i64 ((g+1:Nat):Int)) (Ci (e:=IntKind.i64.wrap (((g:Nat):Int)+1)) yk (by rw [EL _ (by omega)]; omega)) (Az rfl (Cf ?_))))))))
 have aJ:=aI.pk [2,0]
 exact Cm (aG,aH,(f++ [u]),g+1,ai,aj,O.ae.ls,O.aG,S) ⟨rfl,rfl,rfl,rfl,rfl,rfl,trivial⟩ (K.2 ⟨aJ,by exact(aF.trans r x),by omega,by omega,by omega,et (L) (et (ip d) (et (ip N) (ag P)))⟩) (by show S < S+1; omega)
 refine jF (dF N) (Wp.exit (Cb (Cb (Cn ?_))))
 have aK:=M.pk [0,1]
 exact CV (z,A,f,p,n,h,j) ⟨rfl,rfl,trivial⟩ (C.2 ⟨aK,by exact r,by omega,by omega,by omega,by omega,ag (et (L) (et (ip d) (iN N)))⟩)
 refine Sz (dF d) (Sz (dF d) (Sz (dF d) (Sz (dF d) (Sz (dF d) (fw (.bool false) (BQ rfl (dF d) rfl) (nt (jf (Wp.exit (Cb (Cb (Cn ?_)))))))))))
 have aL:=M.pk [0,1]
 exact CV (z,A,f,p,n,h,j) ⟨rfl,rfl,trivial⟩ (C.2 ⟨aL,by exact r,by omega,by omega,by omega,by omega,ag (et (L) (iN d))⟩)
 rintro ⟨E,F,l,G,I,o,J⟩ bD av
 show Wp _ _ _ [(7, .slice E l.length F),(6, .slice none 0 0)] _ _
 obtain⟨aM,Q,aX,aY,aZ,bf,ax⟩:=C.1 av
 have bg:=(Q).le
 refine sr (Mz rfl (An rfl (rt (rs ?_))))
 have aN:=aM.pk [1,0]
 have e:kr a p1=(l,ReaderT.mk (Ll.mk o) J):=ag ax
 obtain⟨rfl,rfl⟩:=iI (e.symm.trans hr)
 exact⟨E,F,G,I,rfl,aN,Q,(by omega)⟩
def jK (c:ReaderT) (p1:Nat):(List bH) × ReaderT:=
 bnd (aQ c p1) fun a=>bnd (kr a.2 ((a.1:Nat):Int)) fun b=>(b.1,b.2)
theorem oK (w:World) (D:Nat→Prop) (p:Nat) (f:ReaderT) (b:Option Addr) (a:Nat) (p1:Nat) (u:List bH) (K:ReaderT) (H:Own w D w [blk p [.slice b f.ae.ls.length a, .int .i64 f.aG] 150]) (j:Ro w D fun w'=>bG w' 1 b f.ae.ls.length (List.flatMap eB f.ae.ls)) (L:f.ae.ls.length≤a∧f.ae.ls.length≤9223372036854775807) (X:p1≤1000) (hr:jK f p1=(u,K)):
    Calls Tryz.prog 117 #[.pointer (some ⟨p,0,none⟩), .int .u64 ((p1:Nat):Int), .func (.func 118) #[] #[]] w (dE fun v w'=> ∃ (Q:Option Addr) (R:Nat) (B1ox0:Option Addr) (b1ox0:Nat),v= .slice Q u.length R∧Own w D w' [row Q u.length R (List.flatMap bH.cells u) 133 2,blk p [.slice B1ox0 K.ae.ls.length b1ox0, .int .i64 K.aG] 150]∧(aF 1 b a f.ae.ls B1ox0 b1ox0 K.ae.ls)∧(u.length≤1000)):=by
 refine Ce (args:= [.pointer (some ⟨p,0,none⟩), .int .u64 ((p1:Nat):Int), .func (.func 118) #[] #[]]) Tryz.func117 rfl rfl rfl ?_
 show Wp _ _ _ [(0, .pointer (some ⟨p,0,none⟩)),(1, .int .u64 ((p1:Nat):Int)),(2, .func (.func 118) #[] #[])] _ _
 refine sr (Ar rfl (Mz rfl (Mz rfl (Mz rfl ?_))))
 obtain⟨⟨h,d⟩,l⟩:∃ q:Nat × ReaderT,aQ f p1=q:=⟨_,rfl⟩
 obtain⟨Y,x,y,z,S⟩:=Cg H
 refine cl Tryz.call93 (fD _ _ p f b a p1 h d x (y _ j) (show f.ae.ls.length≤a∧f.ae.ls.length≤9223372036854775807 from by omega) l) ?_
 rintro _ Z ⟨r,k,rfl,A,c,m⟩
 have M:=z _ _ A
 replace c:aF 1 b a f.ae.ls r k d.ae.ls:=c
 have T:=(c).le
 replace m:h≤p1:=m
 refine fw (.int .i64 ((h:Nat):Int)) (Ci (e:=IntKind.i64.wrap ((h:Nat):Int)) yk (EL _ (by omega))) (Mz rfl ?_)
 obtain⟨⟨s,t⟩,n⟩:∃ q:(List bH) × ReaderT,kr d ((h:Nat):Int)=q:=⟨_,rfl⟩
 obtain⟨aa,B,C,E,U⟩:=Cg M
 refine cl Tryz.call137 (oC _ _ p d r k ((h:Nat):Int) s t B (fun w9 h9=>aF.rds bA (by decide) c ((C _ j) w9 h9)) (show d.ae.ls.length≤k∧d.ae.ls.length≤9223372036854775807 from by omega) (by omega) n) ?_
 rintro _ ah ⟨N,O,F,G,rfl,I,g,o⟩
 have J:=E _ _ I
 replace g:aF 1 r k d.ae.ls F G t.ae.ls:=g
 have V:=(g).le
 have W:=J.rowC (i:=0) rfl
 replace o:s.length≤1000:=o
 refine An rfl (rt (rs ?_))
 have P:=J.pk [0,1]
 have e:jK f p1=(s,t):=et (ag l) (ag n)
 obtain⟨rfl,rfl⟩:=iI (e.symm.trans hr)
 exact⟨N,O,F,G,rfl,P,(aF.trans c g),(by omega)⟩
def jO (d:ReaderT):cK × ReaderT:=
 bnd (aQ d 1) fun a=>bnd (dI a.2) fun b=>bnd (jK b.2 255) fun c=>(cK.mk (decide (((a.1:Nat):Int)=1)) b.1 (Ll.mk c.1),c.2)
set_option maxHeartbeats 1000000 in
theorem pX (w:World) (D:Nat→Prop) (x:Nat) (n:ReaderT) (d:Option Addr) (a:Nat) (G:cK) (r1:ReaderT) (H:Own w D w [blk x [.slice d n.ae.ls.length a, .int .i64 n.aG] 150]) (g:Ro w D fun w'=>bG w' 1 d n.ae.ls.length (List.flatMap eB n.ae.ls)) (ak:n.ae.ls.length≤a∧n.ae.ls.length≤9223372036854775807) (hr:jO n=(G,r1)):
    Calls Tryz.prog 104 #[.pointer (some ⟨x,0,none⟩)] w (dE fun v w'=> ∃ (y:Option Addr) (z:Nat) (B1ox0:Option Addr) (b1ox0:Nat),v= .agg #[.bool G.eT, .string ⟨List.toArray G.aC⟩, .slice y G.aA.ls.length z]∧Own w D w' [row y G.aA.ls.length z (List.flatMap bH.cells G.aA.ls) 133 2,blk x [.slice B1ox0 r1.ae.ls.length b1ox0, .int .i64 r1.aG] 150]∧(aF 1 d a n.ae.ls B1ox0 b1ox0 r1.ae.ls)∧(G.aA.ls.length≤1000)):=by
 refine Ce (args:= [.pointer (some ⟨x,0,none⟩)]) Tryz.func104 rfl rfl rfl ?_
 show Wp _ _ _ [(0, .pointer (some ⟨x,0,none⟩))] _ _
 refine sr ?_
 refine dB [.bool false, .string ⟨List.toArray ([])⟩, .slice none 0 0] 129 H ?_
 intro aS aT au
 refine ns (Mz rfl ?_)
 have av:=au.pk [1,0]
 obtain⟨⟨c,h⟩,A⟩:∃ q:Nat × ReaderT,aQ n 1=q:=⟨_,rfl⟩
 obtain⟨aU,L,M,N,aK⟩:=Cg av
 refine cl Tryz.call93 (fD _ _ x n d a 1 c h L (M _ g) (show n.ae.ls.length≤a∧n.ae.ls.length≤9223372036854775807 from by omega) A) ?_
 rintro _ aV ⟨I,t,rfl,O,b,B⟩
 have ax:=N _ _ O
 replace b:aF 1 d a n.ae.ls I t h.ae.ls:=b
 have aL:=(b).le
 replace B:c≤1:=B
 refine Kz (.bool (decide (((c:Nat):Int)=1))) (Kz (.agg #[.bool (decide (((c:Nat):Int)=1)), .string ⟨List.toArray ([])⟩, .slice none 0 0]) ?_)
 refine dB [.bool false, .string ⟨List.toArray ([])⟩, .slice none 0 0] 129 ax ?_
 intro P aW ay
 refine dw [.bool (decide (((c:Nat):Int)=1)), .string ⟨List.toArray ([])⟩, .slice none 0 0] 0 ay Tryz.sizeOf129 ?_
 intro aX az
 refine ns (Mz rfl ?_)
 have aA:=az.pk [1,0,2]
 obtain⟨⟨p,j⟩,C⟩:∃ q:(List UInt8) × ReaderT,dI h=q:=⟨_,rfl⟩
 obtain⟨aY,Q,R,S,aM⟩:=Cg aA
 refine cl Tryz.call95 (ig _ _ x h I t p j Q (fun T U=>aF.rds bA (by decide) b ((R _ g) T U)) (show h.ae.ls.length≤t∧h.ae.ls.length≤9223372036854775807 from by omega) C) ?_
 rintro _ aZ ⟨J,u,rfl,V,f⟩
 have aB:=S _ _ V
 replace f:aF 1 I t h.ae.ls J u j.ae.ls:=f
 have aN:=(f).le
 refine Kz (.pointer (some ⟨P,1,none⟩)) ?_
 have aC:=aB.pk [1,0,2]
 refine dw [.string ⟨List.toArray p⟩] 1 aC Tryz.sizeOf9 ?_
 intro bf aD
 refine ns (Mz rfl ?_)
 have aG:=aD.pk [1,0,2]
 obtain⟨⟨l,K⟩,E⟩:∃ q:(List bH) × ReaderT,jK j 255=q:=⟨_,rfl⟩
 obtain⟨bg,W,X,Y,aO⟩:=Cg aG
 refine cl Tryz.call117 (oK _ _ x j J u 255 l K W (fun T U=>aF.rds bA (by decide) f ((fun T U=>aF.rds bA (by decide) b ((X _ g) T U)) T U)) (show j.ae.ls.length≤u∧j.ae.ls.length≤9223372036854775807 from by omega) (by omega) E) ?_
 rintro _ bi ⟨r,s,Z,aa,rfl,ae,o,F⟩
 have af:=Y _ _ ae
 replace o:aF 1 J u j.ae.ls Z aa K.ae.ls:=o
 have aP:=(o).le
 have aR:=af.rowC (i:=0) rfl
 replace F:l.length≤1000:=F
 refine Kz (.pointer (some ⟨P,2,none⟩)) ?_
 have aH:=af.pk [2,0,1,3]
 refine dw [.slice r l.length s] 2 aH Tryz.sizeOf127 ?_
 intro bn ah
 refine ns (La ([.bool (decide (((c:Nat):Int)=1)), .string ⟨List.toArray p⟩, .slice r l.length s]) ah 0 Tryz.isAgg129 Tryz.sizeOf129 ?_)
 have aI:=ah.pk [3,0,1,2]
 refine dw [.bool (decide (((c:Nat):Int)=1)), .string ⟨List.toArray p⟩, .slice r l.length s] 0 aI Tryz.sizeOf129 ?_
 intro bq ai
 refine nt (rt (CK (mY rfl rfl (Cu (cs:= [.bool (decide (((c:Nat):Int)=1)), .string ⟨List.toArray p⟩, .slice r l.length s]) Tryz.isAgg129 Tryz.sizeOf129 ((ai.cls (i:=0) rfl).lit (k:=0) (m:=3) rfl))) ?_))
 have aJ:=ai.pk [2,3]
 have e:jO n=(cK.mk (decide (((c:Nat):Int)=1)) p (Ll.mk l),K):=et (ag A) (et (ag C) (ag E))
 obtain⟨rfl,rfl⟩:=iI (e.symm.trans hr)
 exact⟨r,s,Z,aa,rfl,aJ,(aF.trans (aF.trans b f) o),(by first | omega | (dsimp only; omega) | (simp only [List.length_nil]; omega) | decide)⟩
def dX (p1:Int):Nat→List cK→Nat→List UInt8→Int→(List cK) × (List UInt8) × Int
  | 0,c,e,d,a=>default
  | f+1,c,e,d,a=>if((e:Nat):Int) < p1 then if a=0 then bnd (jO (ReaderT.mk (Ll.mk d) a)) fun b=>dX p1 f (c++ [b.1]) (e+1) b.2.ae.ls b.2.aG else(c,d,a) else(c,d,a)
def jM (a:ReaderT) (p1:Int):(List cK) × ReaderT:=
 bnd (bnd (dX p1 ((Int.toNat p1 - 0)+1) ([]) 0 a.ae.ls a.aG) fun sLrJjL=>(sLrJjL.1,sLrJjL.2.1,sLrJjL.2.2)) fun sJrJ=>(sJrJ.1,ReaderT.mk (Ll.mk sJrJ.2.1) sJrJ.2.2)
theorem nS (w:World) (D:Nat→Prop) (x:Nat) (d:ReaderT) (b:Option Addr) (c:Nat) (p1:Int) (r0:List cK) (r1:ReaderT) (H:Own w D w [blk x [.slice b d.ae.ls.length c, .int .i64 d.aG] 150]) (Z:Ro w D fun w'=>bG w' 1 b d.ae.ls.length (List.flatMap eB d.ae.ls)) (aP:d.ae.ls.length≤c∧d.ae.ls.length≤9223372036854775807) (bQ:p1≤1000) (hr:jM d p1=(r0,r1)):
    Calls Tryz.prog 116 #[.pointer (some ⟨x,0,none⟩), .int .i64 p1, .func (.func 104) #[] #[]] w (dE fun v w'=> ∃ (B0:Option Addr) (b0:Nat) (e0:List aD) (B1ox0:Option Addr) (b1ox0:Nat),v= .slice B0 r0.length b0∧Own w D w' [row B0 r0.length b0 (List.flatMap aD.cells e0) 129 3,sepL (List.flatMap CZ e0),blk x [.slice B1ox0 r1.ae.ls.length b1ox0, .int .i64 r1.aG] 150]∧(List.map Cj e0=r0)∧(aF 1 b c d.ae.ls B1ox0 b1ox0 r1.ae.ls)∧(r0.length≤1000)):=by
 refine Ce (args:= [.pointer (some ⟨x,0,none⟩), .int .i64 p1, .func (.func 104) #[] #[]]) Tryz.func116 rfl rfl rfl ?_
 show Wp _ _ _ [(0, .pointer (some ⟨x,0,none⟩)),(1, .int .i64 p1),(2, .func (.func 104) #[] #[])] _ _
 refine sr (Ar rfl (An rfl (BS (sr (An rfl ?_)))))
 obtain⟨au,av⟩:∃ q:((Option Addr) × Nat × (List aD) × (List cK) × (Option Addr) × Nat × (List UInt8) × Int)→World→Prop,q=fun(i:(Option Addr) × Nat × (List aD) × (List cK) × (Option Addr) × Nat × (List UInt8) × Int) w'=>Own w D w' [blk x [.slice i.2.2.2.2.1 i.2.2.2.2.2.2.1.length i.2.2.2.2.2.1, .int .i64 i.2.2.2.2.2.2.2] 150,row i.1 i.2.2.2.1.length i.2.1 (List.flatMap aD.cells i.2.2.1) 129 3,sepL (List.flatMap CZ i.2.2.1)]∧(List.map Cj i.2.2.1=i.2.2.2.1∧aF 1 b c d.ae.ls i.2.2.2.2.1 i.2.2.2.2.2.1 i.2.2.2.2.2.2.1∧0≤i.2.2.2.1.length∧i.2.2.2.2.2.2.1.length≤d.ae.ls.length∧i.2.2.2.2.2.2.1.length≤d.ae.ls.length+1∧i.2.2.2.1.length≤1000∧(bnd (dX p1 ((Int.toNat p1 - 0)+1) ([]) 0 d.ae.ls d.aG) fun sLrJjL=>(sLrJjL.1,sLrJjL.2.1,sLrJjL.2.2))=(i.2.2.2.1,i.2.2.2.2.2.2.1,i.2.2.2.2.2.2.2)):=⟨_,rfl⟩
 have L:∀ {M:Option Addr} {N:Nat} {F:List aD} {t:List cK} {O:Option Addr} {P:Nat} {z:List UInt8} {Q:Int} {w':World},au (M,N,F,t,O,P,z,Q) w'↔Own w D w' [blk x [.slice O z.length P, .int .i64 Q] 150,row M t.length N (List.flatMap aD.cells F) 129 3,sepL (List.flatMap CZ F)]∧List.map Cj F=t∧aF 1 b c d.ae.ls O P z∧0≤t.length∧z.length≤d.ae.ls.length∧z.length≤d.ae.ls.length+1∧t.length≤1000∧(bnd (dX p1 ((Int.toNat p1 - 0)+1) ([]) 0 d.ae.ls d.aG) fun sLrJjL=>(sLrJjL.1,sLrJjL.2.1,sLrJjL.2.2))=(t,z,Q):=by intros; subst av; exact Iff.rfl
 refine Df (fun i:(Option Addr) × Nat × (List aD) × (List cK) × (Option Addr) × Nat × (List UInt8) × Int=> [(7, .slice i.1 i.2.2.2.1.length i.2.1),(6, .slice none 0 0)]) au ?_ ?_
 refine bo ?_
 have aR:Own w D w [sepL (List.flatMap CZ ([])),blk x [.slice b d.ae.ls.length c, .int .i64 d.aG] 150]:=H.sepNil
 have aS:Own w D w [row none 0 0 (List.flatMap aD.cells ([])) 129 3,sepL (List.flatMap CZ ([])),blk x [.slice b d.ae.ls.length c, .int .i64 d.aG] 150]:=aR.free (iD 129 3)
 have aT:=aS.pk [2,0,1]
 obtain⟨ax,ay⟩:∃ q:((Option Addr) × Nat × (List aD) × (List cK) × Nat × (Option Addr) × Nat × (List UInt8) × Int × Nat)→World→Prop,q=fun(i:(Option Addr) × Nat × (List aD) × (List cK) × Nat × (Option Addr) × Nat × (List UInt8) × Int × Nat) w'=>Own w D w' [blk x [.slice i.2.2.2.2.2.1 i.2.2.2.2.2.2.2.1.length i.2.2.2.2.2.2.1, .int .i64 i.2.2.2.2.2.2.2.2.1] 150,row i.1 i.2.2.2.1.length i.2.1 (List.flatMap aD.cells i.2.2.1) 129 3,sepL (List.flatMap CZ i.2.2.1)]∧(List.map Cj i.2.2.1=i.2.2.2.1∧aF 1 b c d.ae.ls i.2.2.2.2.2.1 i.2.2.2.2.2.2.1 i.2.2.2.2.2.2.2.1∧i.2.2.2.1.length≤i.2.2.2.2.1∧(i.2.2.2.2.1=0∨((i.2.2.2.2.1:Nat):Int)≤p1)∧Int.toNat p1 - i.2.2.2.2.1 < i.2.2.2.2.2.2.2.2.2∧dX p1 ((Int.toNat p1 - 0)+1) ([]) 0 d.ae.ls d.aG=dX p1 i.2.2.2.2.2.2.2.2.2 i.2.2.2.1 i.2.2.2.2.1 i.2.2.2.2.2.2.2.1 i.2.2.2.2.2.2.2.2.1):=⟨_,rfl⟩
 have R:∀ {G:Option Addr} {I:Nat} {o:List aD} {g:List cK} {j:Nat} {A:Option Addr} {u:Nat} {l:List UInt8} {n:Int} {J:Nat} {w':World},ax (G,I,o,g,j,A,u,l,n,J) w'↔Own w D w' [blk x [.slice A l.length u, .int .i64 n] 150,row G g.length I (List.flatMap aD.cells o) 129 3,sepL (List.flatMap CZ o)]∧List.map Cj o=g∧aF 1 b c d.ae.ls A u l∧g.length≤j∧(j=0∨((j:Nat):Int)≤p1)∧Int.toNat p1 - j < J∧dX p1 ((Int.toNat p1 - 0)+1) ([]) 0 d.ae.ls d.aG=dX p1 J g j l n:=by intros; subst ay; exact Iff.rfl
 refine Wp.loop (fun i:(Option Addr) × Nat × (List aD) × (List cK) × Nat × (Option Addr) × Nat × (List UInt8) × Int × Nat=> [(7, .slice i.1 i.2.2.2.1.length i.2.1),(8, .int .i64 ((i.2.2.2.2.1:Nat):Int)),(6, .slice none 0 0),(0, .pointer (some ⟨x,0,none⟩)),(1, .int .i64 p1),(2, .func (.func 104) #[] #[])]) ax (fun i=>i.2.2.2.2.2.2.2.2.2) (none,0, [], [],0,b,c,d.ae.ls,d.aG,(Int.toNat p1 - 0)+1) ⟨rfl,rfl,rfl,rfl,rfl,rfl,trivial⟩ (R.2 ⟨aT,(show List.map Cj ([])=([])∧aF 1 b c d.ae.ls b c d.ae.ls∧0≤0∧(0=0∨((0:Nat):Int)≤p1)∧Int.toNat p1 - 0 < ((Int.toNat p1 - 0)+1)∧dX p1 ((Int.toNat p1 - 0)+1) ([]) 0 d.ae.ls d.aG=dX p1 ((Int.toNat p1 - 0)+1) ([]) 0 d.ae.ls d.aG from ⟨by exact rfl,by exact(aF.refl (by omega)),by omega,by omega,by omega,rfl⟩)⟩) ?_
 rintro ⟨G,I,o,g,j,A,u,l,n,J⟩ bR az
 show Wp _ _ _ [(7, .slice G g.length I),(8, .int .i64 ((j:Nat):Int)),(6, .slice none 0 0),(0, .pointer (some ⟨x,0,none⟩)),(1, .int .i64 p1),(2, .func (.func 104) #[] #[])] _ _
 obtain⟨V,B,C,bD,bE,bF,S⟩:=R.1 az
 have bI:=dm B
 have bJ:=(C).le
 obtain⟨aa,aA⟩:∃ q,J=q+1:=⟨J - 1,by omega⟩
 subst aA
 refine BS (sr (Mz rfl (Mz rfl (Kz (.bool (decide (((j:Nat):Int) < p1))) (Mz rfl ?_)))))
 by_cases h:((j:Nat):Int) < p1
 refine gw (.pointer (some ⟨x,0,none⟩)) (dT h) (BX rfl) (Gz (.pointer (some ⟨x,0,none⟩)) (dT h) (Gz (.pointer (some ⟨x,1,none⟩)) (dT h) (Gl (.int .i64 n) (dT h) V 0 Tryz.isAgg38 (Gz (.bool (decide (n=0))) (dT h) (fw (.bool (decide (n=0))) (BZ rfl (dT h) rfl) (nt ?_))))))
 by_cases W:n=0
 refine jT (dT W) (sk (BS (bo (BR (Mz rfl (Mz rfl (Mz rfl ?_)))))))
 obtain⟨⟨a,K⟩,X⟩:∃ q:cK × ReaderT,jO (ReaderT.mk (Ll.mk l) n)=q:=⟨_,rfl⟩
 obtain⟨bS,aB,aC,aG,bK⟩:=Cg V
 refine WL.do rfl (CB Tryz.call104 rfl rfl (pX _ _ x (ReaderT.mk (Ll.mk l) n) A u a K aB (fun w9 h9=>aF.rds bA (by decide) C ((aC _ Z) w9 h9)) (show l.length≤u∧l.length≤9223372036854775807 from by omega) X) ?_)
 rintro _ bV ⟨p,r,ae,af,rfl,aH,E,Y⟩
 have aI:=aG _ _ aH
 replace E:aF 1 A u l ae af K.ae.ls:=E
 have bL:=(E).le
 have bM:=aI.rowC (i:=0) rfl
 replace Y:a.aA.ls.length≤1000:=Y
 refine ji [.bool a.eT, .string ⟨List.toArray a.aC⟩, .slice p a.aA.ls.length r] 129 3 1 aI ?_
 intro aJ bW ah
 replace ah:=CG (y:=row aJ 1 1 (List.flatMap aD.cells ([(aD.mk a.eT a.aC (Sv.mk p r a.aA.ls))])) 129 3) rfl ah
 have aK:=ah.pk [3,4,1,0,2]
 refine WL.do rfl (CU (k:=g.length) (m:=1) (sI) aK rfl rfl (j5 Tryz.underlying82 (aK.rds (i:=3) rfl) (ja aD.one ([(aD.mk a.eT a.aC (Sv.mk p r a.aA.ls))]))) rfl (by omega) (s:=List.length (g++ [a])) (by first | omega | (simp only [List.length_append,List.length_cons,List.length_nil] <;> omega)) (List.flatMap_append).symm ?_)
 intro aL aM aU aV
 have aW:=aV.pk [1,2,0,3,4]
 have aX:Own w D aU [sepL (List.flatMap CZ (o++ [(aD.mk a.eT a.aC (Sv.mk p r a.aA.ls))])),row aL (List.length (g++ [a])) aM (List.flatMap aD.cells (o++ [(aD.mk a.eT a.aC (Sv.mk p r a.aA.ls))])) 129 3,row aJ 1 1 (List.flatMap aD.cells ([(aD.mk a.eT a.aC (Sv.mk p r a.aA.ls))])) 129 3,blk x [.slice ae K.ae.ls.length af, .int .i64 K.aG] 150]:=aW.sepAdd (L2:= [row p a.aA.ls.length r (List.flatMap bH.cells a.aA.ls) 133 2]) (List.flatMap_append (f:=CZ) (xs:=o) (ys:= [(aD.mk a.eT a.aC (Sv.mk p r a.aA.ls))])).symm
 have bO:List.length (g++ [a])=g.length+1:=by simp only [List.length_append,List.length_cons,List.length_nil]
 have bP:=dm (mR (es:= [(aD.mk a.eT a.aC (Sv.mk p r a.aA.ls))]) (ms:= [a]) B rfl)
 refine Az rfl (Cf (bN (Ca (BR (Mz rfl (fw (.int .i64 ((j+1:Nat):Int)) (Ci (e:=IntKind.i64.wrap (((j:Nat):Int)+1)) yk (by rw [EL _ (by omega)]; omega)) (Az rfl (Cf ?_))))))))
 have aY:=aX.pk [3,1,0]
 exact Cm (aL,aM,(o++ [(aD.mk a.eT a.aC (Sv.mk p r a.aA.ls))]),(g++ [a]),j+1,ae,af,K.ae.ls,K.aG,aa) ⟨rfl,rfl,rfl,rfl,rfl,rfl,trivial⟩ (R.2 ⟨aY,by exact(mR (es:= [(aD.mk a.eT a.aC (Sv.mk p r a.aA.ls))]) (ms:= [a]) B rfl),by exact(aF.trans C E),by omega,by omega,by omega,et (S) (et (ip h) (et (ip W) (ag X)))⟩) (by show aa < aa+1; omega)
 refine jF (dF W) (Wp.exit (Cb (Cb (Cn ?_))))
 have aZ:=V.pk [0,1,2]
 exact CV (G,I,o,g,A,u,l,n) ⟨rfl,rfl,trivial⟩ (L.2 ⟨aZ,by exact B,by exact C,by omega,by omega,by omega,by omega,ag (et (S) (et (ip h) (iN W)))⟩)
 refine Sz (dF h) (Sz (dF h) (Sz (dF h) (Sz (dF h) (Sz (dF h) (fw (.bool false) (BQ rfl (dF h) rfl) (nt (jf (Wp.exit (Cb (Cb (Cn ?_)))))))))))
 have bf:=V.pk [0,1,2]
 exact CV (G,I,o,g,A,u,l,n) ⟨rfl,rfl,trivial⟩ (L.2 ⟨bf,by exact B,by exact C,by omega,by omega,by omega,by omega,ag (et (S) (iN h))⟩)
 rintro ⟨M,N,F,t,O,P,z,Q⟩ bX ai
 show Wp _ _ _ [(7, .slice M t.length N),(6, .slice none 0 0)] _ _
 obtain⟨bg,T,U,bi,bn,bq,bu,aj⟩:=L.1 ai
 have bv:=dm T
 have bz:=(U).le
 refine sr (Mz rfl (An rfl (rt (rs ?_))))
 have aN:=bg.pk [1,2,0]
 have e:jM d p1=(t,ReaderT.mk (Ll.mk z) Q):=ag aj
 obtain⟨rfl,rfl⟩:=iI (e.symm.trans hr)
 exact⟨M,N,F,O,P,rfl,aN,T,U,(by omega)⟩
def jo (c:ReaderT) (p1:Nat):(List cK) × ReaderT:=
 bnd (aQ c p1) fun a=>bnd (jM a.2 ((a.1:Nat):Int)) fun b=>(b.1,b.2)
theorem nY (w:World) (D:Nat→Prop) (r:Nat) (f:ReaderT) (b:Option Addr) (a:Nat) (p1:Nat) (x:List cK) (L:ReaderT) (H:Own w D w [blk r [.slice b f.ae.ls.length a, .int .i64 f.aG] 150]) (j:Ro w D fun w'=>bG w' 1 b f.ae.ls.length (List.flatMap eB f.ae.ls)) (M:f.ae.ls.length≤a∧f.ae.ls.length≤9223372036854775807) (ae:p1≤1000) (hr:jo f p1=(x,L)):
    Calls Tryz.prog 103 #[.pointer (some ⟨r,0,none⟩), .int .u64 ((p1:Nat):Int), .func (.func 104) #[] #[]] w (dE fun v w'=> ∃ (T:Option Addr) (U:Nat) (N:List aD) (B1ox0:Option Addr) (b1ox0:Nat),v= .slice T x.length U∧Own w D w' [row T x.length U (List.flatMap aD.cells N) 129 3,sepL (List.flatMap CZ N),blk r [.slice B1ox0 L.ae.ls.length b1ox0, .int .i64 L.aG] 150]∧(List.map Cj N=x)∧(aF 1 b a f.ae.ls B1ox0 b1ox0 L.ae.ls)∧(x.length≤1000)):=by
 refine Ce (args:= [.pointer (some ⟨r,0,none⟩), .int .u64 ((p1:Nat):Int), .func (.func 104) #[] #[]]) Tryz.func103 rfl rfl rfl ?_
 show Wp _ _ _ [(0, .pointer (some ⟨r,0,none⟩)),(1, .int .u64 ((p1:Nat):Int)),(2, .func (.func 104) #[] #[])] _ _
 refine sr (Ar rfl (Mz rfl (Mz rfl (Mz rfl ?_))))
 obtain⟨⟨h,d⟩,l⟩:∃ q:Nat × ReaderT,aQ f p1=q:=⟨_,rfl⟩
 obtain⟨af,y,z,A,V⟩:=Cg H
 refine cl Tryz.call93 (fD _ _ r f b a p1 h d y (z _ j) (show f.ae.ls.length≤a∧f.ae.ls.length≤9223372036854775807 from by omega) l) ?_
 rintro _ ah ⟨s,k,rfl,B,c,m⟩
 have O:=A _ _ B
 replace c:aF 1 b a f.ae.ls s k d.ae.ls:=c
 have W:=(c).le
 replace m:h≤p1:=m
 refine fw (.int .i64 ((h:Nat):Int)) (Ci (e:=IntKind.i64.wrap ((h:Nat):Int)) yk (EL _ (by omega))) (Mz rfl ?_)
 obtain⟨⟨t,u⟩,n⟩:∃ q:(List cK) × ReaderT,jM d ((h:Nat):Int)=q:=⟨_,rfl⟩
 obtain⟨ai,C,E,F,X⟩:=Cg O
 refine cl Tryz.call116 (nS _ _ r d s k ((h:Nat):Int) t u C (fun w9 h9=>aF.rds bA (by decide) c ((E _ j) w9 h9)) (show d.ae.ls.length≤k∧d.ae.ls.length≤9223372036854775807 from by omega) (by omega) n) ?_
 rintro _ au ⟨P,Q,R,G,I,rfl,J,o,g,p⟩
 have K:=F _ _ J
 replace g:aF 1 s k d.ae.ls G I u.ae.ls:=g
 have Y:=(g).le
 have Z:=dm o
 have aa:=K.rowC (i:=0) rfl
 replace p:t.length≤1000:=p
 refine An rfl (rt (rs ?_))
 have S:=K.pk [0,1,2]
 have e:jo f p1=(t,u):=et (ag l) (ag n)
 obtain⟨rfl,rfl⟩:=iI (e.symm.trans hr)
 exact⟨P,Q,R,G,I,rfl,S,o,(aF.trans c g),(by omega)⟩
def kI (e:ReaderT):eD × ReaderT:=
 bnd (dZ e) fun a=>bnd (bv a.2) fun b=>bnd (bv b.2) fun c=>bnd (jo c.2 255) fun d=>(eD.mk a.1 b.1 c.1 (Ll.mk d.1),d.2)
set_option maxHeartbeats 1000000 in
theorem qG (w:World) (D:Nat→Prop) (E:Nat) (t:ReaderT) (h:Option Addr) (b:Nat) (J:eD) (r1:ReaderT) (H:Own w D w [blk E [.slice h t.ae.ls.length b, .int .i64 t.aG] 150]) (d:Ro w D fun w'=>bG w' 1 h t.ae.ls.length (List.flatMap eB t.ae.ls)) (aP:t.ae.ls.length≤b∧t.ae.ls.length≤9223372036854775807) (hr:kI t=(J,r1)):
    Calls Tryz.prog 66 #[.pointer (some ⟨E,0,none⟩)] w (dE fun v w'=> ∃ (K:Option Addr) (L:Nat) (u:List aD) (B1ox0:Option Addr) (b1ox0:Nat),v= .agg #[.int .i64 J.ak, .int .u64 ((J.aj:Nat):Int), .int .u64 ((J.bJ:Nat):Int), .slice K J.au.ls.length L]∧Own w D w' [row K J.au.ls.length L (List.flatMap aD.cells u) 129 3,sepL (List.flatMap CZ u),blk E [.slice B1ox0 r1.ae.ls.length b1ox0, .int .i64 r1.aG] 150]∧(List.map Cj u=J.au.ls)∧(aF 1 h b t.ae.ls B1ox0 b1ox0 r1.ae.ls)∧(J.au.ls.length≤1000)):=by
 refine Ce (args:= [.pointer (some ⟨E,0,none⟩)]) Tryz.func66 rfl rfl rfl ?_
 show Wp _ _ _ [(0, .pointer (some ⟨E,0,none⟩))] _ _
 refine sr ?_
 refine dB [.int .i64 0, .int .u64 0, .int .u64 0, .slice none 0 0] 84 H ?_
 intro bL bM aQ
 refine ns (Mz rfl ?_)
 have aR:=aQ.pk [1,0]
 obtain⟨⟨f,l⟩,M⟩:∃ q:Int × ReaderT,dZ t=q:=⟨_,rfl⟩
 obtain⟨bN,af,ah,ai,bB⟩:=Cg aR
 refine cl Tryz.call50 (jr _ _ E t h b f l af (ah _ d) (show t.ae.ls.length≤b∧t.ae.ls.length≤9223372036854775807 from by omega) M) ?_
 rintro _ bO ⟨X,F,rfl,aj,a,N⟩
 have aS:=ai _ _ aj
 replace a:aF 1 h b t.ae.ls X F l.ae.ls:=a
 have bC:=(a).le
 replace N:0≤f∧f≤255:=N
 refine Kz (.agg #[.int .i64 f, .int .u64 0, .int .u64 0, .slice none 0 0]) ?_
 refine dB [.int .i64 0, .int .u64 0, .int .u64 0, .slice none 0 0] 84 aS ?_
 intro Y bP aT
 refine dw [.int .i64 f, .int .u64 0, .int .u64 0, .slice none 0 0] 0 aT Tryz.sizeOf84 ?_
 intro bQ aU
 refine ns (Mz rfl ?_)
 have aV:=aU.pk [1,0,2]
 obtain⟨⟨n,o⟩,O⟩:∃ q:Nat × ReaderT,bv l=q:=⟨_,rfl⟩
 obtain⟨bR,ak,au,av,bD⟩:=Cg aV
 refine cl Tryz.call51 (dW _ _ E l X F n o ak (fun x y=>aF.rds bA (by decide) a ((au _ d) x y)) (show l.ae.ls.length≤F∧l.ae.ls.length≤9223372036854775807 from by omega) O) ?_
 rintro _ bS ⟨Z,G,rfl,ax,c,P⟩
 have aW:=av _ _ ax
 replace c:aF 1 X F l.ae.ls Z G o.ae.ls:=c
 have bE:=(c).le
 replace P:n≤18446744073709551615:=P
 refine Kz (.pointer (some ⟨Y,1,none⟩)) ?_
 have aX:=aW.pk [1,0,2]
 refine dw [.int .u64 ((n:Nat):Int)] 1 aX Tryz.sizeOf22 ?_
 intro bT aY
 refine ns (Mz rfl ?_)
 have aZ:=aY.pk [1,0,2]
 obtain⟨⟨p,r⟩,Q⟩:∃ q:Nat × ReaderT,bv o=q:=⟨_,rfl⟩
 obtain⟨bU,ay,az,aA,bF⟩:=Cg aZ
 refine cl Tryz.call51 (dW _ _ E o Z G p r ay (fun x y=>aF.rds bA (by decide) c ((fun x y=>aF.rds bA (by decide) a ((az _ d) x y)) x y)) (show o.ae.ls.length≤G∧o.ae.ls.length≤9223372036854775807 from by omega) Q) ?_
 rintro _ bV ⟨aa,I,rfl,aB,j,R⟩
 have bf:=aA _ _ aB
 replace j:aF 1 Z G o.ae.ls aa I r.ae.ls:=j
 have bH:=(j).le
 replace R:p≤18446744073709551615:=R
 refine Kz (.pointer (some ⟨Y,2,none⟩)) ?_
 have bg:=bf.pk [1,0,2]
 refine dw [.int .u64 ((p:Nat):Int)] 2 bg Tryz.sizeOf22 ?_
 intro bW bi
 refine ns (Mz rfl ?_)
 have bn:=bi.pk [1,0,2]
 obtain⟨⟨s,ae⟩,S⟩:∃ q:(List cK) × ReaderT,jo r 255=q:=⟨_,rfl⟩
 obtain⟨bX,aC,aG,aH,bI⟩:=Cg bn
 refine cl Tryz.call103 (nY _ _ E r aa I 255 s ae aC (fun x y=>aF.rds bA (by decide) j ((fun x y=>aF.rds bA (by decide) c ((fun x y=>aF.rds bA (by decide) a ((aG _ d) x y)) x y)) x y)) (show r.ae.ls.length≤I∧r.ae.ls.length≤9223372036854775807 from by omega) (by omega) S) ?_
 rintro _ bY ⟨z,A,aI,T,U,rfl,aJ,B,g,C⟩
 have aK:=aH _ _ aJ
 replace g:aF 1 aa I r.ae.ls T U ae.ae.ls:=g
 have bq:=(g).le
 have bu:=dm B
 have bz:=aK.rowC (i:=0) rfl
 replace C:s.length≤1000:=C
 refine Kz (.pointer (some ⟨Y,3,none⟩)) ?_
 have aL:=aK.pk [3,0,1,2,4]
 refine dw [.slice z s.length A] 3 aL Tryz.sizeOf82 ?_
 intro bJ V
 refine ns (La ([.int .i64 f, .int .u64 ((n:Nat):Int), .int .u64 ((p:Nat):Int), .slice z s.length A]) V 0 Tryz.isAgg84 Tryz.sizeOf84 ?_)
 have aM:=V.pk [4,0,1,2,3]
 refine dw [.int .i64 f, .int .u64 ((n:Nat):Int), .int .u64 ((p:Nat):Int), .slice z s.length A] 0 aM Tryz.sizeOf84 ?_
 intro bK W
 refine nt (rt (CK (mY rfl rfl (Cu (cs:= [.int .i64 f, .int .u64 ((n:Nat):Int), .int .u64 ((p:Nat):Int), .slice z s.length A]) Tryz.isAgg84 Tryz.sizeOf84 ((W.cls (i:=0) rfl).lit (k:=0) (m:=4) rfl))) ?_))
 have aN:=W.pk [2,3,4]
 have e:kI t=(eD.mk f n p (Ll.mk s),ae):=et (ag M) (et (ag O) (et (ag Q) (ag S)))
 obtain⟨rfl,rfl⟩:=iI (e.symm.trans hr)
 exact⟨z,A,aI,T,U,rfl,aN,B,(aF.trans (aF.trans (aF.trans a c) j) g),(by first | omega | (dsimp only; omega) | (simp only [List.length_nil]; omega) | decide)⟩
def jc (g:List UInt8) (p1:UInt8):ReaderT:=
 bnd (pW g) fun c=>if((g.length:Nat):Int) > 8192 then bnd (bL c 2) fun e=>bnd (gF e) fun a=>if((a.1.toNat:Nat):Int)=((p1.toNat:Nat):Int) then a.2 else bnd (bL a.2 11) fun f=>f else bnd (gF c) fun b=>if((b.1.toNat:Nat):Int)=((p1.toNat:Nat):Int) then b.2 else bnd (bL b.2 11) fun d=>d
theorem oQ (w:World) (D:Nat→Prop) (Q:Option Addr) (n0 R:Nat) (n:List UInt8) (p1:UInt8) (r0:ReaderT) (H:Own w D w []) (s:Ro w D fun w'=>bG w' 1 Q n0 (List.flatMap eB n)) (aR:n0=n.length) (bF:n.length *1≤211106232532992) (bH:n.length≤R) (hr:jc n p1=r0):
    Calls Tryz.prog 49 #[.slice Q n0 R, .int .u8 ((p1.toNat:Nat):Int)] w (dE fun v w'=> ∃ (G0:Nat) (B0nx0:Option Addr) (b0nx0:Nat),v= .pointer (some ⟨G0,0,none⟩)∧Own w D w' [blk G0 [.slice B0nx0 r0.ae.ls.length b0nx0, .int .i64 r0.aG] 150]∧(aF 1 Q R n B0nx0 b0nx0 r0.ae.ls)):=by
 subst aR
 refine Ce (args:= [.slice Q n.length R, .int .u8 ((p1.toNat:Nat):Int)]) Tryz.func49 rfl rfl rfl ?_
 show Wp _ _ _ [(0, .slice Q n.length R),(1, .int .u8 ((p1.toNat:Nat):Int))] _ _
 refine sr (Ar rfl (Mz rfl ?_))
 obtain⟨b,i⟩:∃ q,pW n=q:=⟨_,rfl⟩
 obtain⟨bI,Y,Z,aa,bf⟩:=Ck H
 refine cl Tryz.call90 (tO _ _ Q n.length R n b Y (Z _ s) rfl (by omega) (by first | omega | (simp only [List.length_take,List.length_drop]; omega) | exact Nat.le_refl _) i) ?_
 rintro _ bJ ⟨g,u,o,rfl,ae,a⟩
 have af:=aa _ _ ae
 replace a:aF 1 Q R n u o b.ae.ls:=a
 have bg:=(a).le
 refine An rfl (BS (sr (Mz rfl (Kz (.int .i64 ((n.length:Nat):Int)) (Kz (.bool (decide (((n.length:Nat):Int) > 8192))) (nt ?_))))))
 by_cases t:((n.length:Nat):Int) > 8192
 refine jT (dT t) (BR (Mz rfl ?_))
 obtain⟨p,x⟩:∃ q,bL b 2=q:=⟨_,rfl⟩
 obtain⟨bK,ah,ai,aj,bi⟩:=Cg af
 refine cl Tryz.call91 (gQ _ _ g b u o 2 p ah (fun j k=>aF.rds bA (by decide) a ((ai _ s) j k)) (show b.ae.ls.length≤o∧b.ae.ls.length≤9223372036854775807 from by omega) x) ?_
 rintro _ bM ⟨S,F,rfl,ak,c⟩
 have aS:=aj _ _ ak
 replace c:aF 1 u o b.ae.ls S F p.ae.ls:=c
 have bn:=(c).le
 refine nt (BS (sr (Mz rfl ?_)))
 obtain⟨⟨G,l⟩,y⟩:∃ q:UInt8 × ReaderT,gF p=q:=⟨_,rfl⟩
 obtain⟨bN,au,av,ax,bq⟩:=Cg aS
 refine cl Tryz.call92 (mH _ _ g p S F G l au (fun j k=>aF.rds bA (by decide) c ((fun j k=>aF.rds bA (by decide) a ((av _ s) j k)) j k)) (show p.ae.ls.length≤F∧p.ae.ls.length≤9223372036854775807 from by omega) y) ?_
 rintro _ bO ⟨I,z,rfl,ay,d⟩
 have az:=ax _ _ ay
 replace d:aF 1 S F p.ae.ls I z l.ae.ls:=d
 have bu:=(d).le
 refine Mz rfl (fw (.bool (decide (¬ (((G.toNat:Nat):Int)=((p1.toNat:Nat):Int))))) (Cy (e:= !(decide (((G.toNat:Nat):Int)=((p1.toNat:Nat):Int)))) yk decide_not.symm) (nt ?_))
 by_cases J:((G.toNat:Nat):Int)=((p1.toNat:Nat):Int)
 refine jF (dF (EN J)) (sk (sr (Mz rfl (An rfl (rt (rs ?_))))))
 have aT:=az.pk [0]
 obtain rfl:_=l:=hr.symm.trans (et (ag i) (et (ip t) (et (ag x) (et (ag y) (ip J)))))
 exact⟨g,I,z,rfl,aT,(aF.trans (aF.trans a c) d)⟩
 refine jT (dT J) (BR (Mz rfl ?_))
 obtain⟨T,N⟩:∃ q,bL l 11=q:=⟨_,rfl⟩
 obtain⟨bP,aA,aB,aC,bv⟩:=Cg az
 refine cl Tryz.call91 (gQ _ _ g l I z 11 T aA (fun j k=>aF.rds bA (by decide) d ((fun j k=>aF.rds bA (by decide) c ((fun j k=>aF.rds bA (by decide) a ((aB _ s) j k)) j k)) j k)) (show l.ae.ls.length≤z∧l.ae.ls.length≤9223372036854775807 from by omega) N) ?_
 rintro _ bQ ⟨aD,aG,rfl,aH,r⟩
 have aU:=aC _ _ aH
 replace r:aF 1 I z l.ae.ls aD aG T.ae.ls:=r
 have bz:=(r).le
 refine ns (Mz rfl (An rfl (rt (rs ?_))))
 have aV:=aU.pk [0]
 obtain rfl:_=T:=hr.symm.trans (et (ag i) (et (ip t) (et (ag x) (et (ag y) (et (iN J) (ag N))))))
 exact⟨g,aD,aG,rfl,aV,(aF.trans (aF.trans (aF.trans a c) d) r)⟩
 refine jF (dF t) (sk (BS (sr (Mz rfl ?_))))
 obtain⟨⟨K,m⟩,A⟩:∃ q:UInt8 × ReaderT,gF b=q:=⟨_,rfl⟩
 obtain⟨bR,aI,aJ,aK,bB⟩:=Cg af
 refine cl Tryz.call92 (mH _ _ g b u o K m aI (fun j k=>aF.rds bA (by decide) a ((aJ _ s) j k)) (show b.ae.ls.length≤o∧b.ae.ls.length≤9223372036854775807 from by omega) A) ?_
 rintro _ bS ⟨L,B,rfl,aL,f⟩
 have aM:=aK _ _ aL
 replace f:aF 1 u o b.ae.ls L B m.ae.ls:=f
 have bC:=(f).le
 refine Mz rfl (fw (.bool (decide (¬ (((K.toNat:Nat):Int)=((p1.toNat:Nat):Int))))) (Cy (e:= !(decide (((K.toNat:Nat):Int)=((p1.toNat:Nat):Int)))) yk decide_not.symm) (nt ?_))
 by_cases M:((K.toNat:Nat):Int)=((p1.toNat:Nat):Int)
 refine jF (dF (EN M)) (sk (sr (Mz rfl (An rfl (rt (rs ?_))))))
 have aW:=aM.pk [0]
 obtain rfl:_=m:=hr.symm.trans (et (ag i) (et (iN t) (et (ag A) (ip M))))
 exact⟨g,L,B,rfl,aW,(aF.trans a f)⟩
 refine jT (dT M) (BR (Mz rfl ?_))
 obtain⟨C,E⟩:∃ q,bL m 11=q:=⟨_,rfl⟩
 obtain⟨bD,U,V,W,aX⟩:=Cg aM
 refine cl Tryz.call91 (gQ _ _ g m L B 11 C U (fun j k=>aF.rds bA (by decide) f ((fun j k=>aF.rds bA (by decide) a ((V _ s) j k)) j k)) (show m.ae.ls.length≤B∧m.ae.ls.length≤9223372036854775807 from by omega) E) ?_
 rintro _ bE ⟨O,P,rfl,X,h⟩
 have aN:=W _ _ X
 replace h:aF 1 L B m.ae.ls O P C.ae.ls:=h
 have aY:=(h).le
 refine ns (Mz rfl (An rfl (rt (rs ?_))))
 have aO:=aN.pk [0]
 obtain rfl:_=C:=hr.symm.trans (et (ag i) (et (iN t) (et (ag A) (et (iN M) (ag E)))))
 exact⟨g,O,P,rfl,aO,(aF.trans (aF.trans a f) h)⟩
end Go.Proofs.YtcnkpjheifkgnaaGreat
