/-
 record: what is read.
-/
import Derived.Test.YtcnkpjheifkgnaaGreatRcA
namespace Go.Proofs.YtcnkpjheifkgnaaGreat
set_option maxRecDepth 100000
open Go.RowKit
set_option linter.unusedVariables false
set_option linter.unusedSectionVars false
set_option linter.unusedSimpArgs false
def cz:List UInt8→Nat→Unit ⊕ Int
  | [],a=>Sum.inl ()
  | b::c,a=>if((a:Nat):Int)=10 then Sum.inr (0) else if((b.toNat:Nat):Int) < 128 then Sum.inr ((a+1:Nat):Int) else cz c (a+1)
def ko (a:List UInt8):Int:=
 lp (cz a 0) fun _=>0
theorem pq (w:World) (D:Nat→Prop) (l:Option Addr) (z p:Nat) (b:List UInt8) (r:Int) (H:Own w D w []) (n:Ro w D fun w'=>bu w' 1 l z (List.flatMap eB b)) (A:z=b.length) (K:b.length≤9223372036854775807) (hr:ko b=r):
    Calls Tryz.prog 135 #[.slice l z p] w (dC fun v w'=>v= .int .i64 r∧Own w D w' []∧(0≤r∧r≤10∧r≤((b.length:Nat):Int))):=by
 subst A
 refine xU (args:= [.slice l b.length p]) Tryz.func135 rfl rfl rfl ?_
 show Wp _ _ _ [(0, .slice l b.length p)] _ _
 refine sr (An rfl (xV (sr (Mz rfl (Kz (.int .i64 ((b.length:Nat):Int)) (Mn rfl (bo ?_)))))))
 have B:Own w D w []:=H.pk []
 obtain⟨s,t⟩:∃ q:Nat→World→Prop,q=fun(i:Nat) w'=>Own w D w' []∧(i≤b.length∧i≤10∧cz b 0=cz (List.drop i b) i):=⟨_,rfl⟩
 have f:∀ {a:Nat} {w':World},s a w'↔Own w D w' []∧a≤b.length∧a≤10∧cz b 0=cz (List.drop a b) a:=by intros; subst t; exact Iff.rfl
 refine Wp.loop (fun i:Nat=> [(2, .int .i64 0),(7, .int .i64 ((i:Nat):Int)),(6, .int .i64 ((b.length:Nat):Int)),(5, .slice l b.length p)]) s (fun i=>b.length - i) 0 ⟨rfl,rfl,rfl,rfl,trivial⟩ (f.2 ⟨B,by omega,by omega,rfl⟩) ?_
 rintro a L u
 show Wp _ _ _ [(2, .int .i64 0),(7, .int .i64 ((a:Nat):Int)),(6, .int .i64 ((b.length:Nat):Int)),(5, .slice l b.length p)] _ _
 obtain⟨c,I,J,d⟩:=f.1 u
 refine sr (Kz (.bool (decide (((a:Nat):Int) < ((b.length:Nat):Int)))) (nt (xV ?_)))
 by_cases x:((a:Nat):Int) < ((b.length:Nat):Int)
 obtain⟨o,m⟩:=fE (ls:=b) (i:=a) aU (by decide) (c.ro n) (by first | omega | (simp; done) | (simp; omega))
 have g:=drop_at m
 refine jT (dT x) (sk (xV (bo (sr (Mz rfl (fw (.pointer (some ⟨ab l,ao l+a *1,none⟩)) (yh (jM) rfl rfl ((c.ro n).addr (i:=a) (by omega)) (by omega)) (fw (.int .u8 ((o.toNat:Nat):Int)) (yl rfl (bH.one Tryz.isAgg5 (((c.ro n).elem aU m (by decide)).at_ (k:=0) rfl))) (Az rfl (An rfl (xV (sr (Mz rfl (Kz (.bool (decide (((a:Nat):Int)=10))) (nt ?_))))))))))))))
 by_cases h:((a:Nat):Int)=10
 refine jT (dT h) (sr (An rfl (rt (tR (bR (tR (tR (bR (tR (rs ?_))))))))))
 have C:=c.pk []
 obtain rfl:_=0:=hr.symm.trans (gI (et (d) (et (congrArg (fun q=>cz q a) g) (ip h))))
 exact⟨rfl,C,(by omega)⟩
 refine jF (dF h) (sk (sr (Mz rfl (Kz (.bool (decide (((o.toNat:Nat):Int) < 128))) (nt ?_)))))
 by_cases j:((o.toNat:Nat):Int) < 128
 refine jT (dT j) (sr (Mz rfl (fw (.int .i64 ((a+1:Nat):Int)) (ym (e:=IntKind.i64.wrap (((a:Nat):Int)+1)) yk (by rw [A8 _ (by omega)]; omega)) (An rfl (rt (bR (tR (tR (bR (tR (rs ?_)))))))))))
 have E:=c.pk []
 obtain rfl:_=((a+1:Nat):Int):=hr.symm.trans (gI (et (d) (et (congrArg (fun q=>cz q a) g) (et (iN h) (ip j)))))
 exact⟨rfl,E,(by omega)⟩
 refine jF (dF j) (yV (bN (yg (xS (fw (.int .i64 ((a+1:Nat):Int)) (ym (e:=IntKind.i64.wrap (((a:Nat):Int)+1)) yk (by rw [A8 _ (by omega)]; omega)) (Mz rfl (xY ?_)))))))
 have F:=c.pk []
 exact yE (a+1) ⟨rfl,rfl,rfl,rfl,trivial⟩ (f.2 ⟨F,by omega,by omega,et (d) (et (congrArg (fun q=>cz q a) g) (et (iN h) (iN j)))⟩) (by show b.length - (a+1) < b.length - a; omega)
 refine jF (dF x) (Wp.exit (xX ?_))
 have y:cz b 0=Sum.inl ():=et (d) (et (congrArg (fun q=>cz q a) (fG (ls:=b) (i:=a) (by omega))) rfl)
 refine xX (yx (yg (sr (An rfl (rt (rs ?_))))))
 have G:=c.pk []
 obtain rfl:_=0:=hr.symm.trans (j3 y)
 exact⟨rfl,G,(by omega)⟩
def fC (f:List UInt8) (c:Int):Nat→Nat→Nat→Nat
  | 0,b,a=>b
  | e+1,b,a=>bnd (List.getD (List.take (Int.toNat c) f) a default) fun d=>fC f c e (mo b (fq ((d &&& (127:UInt8)).toNat) (7 *a))) (a+1)
def bK (c:List UInt8):Nat × Int × Int:=
 bnd (ko c) fun a=>if a=0 then if((c.length:Nat):Int) ≥ 10 then(0,0,11) else(0,0,10) else bnd (List.getD c (Int.toNat (a - 1)) default) fun b=>bnd (if a > 1 then if((b.toNat:Nat):Int)=0 then true else if a=10 then decide (((b.toNat:Nat):Int) > 1) else false else false) fun sJrbfbJ=>if sJrbfbJ=true then(0,0,11) else bnd (fC c a (Int.toNat a) 0 0) fun sLrbfbJafL=>(sLrbfbJafL,a,0)
theorem lS (w:World) (D:Nat→Prop) (t:Option Addr) (Z E:Nat) (d:List UInt8) (r0:Nat) (L:Int) (r2:Int) (H:Own w D w []) (s:Ro w D fun w'=>bu w' 1 t Z (List.flatMap eB d)) (ag:Z=d.length) (aI:d.length≤9223372036854775807) (aJ:d.length≤E) (hr:bK d=(r0,L,r2)):
    Calls Tryz.prog 112 #[.slice t Z E] w (dC fun v w'=>v= .tuple #[.int .u64 ((r0:Nat):Int), .int .i64 L, .int .i64 r2]∧Own w D w' []∧(¬ (r2=0)∨(1≤L∧L≤10∧L≤((d.length:Nat):Int)))∧(r0≤18446744073709551615)):=by
 subst ag
 refine xU (args:= [.slice t d.length E]) Tryz.func112 rfl rfl rfl ?_
 show Wp _ _ _ [(0, .slice t d.length E)] _ _
 refine sr (Az rfl (Az rfl (Ar rfl (Mz rfl ?_))))
 obtain⟨a,o⟩:∃ q,ko d=q:=⟨_,rfl⟩
 obtain⟨aK,M,N,O,aB⟩:=yc H
 refine cl Tryz.call135 (pq _ _ t d.length E d a M (N _ s) rfl (by omega) o) ?_
 rintro _ aL ⟨rfl,P,G⟩
 have l:=O _ _ P
 replace G:0≤a∧a≤10∧a≤((d.length:Nat):Int):=G
 refine An rfl (xV (sr (Mz rfl (Kz (.bool (decide (a=0))) (nt ?_)))))
 by_cases u:a=0
 refine jT (dT u) (xV (sr (Mz rfl (Kz (.int .i64 ((d.length:Nat):Int)) (Kz (.bool (decide (((d.length:Nat):Int) ≥ 10))) (nt ?_))))))
 by_cases F:((d.length:Nat):Int) ≥ 10
 refine jT (dT F) (sr (Az rfl (Az rfl (An rfl (rt (tR (tR (yI (mU rfl rfl rfl rfl) ?_))))))))
 have ah:=l.pk []
 have e:bK d=(0,0,11):=et (ae o) (et (ip u) (ip F))
 obtain⟨rfl,rfl,rfl⟩:=oV (e.symm.trans hr)
 exact⟨rfl,ah,(by omega),(by omega)⟩
 refine jF (dF F) (sk (sr (Az rfl (Az rfl (An rfl (rt (tR (yI (mU rfl rfl rfl rfl) ?_))))))))
 have ai:=l.pk []
 have e:bK d=(0,0,10):=et (ae o) (et (ip u) (iN F))
 obtain⟨rfl,rfl,rfl⟩:=oV (e.symm.trans hr)
 exact⟨rfl,ai,(by omega),(by omega)⟩
 refine jF (dF u) (sk (sr (Mz rfl (Mz rfl (fw (.int .i64 ((Int.toNat (a - 1):Nat):Int)) (ym (e:=IntKind.i64.wrap (a - 1)) yk (by rw [A8 _ (by omega)]; omega)) ?_)))))
 obtain⟨f,x⟩:=fE (ls:=d) (i:=Int.toNat (a - 1)) aU (by decide) (l.ro s) (by first | omega | (simp; done) | (simp; omega))
 refine fw (.pointer (some ⟨ab t,ao t+(Int.toNat (a - 1)) *1,none⟩)) (yh (jM) rfl rfl ((l.ro s).addr (i:=Int.toNat (a - 1)) (by omega)) (by omega)) (fw (.int .u8 ((f.toNat:Nat):Int)) (yl rfl (bH.one Tryz.isAgg5 (((l.ro s).elem aU x (by decide)).at_ (k:=0) rfl))) (An rfl (xV (xV ?_))))
 obtain⟨Q,R⟩:∃ q:Bool→World→Prop,q=fun(i:Bool) w'=>Own w D w' []∧((if a > 1 then if((f.toNat:Nat):Int)=0 then true else if a=10 then decide (((f.toNat:Nat):Int) > 1) else false else false)=i):=⟨_,rfl⟩
 have p:∀ {y:Bool} {w':World},Q y w'↔Own w D w' []∧(if a > 1 then if((f.toNat:Nat):Int)=0 then true else if a=10 then decide (((f.toNat:Nat):Int) > 1) else false else false)=y:=by intros; subst R; exact Iff.rfl
 refine ze (fun i:Bool=> [(35, .bool i),(5, .int .i64 a),(4, .int .i64 0),(3, .int .i64 0),(2, .int .u64 0),(0, .slice t d.length E)]) Q ?_ ?_
 refine xS (Mz rfl (Kz (.bool (decide (a > 1))) (Mz rfl ?_)))
 by_cases j:a > 1
 refine gw (.int .u8 ((f.toNat:Nat):Int)) (dT j) (yj rfl) (Gz (.bool (decide (((f.toNat:Nat):Int)=0))) (dT j) (fw (.bool (decide (((f.toNat:Nat):Int)=0))) (yw rfl (dT j) rfl) (Mz rfl ?_)))
 by_cases c:((f.toNat:Nat):Int)=0
 refine Sz (dT c) (Sz (dT c) (Sz (dT c) (yK rfl rfl rfl (yK rfl rfl rfl (Sz (dT c) (fw (.bool true) (yw rfl (dT c) rfl) (xY ?_)))))))
 have aj:=l.pk []
 exact yO true ⟨rfl,rfl,rfl,rfl,rfl,rfl,trivial⟩ (p.2 ⟨aj,et (ip j) (ip c)⟩)
 refine gw (.int .i64 a) (dF c) (yj rfl) (Gz (.bool (decide (a=10))) (dF c) (gw (.bool (decide (a=10))) (dF c) (yj rfl) ?_))
 by_cases r:a=10
 refine gw (.int .u8 ((f.toNat:Nat):Int)) (dT r) (yj rfl) (Gz (.bool (decide (((f.toNat:Nat):Int) > 1))) (dT r) (gw (.bool (decide (((f.toNat:Nat):Int) > 1))) (dF c) (yw rfl (dT r) rfl) (fw (.bool (decide (((f.toNat:Nat):Int) > 1))) (xW rfl (dF c) rfl) (xY ?_))))
 have ak:=l.pk []
 exact yO (decide (((f.toNat:Nat):Int) > 1)) ⟨rfl,rfl,rfl,rfl,rfl,rfl,trivial⟩ (p.2 ⟨ak,et (ip j) (et (iN c) (ip r))⟩)
 refine Sz (dF r) (Sz (dF r) (gw (.bool false) (dF c) (xW rfl (dF r) rfl) (fw (.bool false) (xW rfl (dF c) rfl) (xY ?_))))
 have au:=l.pk []
 exact yO false ⟨rfl,rfl,rfl,rfl,rfl,rfl,trivial⟩ (p.2 ⟨au,et (ip j) (et (iN c) (iN r))⟩)
 refine Sz (dF j) (Sz (dF j) (fw (.bool false) (xW rfl (dF j) rfl) (Mz rfl (gw (.int .i64 a) rfl (yj rfl) (Gz (.bool (decide (a=10))) rfl (gw (.bool (decide (a=10))) rfl (yj rfl) ?_))))))
 have z:(decide (a=10))=false:=(dF (by omega))
 refine Sz z (Sz z (gw (.bool false) rfl (xW rfl z rfl) (fw (.bool false) (xW rfl rfl rfl) (xY ?_))))
 have av:=l.pk []
 exact yO false ⟨rfl,rfl,rfl,rfl,rfl,rfl,trivial⟩ (p.2 ⟨av,iN j⟩)
 rintro y aM S
 show Wp _ _ _ [(35, .bool y),(5, .int .i64 a),(4, .int .i64 0),(3, .int .i64 0),(2, .int .u64 0),(0, .slice t d.length E)] _ _
 obtain⟨T,I⟩:=p.1 S
 rcases Bb (y) with A | A
 refine jT A (sr (Az rfl (Az rfl (An rfl (rt (tR (yI (mU rfl rfl rfl rfl) ?_)))))))
 have ax:=T.pk []
 have e:bK d=(0,0,11):=et (ae o) (et (iN u) (et (ae (dV x)) (et (ae I) (ip A))))
 obtain⟨rfl,rfl,rfl⟩:=oV (e.symm.trans hr)
 exact⟨rfl,ax,(by omega),(by omega)⟩
 refine jF A (sk (sr (An rfl (xV (sr (Mz rfl (fw (.int .i64 ((Int.toNat a:Nat):Int)) (ym (e:=a) (yj rfl) (by omega)) (fw (.slice t (Int.toNat a) E) (zC (jM) rfl rfl (by omega)) (Kz (.int .i64 ((Int.toNat a:Nat):Int)) (Mn rfl (bo ?_)))))))))))
 have ay:=T.pk []
 obtain⟨U,V⟩:∃ q:(Nat × Nat)→World→Prop,q=fun(i:Nat × Nat) w'=>Own w D w' []∧(i.2≤Int.toNat a∧(i.1≤18446744073709551615∧i.2≤18446744073709551615)∧fC d a (Int.toNat a) 0 0=fC d a ((Int.toNat a) - i.2) i.1 i.2):=⟨_,rfl⟩
 have B:∀ {g:Nat} {b:Nat} {w':World},U (g,b) w'↔Own w D w' []∧b≤Int.toNat a∧(g≤18446744073709551615∧b≤18446744073709551615)∧fC d a (Int.toNat a) 0 0=fC d a ((Int.toNat a) - b) g b:=by intros; subst V; exact Iff.rfl
 refine Wp.loop (fun i:Nat × Nat=> [(7, .int .u64 ((i.1:Nat):Int)),(40, .int .i64 ((i.2:Nat):Int)),(39, .int .i64 ((Int.toNat a:Nat):Int)),(38, .slice t (Int.toNat a) E),(5, .int .i64 a),(4, .int .i64 0),(3, .int .i64 0),(2, .int .u64 0)]) U (fun i=>(Int.toNat a) - i.2) (0,0) ⟨rfl,rfl,rfl,rfl,rfl,rfl,rfl,rfl,trivial⟩ (B.2 ⟨ay,by omega,by omega,rfl⟩) ?_
 rintro ⟨g,b⟩ aN W
 show Wp _ _ _ [(7, .int .u64 ((g:Nat):Int)),(40, .int .i64 ((b:Nat):Int)),(39, .int .i64 ((Int.toNat a:Nat):Int)),(38, .slice t (Int.toNat a) E),(5, .int .i64 a),(4, .int .i64 0),(3, .int .i64 0),(2, .int .u64 0)] _ _
 obtain⟨C,aC,aD,J⟩:=B.1 W
 refine sr (Kz (.bool (decide (((b:Nat):Int) < ((Int.toNat a:Nat):Int)))) (nt (xV ?_)))
 by_cases X:((b:Nat):Int) < ((Int.toNat a:Nat):Int)
 refine jT (dT X) (sk (xV (bo (sr (Mz rfl ?_)))))
 obtain⟨h,K⟩:=fE (ls:=(List.take (Int.toNat a) d)) (i:=b) aU (by decide) (zn (hi:=Int.toNat a) aU (C.ro s) (by omega)) (by first | omega | (simp; done) | (simp; omega))
 refine fw (.pointer (some ⟨ab t,ao t+b *1,none⟩)) (yh (jM) rfl rfl ((zn (hi:=Int.toNat a) aU (C.ro s) (by omega)).addr (i:=b) (by omega)) (by omega)) (fw (.int .u8 ((h.toNat:Nat):Int)) (yl rfl (bH.one Tryz.isAgg5 (((zn (hi:=Int.toNat a) aU (C.ro s) (by omega)).elem aU K (by decide)).at_ (k:=0) rfl))) (Az rfl (An rfl (xS (Mz rfl (Mz rfl (fw (.int .u8 (((h &&& (127:UInt8)).toNat:Nat):Int)) (ym (e:=IntKind.u8.wrap (((BitVec.ofInt 8 ((h.toNat:Nat):Int) &&& BitVec.ofInt 8 127).toNat:Nat):Int)) yk (u8_and h (127:UInt8))) ?_)))))))
 have aF:(h &&& (127:UInt8)).toNat≤255:=Nat.le_of_lt_succ (UInt8.toNat_lt _)
 refine fw (.int .u64 (((h &&& (127:UInt8)).toNat:Nat):Int)) (ym (e:=IntKind.u64.wrap (((h &&& (127:UInt8)).toNat:Nat):Int)) yk (IntWalk.u64_in _ (by omega))) (Mz rfl (fw (.int .u64 ((b:Nat):Int)) (ym (e:=IntKind.u64.wrap ((b:Nat):Int)) yk (IntWalk.u64_in _ (by omega))) (fw (.int .u64 ((7 *b:Nat):Int)) (ym (e:=IntKind.u64.wrap (7 *((b:Nat):Int))) yk (by rw [IntWalk.u64_in _ (by omega)]; omega)) ?_)))
 have aG:fq ((h &&& (127:UInt8)).toNat) (7 *b)≤18446744073709551615:=nJ _ _
 refine fw (.int .u64 ((fq ((h &&& (127:UInt8)).toNat) (7 *b):Nat):Int)) (ym (zO (m:=7 *b) rfl rfl) (fJ _)) ?_
 have aH:mo g (fq ((h &&& (127:UInt8)).toNat) (7 *b))≤18446744073709551615:=sV _ _
 refine fw (.int .u64 ((mo g (fq ((h &&& (127:UInt8)).toNat) (7 *b)):Nat):Int)) (ym (e:=IntKind.u64.wrap (((BitVec.ofInt 64 ((g:Nat):Int) ||| BitVec.ofInt 64 ((fq ((h &&& (127:UInt8)).toNat) (7 *b):Nat):Int)).toNat:Nat):Int)) yk (fJ _)) (Az rfl (xY (bN (yg (xS (fw (.int .i64 ((b+1:Nat):Int)) (ym (e:=IntKind.i64.wrap (((b:Nat):Int)+1)) yk (by rw [A8 _ (by omega)]; omega)) (Mz rfl (xY ?_))))))))
 have az:=C.pk []
 exact yE (mo g (fq ((h &&& (127:UInt8)).toNat) (7 *b)),b+1) ⟨rfl,rfl,rfl,rfl,rfl,rfl,rfl,rfl,trivial⟩ (B.2 ⟨az,by omega,by omega,et (J) (et (congrArg (fun q=>fC d a q g b) (nI (n:=Int.toNat a) (i:=b) (by omega))) (ae (dV K)))⟩) (by show (Int.toNat a) - (b+1) < (Int.toNat a) - b; omega)
 refine jF (dF X) (Wp.exit (xX ?_))
 have Y:fC d a (Int.toNat a) 0 0=g:=et (J) (et (congrArg (fun q=>fC d a q g b) (pQ (n:=Int.toNat a) (i:=b) (by omega))) rfl)
 refine xX (yx (yg (sr (Mz rfl (Mz rfl (Az rfl (Az rfl (An rfl (rt (yI (mU rfl rfl rfl rfl) ?_))))))))))
 have aA:=C.pk []
 have e:bK d=(g,a,0):=et (ae o) (et (iN u) (et (ae (dV x)) (et (ae I) (et (kG A) (ae Y)))))
 obtain⟨rfl,rfl,rfl⟩:=oV (e.symm.trans hr)
 exact⟨rfl,aA,(by omega),(by omega)⟩
def dn (b:List UInt8) (p1:Int):(List UInt8) × Int × Int:=
 bnd (bK b) fun a=>if a.2.2=0 then if p1 < 0 then([],0,2) else if((a.1:Nat):Int) > ((Int.toNat (IntKind.u64.wrap p1):Nat):Int) then([],0,2) else if((a.1:Nat):Int) > ((Int.toNat (((b.length:Nat):Int) - a.2.1):Nat):Int) then([],0,10) else((List.take ((Int.toNat (a.2.1+((a.1:Nat):Int))) - (Int.toNat a.2.1)) (List.drop (Int.toNat a.2.1) b)),a.2.1+((a.1:Nat):Int),0) else([],0,a.2.2)
theorem oq (w:World) (D:Nat→Prop) (p:Option Addr) (z o:Nat) (d:List UInt8) (p1:Int) (A:List UInt8) (y:Int) (B:Int) (H:Own w D w []) (r:Ro w D fun w'=>bu w' 1 p z (List.flatMap eB d)) (C:z=d.length) (M:d.length≤9223372036854775807) (N:d.length≤o) (hr:dn d p1=(A,y,B)):
    Calls Tryz.prog 136 #[.slice p z o, .int .i64 p1] w (dC fun v w'=>v= .tuple #[.string ⟨List.toArray A⟩, .int .i64 y, .int .i64 B]∧Own w D w' []∧(¬ (B=0)∨(1≤y∧y≤((d.length:Nat):Int)∧A.length≤d.length))):=by
 subst C
 refine xU (args:= [.slice p d.length o, .int .i64 p1]) Tryz.func136 rfl rfl rfl ?_
 show Wp _ _ _ [(0, .slice p d.length o),(1, .int .i64 p1)] _ _
 refine sr (Az rfl (Az rfl (Ar rfl (Mz rfl ?_))))
 obtain⟨⟨b,a,g⟩,f⟩:∃ q:Nat × Int × Int,bK d=q:=⟨_,rfl⟩
 obtain⟨O,s,t,u,K⟩:=yc H
 refine cl Tryz.call112 (lS _ _ p d.length o d b a g s (t _ r) rfl (by omega) (by first | omega | (simp only [List.length_take,List.length_drop]; omega) | exact Nat.le_refl _) f) ?_
 rintro _ P ⟨rfl,x,m,n⟩
 have i:=u _ _ x
 replace m: ¬ (g=0)∨(1≤a∧a≤10∧a≤((d.length:Nat):Int)):=m
 replace n:b≤18446744073709551615:=n
 refine Mz rfl (Kz (.int .u64 ((b:Nat):Int)) (Kz (.int .i64 a) (Kz (.int .i64 g) (Az rfl (Az rfl (An rfl (xV (sr (Mz rfl (fw (.bool (decide (¬ (g=0)))) (yJ (e:= !(decide (g=0))) yk decide_not.symm) (nt ?_)))))))))))
 by_cases h:g=0
 refine jF (dF (Ba h)) (sk (xV (sr (Mz rfl (Kz (.bool (decide (p1 < 0))) (Mz rfl ?_))))))
 by_cases c:p1 < 0
 refine Sz (dT c) (Sz (dT c) (Sz (dT c) (Sz (dT c) (fw (.bool true) (yw rfl (dT c) rfl) (nt (jt (sr (Az rfl (Az rfl (An rfl (rt (tR (yI (mU rfl rfl rfl rfl) ?_)))))))))))))
 have E:=i.pk []
 have e:dn d p1=([],0,2):=et (ae f) (et (ip h) (ip c))
 obtain⟨rfl,rfl,rfl⟩:=oV (e.symm.trans hr)
 exact⟨rfl,E,(by first | omega | (simp only [List.length_take,List.length_drop]; omega))⟩
 refine gw (.int .u64 ((b:Nat):Int)) (dF c) (yj rfl) (gw (.int .i64 p1) (dF c) (yj rfl) ?_)
 have L:Int.toNat (IntKind.u64.wrap p1)≤18446744073709551615:=jG _
 refine gw (.int .u64 ((Int.toNat (IntKind.u64.wrap p1):Nat):Int)) (dF c) (ym (e:=IntKind.u64.wrap p1) yk (fJ _)) (Gz (.bool (decide (((b:Nat):Int) > ((Int.toNat (IntKind.u64.wrap p1):Nat):Int)))) (dF c) (fw (.bool (decide (((b:Nat):Int) > ((Int.toNat (IntKind.u64.wrap p1):Nat):Int)))) (xW rfl (dF c) rfl) (nt ?_)))
 by_cases j:((b:Nat):Int) > ((Int.toNat (IntKind.u64.wrap p1):Nat):Int)
 refine jT (dT j) (sr (Az rfl (Az rfl (An rfl (rt (tR (yI (mU rfl rfl rfl rfl) ?_)))))))
 have F:=i.pk []
 have e:dn d p1=([],0,2):=et (ae f) (et (ip h) (et (iN c) (ip j)))
 obtain⟨rfl,rfl,rfl⟩:=oV (e.symm.trans hr)
 exact⟨rfl,F,(by first | omega | (simp only [List.length_take,List.length_drop]; omega))⟩
 refine jF (dF j) (sk (xV (sr (Mz rfl (Mz rfl (Kz (.int .i64 ((d.length:Nat):Int)) (Mz rfl (fw (.int .i64 (((d.length:Nat):Int) - a)) (ym (e:=IntKind.i64.wrap (((d.length:Nat):Int) - a)) yk (by rw [A8 _ (by omega)])) (fw (.int .u64 ((Int.toNat (((d.length:Nat):Int) - a):Nat):Int)) (ym (e:=IntKind.u64.wrap (((d.length:Nat):Int) - a)) yk (by rw [IntWalk.u64_in _ (by omega)]; omega)) (Kz (.bool (decide (((b:Nat):Int) > ((Int.toNat (((d.length:Nat):Int) - a):Nat):Int)))) (nt ?_)))))))))))
 by_cases k:((b:Nat):Int) > ((Int.toNat (((d.length:Nat):Int) - a):Nat):Int)
 refine jT (dT k) (sr (Az rfl (Az rfl (An rfl (rt (tR (yI (mU rfl rfl rfl rfl) ?_)))))))
 have G:=i.pk []
 have e:dn d p1=([],0,10):=et (ae f) (et (ip h) (et (iN c) (et (iN j) (ip k))))
 obtain⟨rfl,rfl,rfl⟩:=oV (e.symm.trans hr)
 exact⟨rfl,G,(by first | omega | (simp only [List.length_take,List.length_drop]; omega))⟩
 refine jF (dF k) (sk (sr (Mz rfl (Mz rfl (fw (.int .i64 ((b:Nat):Int)) (ym (e:=IntKind.i64.wrap ((b:Nat):Int)) yk (A8 _ (by omega))) (fw (.int .i64 (a+((b:Nat):Int))) (ym (e:=IntKind.i64.wrap (a+((b:Nat):Int))) yk (by rw [A8 _ (by omega)])) (Ar rfl (Mz rfl (fw (.int .i64 ((Int.toNat a:Nat):Int)) (ym (e:=a) (yj rfl) (by omega)) (fw (.int .i64 ((Int.toNat (a+((b:Nat):Int)):Nat):Int)) (ym (e:=a+((b:Nat):Int)) (yj rfl) (by omega)) (fw (.slice (jo p (Int.toNat a) 1 o) ((Int.toNat (a+((b:Nat):Int))) - (Int.toNat a)) (o - (Int.toNat a))) (Yl.cut (jM) rfl rfl rfl (by omega) (by omega)) (fw (.string ⟨List.toArray (List.take ((Int.toNat (a+((b:Nat):Int))) - (Int.toNat a)) (List.drop (Int.toNat a) d))⟩) (zl (l:=(List.take ((Int.toNat (a+((b:Nat):Int))) - (Int.toNat a)) (List.drop (Int.toNat a) d))) Tryz.underlying37 Tryz.underlying5 Tryz.underlying9 (bu.cutE (lo:=Int.toNat a) (hi:=Int.toNat (a+((b:Nat):Int))) aU (i.ro r) (by omega) (by omega) (by omega)) rfl) (Mz rfl (Az rfl (Az rfl (An rfl (rt (yI (mU rfl rfl rfl rfl) ?_))))))))))))))))))
 have I:=i.pk []
 have e:dn d p1=((List.take ((Int.toNat (a+((b:Nat):Int))) - (Int.toNat a)) (List.drop (Int.toNat a) d)),a+((b:Nat):Int),0):=et (ae f) (et (ip h) (et (iN c) (et (iN j) (iN k))))
 obtain⟨rfl,rfl,rfl⟩:=oV (e.symm.trans hr)
 exact⟨rfl,I,(by first | omega | (simp only [List.length_take,List.length_drop]; omega))⟩
 refine jT (dT h) (sr (Mz rfl (Az rfl (Az rfl (An rfl (rt (tR (yI (mU rfl rfl rfl rfl) ?_))))))))
 have J:=i.pk []
 have e:dn d p1=([],0,g):=et (ae f) (iN h)
 obtain⟨rfl,rfl,rfl⟩:=oV (e.symm.trans hr)
 exact⟨rfl,J,(by first | omega | (simp only [List.length_take,List.length_drop]; omega))⟩
def mZ (a:List UInt8):ReaderT:=
 ReaderT.mk (Ll.mk a) 0
theorem qp (w:World) (D:Nat→Prop) (b:Option Addr) (e c:Nat) (a:List UInt8) (d:ReaderT) (H:Own w D w []) (k:Ro w D fun w'=>bu w' 1 b e (List.flatMap eB a)) (f:e=a.length) (l:a.length *1≤211106232532992) (m:a.length≤c) (hr:mZ a=d):
    Calls Tryz.prog 90 #[.slice b e c] w (dC fun v w'=> ∃ (j:Nat) (B0nx0:Option Addr) (b0nx0:Nat),v= .pointer (some ⟨j,0,none⟩)∧Own w D w' [blk j [.slice B0nx0 d.aa.ls.length b0nx0, .int .i64 d.ai] 150]∧(aj 1 b c a B0nx0 b0nx0 d.aa.ls)):=by
 subst f
 refine xU (args:= [.slice b a.length c]) Tryz.func90 rfl rfl rfl ?_
 show Wp _ _ _ [(0, .slice b a.length c)] _ _
 refine sr (Ar rfl (Mz rfl (Kz (.agg #[.slice b a.length c, .int .i64 0]) ?_)))
 refine dG [.slice b a.length c, .int .i64 0] 150 H ?_
 intro g n h
 refine An rfl (rt (rs ?_))
 have i:=h.pk [0]
 obtain rfl:_=ReaderT.mk (Ll.mk a) 0:=hr.symm.trans rfl
 exact⟨g,b,c,rfl,i,(aj.refl (by omega))⟩
def bq (a:ReaderT) (p1:Int):ReaderT:=
 if a.ai=0 then ReaderT.mk (Ll.mk ([])) p1 else a
theorem fA (w:World) (D:Nat→Prop) (d:Nat) (c:ReaderT) (a:Option Addr) (b:Nat) (p1:Int) (f:ReaderT) (H:Own w D w [blk d [.slice a c.aa.ls.length b, .int .i64 c.ai] 150]) (g:Ro w D fun w'=>bu w' 1 a c.aa.ls.length (List.flatMap eB c.aa.ls)) (h:c.aa.ls.length≤b∧c.aa.ls.length≤9223372036854775807) (hr:bq c p1=f):
    Calls Tryz.prog 91 #[.pointer (some ⟨d,0,none⟩), .int .i64 p1] w (dC fun v w'=> ∃ (B0ox0:Option Addr) (b0ox0:Nat),v= .tuple #[]∧Own w D w' [blk d [.slice B0ox0 f.aa.ls.length b0ox0, .int .i64 f.ai] 150]∧(aj 1 a b c.aa.ls B0ox0 b0ox0 f.aa.ls)):=by
 refine xU (args:= [.pointer (some ⟨d,0,none⟩), .int .i64 p1]) Tryz.func91 rfl rfl rfl ?_
 show Wp _ _ _ [(0, .pointer (some ⟨d,0,none⟩)),(1, .int .i64 p1)] _ _
 refine sr (Mz rfl (Kz (.pointer (some ⟨d,0,none⟩)) (Kz (.pointer (some ⟨d,1,none⟩)) (Lz (.int .i64 c.ai) H 0 Tryz.isAgg38 (Kz (.bool (decide (c.ai=0))) (nt ?_))))))
 by_cases e:c.ai=0
 refine jT (dT e) (sr (Mz rfl (Mz rfl (Kz (.pointer (some ⟨d,0,none⟩)) (Kz (.pointer (some ⟨d,1,none⟩)) ?_)))))
 refine cZ [.int .i64 p1] 1 H Tryz.sizeOf38 ?_
 intro m i
 refine nt (xS (Mz rfl (Kz (.pointer (some ⟨d,0,none⟩)) (Kz (.pointer (some ⟨d,0,none⟩)) ?_))))
 refine cZ [.slice none 0 0] 0 i Tryz.sizeOf37 ?_
 intro n j
 refine xY (yA (res0 rfl) ?_)
 have k:=j.pk [0]
 obtain rfl:_=ReaderT.mk (Ll.mk ([])) p1:=hr.symm.trans (ip e)
 exact⟨none,0,rfl,k,aj.nil⟩
 refine jF (dF e) (yV (yA (res0 rfl) ?_))
 have l:Own w D w [blk d [.slice a c.aa.ls.length b, .int .i64 c.ai] 150]:=H.pk [0]
 obtain rfl:_=c:=hr.symm.trans (iN e)
 exact⟨a,b,rfl,l,(aj.refl (by omega))⟩
def dW (a:ReaderT):UInt8 × ReaderT:=
 if((a.aa.ls.length:Nat):Int)=0 then bnd (bq a 10) fun b=>((0:UInt8),b) else bnd (List.getD a.aa.ls 0 default) fun c=>(c,ReaderT.mk (Ll.mk (List.drop 1 a.aa.ls)) a.ai)
theorem kC (w:World) (D:Nat→Prop) (f:Nat) (c:ReaderT) (b:Option Addr) (a:Nat) (I:UInt8) (y:ReaderT) (H:Own w D w [blk f [.slice b c.aa.ls.length a, .int .i64 c.ai] 150]) (d:Ro w D fun w'=>bu w' 1 b c.aa.ls.length (List.flatMap eB c.aa.ls)) (z:c.aa.ls.length≤a∧c.aa.ls.length≤9223372036854775807) (hr:dW c=(I,y)):
    Calls Tryz.prog 92 #[.pointer (some ⟨f,0,none⟩)] w (dC fun v w'=> ∃ (B1ox0:Option Addr) (b1ox0:Nat),v= .int .u8 ((I.toNat:Nat):Int)∧Own w D w' [blk f [.slice B1ox0 y.aa.ls.length b1ox0, .int .i64 y.ai] 150]∧(aj 1 b a c.aa.ls B1ox0 b1ox0 y.aa.ls)):=by
 refine xU (args:= [.pointer (some ⟨f,0,none⟩)]) Tryz.func92 rfl rfl rfl ?_
 show Wp _ _ _ [(0, .pointer (some ⟨f,0,none⟩))] _ _
 refine sr (An rfl (xV (sr (Mz rfl (Kz (.pointer (some ⟨f,0,none⟩)) (Kz (.pointer (some ⟨f,0,none⟩)) (Lz (.slice b c.aa.ls.length a) H 0 Tryz.isAgg37 (Kz (.int .i64 ((c.aa.ls.length:Nat):Int)) (Kz (.bool (decide (((c.aa.ls.length:Nat):Int)=0))) (nt ?_))))))))))
 by_cases j:((c.aa.ls.length:Nat):Int)=0
 refine jT (dT j) (sr (Mz rfl ?_))
 obtain⟨n,l⟩:∃ q,bq c 10=q:=⟨_,rfl⟩
 obtain⟨L,o,p,r,J⟩:=x8 H
 refine cl Tryz.call91 (fA _ _ f c b a 10 n o (p _ d) (show c.aa.ls.length≤a∧c.aa.ls.length≤9223372036854775807 from by omega) l) ?_
 rintro _ M ⟨s,t,rfl,u,g⟩
 have A:=r _ _ u
 replace g:aj 1 b a c.aa.ls s t n.aa.ls:=g
 have K:=(g).le
 refine ns (An rfl (rt (tR (rs ?_))))
 have B:=A.pk [0]
 have e:dW c=((0:UInt8),n):=et (ip j) (ae l)
 obtain⟨rfl,rfl⟩:=gD (e.symm.trans hr)
 exact⟨s,t,rfl,B,g⟩
 refine jF (dF j) (sk (sr (Mz rfl (Kz (.pointer (some ⟨f,0,none⟩)) (Kz (.pointer (some ⟨f,0,none⟩)) (Lz (.slice b c.aa.ls.length a) H 0 Tryz.isAgg37 ?_))))))
 obtain⟨x,m⟩:=fE (ls:=c.aa.ls) (i:=0) aU (by decide) (H.ro d) (by first | omega | (simp; done) | (simp; omega))
 refine fw (.pointer (some ⟨ab b,ao b+0 *1,none⟩)) (yh (jM) rfl rfl ((H.ro d).addr (i:=0) (by omega)) (by omega)) (fw (.int .u8 ((x.toNat:Nat):Int)) (yl rfl (bH.one Tryz.isAgg5 (((H.ro d).elem aU m (by decide)).at_ (k:=0) rfl))) (Ar rfl (Mz rfl (Mz rfl (Kz (.pointer (some ⟨f,0,none⟩)) (Kz (.pointer (some ⟨f,0,none⟩)) (Lz (.slice b c.aa.ls.length a) H 0 Tryz.isAgg37 (fw (.slice (jo b 1 1 a) (c.aa.ls.length - 1) (a - 1)) (zt (jM) rfl rfl (by omega)) (Kz (.pointer (some ⟨f,0,none⟩)) (Kz (.pointer (some ⟨f,0,none⟩)) ?_))))))))))
 refine cZ [.slice (jo b 1 1 a) (c.aa.ls.length - 1) (a - 1)] 0 H Tryz.sizeOf37 ?_
 intro C E
 refine ns (Mz rfl (An rfl (rt (rs ?_))))
 have h:c.aa.ls.length - 1=List.length (List.drop 1 c.aa.ls):=by first | omega | (simp only [List.length_drop,List.length_take] <;> omega)
 have F:Own w D C [blk f [.slice (jo b 1 1 a) (List.length (List.drop 1 c.aa.ls)) (a - 1), .int .i64 c.ai] 150]:=by rw [← h]; exact E
 have G:=F.pk [0]
 have e:dW c=(x,ReaderT.mk (Ll.mk (List.drop 1 c.aa.ls)) c.ai):=et (iN j) (ae (dV m))
 obtain⟨rfl,rfl⟩:=gD (e.symm.trans hr)
 exact⟨jo b 1 1 a,a - 1,(by first | rfl | (rw [← h]; done) | (rw [← h]; rfl)),G,(aj.cut (aj.refl (by omega)) (by first | omega | (simp only [List.length_drop]; omega)))⟩
def aD (b:ReaderT) (p1:Nat):Nat × ReaderT:=
 bnd (bK b.aa.ls) fun a=>if a.2.2=0 then if((a.1:Nat):Int) > ((p1:Nat):Int) then bnd (bq b 11) fun c=>(0,c) else(a.1,ReaderT.mk (Ll.mk (List.drop (Int.toNat a.2.1) b.aa.ls)) b.ai) else bnd (bq b a.2.2) fun d=>(0,d)
theorem dY (w:World) (D:Nat→Prop) (j:Nat) (d:ReaderT) (b:Option Addr) (a:Nat) (p1:Nat) (U:Nat) (T:ReaderT) (H:Own w D w [blk j [.slice b d.aa.ls.length a, .int .i64 d.ai] 150]) (i:Ro w D fun w'=>bu w' 1 b d.aa.ls.length (List.flatMap eB d.aa.ls)) (V:d.aa.ls.length≤a∧d.aa.ls.length≤9223372036854775807) (hr:aD d p1=(U,T)):
    Calls Tryz.prog 93 #[.pointer (some ⟨j,0,none⟩), .int .u64 ((p1:Nat):Int)] w (dC fun v w'=> ∃ (B1ox0:Option Addr) (b1ox0:Nat),v= .int .u64 ((U:Nat):Int)∧Own w D w' [blk j [.slice B1ox0 T.aa.ls.length b1ox0, .int .i64 T.ai] 150]∧(aj 1 b a d.aa.ls B1ox0 b1ox0 T.aa.ls)∧(U≤p1)):=by
 refine xU (args:= [.pointer (some ⟨j,0,none⟩), .int .u64 ((p1:Nat):Int)]) Tryz.func93 rfl rfl rfl ?_
 show Wp _ _ _ [(0, .pointer (some ⟨j,0,none⟩)),(1, .int .u64 ((p1:Nat):Int))] _ _
 refine sr (Ar rfl (Mz rfl (Kz (.pointer (some ⟨j,0,none⟩)) (Kz (.pointer (some ⟨j,0,none⟩)) (Lz (.slice b d.aa.ls.length a) H 0 Tryz.isAgg37 ?_)))))
 obtain⟨⟨h,c,f⟩,k⟩:∃ q:Nat × Int × Int,bK d.aa.ls=q:=⟨_,rfl⟩
 obtain⟨ay,z,A,B,ai⟩:=yc H
 refine cl Tryz.call112 (lS _ _ b d.aa.ls.length a d.aa.ls h c f z (A _ i) rfl (by omega) (by first | omega | (simp only [List.length_take,List.length_drop]; omega) | exact Nat.le_refl _) k) ?_
 rintro _ az ⟨rfl,C,r,s⟩
 have o:=B _ _ C
 replace r: ¬ (f=0)∨(1≤c∧c≤10∧c≤((d.aa.ls.length:Nat):Int)):=r
 replace s:h≤18446744073709551615:=s
 refine Mz rfl (Kz (.int .u64 ((h:Nat):Int)) (Kz (.int .i64 c) (Kz (.int .i64 f) (Az rfl (Az rfl (An rfl (xV (sr (Mz rfl (Kz (.bool (decide (f=0))) (Mz rfl ?_)))))))))))
 by_cases g:f=0
 refine gw (.int .u64 ((h:Nat):Int)) (dT g) (yj rfl) (gw (.int .u64 ((p1:Nat):Int)) (dT g) (yj rfl) (Gz (.bool (decide (((h:Nat):Int) > ((p1:Nat):Int)))) (dT g) (fw (.bool (decide (((h:Nat):Int) > ((p1:Nat):Int)))) (yw rfl (dT g) rfl) (nt ?_))))
 by_cases p:((h:Nat):Int) > ((p1:Nat):Int)
 refine jT (dT p) (xS (An rfl (xV (sr (Mz rfl (Kz (.bool true) (nt (jt (sr (Mz rfl (Mz rfl ?_)))))))))))
 obtain⟨x,t⟩:∃ q,bq d 11=q:=⟨_,rfl⟩
 obtain⟨aA,E,F,G,ak⟩:=x8 o
 refine cl Tryz.call91 (fA _ _ j d b a 11 x E (F _ i) (show d.aa.ls.length≤a∧d.aa.ls.length≤9223372036854775807 from by omega) t) ?_
 rintro _ aB ⟨I,J,rfl,K,l⟩
 have W:=G _ _ K
 replace l:aj 1 b a d.aa.ls I J x.aa.ls:=l
 have au:=(l).le
 refine ns (An rfl (rt (tR (rs ?_))))
 have X:=W.pk [0]
 have e:aD d p1=(0,x):=et (ae k) (et (ip g) (et (ip p) (ae t)))
 obtain⟨rfl,rfl⟩:=gD (e.symm.trans hr)
 exact⟨I,J,rfl,X,l,(by omega)⟩
 refine jF (dF p) (sk (xV (sr (Mz rfl (fw (.bool (decide (¬ (f=0)))) (yJ (e:= !(decide (f=0))) yk decide_not.symm) (nt ?_))))))
 have L:(decide (¬ (f=0)))=false:=(dF (by omega))
 refine jF L (sk (sr (Mz rfl (Mz rfl (Kz (.pointer (some ⟨j,0,none⟩)) (Kz (.pointer (some ⟨j,0,none⟩)) (Lz (.slice b d.aa.ls.length a) o 0 Tryz.isAgg37 (fw (.int .i64 ((Int.toNat c:Nat):Int)) (ym (e:=c) (yj rfl) (by omega)) (fw (.slice (jo b (Int.toNat c) 1 a) (d.aa.ls.length - (Int.toNat c)) (a - (Int.toNat c))) (zt (jM) rfl rfl (by omega)) (Kz (.pointer (some ⟨j,0,none⟩)) (Kz (.pointer (some ⟨j,0,none⟩)) ?_)))))))))))
 refine cZ [.slice (jo b (Int.toNat c) 1 a) (d.aa.ls.length - (Int.toNat c)) (a - (Int.toNat c))] 0 o Tryz.sizeOf37 ?_
 intro Y Z
 refine ns (Mz rfl (An rfl (rt (rs ?_))))
 have n:d.aa.ls.length - (Int.toNat c)=List.length (List.drop (Int.toNat c) d.aa.ls):=by first | omega | (simp only [List.length_drop,List.length_take] <;> omega)
 have aa:Own w D Y [blk j [.slice (jo b (Int.toNat c) 1 a) (List.length (List.drop (Int.toNat c) d.aa.ls)) (a - (Int.toNat c)), .int .i64 d.ai] 150]:=by rw [← n]; exact Z
 have af:=aa.pk [0]
 have e:aD d p1=(h,ReaderT.mk (Ll.mk (List.drop (Int.toNat c) d.aa.ls)) d.ai):=et (ae k) (et (ip g) (iN p))
 obtain⟨rfl,rfl⟩:=gD (e.symm.trans hr)
 exact⟨jo b (Int.toNat c) 1 a,a - (Int.toNat c),(by first | rfl | (rw [← n]; done) | (rw [← n]; rfl)),af,(aj.cut (aj.refl (by omega)) (by first | omega | (simp only [List.length_drop]; omega))),(by omega)⟩
 refine Sz (dF g) (Sz (dF g) (Sz (dF g) (fw (.bool false) (xW rfl (dF g) rfl) (nt (jf (sk (xV (sr (Mz rfl (fw (.bool (decide (¬ (f=0)))) (yJ (e:= !(decide (f=0))) yk decide_not.symm) (nt ?_)))))))))))
 have M:(decide (¬ (f=0)))=true:=(dT (by omega))
 refine jT M (sr (Mz rfl (Mz rfl ?_)))
 obtain⟨y,u⟩:∃ q,bq d f=q:=⟨_,rfl⟩
 obtain⟨aC,N,O,P,av⟩:=x8 o
 refine cl Tryz.call91 (fA _ _ j d b a f y N (O _ i) (show d.aa.ls.length≤a∧d.aa.ls.length≤9223372036854775807 from by omega) u) ?_
 rintro _ aF ⟨Q,R,rfl,S,m⟩
 have ag:=P _ _ S
 replace m:aj 1 b a d.aa.ls Q R y.aa.ls:=m
 have ax:=(m).le
 refine ns (An rfl (rt (tR (rs ?_))))
 have ah:=ag.pk [0]
 have e:aD d p1=(0,y):=et (ae k) (et (iN g) (ae u))
 obtain⟨rfl,rfl⟩:=gD (e.symm.trans hr)
 exact⟨Q,R,rfl,ah,m,(by omega)⟩
def bY (b:ReaderT) (p1:Int):(List UInt8) × ReaderT:=
 bnd (dn b.aa.ls p1) fun a=>if a.2.2=2 then bnd (bq b 11) fun c=>([],c) else if a.2.2=0 then(a.1,ReaderT.mk (Ll.mk (List.drop (Int.toNat a.2.1) b.aa.ls)) b.ai) else bnd (bq b a.2.2) fun d=>([],d)
theorem mO (w:World) (D:Nat→Prop) (h:Nat) (d:ReaderT) (b:Option Addr) (a:Nat) (p1:Int) (r0:List UInt8) (Q:ReaderT) (H:Own w D w [blk h [.slice b d.aa.ls.length a, .int .i64 d.ai] 150]) (g:Ro w D fun w'=>bu w' 1 b d.aa.ls.length (List.flatMap eB d.aa.ls)) (R:d.aa.ls.length≤a∧d.aa.ls.length≤9223372036854775807) (hr:bY d p1=(r0,Q)):
    Calls Tryz.prog 113 #[.pointer (some ⟨h,0,none⟩), .int .i64 p1] w (dC fun v w'=> ∃ (B1ox0:Option Addr) (b1ox0:Nat),v= .string ⟨List.toArray r0⟩∧Own w D w' [blk h [.slice B1ox0 Q.aa.ls.length b1ox0, .int .i64 Q.ai] 150]∧(aj 1 b a d.aa.ls B1ox0 b1ox0 Q.aa.ls)):=by
 refine xU (args:= [.pointer (some ⟨h,0,none⟩), .int .i64 p1]) Tryz.func113 rfl rfl rfl ?_
 show Wp _ _ _ [(0, .pointer (some ⟨h,0,none⟩)),(1, .int .i64 p1)] _ _
 refine sr (Ar rfl (Mz rfl (Kz (.pointer (some ⟨h,0,none⟩)) (Kz (.pointer (some ⟨h,0,none⟩)) (Lz (.slice b d.aa.ls.length a) H 0 Tryz.isAgg37 (Mz rfl ?_))))))
 obtain⟨⟨n,c,f⟩,i⟩:∃ q:(List UInt8) × Int × Int,dn d.aa.ls p1=q:=⟨_,rfl⟩
 obtain⟨au,y,z,A,af⟩:=yc H
 refine cl Tryz.call136 (oq _ _ b d.aa.ls.length a d.aa.ls p1 n c f y (z _ g) rfl (by omega) (by first | omega | (simp only [List.length_take,List.length_drop]; omega) | exact Nat.le_refl _) i) ?_
 rintro _ av ⟨rfl,B,r⟩
 have o:=A _ _ B
 replace r: ¬ (f=0)∨(1≤c∧c≤((d.aa.ls.length:Nat):Int)∧n.length≤d.aa.ls.length):=r
 refine Mz rfl (Kz (.string ⟨List.toArray n⟩) (Kz (.int .i64 c) (Kz (.int .i64 f) (Az rfl (Az rfl (An rfl (xV (sr (Mz rfl (Kz (.bool (decide (f=2))) (nt ?_)))))))))))
 by_cases l:f=2
 refine jT (dT l) (xS (An rfl (xV (sr (Mz rfl (Kz (.bool true) (nt (jt (sr (Mz rfl (Mz rfl ?_)))))))))))
 obtain⟨u,s⟩:∃ q,bq d 11=q:=⟨_,rfl⟩
 obtain⟨ax,C,E,F,ag⟩:=x8 o
 refine cl Tryz.call91 (fA _ _ h d b a 11 u C (E _ g) (show d.aa.ls.length≤a∧d.aa.ls.length≤9223372036854775807 from by omega) s) ?_
 rintro _ ay ⟨G,I,rfl,J,j⟩
 have S:=F _ _ J
 replace j:aj 1 b a d.aa.ls G I u.aa.ls:=j
 have ah:=(j).le
 refine ns (An rfl (rt (tR (rs ?_))))
 have T:=S.pk [0]
 have e:bY d p1=([],u):=et (ae i) (et (ip l) (ae s))
 obtain⟨rfl,rfl⟩:=gD (e.symm.trans hr)
 exact⟨G,I,rfl,T,j⟩
 refine jF (dF l) (sk (xV (sr (Mz rfl (fw (.bool (decide (¬ (f=0)))) (yJ (e:= !(decide (f=0))) yk decide_not.symm) (nt ?_))))))
 by_cases p:f=0
 refine jF (dF (Ba p)) (sk (sr (Mz rfl (Mz rfl (Kz (.pointer (some ⟨h,0,none⟩)) (Kz (.pointer (some ⟨h,0,none⟩)) (Lz (.slice b d.aa.ls.length a) o 0 Tryz.isAgg37 (fw (.int .i64 ((Int.toNat c:Nat):Int)) (ym (e:=c) (yj rfl) (by omega)) (fw (.slice (jo b (Int.toNat c) 1 a) (d.aa.ls.length - (Int.toNat c)) (a - (Int.toNat c))) (zt (jM) rfl rfl (by omega)) (Kz (.pointer (some ⟨h,0,none⟩)) (Kz (.pointer (some ⟨h,0,none⟩)) ?_)))))))))))
 refine cZ [.slice (jo b (Int.toNat c) 1 a) (d.aa.ls.length - (Int.toNat c)) (a - (Int.toNat c))] 0 o Tryz.sizeOf37 ?_
 intro U V
 refine ns (Mz rfl (An rfl (rt (rs ?_))))
 have m:d.aa.ls.length - (Int.toNat c)=List.length (List.drop (Int.toNat c) d.aa.ls):=by first | omega | (simp only [List.length_drop,List.length_take] <;> omega)
 have W:Own w D U [blk h [.slice (jo b (Int.toNat c) 1 a) (List.length (List.drop (Int.toNat c) d.aa.ls)) (a - (Int.toNat c)), .int .i64 d.ai] 150]:=by rw [← m]; exact V
 have X:=W.pk [0]
 have e:bY d p1=(n,ReaderT.mk (Ll.mk (List.drop (Int.toNat c) d.aa.ls)) d.ai):=et (ae i) (et (iN l) (ip p))
 obtain⟨rfl,rfl⟩:=gD (e.symm.trans hr)
 exact⟨jo b (Int.toNat c) 1 a,a - (Int.toNat c),(by first | rfl | (rw [← m]; done) | (rw [← m]; rfl)),X,(aj.cut (aj.refl (by omega)) (by first | omega | (simp only [List.length_drop]; omega)))⟩
 refine jT (dT p) (sr (Mz rfl (Mz rfl ?_)))
 obtain⟨x,t⟩:∃ q,bq d f=q:=⟨_,rfl⟩
 obtain⟨az,K,L,M,ai⟩:=x8 o
 refine cl Tryz.call91 (fA _ _ h d b a f x K (L _ g) (show d.aa.ls.length≤a∧d.aa.ls.length≤9223372036854775807 from by omega) t) ?_
 rintro _ aA ⟨N,O,rfl,P,k⟩
 have Y:=M _ _ P
 replace k:aj 1 b a d.aa.ls N O x.aa.ls:=k
 have ak:=(k).le
 refine ns (An rfl (rt (tR (rs ?_))))
 have Z:=Y.pk [0]
 have e:bY d p1=([],x):=et (ae i) (et (iN l) (et (iN p) (ae t)))
 obtain⟨rfl,rfl⟩:=gD (e.symm.trans hr)
 exact⟨N,O,rfl,Z,k⟩
def dD (b:ReaderT):ReaderT:=
 if((b.aa.ls.length:Nat):Int) > 0 then bnd (bq b 11) fun a=>a else b
theorem kT (w:World) (D:Nat→Prop) (e:Nat) (c:ReaderT) (b:Option Addr) (a:Nat) (p:ReaderT) (H:Own w D w [blk e [.slice b c.aa.ls.length a, .int .i64 c.ai] 150]) (h:Ro w D fun w'=>bu w' 1 b c.aa.ls.length (List.flatMap eB c.aa.ls)) (r:c.aa.ls.length≤a∧c.aa.ls.length≤9223372036854775807) (hr:dD c=p):
    Calls Tryz.prog 59 #[.pointer (some ⟨e,0,none⟩)] w (dC fun v w'=> ∃ (B0ox0:Option Addr) (b0ox0:Nat),v= .tuple #[]∧Own w D w' [blk e [.slice B0ox0 p.aa.ls.length b0ox0, .int .i64 p.ai] 150]∧(aj 1 b a c.aa.ls B0ox0 b0ox0 p.aa.ls)):=by
 refine xU (args:= [.pointer (some ⟨e,0,none⟩)]) Tryz.func59 rfl rfl rfl ?_
 show Wp _ _ _ [(0, .pointer (some ⟨e,0,none⟩))] _ _
 refine sr (Mz rfl (Kz (.pointer (some ⟨e,0,none⟩)) (Kz (.pointer (some ⟨e,0,none⟩)) (Lz (.slice b c.aa.ls.length a) H 0 Tryz.isAgg37 (Kz (.int .i64 ((c.aa.ls.length:Nat):Int)) (Kz (.bool (decide (((c.aa.ls.length:Nat):Int) > 0))) (nt ?_)))))))
 by_cases f:((c.aa.ls.length:Nat):Int) > 0
 refine jT (dT f) (xS (Mz rfl ?_))
 obtain⟨i,g⟩:∃ q,bq c 11=q:=⟨_,rfl⟩
 obtain⟨z,j,k,l,x⟩:=x8 H
 refine cl Tryz.call91 (fA _ _ e c b a 11 i j (k _ h) (show c.aa.ls.length≤a∧c.aa.ls.length≤9223372036854775807 from by omega) g) ?_
 rintro _ A ⟨m,n,rfl,o,d⟩
 have s:=l _ _ o
 replace d:aj 1 b a c.aa.ls m n i.aa.ls:=d
 have y:=(d).le
 refine xY (yA (res0 rfl) ?_)
 have t:=s.pk [0]
 obtain rfl:_=i:=hr.symm.trans (et (ip f) (ae g))
 exact⟨m,n,rfl,t,d⟩
 refine jF (dF f) (yV (yA (res0 rfl) ?_))
 have u:Own w D w [blk e [.slice b c.aa.ls.length a, .int .i64 c.ai] 150]:=H.pk [0]
 obtain rfl:_=c:=hr.symm.trans (iN f)
 exact⟨b,a,rfl,u,(aj.refl (by omega))⟩
def iw (a:ReaderT):Int:=
 a.ai
theorem kU (w:World) (D:Nat→Prop) (d:Nat) (c:ReaderT) (a:Option Addr) (b:Nat) (h:Int) (H:Own w D w [blk d [.slice a c.aa.ls.length b, .int .i64 c.ai] 150]) (e:Ro w D fun w'=>bu w' 1 a c.aa.ls.length (List.flatMap eB c.aa.ls)) (f:c.aa.ls.length≤b∧c.aa.ls.length≤9223372036854775807) (hr:iw c=h):
    Calls Tryz.prog 60 #[.pointer (some ⟨d,0,none⟩)] w (dC fun v w'=>v= .int .i64 h∧Own w D w' [blk d [.slice a c.aa.ls.length b, .int .i64 c.ai] 150]):=by
 refine xU (args:= [.pointer (some ⟨d,0,none⟩)]) Tryz.func60 rfl rfl rfl ?_
 show Wp _ _ _ [(0, .pointer (some ⟨d,0,none⟩))] _ _
 refine sr (Ar rfl (Mz rfl (Kz (.pointer (some ⟨d,0,none⟩)) (Kz (.pointer (some ⟨d,1,none⟩)) (Lz (.int .i64 c.ai) H 0 Tryz.isAgg38 (An rfl (rt (rs ?_))))))))
 have g:Own w D w [blk d [.slice a c.aa.ls.length b, .int .i64 c.ai] 150]:=H.pk [0]
 obtain rfl:_=c.ai:=hr.symm.trans rfl
 exact⟨rfl,g⟩
def aQ (b:ReaderT):Nat × ReaderT:=
 bnd (aD b 18446744073709551615) fun a=>(a.1,a.2)
theorem cK (w:World) (D:Nat→Prop) (k:Nat) (c:ReaderT) (b:Option Addr) (a:Nat) (t:Nat) (s:ReaderT) (H:Own w D w [blk k [.slice b c.aa.ls.length a, .int .i64 c.ai] 150]) (h:Ro w D fun w'=>bu w' 1 b c.aa.ls.length (List.flatMap eB c.aa.ls)) (u:c.aa.ls.length≤a∧c.aa.ls.length≤9223372036854775807) (hr:aQ c=(t,s)):
    Calls Tryz.prog 51 #[.pointer (some ⟨k,0,none⟩)] w (dC fun v w'=> ∃ (B1ox0:Option Addr) (b1ox0:Nat),v= .int .u64 ((t:Nat):Int)∧Own w D w' [blk k [.slice B1ox0 s.aa.ls.length b1ox0, .int .i64 s.ai] 150]∧(aj 1 b a c.aa.ls B1ox0 b1ox0 s.aa.ls)∧(t≤18446744073709551615)):=by
 refine xU (args:= [.pointer (some ⟨k,0,none⟩)]) Tryz.func51 rfl rfl rfl ?_
 show Wp _ _ _ [(0, .pointer (some ⟨k,0,none⟩))] _ _
 refine sr (Ar rfl (Mz rfl ?_))
 obtain⟨⟨i,j⟩,f⟩:∃ q:Nat × ReaderT,aD c 18446744073709551615=q:=⟨_,rfl⟩
 obtain⟨B,l,m,n,z⟩:=x8 H
 refine cl Tryz.call93 (dY _ _ k c b a 18446744073709551615 i j l (m _ h) (show c.aa.ls.length≤a∧c.aa.ls.length≤9223372036854775807 from by omega) f) ?_
 rintro _ C ⟨o,p,rfl,r,d,g⟩
 have x:=n _ _ r
 replace d:aj 1 b a c.aa.ls o p j.aa.ls:=d
 have A:=(d).le
 replace g:i≤18446744073709551615:=g
 refine An rfl (rt (rs ?_))
 have y:=x.pk [0]
 have e:aQ c=(i,j):=ae f
 obtain⟨rfl,rfl⟩:=gD (e.symm.trans hr)
 exact⟨o,p,rfl,y,d,(by omega)⟩
def dh (b:ReaderT):Int × ReaderT:=
 bnd (aD b 255) fun a=>(((a.1:Nat):Int),a.2)
theorem gH (w:World) (D:Nat→Prop) (k:Nat) (c:ReaderT) (b:Option Addr) (a:Nat) (s:Int) (t:ReaderT) (H:Own w D w [blk k [.slice b c.aa.ls.length a, .int .i64 c.ai] 150]) (i:Ro w D fun w'=>bu w' 1 b c.aa.ls.length (List.flatMap eB c.aa.ls)) (u:c.aa.ls.length≤a∧c.aa.ls.length≤9223372036854775807) (hr:dh c=(s,t)):
    Calls Tryz.prog 50 #[.pointer (some ⟨k,0,none⟩)] w (dC fun v w'=> ∃ (B1ox0:Option Addr) (b1ox0:Nat),v= .int .i64 s∧Own w D w' [blk k [.slice B1ox0 t.aa.ls.length b1ox0, .int .i64 t.ai] 150]∧(aj 1 b a c.aa.ls B1ox0 b1ox0 t.aa.ls)∧(0≤s∧s≤255)):=by
 refine xU (args:= [.pointer (some ⟨k,0,none⟩)]) Tryz.func50 rfl rfl rfl ?_
 show Wp _ _ _ [(0, .pointer (some ⟨k,0,none⟩))] _ _
 refine sr (Ar rfl (Mz rfl ?_))
 obtain⟨⟨f,j⟩,g⟩:∃ q:Nat × ReaderT,aD c 255=q:=⟨_,rfl⟩
 obtain⟨B,l,m,n,z⟩:=x8 H
 refine cl Tryz.call93 (dY _ _ k c b a 255 f j l (m _ i) (show c.aa.ls.length≤a∧c.aa.ls.length≤9223372036854775807 from by omega) g) ?_
 rintro _ C ⟨o,p,rfl,r,d,h⟩
 have x:=n _ _ r
 replace d:aj 1 b a c.aa.ls o p j.aa.ls:=d
 have A:=(d).le
 replace h:f≤255:=h
 refine fw (.int .i64 ((f:Nat):Int)) (ym (e:=IntKind.i64.wrap ((f:Nat):Int)) yk (A8 _ (by omega))) (An rfl (rt (rs ?_)))
 have y:=x.pk [0]
 have e:dh c=(((f:Nat):Int),j):=ae g
 obtain⟨rfl,rfl⟩:=gD (e.symm.trans hr)
 exact⟨o,p,rfl,y,d,(by omega)⟩
def bZ (b:ReaderT):(List UInt8) × ReaderT:=
 bnd (bY b 255) fun a=>(a.1,a.2)
theorem fH (w:World) (D:Nat→Prop) (i:Nat) (c:ReaderT) (b:Option Addr) (a:Nat) (x:List UInt8) (r:ReaderT) (H:Own w D w [blk i [.slice b c.aa.ls.length a, .int .i64 c.ai] 150]) (g:Ro w D fun w'=>bu w' 1 b c.aa.ls.length (List.flatMap eB c.aa.ls)) (s:c.aa.ls.length≤a∧c.aa.ls.length≤9223372036854775807) (hr:bZ c=(x,r)):
    Calls Tryz.prog 95 #[.pointer (some ⟨i,0,none⟩)] w (dC fun v w'=> ∃ (B1ox0:Option Addr) (b1ox0:Nat),v= .string ⟨List.toArray x⟩∧Own w D w' [blk i [.slice B1ox0 r.aa.ls.length b1ox0, .int .i64 r.ai] 150]∧(aj 1 b a c.aa.ls B1ox0 b1ox0 r.aa.ls)):=by
 refine xU (args:= [.pointer (some ⟨i,0,none⟩)]) Tryz.func95 rfl rfl rfl ?_
 show Wp _ _ _ [(0, .pointer (some ⟨i,0,none⟩))] _ _
 refine sr (Ar rfl (Mz rfl ?_))
 obtain⟨⟨j,h⟩,f⟩:∃ q:(List UInt8) × ReaderT,bY c 255=q:=⟨_,rfl⟩
 obtain⟨A,k,l,m,y⟩:=x8 H
 refine cl Tryz.call113 (mO _ _ i c b a 255 j h k (l _ g) (show c.aa.ls.length≤a∧c.aa.ls.length≤9223372036854775807 from by omega) f) ?_
 rintro _ B ⟨n,o,rfl,p,d⟩
 have t:=m _ _ p
 replace d:aj 1 b a c.aa.ls n o h.aa.ls:=d
 have z:=(d).le
 refine An rfl (rt (rs ?_))
 have u:=t.pk [0]
 have e:bZ c=(j,h):=ae f
 obtain⟨rfl,rfl⟩:=gD (e.symm.trans hr)
 exact⟨n,o,rfl,u,d⟩
def gy (c:ReaderT):bE × ReaderT:=
 bnd (bZ c) fun a=>bnd (bZ a.2) fun b=>(bE.mk a.1 b.1,b.2)
theorem kW (w:World) (D:Nat→Prop) (r:Nat) (f:ReaderT) (b:Option Addr) (a:Nat) (R:bE) (J:ReaderT) (H:Own w D w [blk r [.slice b f.aa.ls.length a, .int .i64 f.ai] 150]) (h:Ro w D fun w'=>bu w' 1 b f.aa.ls.length (List.flatMap eB f.aa.ls)) (K:f.aa.ls.length≤a∧f.aa.ls.length≤9223372036854775807) (hr:gy f=(R,J)):
    Calls Tryz.prog 57 #[.pointer (some ⟨r,0,none⟩)] w (dC fun v w'=> ∃ (B1ox0:Option Addr) (b1ox0:Nat),v= .agg (bE.cells R).toArray∧Own w D w' [blk r [.slice B1ox0 J.aa.ls.length b1ox0, .int .i64 J.ai] 150]∧(aj 1 b a f.aa.ls B1ox0 b1ox0 J.aa.ls)):=by
 refine xU (args:= [.pointer (some ⟨r,0,none⟩)]) Tryz.func57 rfl rfl rfl ?_
 show Wp _ _ _ [(0, .pointer (some ⟨r,0,none⟩))] _ _
 refine sr ?_
 refine dG [.string ⟨List.toArray ([])⟩, .string ⟨List.toArray ([])⟩] 27 H ?_
 intro W X L
 refine ns (Mz rfl ?_)
 have M:=L.pk [1,0]
 obtain⟨⟨j,d⟩,o⟩:∃ q:(List UInt8) × ReaderT,bZ f=q:=⟨_,rfl⟩
 obtain⟨Y,u,x,y,S⟩:=x8 M
 refine cl Tryz.call95 (fH _ _ r f b a j d u (x _ h) (show f.aa.ls.length≤a∧f.aa.ls.length≤9223372036854775807 from by omega) o) ?_
 rintro _ Z ⟨s,n,rfl,z,c⟩
 have N:=y _ _ z
 replace c:aj 1 b a f.aa.ls s n d.aa.ls:=c
 have T:=(c).le
 refine Ar rfl (Mz rfl (Mz rfl ?_))
 obtain⟨⟨l,t⟩,p⟩:∃ q:(List UInt8) × ReaderT,bZ d=q:=⟨_,rfl⟩
 obtain⟨aa,A,B,C,U⟩:=x8 N
 refine cl Tryz.call95 (fH _ _ r d s n l t A (fun w9 h9=>aj.rds aU (by decide) c ((B _ h) w9 h9)) (show d.aa.ls.length≤n∧d.aa.ls.length≤9223372036854775807 from by omega) p) ?_
 rintro _ ah ⟨E,F,rfl,G,g⟩
 have O:=C _ _ G
 replace g:aj 1 s n d.aa.ls E F t.aa.ls:=g
 have V:=(g).le
 refine Kz (.agg #[.string ⟨List.toArray j⟩, .string ⟨List.toArray l⟩]) ?_
 have P:=O.pk [1,0]
 refine cZ [.string ⟨List.toArray j⟩, .string ⟨List.toArray l⟩] 0 P Tryz.sizeOf27 ?_
 intro ai I
 refine nt (rt (yI (kL rfl rfl (yD (cs:= [.string ⟨List.toArray j⟩, .string ⟨List.toArray l⟩]) Tryz.isAgg27 Tryz.sizeOf27 ((I.cls (i:=0) rfl).lit (k:=0) (m:=2) rfl))) ?_))
 have Q:=I.pk [1]
 have e:gy f=(bE.mk j l,t):=et (ae o) (ae p)
 obtain⟨rfl,rfl⟩:=gD (e.symm.trans hr)
 exact⟨E,F,rfl,Q,(aj.trans c g)⟩
def iH (c:ReaderT):aC × ReaderT:=
 bnd (bZ c) fun a=>bnd (dh a.2) fun b=>(aC.mk a.1 b.1,b.2)
theorem nC (w:World) (D:Nat→Prop) (s:Nat) (g:ReaderT) (b:Option Addr) (a:Nat) (S:aC) (K:ReaderT) (H:Own w D w [blk s [.slice b g.aa.ls.length a, .int .i64 g.ai] 150]) (j:Ro w D fun w'=>bu w' 1 b g.aa.ls.length (List.flatMap eB g.aa.ls)) (L:g.aa.ls.length≤a∧g.aa.ls.length≤9223372036854775807) (hr:iH g=(S,K)):
    Calls Tryz.prog 53 #[.pointer (some ⟨s,0,none⟩)] w (dC fun v w'=> ∃ (B1ox0:Option Addr) (b1ox0:Nat),v= .agg (aC.cells S).toArray∧Own w D w' [blk s [.slice B1ox0 K.aa.ls.length b1ox0, .int .i64 K.ai] 150]∧(aj 1 b a g.aa.ls B1ox0 b1ox0 K.aa.ls)):=by
 refine xU (args:= [.pointer (some ⟨s,0,none⟩)]) Tryz.func53 rfl rfl rfl ?_
 show Wp _ _ _ [(0, .pointer (some ⟨s,0,none⟩))] _ _
 refine sr ?_
 refine dG [.string ⟨List.toArray ([])⟩, .int .i64 0] 54 H ?_
 intro X Y M
 refine ns (Mz rfl ?_)
 have N:=M.pk [1,0]
 obtain⟨⟨l,d⟩,o⟩:∃ q:(List UInt8) × ReaderT,bZ g=q:=⟨_,rfl⟩
 obtain⟨Z,x,y,z,T⟩:=x8 N
 refine cl Tryz.call95 (fH _ _ s g b a l d x (y _ j) (show g.aa.ls.length≤a∧g.aa.ls.length≤9223372036854775807 from by omega) o) ?_
 rintro _ aa ⟨t,n,rfl,A,c⟩
 have O:=z _ _ A
 replace c:aj 1 b a g.aa.ls t n d.aa.ls:=c
 have U:=(c).le
 refine Ar rfl (Mz rfl (Mz rfl ?_))
 obtain⟨⟨f,u⟩,p⟩:∃ q:Int × ReaderT,dh d=q:=⟨_,rfl⟩
 obtain⟨af,B,C,E,V⟩:=x8 O
 refine cl Tryz.call50 (gH _ _ s d t n f u B (fun w9 h9=>aj.rds aU (by decide) c ((C _ j) w9 h9)) (show d.aa.ls.length≤n∧d.aa.ls.length≤9223372036854775807 from by omega) p) ?_
 rintro _ ai ⟨F,G,rfl,I,h,r⟩
 have P:=E _ _ I
 replace h:aj 1 t n d.aa.ls F G u.aa.ls:=h
 have W:=(h).le
 replace r:0≤f∧f≤255:=r
 refine Kz (.agg #[.string ⟨List.toArray l⟩, .int .i64 f]) ?_
 have Q:=P.pk [1,0]
 refine cZ [.string ⟨List.toArray l⟩, .int .i64 f] 0 Q Tryz.sizeOf54 ?_
 intro ak J
 refine nt (rt (yI (kL rfl rfl (yD (cs:= [.string ⟨List.toArray l⟩, .int .i64 f]) Tryz.isAgg54 Tryz.sizeOf54 ((J.cls (i:=0) rfl).lit (k:=0) (m:=2) rfl))) ?_))
 have R:=J.pk [1]
 have e:iH g=(aC.mk l f,u):=et (ae o) (ae p)
 obtain⟨rfl,rfl⟩:=gD (e.symm.trans hr)
 exact⟨F,G,rfl,R,(aj.trans c h)⟩
def jq (g:ReaderT):aW × ReaderT:=
 bnd (dh g) fun c=>bnd (bZ c.2) fun d=>bnd (bZ d.2) fun e=>bnd (bZ e.2) fun f=>bnd (bZ f.2) fun a=>bnd (dh a.2) fun b=>(aW.mk c.1 d.1 e.1 f.1 a.1 b.1,b.2)
theorem oN (w:World) (D:Nat→Prop) (G:Nat) (A:ReaderT) (t:Option Addr) (n:Nat) (r0:aW) (r1:ReaderT) (H:Own w D w [blk G [.slice t A.aa.ls.length n, .int .i64 A.ai] 150]) (d:Ro w D fun w'=>bu w' 1 t A.aa.ls.length (List.flatMap eB A.aa.ls)) (bA:A.aa.ls.length≤n∧A.aa.ls.length≤9223372036854775807) (hr:jq A=(r0,r1)):
    Calls Tryz.prog 98 #[.pointer (some ⟨G,0,none⟩)] w (dC fun v w'=> ∃ (B1ox0:Option Addr) (b1ox0:Nat),v= .agg (aW.cells r0).toArray∧Own w D w' [blk G [.slice B1ox0 r1.aa.ls.length b1ox0, .int .i64 r1.ai] 150]∧(aj 1 t n A.aa.ls B1ox0 b1ox0 r1.aa.ls)):=by
 refine xU (args:= [.pointer (some ⟨G,0,none⟩)]) Tryz.func98 rfl rfl rfl ?_
 show Wp _ _ _ [(0, .pointer (some ⟨G,0,none⟩))] _ _
 refine sr ?_
 refine dG [.int .i64 0, .string ⟨List.toArray ([])⟩, .string ⟨List.toArray ([])⟩, .string ⟨List.toArray ([])⟩, .string ⟨List.toArray ([])⟩, .int .i64 0] 74 H ?_
 intro dA dB bB
 refine ns (Mz rfl ?_)
 have bC:=bB.pk [1,0]
 obtain⟨⟨r,u⟩,S⟩:∃ q:Int × ReaderT,dh A=q:=⟨_,rfl⟩
 obtain⟨dD,aC,aD,aF,bV⟩:=x8 bC
 refine cl Tryz.call50 (gH _ _ G A t n r u aC (aD _ d) (show A.aa.ls.length≤n∧A.aa.ls.length≤9223372036854775807 from by omega) S) ?_
 rintro _ dE ⟨af,O,rfl,aG,a,T⟩
 have bD:=aF _ _ aG
 replace a:aj 1 t n A.aa.ls af O u.aa.ls:=a
 have bW:=(a).le
 replace T:0≤r∧r≤255:=T
 refine Kz (.agg #[.int .i64 r, .string ⟨List.toArray ([])⟩, .string ⟨List.toArray ([])⟩, .string ⟨List.toArray ([])⟩, .string ⟨List.toArray ([])⟩, .int .i64 0]) ?_
 refine dG [.int .i64 0, .string ⟨List.toArray ([])⟩, .string ⟨List.toArray ([])⟩, .string ⟨List.toArray ([])⟩, .string ⟨List.toArray ([])⟩, .int .i64 0] 74 bD ?_
 intro I dF bE
 refine cZ [.int .i64 r, .string ⟨List.toArray ([])⟩, .string ⟨List.toArray ([])⟩, .string ⟨List.toArray ([])⟩, .string ⟨List.toArray ([])⟩, .int .i64 0] 0 bE Tryz.sizeOf74 ?_
 intro dH bF
 refine ns (Mz rfl ?_)
 have bG:=bF.pk [1,0,2]
 obtain⟨⟨C,x⟩,U⟩:∃ q:(List UInt8) × ReaderT,bZ u=q:=⟨_,rfl⟩
 obtain⟨dI,aH,aI,aJ,bX⟩:=x8 bG
 refine cl Tryz.call95 (fH _ _ G u af O C x aH (fun b c=>aj.rds aU (by decide) a ((aI _ d) b c)) (show u.aa.ls.length≤O∧u.aa.ls.length≤9223372036854775807 from by omega) U) ?_
 rintro _ dJ ⟨ag,P,rfl,aK,f⟩
 have bH:=aJ _ _ aK
 replace f:aj 1 af O u.aa.ls ag P x.aa.ls:=f
 have bY:=(f).le
 refine Kz (.pointer (some ⟨I,1,none⟩)) ?_
 have bI:=bH.pk [1,0,2]
 refine cZ [.string ⟨List.toArray C⟩] 1 bI Tryz.sizeOf9 ?_
 intro dK bJ
 refine ns (Mz rfl ?_)
 have bK:=bJ.pk [1,0,2]
 obtain⟨⟨E,y⟩,V⟩:∃ q:(List UInt8) × ReaderT,bZ x=q:=⟨_,rfl⟩
 obtain⟨dL,aL,aM,aN,cu⟩:=x8 bK
 refine cl Tryz.call95 (fH _ _ G x ag P E y aL (fun b c=>aj.rds aU (by decide) f ((fun b c=>aj.rds aU (by decide) a ((aM _ d) b c)) b c)) (show x.aa.ls.length≤P∧x.aa.ls.length≤9223372036854775807 from by omega) V) ?_
 rintro _ dM ⟨ah,Q,rfl,aO,h⟩
 have bL:=aN _ _ aO
 replace h:aj 1 ag P x.aa.ls ah Q y.aa.ls:=h
 have cz:=(h).le
 refine Kz (.pointer (some ⟨I,2,none⟩)) ?_
 have bM:=bL.pk [1,0,2]
 refine cZ [.string ⟨List.toArray E⟩] 2 bM Tryz.sizeOf9 ?_
 intro dN bN
 refine ns (Mz rfl ?_)
 have bO:=bN.pk [1,0,2]
 obtain⟨⟨F,z⟩,W⟩:∃ q:(List UInt8) × ReaderT,bZ y=q:=⟨_,rfl⟩
 obtain⟨dO,aP,aQ,aR,cB⟩:=x8 bO
 refine cl Tryz.call95 (fH _ _ G y ah Q F z aP (fun b c=>aj.rds aU (by decide) h ((fun b c=>aj.rds aU (by decide) f ((fun b c=>aj.rds aU (by decide) a ((aQ _ d) b c)) b c)) b c)) (show y.aa.ls.length≤Q∧y.aa.ls.length≤9223372036854775807 from by omega) W) ?_
 rintro _ dP ⟨ai,R,rfl,aS,o⟩
 have bP:=aR _ _ aS
 replace o:aj 1 ah Q y.aa.ls ai R z.aa.ls:=o
 have cK:=(o).le
 refine Kz (.pointer (some ⟨I,3,none⟩)) ?_
 have aT:=bP.pk [1,0,2]
 refine cZ [.string ⟨List.toArray F⟩] 3 aT Tryz.sizeOf9 ?_
 intro cO aV
 refine ns (Mz rfl ?_)
 have aX:=aV.pk [1,0,2]
 obtain⟨⟨p,j⟩,J⟩:∃ q:(List UInt8) × ReaderT,bZ z=q:=⟨_,rfl⟩
 obtain⟨df,ak,au,av,bQ⟩:=x8 aX
 refine cl Tryz.call95 (fH _ _ G z ai R p j ak (fun b c=>aj.rds aU (by decide) o ((fun b c=>aj.rds aU (by decide) h ((fun b c=>aj.rds aU (by decide) f ((fun b c=>aj.rds aU (by decide) a ((au _ d) b c)) b c)) b c)) b c)) (show z.aa.ls.length≤R∧z.aa.ls.length≤9223372036854775807 from by omega) J) ?_
 rintro _ di ⟨K,B,rfl,ax,l⟩
 have aY:=av _ _ ax
 replace l:aj 1 ai R z.aa.ls K B j.aa.ls:=l
 have bR:=(l).le
 refine Kz (.pointer (some ⟨I,4,none⟩)) ?_
 have aZ:=aY.pk [1,0,2]
 refine cZ [.string ⟨List.toArray p⟩] 4 aZ Tryz.sizeOf9 ?_
 intro dm bf
 refine ns (Mz rfl ?_)
 have bg:=bf.pk [1,0,2]
 obtain⟨⟨g,L⟩,M⟩:∃ q:Int × ReaderT,dh j=q:=⟨_,rfl⟩
 obtain⟨dn,ay,az,aA,bS⟩:=x8 bg
 refine cl Tryz.call50 (gH _ _ G j K B g L ay (fun b c=>aj.rds aU (by decide) l ((fun b c=>aj.rds aU (by decide) o ((fun b c=>aj.rds aU (by decide) h ((fun b c=>aj.rds aU (by decide) f ((fun b c=>aj.rds aU (by decide) a ((az _ d) b c)) b c)) b c)) b c)) b c)) (show j.aa.ls.length≤B∧j.aa.ls.length≤9223372036854775807 from by omega) M) ?_
 rintro _ dw ⟨X,Y,rfl,aB,s,N⟩
 have bi:=aA _ _ aB
 replace s:aj 1 K B j.aa.ls X Y L.aa.ls:=s
 have bT:=(s).le
 replace N:0≤g∧g≤255:=N
 refine Kz (.pointer (some ⟨I,5,none⟩)) ?_
 have bn:=bi.pk [1,0,2]
 refine cZ [.int .i64 g] 5 bn Tryz.sizeOf3 ?_
 intro dx Z
 refine ns (La ([.int .i64 r, .string ⟨List.toArray C⟩, .string ⟨List.toArray E⟩, .string ⟨List.toArray F⟩, .string ⟨List.toArray p⟩, .int .i64 g]) Z 0 Tryz.isAgg74 Tryz.sizeOf74 ?_)
 have bq:=Z.pk [2,0,1]
 refine cZ [.int .i64 r, .string ⟨List.toArray C⟩, .string ⟨List.toArray E⟩, .string ⟨List.toArray F⟩, .string ⟨List.toArray p⟩, .int .i64 g] 0 bq Tryz.sizeOf74 ?_
 intro dz aa
 refine nt (rt (yI (kL rfl rfl (yD (cs:= [.int .i64 r, .string ⟨List.toArray C⟩, .string ⟨List.toArray E⟩, .string ⟨List.toArray F⟩, .string ⟨List.toArray p⟩, .int .i64 g]) Tryz.isAgg74 Tryz.sizeOf74 ((aa.cls (i:=0) rfl).lit (k:=0) (m:=6) rfl))) ?_))
 have bv:=aa.pk [2]
 have e:jq A=(aW.mk r C E F p g,L):=et (ae S) (et (ae U) (et (ae V) (et (ae W) (et (ae J) (ae M)))))
 obtain⟨rfl,rfl⟩:=gD (e.symm.trans hr)
 exact⟨X,Y,rfl,bv,(aj.trans (aj.trans (aj.trans (aj.trans (aj.trans a f) h) o) l) s)⟩
def iW (c:ReaderT):bB × ReaderT:=
 bnd (bZ c) fun a=>bnd (bZ a.2) fun b=>(bB.mk a.1 b.1,b.2)
theorem nQ (w:World) (D:Nat→Prop) (r:Nat) (f:ReaderT) (b:Option Addr) (a:Nat) (R:bB) (J:ReaderT) (H:Own w D w [blk r [.slice b f.aa.ls.length a, .int .i64 f.ai] 150]) (h:Ro w D fun w'=>bu w' 1 b f.aa.ls.length (List.flatMap eB f.aa.ls)) (K:f.aa.ls.length≤a∧f.aa.ls.length≤9223372036854775807) (hr:iW f=(R,J)):
    Calls Tryz.prog 118 #[.pointer (some ⟨r,0,none⟩)] w (dC fun v w'=> ∃ (B1ox0:Option Addr) (b1ox0:Nat),v= .agg (bB.cells R).toArray∧Own w D w' [blk r [.slice B1ox0 J.aa.ls.length b1ox0, .int .i64 J.ai] 150]∧(aj 1 b a f.aa.ls B1ox0 b1ox0 J.aa.ls)):=by
 refine xU (args:= [.pointer (some ⟨r,0,none⟩)]) Tryz.func118 rfl rfl rfl ?_
 show Wp _ _ _ [(0, .pointer (some ⟨r,0,none⟩))] _ _
 refine sr ?_
 refine dG [.string ⟨List.toArray ([])⟩, .string ⟨List.toArray ([])⟩] 133 H ?_
 intro W X L
 refine ns (Mz rfl ?_)
 have M:=L.pk [1,0]
 obtain⟨⟨j,d⟩,o⟩:∃ q:(List UInt8) × ReaderT,bZ f=q:=⟨_,rfl⟩
 obtain⟨Y,u,x,y,S⟩:=x8 M
 refine cl Tryz.call95 (fH _ _ r f b a j d u (x _ h) (show f.aa.ls.length≤a∧f.aa.ls.length≤9223372036854775807 from by omega) o) ?_
 rintro _ Z ⟨s,n,rfl,z,c⟩
 have N:=y _ _ z
 replace c:aj 1 b a f.aa.ls s n d.aa.ls:=c
 have T:=(c).le
 refine Ar rfl (Mz rfl (Mz rfl ?_))
 obtain⟨⟨l,t⟩,p⟩:∃ q:(List UInt8) × ReaderT,bZ d=q:=⟨_,rfl⟩
 obtain⟨aa,A,B,C,U⟩:=x8 N
 refine cl Tryz.call95 (fH _ _ r d s n l t A (fun w9 h9=>aj.rds aU (by decide) c ((B _ h) w9 h9)) (show d.aa.ls.length≤n∧d.aa.ls.length≤9223372036854775807 from by omega) p) ?_
 rintro _ ah ⟨E,F,rfl,G,g⟩
 have O:=C _ _ G
 replace g:aj 1 s n d.aa.ls E F t.aa.ls:=g
 have V:=(g).le
 refine Kz (.agg #[.string ⟨List.toArray j⟩, .string ⟨List.toArray l⟩]) ?_
 have P:=O.pk [1,0]
 refine cZ [.string ⟨List.toArray j⟩, .string ⟨List.toArray l⟩] 0 P Tryz.sizeOf133 ?_
 intro ai I
 refine nt (rt (yI (kL rfl rfl (yD (cs:= [.string ⟨List.toArray j⟩, .string ⟨List.toArray l⟩]) Tryz.isAgg133 Tryz.sizeOf133 ((I.cls (i:=0) rfl).lit (k:=0) (m:=2) rfl))) ?_))
 have Q:=I.pk [1]
 have e:iW f=(bB.mk j l,t):=et (ae o) (ae p)
 obtain⟨rfl,rfl⟩:=gD (e.symm.trans hr)
 exact⟨E,F,rfl,Q,(aj.trans c g)⟩
def iI (e:ReaderT):eU × ReaderT:=
 bnd (aQ e) fun a=>bnd (aQ a.2) fun b=>bnd (aQ b.2) fun c=>bnd (gy c.2) fun d=>(eU.mk a.1 b.1 c.1 d.1,d.2)
theorem nD (w:World) (D:Nat→Prop) (y:Nat) (t:ReaderT) (h:Option Addr) (b:Nat) (r0:eU) (r1:ReaderT) (H:Own w D w [blk y [.slice h t.aa.ls.length b, .int .i64 t.ai] 150]) (d:Ro w D fun w'=>bu w' 1 h t.aa.ls.length (List.flatMap eB t.aa.ls)) (aD:t.aa.ls.length≤b∧t.aa.ls.length≤9223372036854775807) (hr:iI t=(r0,r1)):
    Calls Tryz.prog 58 #[.pointer (some ⟨y,0,none⟩)] w (dC fun v w'=> ∃ (B1ox0:Option Addr) (b1ox0:Nat),v= .agg (eU.cells r0).toArray∧Own w D w' [blk y [.slice B1ox0 r1.aa.ls.length b1ox0, .int .i64 r1.ai] 150]∧(aj 1 h b t.aa.ls B1ox0 b1ox0 r1.aa.ls)):=by
 refine xU (args:= [.pointer (some ⟨y,0,none⟩)]) Tryz.func58 rfl rfl rfl ?_
 show Wp _ _ _ [(0, .pointer (some ⟨y,0,none⟩))] _ _
 refine sr ?_
 refine dG [.int .u64 0, .int .u64 0, .int .u64 0, .string ⟨List.toArray ([])⟩, .string ⟨List.toArray ([])⟩] 29 H ?_
 intro bA bB aF
 refine ns (Mz rfl ?_)
 have aG:=aF.pk [1,0]
 obtain⟨⟨j,n⟩,C⟩:∃ q:Nat × ReaderT,aQ t=q:=⟨_,rfl⟩
 obtain⟨bC,S,T,U,aY⟩:=x8 aG
 refine cl Tryz.call51 (cK _ _ y t h b j n S (T _ d) (show t.aa.ls.length≤b∧t.aa.ls.length≤9223372036854775807 from by omega) C) ?_
 rintro _ bD ⟨N,z,rfl,V,a,E⟩
 have aH:=U _ _ V
 replace a:aj 1 h b t.aa.ls N z n.aa.ls:=a
 have aZ:=(a).le
 replace E:j≤18446744073709551615:=E
 refine Kz (.agg #[.int .u64 ((j:Nat):Int), .int .u64 0, .int .u64 0, .string ⟨List.toArray ([])⟩, .string ⟨List.toArray ([])⟩]) ?_
 refine dG [.int .u64 0, .int .u64 0, .int .u64 0, .string ⟨List.toArray ([])⟩, .string ⟨List.toArray ([])⟩] 29 aH ?_
 intro O bF aI
 refine cZ [.int .u64 ((j:Nat):Int), .int .u64 0, .int .u64 0, .string ⟨List.toArray ([])⟩, .string ⟨List.toArray ([])⟩] 0 aI Tryz.sizeOf29 ?_
 intro bG aJ
 refine ns (Mz rfl ?_)
 have aK:=aJ.pk [1,0,2]
 obtain⟨⟨o,p⟩,F⟩:∃ q:Nat × ReaderT,aQ n=q:=⟨_,rfl⟩
 obtain⟨bH,W,X,Y,bf⟩:=x8 aK
 refine cl Tryz.call51 (cK _ _ y n N z o p W (fun u x=>aj.rds aU (by decide) a ((X _ d) u x)) (show n.aa.ls.length≤z∧n.aa.ls.length≤9223372036854775807 from by omega) F) ?_
 rintro _ bI ⟨P,A,rfl,Z,c,G⟩
 have aL:=Y _ _ Z
 replace c:aj 1 N z n.aa.ls P A p.aa.ls:=c
 have bg:=(c).le
 replace G:o≤18446744073709551615:=G
 refine Kz (.pointer (some ⟨O,1,none⟩)) ?_
 have aM:=aL.pk [1,0,2]
 refine cZ [.int .u64 ((o:Nat):Int)] 1 aM Tryz.sizeOf22 ?_
 intro bJ aN
 refine ns (Mz rfl ?_)
 have aO:=aN.pk [1,0,2]
 obtain⟨⟨r,s⟩,I⟩:∃ q:Nat × ReaderT,aQ p=q:=⟨_,rfl⟩
 obtain⟨bK,aa,af,ag,bi⟩:=x8 aO
 refine cl Tryz.call51 (cK _ _ y p P A r s aa (fun u x=>aj.rds aU (by decide) c ((fun u x=>aj.rds aU (by decide) a ((af _ d) u x)) u x)) (show p.aa.ls.length≤A∧p.aa.ls.length≤9223372036854775807 from by omega) I) ?_
 rintro _ bL ⟨Q,B,rfl,ah,l,J⟩
 have aP:=ag _ _ ah
 replace l:aj 1 P A p.aa.ls Q B s.aa.ls:=l
 have bn:=(l).le
 replace J:r≤18446744073709551615:=J
 refine Kz (.pointer (some ⟨O,2,none⟩)) ?_
 have aR:=aP.pk [1,0,2]
 refine cZ [.int .u64 ((r:Nat):Int)] 2 aR Tryz.sizeOf22 ?_
 intro bM aS
 refine ns (Mz rfl ?_)
 have aT:=aS.pk [1,0,2]
 obtain⟨⟨f,R⟩,K⟩:∃ q:bE × ReaderT,gy s=q:=⟨_,rfl⟩
 obtain⟨bN,ai,ak,au,bq⟩:=x8 aT
 refine cl Tryz.call57 (kW _ _ y s Q B f R ai (fun u x=>aj.rds aU (by decide) l ((fun u x=>aj.rds aU (by decide) c ((fun u x=>aj.rds aU (by decide) a ((ak _ d) u x)) u x)) u x)) (show s.aa.ls.length≤B∧s.aa.ls.length≤9223372036854775807 from by omega) K) ?_
 rintro _ bO ⟨av,ax,rfl,ay,g⟩
 have aV:=au _ _ ay
 replace g:aj 1 Q B s.aa.ls av ax R.aa.ls:=g
 have aW:=(g).le
 refine Kz (.pointer (some ⟨O,3,none⟩)) ?_
 have az:=aV.pk [1,0,2]
 refine cZ (bE.cells f) 3 az Tryz.sizeOf27 ?_
 intro bv L
 refine ns (La ([.int .u64 ((j:Nat):Int), .int .u64 ((o:Nat):Int), .int .u64 ((r:Nat):Int), .string ⟨List.toArray f.aJ⟩, .string ⟨List.toArray f.aO⟩]) L 0 Tryz.isAgg29 Tryz.sizeOf29 ?_)
 have aA:=L.pk [2,0,1]
 refine cZ [.int .u64 ((j:Nat):Int), .int .u64 ((o:Nat):Int), .int .u64 ((r:Nat):Int), .string ⟨List.toArray f.aJ⟩, .string ⟨List.toArray f.aO⟩] 0 aA Tryz.sizeOf29 ?_
 intro bz M
 refine nt (rt (yI (kL rfl rfl (yD (cs:= [.int .u64 ((j:Nat):Int), .int .u64 ((o:Nat):Int), .int .u64 ((r:Nat):Int), .string ⟨List.toArray f.aJ⟩, .string ⟨List.toArray f.aO⟩]) Tryz.isAgg29 Tryz.sizeOf29 ((M.cls (i:=0) rfl).lit (k:=0) (m:=5) rfl))) ?_))
 have aB:=M.pk [2]
 have e:iI t=(eU.mk j o r f,R):=et (ae C) (et (ae F) (et (ae I) (ae K)))
 obtain⟨rfl,rfl⟩:=gD (e.symm.trans hr)
 exact⟨av,ax,rfl,aB,(aj.trans (aj.trans (aj.trans a c) l) g)⟩
def dO (p1:Int):Nat→List aW→Nat→List UInt8→Int→(List aW) × (List UInt8) × Int
  | 0,c,e,d,a=>default
  | f+1,c,e,d,a=>if((e:Nat):Int) < p1 then if a=0 then bnd (jq (ReaderT.mk (Ll.mk d) a)) fun b=>dO p1 f (c++ [b.1]) (e+1) b.2.aa.ls b.2.ai else(c,d,a) else(c,d,a)
def ja (a:ReaderT) (p1:Int):(List aW) × ReaderT:=
 bnd (bnd (dO p1 ((Int.toNat p1 - 0)+1) ([]) 0 a.aa.ls a.ai) fun sLrJjL=>(sLrJjL.1,sLrJjL.2.1,sLrJjL.2.2)) fun sJrJ=>(sJrJ.1,ReaderT.mk (Ll.mk sJrJ.2.1) sJrJ.2.2)
theorem mE (w:World) (D:Nat→Prop) (t:Nat) (a:ReaderT) (b:Option Addr) (c:Nat) (p1:Int) (U:List aW) (r1:ReaderT) (H:Own w D w [blk t [.slice b a.aa.ls.length c, .int .i64 a.ai] 150]) (R:Ro w D fun w'=>bu w' 1 b a.aa.ls.length (List.flatMap eB a.aa.ls)) (aA:a.aa.ls.length≤c∧a.aa.ls.length≤9223372036854775807) (bq:p1≤1000) (hr:ja a p1=(U,r1)):
    Calls Tryz.prog 114 #[.pointer (some ⟨t,0,none⟩), .int .i64 p1, .func (.func 98) #[] #[]] w (dC fun v w'=> ∃ (B0:Option Addr) (b0:Nat) (B1ox0:Option Addr) (b1ox0:Nat),v= .slice B0 U.length b0∧Own w D w' [row B0 U.length b0 (List.flatMap aW.cells U) 74 6,blk t [.slice B1ox0 r1.aa.ls.length b1ox0, .int .i64 r1.ai] 150]∧(aj 1 b c a.aa.ls B1ox0 b1ox0 r1.aa.ls)∧(U.length≤1000)):=by
 refine xU (args:= [.pointer (some ⟨t,0,none⟩), .int .i64 p1, .func (.func 98) #[] #[]]) Tryz.func114 rfl rfl rfl ?_
 show Wp _ _ _ [(0, .pointer (some ⟨t,0,none⟩)),(1, .int .i64 p1),(2, .func (.func 98) #[] #[])] _ _
 refine sr (Ar rfl (An rfl (xV (sr (An rfl ?_)))))
 obtain⟨V,W⟩:∃ q:((Option Addr) × Nat × (List aW) × (Option Addr) × Nat × (List UInt8) × Int)→World→Prop,q=fun(i:(Option Addr) × Nat × (List aW) × (Option Addr) × Nat × (List UInt8) × Int) w'=>Own w D w' [blk t [.slice i.2.2.2.1 i.2.2.2.2.2.1.length i.2.2.2.2.1, .int .i64 i.2.2.2.2.2.2] 150,row i.1 i.2.2.1.length i.2.1 (List.flatMap aW.cells i.2.2.1) 74 6]∧(aj 1 b c a.aa.ls i.2.2.2.1 i.2.2.2.2.1 i.2.2.2.2.2.1∧0≤i.2.2.1.length∧i.2.2.2.2.2.1.length≤a.aa.ls.length∧i.2.2.2.2.2.1.length≤a.aa.ls.length+1∧i.2.2.1.length≤1000∧(bnd (dO p1 ((Int.toNat p1 - 0)+1) ([]) 0 a.aa.ls a.ai) fun sLrJjL=>(sLrJjL.1,sLrJjL.2.1,sLrJjL.2.2))=(i.2.2.1,i.2.2.2.2.2.1,i.2.2.2.2.2.2)):=⟨_,rfl⟩
 have C:∀ {E:Option Addr} {F:Nat} {l:List aW} {G:Option Addr} {I:Nat} {o:List UInt8} {J:Int} {w':World},V (E,F,l,G,I,o,J) w'↔Own w D w' [blk t [.slice G o.length I, .int .i64 J] 150,row E l.length F (List.flatMap aW.cells l) 74 6]∧aj 1 b c a.aa.ls G I o∧0≤l.length∧o.length≤a.aa.ls.length∧o.length≤a.aa.ls.length+1∧l.length≤1000∧(bnd (dO p1 ((Int.toNat p1 - 0)+1) ([]) 0 a.aa.ls a.ai) fun sLrJjL=>(sLrJjL.1,sLrJjL.2.1,sLrJjL.2.2))=(l,o,J):=by intros; subst W; exact Iff.rfl
 refine ze (fun i:(Option Addr) × Nat × (List aW) × (Option Addr) × Nat × (List UInt8) × Int=> [(7, .slice i.1 i.2.2.1.length i.2.1),(6, .slice none 0 0)]) V ?_ ?_
 refine bo ?_
 have aB:Own w D w [row none 0 0 (List.flatMap aW.cells ([])) 74 6,blk t [.slice b a.aa.ls.length c, .int .i64 a.ai] 150]:=H.free (fU 74 6)
 have aC:=aB.pk [1,0]
 obtain⟨X,Y⟩:∃ q:((Option Addr) × Nat × (List aW) × Nat × (Option Addr) × Nat × (List UInt8) × Int × Nat)→World→Prop,q=fun(i:(Option Addr) × Nat × (List aW) × Nat × (Option Addr) × Nat × (List UInt8) × Int × Nat) w'=>Own w D w' [blk t [.slice i.2.2.2.2.1 i.2.2.2.2.2.2.1.length i.2.2.2.2.2.1, .int .i64 i.2.2.2.2.2.2.2.1] 150,row i.1 i.2.2.1.length i.2.1 (List.flatMap aW.cells i.2.2.1) 74 6]∧(aj 1 b c a.aa.ls i.2.2.2.2.1 i.2.2.2.2.2.1 i.2.2.2.2.2.2.1∧i.2.2.1.length≤i.2.2.2.1∧(i.2.2.2.1=0∨((i.2.2.2.1:Nat):Int)≤p1)∧Int.toNat p1 - i.2.2.2.1 < i.2.2.2.2.2.2.2.2∧dO p1 ((Int.toNat p1 - 0)+1) ([]) 0 a.aa.ls a.ai=dO p1 i.2.2.2.2.2.2.2.2 i.2.2.1 i.2.2.2.1 i.2.2.2.2.2.2.1 i.2.2.2.2.2.2.2.1):=⟨_,rfl⟩
 have K:∀ {z:Option Addr} {A:Nat} {f:List aW} {g:Nat} {p:Option Addr} {n:Nat} {h:List UInt8} {j:Int} {B:Nat} {w':World},X (z,A,f,g,p,n,h,j,B) w'↔Own w D w' [blk t [.slice p h.length n, .int .i64 j] 150,row z f.length A (List.flatMap aW.cells f) 74 6]∧aj 1 b c a.aa.ls p n h∧f.length≤g∧(g=0∨((g:Nat):Int)≤p1)∧Int.toNat p1 - g < B∧dO p1 ((Int.toNat p1 - 0)+1) ([]) 0 a.aa.ls a.ai=dO p1 B f g h j:=by intros; subst Y; exact Iff.rfl
 refine Wp.loop (fun i:(Option Addr) × Nat × (List aW) × Nat × (Option Addr) × Nat × (List UInt8) × Int × Nat=> [(7, .slice i.1 i.2.2.1.length i.2.1),(8, .int .i64 ((i.2.2.2.1:Nat):Int)),(6, .slice none 0 0),(0, .pointer (some ⟨t,0,none⟩)),(1, .int .i64 p1),(2, .func (.func 98) #[] #[])]) X (fun i=>i.2.2.2.2.2.2.2.2) (none,0, [],0,b,c,a.aa.ls,a.ai,(Int.toNat p1 - 0)+1) ⟨rfl,rfl,rfl,rfl,rfl,rfl,trivial⟩ (K.2 ⟨aC,(show aj 1 b c a.aa.ls b c a.aa.ls∧0≤0∧(0=0∨((0:Nat):Int)≤p1)∧Int.toNat p1 - 0 < ((Int.toNat p1 - 0)+1)∧dO p1 ((Int.toNat p1 - 0)+1) ([]) 0 a.aa.ls a.ai=dO p1 ((Int.toNat p1 - 0)+1) ([]) 0 a.aa.ls a.ai from ⟨by exact(aj.refl (by omega)),by omega,by omega,by omega,rfl⟩)⟩) ?_
 rintro ⟨z,A,f,g,p,n,h,j,B⟩ bv Z
 show Wp _ _ _ [(7, .slice z f.length A),(8, .int .i64 ((g:Nat):Int)),(6, .slice none 0 0),(0, .pointer (some ⟨t,0,none⟩)),(1, .int .i64 p1),(2, .func (.func 98) #[] #[])] _ _
 obtain⟨M,r,aQ,aR,aS,L⟩:=K.1 Z
 have aT:=(r).le
 obtain⟨S,aa⟩:∃ q,B=q+1:=⟨B - 1,by omega⟩
 subst aa
 refine xV (sr (Mz rfl (Mz rfl (Kz (.bool (decide (((g:Nat):Int) < p1))) (Mz rfl ?_)))))
 by_cases d:((g:Nat):Int) < p1
 refine gw (.pointer (some ⟨t,0,none⟩)) (dT d) (yj rfl) (Gz (.pointer (some ⟨t,0,none⟩)) (dT d) (Gz (.pointer (some ⟨t,1,none⟩)) (dT d) (Gl (.int .i64 j) (dT d) M 0 Tryz.isAgg38 (Gz (.bool (decide (j=0))) (dT d) (fw (.bool (decide (j=0))) (yw rfl (dT d) rfl) (nt ?_))))))
 by_cases N:j=0
 refine jT (dT N) (sk (xV (bo (xS (Mz rfl (Mz rfl (Mz rfl ?_)))))))
 obtain⟨⟨u,O⟩,P⟩:∃ q:aW × ReaderT,jq (ReaderT.mk (Ll.mk h) j)=q:=⟨_,rfl⟩
 obtain⟨bz,af,ag,ah,aV⟩:=x8 M
 refine WL.do rfl (yB Tryz.call98 rfl rfl (oN _ _ t (ReaderT.mk (Ll.mk h) j) p n u O af (fun w9 h9=>aj.rds aU (by decide) r ((ag _ R) w9 h9)) (show h.length≤n∧h.length≤9223372036854775807 from by omega) P) ?_)
 rintro _ bC ⟨ai,ak,rfl,au,x⟩
 have aD:=ah _ _ au
 replace x:aj 1 p n h ai ak O.aa.ls:=x
 have aX:=(x).le
 refine jR (aW.cells u) 74 6 1 aD ?_
 intro aF bD T
 replace T:=yR (y:=row aF 1 1 (List.flatMap aW.cells ([u])) 74 6) rfl T
 have av:=T.pk [2,0,1]
 refine WL.do rfl (yQ (k:=f.length) (m:=1) (rF) av rfl rfl (jg Tryz.underlying64 (av.rds (i:=1) rfl) (gV aW.one ([u]))) rfl (by omega) (s:=List.length (f++ [u])) (by first | omega | (simp only [List.length_append,List.length_cons,List.length_nil] <;> omega)) (List.flatMap_append).symm ?_)
 intro aG aH bE aI
 have aY:List.length (f++ [u])=f.length+1:=by simp only [List.length_append,List.length_cons,List.length_nil]
 refine Az rfl (xY (bN (yg (xS (Mz rfl (fw (.int .i64 ((g+1:Nat):Int)) (ym (e:=IntKind.i64.wrap (((g:Nat):Int)+1)) yk (by rw [A8 _ (by omega)]; omega)) (Az rfl (xY ?_))))))))
 have aJ:=aI.pk [2,0]
 exact yE (aG,aH,(f++ [u]),g+1,ai,ak,O.aa.ls,O.ai,S) ⟨rfl,rfl,rfl,rfl,rfl,rfl,trivial⟩ (K.2 ⟨aJ,by exact(aj.trans r x),by omega,by omega,by omega,et (L) (et (ip d) (et (ip N) (ae P)))⟩) (by show S < S+1; omega)
 refine jF (dF N) (Wp.exit (xX (xX (yx ?_))))
 have aK:=M.pk [0,1]
 exact yO (z,A,f,p,n,h,j) ⟨rfl,rfl,trivial⟩ (C.2 ⟨aK,by exact r,by omega,by omega,by omega,by omega,ae (et (L) (et (ip d) (iN N)))⟩)
 refine Sz (dF d) (Sz (dF d) (Sz (dF d) (Sz (dF d) (Sz (dF d) (fw (.bool false) (xW rfl (dF d) rfl) (nt (jf (Wp.exit (xX (xX (yx ?_)))))))))))
 have aL:=M.pk [0,1]
 exact yO (z,A,f,p,n,h,j) ⟨rfl,rfl,trivial⟩ (C.2 ⟨aL,by exact r,by omega,by omega,by omega,by omega,ae (et (L) (iN d))⟩)
 rintro ⟨E,F,l,G,I,o,J⟩ bF ax
 show Wp _ _ _ [(7, .slice E l.length F),(6, .slice none 0 0)] _ _
 obtain⟨aM,Q,aZ,bf,bg,bi,ay⟩:=C.1 ax
 have bn:=(Q).le
 refine sr (Mz rfl (An rfl (rt (rs ?_))))
 have aN:=aM.pk [1,0]
 have e:ja a p1=(l,ReaderT.mk (Ll.mk o) J):=ae ay
 obtain⟨rfl,rfl⟩:=gD (e.symm.trans hr)
 exact⟨E,F,G,I,rfl,aN,Q,(by omega)⟩
def iJ (c:ReaderT) (p1:Nat):(List aW) × ReaderT:=
 bnd (aD c p1) fun a=>bnd (ja a.2 ((a.1:Nat):Int)) fun b=>(b.1,b.2)
theorem mP (w:World) (D:Nat→Prop) (p:Nat) (f:ReaderT) (b:Option Addr) (a:Nat) (p1:Nat) (u:List aW) (K:ReaderT) (H:Own w D w [blk p [.slice b f.aa.ls.length a, .int .i64 f.ai] 150]) (j:Ro w D fun w'=>bu w' 1 b f.aa.ls.length (List.flatMap eB f.aa.ls)) (L:f.aa.ls.length≤a∧f.aa.ls.length≤9223372036854775807) (X:p1≤1000) (hr:iJ f p1=(u,K)):
    Calls Tryz.prog 97 #[.pointer (some ⟨p,0,none⟩), .int .u64 ((p1:Nat):Int), .func (.func 98) #[] #[]] w (dC fun v w'=> ∃ (Q:Option Addr) (R:Nat) (B1ox0:Option Addr) (b1ox0:Nat),v= .slice Q u.length R∧Own w D w' [row Q u.length R (List.flatMap aW.cells u) 74 6,blk p [.slice B1ox0 K.aa.ls.length b1ox0, .int .i64 K.ai] 150]∧(aj 1 b a f.aa.ls B1ox0 b1ox0 K.aa.ls)∧(u.length≤1000)):=by
 refine xU (args:= [.pointer (some ⟨p,0,none⟩), .int .u64 ((p1:Nat):Int), .func (.func 98) #[] #[]]) Tryz.func97 rfl rfl rfl ?_
 show Wp _ _ _ [(0, .pointer (some ⟨p,0,none⟩)),(1, .int .u64 ((p1:Nat):Int)),(2, .func (.func 98) #[] #[])] _ _
 refine sr (Ar rfl (Mz rfl (Mz rfl (Mz rfl ?_))))
 obtain⟨⟨h,d⟩,l⟩:∃ q:Nat × ReaderT,aD f p1=q:=⟨_,rfl⟩
 obtain⟨Y,x,y,z,S⟩:=x8 H
 refine cl Tryz.call93 (dY _ _ p f b a p1 h d x (y _ j) (show f.aa.ls.length≤a∧f.aa.ls.length≤9223372036854775807 from by omega) l) ?_
 rintro _ Z ⟨r,k,rfl,A,c,m⟩
 have M:=z _ _ A
 replace c:aj 1 b a f.aa.ls r k d.aa.ls:=c
 have T:=(c).le
 replace m:h≤p1:=m
 refine fw (.int .i64 ((h:Nat):Int)) (ym (e:=IntKind.i64.wrap ((h:Nat):Int)) yk (A8 _ (by omega))) (Mz rfl ?_)
 obtain⟨⟨s,t⟩,n⟩:∃ q:(List aW) × ReaderT,ja d ((h:Nat):Int)=q:=⟨_,rfl⟩
 obtain⟨aa,B,C,E,U⟩:=x8 M
 refine cl Tryz.call114 (mE _ _ p d r k ((h:Nat):Int) s t B (fun w9 h9=>aj.rds aU (by decide) c ((C _ j) w9 h9)) (show d.aa.ls.length≤k∧d.aa.ls.length≤9223372036854775807 from by omega) (by omega) n) ?_
 rintro _ ah ⟨N,O,F,G,rfl,I,g,o⟩
 have J:=E _ _ I
 replace g:aj 1 r k d.aa.ls F G t.aa.ls:=g
 have V:=(g).le
 have W:=J.rowC (i:=0) rfl
 replace o:s.length≤1000:=o
 refine An rfl (rt (rs ?_))
 have P:=J.pk [0,1]
 have e:iJ f p1=(s,t):=et (ae l) (ae n)
 obtain⟨rfl,rfl⟩:=gD (e.symm.trans hr)
 exact⟨N,O,F,G,rfl,P,(aj.trans c g),(by omega)⟩
def iX (c:ReaderT):fo × ReaderT:=
 bnd (aQ c) fun a=>bnd (iJ a.2 255) fun b=>(fo.mk a.1 (Ll.mk b.1),b.2)
set_option maxHeartbeats 1000000 in
theorem nR (w:World) (D:Nat→Prop) (z:Nat) (f:ReaderT) (b:Option Addr) (a:Nat) (C:fo) (R:ReaderT) (H:Own w D w [blk z [.slice b f.aa.ls.length a, .int .i64 f.ai] 150]) (l:Ro w D fun w'=>bu w' 1 b f.aa.ls.length (List.flatMap eB f.aa.ls)) (S:f.aa.ls.length≤a∧f.aa.ls.length≤9223372036854775807) (hr:iX f=(C,R)):
    Calls Tryz.prog 55 #[.pointer (some ⟨z,0,none⟩)] w (dC fun v w'=> ∃ (r:Option Addr) (s:Nat) (B1ox0:Option Addr) (b1ox0:Nat),v= .agg #[.int .u64 ((C.aV:Nat):Int), .slice r C.aI.ls.length s]∧Own w D w' [row r C.aI.ls.length s (List.flatMap aW.cells C.aI.ls) 74 6,blk z [.slice B1ox0 R.aa.ls.length b1ox0, .int .i64 R.ai] 150]∧(aj 1 b a f.aa.ls B1ox0 b1ox0 R.aa.ls)∧(C.aI.ls.length≤1000)):=by
 refine xU (args:= [.pointer (some ⟨z,0,none⟩)]) Tryz.func55 rfl rfl rfl ?_
 show Wp _ _ _ [(0, .pointer (some ⟨z,0,none⟩))] _ _
 refine sr ?_
 refine dG [.int .u64 0, .slice none 0 0] 66 H ?_
 intro ah ai T
 refine ns (Mz rfl ?_)
 have U:=T.pk [1,0]
 obtain⟨⟨h,d⟩,t⟩:∃ q:Nat × ReaderT,aQ f=q:=⟨_,rfl⟩
 obtain⟨ak,E,F,G,Y⟩:=x8 U
 refine cl Tryz.call51 (cK _ _ z f b a h d E (F _ l) (show f.aa.ls.length≤a∧f.aa.ls.length≤9223372036854775807 from by omega) t) ?_
 rintro _ au ⟨A,n,rfl,I,c,u⟩
 have V:=G _ _ I
 replace c:aj 1 b a f.aa.ls A n d.aa.ls:=c
 have Z:=(c).le
 replace u:h≤18446744073709551615:=u
 refine Ar rfl (Mz rfl (Mz rfl ?_))
 obtain⟨⟨j,B⟩,x⟩:∃ q:(List aW) × ReaderT,iJ d 255=q:=⟨_,rfl⟩
 obtain⟨av,J,K,L,aa⟩:=x8 V
 refine cl Tryz.call97 (mP _ _ z d A n 255 j B J (fun w9 h9=>aj.rds aU (by decide) c ((K _ l) w9 h9)) (show d.aa.ls.length≤n∧d.aa.ls.length≤9223372036854775807 from by omega) (by omega) x) ?_
 rintro _ az ⟨o,p,M,N,rfl,O,g,y⟩
 have P:=L _ _ O
 replace g:aj 1 A n d.aa.ls M N B.aa.ls:=g
 have af:=(g).le
 have ag:=P.rowC (i:=0) rfl
 replace y:j.length≤1000:=y
 refine Kz (.agg #[.int .u64 ((h:Nat):Int), .slice o j.length p]) ?_
 have W:=P.pk [2,0,1]
 refine cZ [.int .u64 ((h:Nat):Int), .slice o j.length p] 0 W Tryz.sizeOf66 ?_
 intro aA Q
 refine nt (rt (yI (kL rfl rfl (yD (cs:= [.int .u64 ((h:Nat):Int), .slice o j.length p]) Tryz.isAgg66 Tryz.sizeOf66 ((Q.cls (i:=0) rfl).lit (k:=0) (m:=2) rfl))) ?_))
 have X:=Q.pk [1,2]
 have e:iX f=(fo.mk h (Ll.mk j),B):=et (ae t) (ae x)
 obtain⟨rfl,rfl⟩:=gD (e.symm.trans hr)
 exact⟨o,p,M,N,rfl,X,(aj.trans c g),(by first | omega | (dsimp only; omega) | (simp only [List.length_nil]; omega) | decide)⟩
def eQ (p1:Int):Nat→List Int→Nat→List UInt8→Int→(List Int) × (List UInt8) × Int
  | 0,c,e,d,a=>default
  | f+1,c,e,d,a=>if((e:Nat):Int) < p1 then if a=0 then bnd (dh (ReaderT.mk (Ll.mk d) a)) fun b=>eQ p1 f (c++ [b.1]) (e+1) b.2.aa.ls b.2.ai else(c,d,a) else(c,d,a)
def jB (a:ReaderT) (p1:Int):(List Int) × ReaderT:=
 bnd (bnd (eQ p1 ((Int.toNat p1 - 0)+1) ([]) 0 a.aa.ls a.ai) fun sLrJjL=>(sLrJjL.1,sLrJjL.2.1,sLrJjL.2.2)) fun sJrJ=>(sJrJ.1,ReaderT.mk (Ll.mk sJrJ.2.1) sJrJ.2.2)
theorem nE (w:World) (D:Nat→Prop) (u:Nat) (a:ReaderT) (b:Option Addr) (c:Nat) (p1:Int) (V:List Int) (r1:ReaderT) (H:Own w D w [blk u [.slice b a.aa.ls.length c, .int .i64 a.ai] 150]) (S:Ro w D fun w'=>bu w' 1 b a.aa.ls.length (List.flatMap eB a.aa.ls)) (aB:a.aa.ls.length≤c∧a.aa.ls.length≤9223372036854775807) (bq:p1≤1000) (hr:jB a p1=(V,r1)):
    Calls Tryz.prog 115 #[.pointer (some ⟨u,0,none⟩), .int .i64 p1, .func (.func 50) #[] #[]] w (dC fun v w'=> ∃ (B0:Option Addr) (b0:Nat) (B1ox0:Option Addr) (b1ox0:Nat),v= .slice B0 V.length b0∧Own w D w' [row B0 V.length b0 (List.flatMap (eI .i64) V) 3 1,blk u [.slice B1ox0 r1.aa.ls.length b1ox0, .int .i64 r1.ai] 150]∧(aj 1 b c a.aa.ls B1ox0 b1ox0 r1.aa.ls)∧(V.length≤1000)):=by
 refine xU (args:= [.pointer (some ⟨u,0,none⟩), .int .i64 p1, .func (.func 50) #[] #[]]) Tryz.func115 rfl rfl rfl ?_
 show Wp _ _ _ [(0, .pointer (some ⟨u,0,none⟩)),(1, .int .i64 p1),(2, .func (.func 50) #[] #[])] _ _
 refine sr (Ar rfl (An rfl (xV (sr (An rfl ?_)))))
 obtain⟨W,X⟩:∃ q:((Option Addr) × Nat × (List Int) × (Option Addr) × Nat × (List UInt8) × Int)→World→Prop,q=fun(i:(Option Addr) × Nat × (List Int) × (Option Addr) × Nat × (List UInt8) × Int) w'=>Own w D w' [blk u [.slice i.2.2.2.1 i.2.2.2.2.2.1.length i.2.2.2.2.1, .int .i64 i.2.2.2.2.2.2] 150,row i.1 i.2.2.1.length i.2.1 (List.flatMap (eI .i64) i.2.2.1) 3 1]∧(aj 1 b c a.aa.ls i.2.2.2.1 i.2.2.2.2.1 i.2.2.2.2.2.1∧0≤i.2.2.1.length∧i.2.2.2.2.2.1.length≤a.aa.ls.length∧i.2.2.2.2.2.1.length≤a.aa.ls.length+1∧i.2.2.1.length≤1000∧(bnd (eQ p1 ((Int.toNat p1 - 0)+1) ([]) 0 a.aa.ls a.ai) fun sLrJjL=>(sLrJjL.1,sLrJjL.2.1,sLrJjL.2.2))=(i.2.2.1,i.2.2.2.2.2.1,i.2.2.2.2.2.2)):=⟨_,rfl⟩
 have C:∀ {E:Option Addr} {F:Nat} {l:List Int} {G:Option Addr} {I:Nat} {p:List UInt8} {J:Int} {w':World},W (E,F,l,G,I,p,J) w'↔Own w D w' [blk u [.slice G p.length I, .int .i64 J] 150,row E l.length F (List.flatMap (eI .i64) l) 3 1]∧aj 1 b c a.aa.ls G I p∧0≤l.length∧p.length≤a.aa.ls.length∧p.length≤a.aa.ls.length+1∧l.length≤1000∧(bnd (eQ p1 ((Int.toNat p1 - 0)+1) ([]) 0 a.aa.ls a.ai) fun sLrJjL=>(sLrJjL.1,sLrJjL.2.1,sLrJjL.2.2))=(l,p,J):=by intros; subst X; exact Iff.rfl
 refine ze (fun i:(Option Addr) × Nat × (List Int) × (Option Addr) × Nat × (List UInt8) × Int=> [(7, .slice i.1 i.2.2.1.length i.2.1),(6, .slice none 0 0)]) W ?_ ?_
 refine bo ?_
 have aC:Own w D w [row none 0 0 (List.flatMap (eI .i64) ([])) 3 1,blk u [.slice b a.aa.ls.length c, .int .i64 a.ai] 150]:=H.free (fU 3 1)
 have aD:=aC.pk [1,0]
 obtain⟨Y,Z⟩:∃ q:((Option Addr) × Nat × (List Int) × Nat × (Option Addr) × Nat × (List UInt8) × Int × Nat)→World→Prop,q=fun(i:(Option Addr) × Nat × (List Int) × Nat × (Option Addr) × Nat × (List UInt8) × Int × Nat) w'=>Own w D w' [blk u [.slice i.2.2.2.2.1 i.2.2.2.2.2.2.1.length i.2.2.2.2.2.1, .int .i64 i.2.2.2.2.2.2.2.1] 150,row i.1 i.2.2.1.length i.2.1 (List.flatMap (eI .i64) i.2.2.1) 3 1]∧(aj 1 b c a.aa.ls i.2.2.2.2.1 i.2.2.2.2.2.1 i.2.2.2.2.2.2.1∧i.2.2.1.length≤i.2.2.2.1∧(i.2.2.2.1=0∨((i.2.2.2.1:Nat):Int)≤p1)∧Int.toNat p1 - i.2.2.2.1 < i.2.2.2.2.2.2.2.2∧eQ p1 ((Int.toNat p1 - 0)+1) ([]) 0 a.aa.ls a.ai=eQ p1 i.2.2.2.2.2.2.2.2 i.2.2.1 i.2.2.2.1 i.2.2.2.2.2.2.1 i.2.2.2.2.2.2.2.1):=⟨_,rfl⟩
 have K:∀ {z:Option Addr} {A:Nat} {f:List Int} {g:Nat} {r:Option Addr} {n:Nat} {h:List UInt8} {j:Int} {B:Nat} {w':World},Y (z,A,f,g,r,n,h,j,B) w'↔Own w D w' [blk u [.slice r h.length n, .int .i64 j] 150,row z f.length A (List.flatMap (eI .i64) f) 3 1]∧aj 1 b c a.aa.ls r n h∧f.length≤g∧(g=0∨((g:Nat):Int)≤p1)∧Int.toNat p1 - g < B∧eQ p1 ((Int.toNat p1 - 0)+1) ([]) 0 a.aa.ls a.ai=eQ p1 B f g h j:=by intros; subst Z; exact Iff.rfl
 refine Wp.loop (fun i:(Option Addr) × Nat × (List Int) × Nat × (Option Addr) × Nat × (List UInt8) × Int × Nat=> [(7, .slice i.1 i.2.2.1.length i.2.1),(8, .int .i64 ((i.2.2.2.1:Nat):Int)),(6, .slice none 0 0),(0, .pointer (some ⟨u,0,none⟩)),(1, .int .i64 p1),(2, .func (.func 50) #[] #[])]) Y (fun i=>i.2.2.2.2.2.2.2.2) (none,0, [],0,b,c,a.aa.ls,a.ai,(Int.toNat p1 - 0)+1) ⟨rfl,rfl,rfl,rfl,rfl,rfl,trivial⟩ (K.2 ⟨aD,(show aj 1 b c a.aa.ls b c a.aa.ls∧0≤0∧(0=0∨((0:Nat):Int)≤p1)∧Int.toNat p1 - 0 < ((Int.toNat p1 - 0)+1)∧eQ p1 ((Int.toNat p1 - 0)+1) ([]) 0 a.aa.ls a.ai=eQ p1 ((Int.toNat p1 - 0)+1) ([]) 0 a.aa.ls a.ai from ⟨by exact(aj.refl (by omega)),by omega,by omega,by omega,rfl⟩)⟩) ?_
 rintro ⟨z,A,f,g,r,n,h,j,B⟩ bv aa
 show Wp _ _ _ [(7, .slice z f.length A),(8, .int .i64 ((g:Nat):Int)),(6, .slice none 0 0),(0, .pointer (some ⟨u,0,none⟩)),(1, .int .i64 p1),(2, .func (.func 50) #[] #[])] _ _
 obtain⟨M,t,aR,aS,aT,L⟩:=K.1 aa
 have aV:=(t).le
 obtain⟨T,af⟩:∃ q,B=q+1:=⟨B - 1,by omega⟩
 subst af
 refine xV (sr (Mz rfl (Mz rfl (Kz (.bool (decide (((g:Nat):Int) < p1))) (Mz rfl ?_)))))
 by_cases d:((g:Nat):Int) < p1
 refine gw (.pointer (some ⟨u,0,none⟩)) (dT d) (yj rfl) (Gz (.pointer (some ⟨u,0,none⟩)) (dT d) (Gz (.pointer (some ⟨u,1,none⟩)) (dT d) (Gl (.int .i64 j) (dT d) M 0 Tryz.isAgg38 (Gz (.bool (decide (j=0))) (dT d) (fw (.bool (decide (j=0))) (yw rfl (dT d) rfl) (nt ?_))))))
 by_cases N:j=0
 refine jT (dT N) (sk (xV (bo (xS (Mz rfl (Mz rfl (Mz rfl ?_)))))))
 obtain⟨⟨o,O⟩,P⟩:∃ q:Int × ReaderT,dh (ReaderT.mk (Ll.mk h) j)=q:=⟨_,rfl⟩
 obtain⟨bz,ag,ah,ai,aW⟩:=x8 M
 refine WL.do rfl (yB Tryz.call50 rfl rfl (gH _ _ u (ReaderT.mk (Ll.mk h) j) r n o O ag (fun w9 h9=>aj.rds aU (by decide) t ((ah _ S) w9 h9)) (show h.length≤n∧h.length≤9223372036854775807 from by omega) P) ?_)
 rintro _ bC ⟨ak,au,rfl,av,x,Q⟩
 have aF:=ai _ _ av
 replace x:aj 1 r n h ak au O.aa.ls:=x
 have aX:=(x).le
 replace Q:0≤o∧o≤255:=Q
 refine jR [.int .i64 o] 3 1 1 aF ?_
 intro aG bD U
 replace U:=yR (y:=row aG 1 1 (List.flatMap (eI .i64) ([o])) 3 1) rfl U
 have ax:=U.pk [2,0,1]
 refine WL.do rfl (yQ (k:=f.length) (m:=1) (pU) ax rfl rfl (jg Tryz.underlying77 (ax.rds (i:=1) rfl) (gV uS ([o]))) rfl (by omega) (s:=List.length (f++ [o])) (by first | omega | (simp only [List.length_append,List.length_cons,List.length_nil] <;> omega)) (List.flatMap_append).symm ?_)
 intro aH aI bE aJ
 have aY:List.length (f++ [o])=f.length+1:=by simp only [List.length_append,List.length_cons,List.length_nil]
 refine Az rfl (xY (bN (yg (xS (Mz rfl (fw (.int .i64 ((g+1:Nat):Int)) (ym (e:=IntKind.i64.wrap (((g:Nat):Int)+1)) yk (by rw [A8 _ (by omega)]; omega)) (Az rfl (xY ?_))))))))
 have aK:=aJ.pk [2,0]
 exact yE (aH,aI,(f++ [o]),g+1,ak,au,O.aa.ls,O.ai,T) ⟨rfl,rfl,rfl,rfl,rfl,rfl,trivial⟩ (K.2 ⟨aK,by exact(aj.trans t x),by omega,by omega,by omega,et (L) (et (ip d) (et (ip N) (ae P)))⟩) (by show T < T+1; omega)
 refine jF (dF N) (Wp.exit (xX (xX (yx ?_))))
 have aL:=M.pk [0,1]
 exact yO (z,A,f,r,n,h,j) ⟨rfl,rfl,trivial⟩ (C.2 ⟨aL,by exact t,by omega,by omega,by omega,by omega,ae (et (L) (et (ip d) (iN N)))⟩)
 refine Sz (dF d) (Sz (dF d) (Sz (dF d) (Sz (dF d) (Sz (dF d) (fw (.bool false) (xW rfl (dF d) rfl) (nt (jf (Wp.exit (xX (xX (yx ?_)))))))))))
 have aM:=M.pk [0,1]
 exact yO (z,A,f,r,n,h,j) ⟨rfl,rfl,trivial⟩ (C.2 ⟨aM,by exact t,by omega,by omega,by omega,by omega,ae (et (L) (iN d))⟩)
 rintro ⟨E,F,l,G,I,p,J⟩ bF ay
 show Wp _ _ _ [(7, .slice E l.length F),(6, .slice none 0 0)] _ _
 obtain⟨aN,R,aZ,bf,bg,bi,az⟩:=C.1 ay
 have bn:=(R).le
 refine sr (Mz rfl (An rfl (rt (rs ?_))))
 have aO:=aN.pk [1,0]
 have e:jB a p1=(l,ReaderT.mk (Ll.mk p) J):=ae az
 obtain⟨rfl,rfl⟩:=gD (e.symm.trans hr)
 exact⟨E,F,G,I,rfl,aO,R,(by omega)⟩
def jl (c:ReaderT) (p1:Nat):(List Int) × ReaderT:=
 bnd (aD c p1) fun a=>bnd (jB a.2 ((a.1:Nat):Int)) fun b=>(b.1,b.2)
theorem nS (w:World) (D:Nat→Prop) (p:Nat) (f:ReaderT) (b:Option Addr) (a:Nat) (p1:Nat) (u:List Int) (K:ReaderT) (H:Own w D w [blk p [.slice b f.aa.ls.length a, .int .i64 f.ai] 150]) (j:Ro w D fun w'=>bu w' 1 b f.aa.ls.length (List.flatMap eB f.aa.ls)) (L:f.aa.ls.length≤a∧f.aa.ls.length≤9223372036854775807) (X:p1≤1000) (hr:jl f p1=(u,K)):
    Calls Tryz.prog 101 #[.pointer (some ⟨p,0,none⟩), .int .u64 ((p1:Nat):Int), .func (.func 50) #[] #[]] w (dC fun v w'=> ∃ (Q:Option Addr) (R:Nat) (B1ox0:Option Addr) (b1ox0:Nat),v= .slice Q u.length R∧Own w D w' [row Q u.length R (List.flatMap (eI .i64) u) 3 1,blk p [.slice B1ox0 K.aa.ls.length b1ox0, .int .i64 K.ai] 150]∧(aj 1 b a f.aa.ls B1ox0 b1ox0 K.aa.ls)∧(u.length≤1000)):=by
 refine xU (args:= [.pointer (some ⟨p,0,none⟩), .int .u64 ((p1:Nat):Int), .func (.func 50) #[] #[]]) Tryz.func101 rfl rfl rfl ?_
 show Wp _ _ _ [(0, .pointer (some ⟨p,0,none⟩)),(1, .int .u64 ((p1:Nat):Int)),(2, .func (.func 50) #[] #[])] _ _
 refine sr (Ar rfl (Mz rfl (Mz rfl (Mz rfl ?_))))
 obtain⟨⟨h,d⟩,l⟩:∃ q:Nat × ReaderT,aD f p1=q:=⟨_,rfl⟩
 obtain⟨Y,x,y,z,S⟩:=x8 H
 refine cl Tryz.call93 (dY _ _ p f b a p1 h d x (y _ j) (show f.aa.ls.length≤a∧f.aa.ls.length≤9223372036854775807 from by omega) l) ?_
 rintro _ Z ⟨r,k,rfl,A,c,m⟩
 have M:=z _ _ A
 replace c:aj 1 b a f.aa.ls r k d.aa.ls:=c
 have T:=(c).le
 replace m:h≤p1:=m
 refine fw (.int .i64 ((h:Nat):Int)) (ym (e:=IntKind.i64.wrap ((h:Nat):Int)) yk (A8 _ (by omega))) (Mz rfl ?_)
 obtain⟨⟨s,t⟩,n⟩:∃ q:(List Int) × ReaderT,jB d ((h:Nat):Int)=q:=⟨_,rfl⟩
 obtain⟨aa,B,C,E,U⟩:=x8 M
 refine cl Tryz.call115 (nE _ _ p d r k ((h:Nat):Int) s t B (fun w9 h9=>aj.rds aU (by decide) c ((C _ j) w9 h9)) (show d.aa.ls.length≤k∧d.aa.ls.length≤9223372036854775807 from by omega) (by omega) n) ?_
 rintro _ ah ⟨N,O,F,G,rfl,I,g,o⟩
 have J:=E _ _ I
 replace g:aj 1 r k d.aa.ls F G t.aa.ls:=g
 have V:=(g).le
 have W:=J.rowC (i:=0) rfl
 replace o:s.length≤1000:=o
 refine An rfl (rt (rs ?_))
 have P:=J.pk [0,1]
 have e:jl f p1=(s,t):=et (ae l) (ae n)
 obtain⟨rfl,rfl⟩:=gD (e.symm.trans hr)
 exact⟨N,O,F,G,rfl,P,(aj.trans c g),(by omega)⟩
def gK (f:ReaderT):bJ × ReaderT:=
 bnd (aQ f) fun b=>bnd (dh b.2) fun c=>bnd (aQ c.2) fun d=>bnd (aQ d.2) fun e=>bnd (jl e.2 255) fun a=>(bJ.mk b.1 c.1 d.1 e.1 (Ll.mk a.1),a.2)
set_option maxHeartbeats 1000000 in
theorem mF (w:World) (D:Nat→Prop) (J:Nat) (C:ReaderT) (o:Option Addr) (g:Nat) (K:bJ) (r1:ReaderT) (H:Own w D w [blk J [.slice o C.aa.ls.length g, .int .i64 C.ai] 150]) (b:Ro w D fun w'=>bu w' 1 o C.aa.ls.length (List.flatMap eB C.aa.ls)) (bg:C.aa.ls.length≤g∧C.aa.ls.length≤9223372036854775807) (hr:gK C=(K,r1)):
    Calls Tryz.prog 64 #[.pointer (some ⟨J,0,none⟩)] w (dC fun v w'=> ∃ (Q:Option Addr) (R:Nat) (B1ox0:Option Addr) (b1ox0:Nat),v= .agg #[.int .u64 ((K.aV:Nat):Int), .int .i64 K.aG, .int .u64 ((K.az:Nat):Int), .int .u64 ((K.bU:Nat):Int), .slice Q K.af.ls.length R]∧Own w D w' [row Q K.af.ls.length R (List.flatMap (eI .i64) K.af.ls) 3 1,blk J [.slice B1ox0 r1.aa.ls.length b1ox0, .int .i64 r1.ai] 150]∧(aj 1 o g C.aa.ls B1ox0 b1ox0 r1.aa.ls)∧(K.af.ls.length≤1000)):=by
 refine xU (args:= [.pointer (some ⟨J,0,none⟩)]) Tryz.func64 rfl rfl rfl ?_
 show Wp _ _ _ [(0, .pointer (some ⟨J,0,none⟩))] _ _
 refine sr ?_
 refine dG [.int .u64 0, .int .i64 0, .int .u64 0, .int .u64 0, .slice none 0 0] 79 H ?_
 intro cz cB bi
 refine ns (Mz rfl ?_)
 have bn:=bi.pk [1,0]
 obtain⟨⟨p,u⟩,S⟩:∃ q:Nat × ReaderT,aQ C=q:=⟨_,rfl⟩
 obtain⟨cO,aB,aC,aD,bP⟩:=x8 bn
 refine cl Tryz.call51 (cK _ _ J C o g p u aB (aC _ b) (show C.aa.ls.length≤g∧C.aa.ls.length≤9223372036854775807 from by omega) S) ?_
 rintro _ df ⟨ai,L,rfl,aF,a,T⟩
 have bq:=aD _ _ aF
 replace a:aj 1 o g C.aa.ls ai L u.aa.ls:=a
 have bQ:=(a).le
 replace T:p≤18446744073709551615:=T
 refine Kz (.agg #[.int .u64 ((p:Nat):Int), .int .i64 0, .int .u64 0, .int .u64 0, .slice none 0 0]) ?_
 refine dG [.int .u64 0, .int .i64 0, .int .u64 0, .int .u64 0, .slice none 0 0] 79 bq ?_
 intro M di bv
 refine cZ [.int .u64 ((p:Nat):Int), .int .i64 0, .int .u64 0, .int .u64 0, .slice none 0 0] 0 bv Tryz.sizeOf79 ?_
 intro dm bz
 refine ns (Mz rfl ?_)
 have bA:=bz.pk [1,0,2]
 obtain⟨⟨r,x⟩,U⟩:∃ q:Int × ReaderT,dh u=q:=⟨_,rfl⟩
 obtain⟨dn,aG,aH,aI,bR⟩:=x8 bA
 refine cl Tryz.call50 (gH _ _ J u ai L r x aG (fun j l=>aj.rds aU (by decide) a ((aH _ b) j l)) (show u.aa.ls.length≤L∧u.aa.ls.length≤9223372036854775807 from by omega) U) ?_
 rintro _ dw ⟨ak,N,rfl,aJ,c,V⟩
 have bB:=aI _ _ aJ
 replace c:aj 1 ai L u.aa.ls ak N x.aa.ls:=c
 have bS:=(c).le
 replace V:0≤r∧r≤255:=V
 refine Kz (.pointer (some ⟨M,1,none⟩)) ?_
 have bC:=bB.pk [1,0,2]
 refine cZ [.int .i64 r] 1 bC Tryz.sizeOf3 ?_
 intro dx bD
 refine ns (Mz rfl ?_)
 have bE:=bD.pk [1,0,2]
 obtain⟨⟨y,z⟩,W⟩:∃ q:Nat × ReaderT,aQ x=q:=⟨_,rfl⟩
 obtain⟨dz,aK,aL,aM,bT⟩:=x8 bE
 refine cl Tryz.call51 (cK _ _ J x ak N y z aK (fun j l=>aj.rds aU (by decide) c ((fun j l=>aj.rds aU (by decide) a ((aL _ b) j l)) j l)) (show x.aa.ls.length≤N∧x.aa.ls.length≤9223372036854775807 from by omega) W) ?_
 rintro _ dA ⟨au,O,rfl,aN,h,X⟩
 have bF:=aM _ _ aN
 replace h:aj 1 ak N x.aa.ls au O z.aa.ls:=h
 have bU:=(h).le
 replace X:y≤18446744073709551615:=X
 refine Kz (.pointer (some ⟨M,2,none⟩)) ?_
 have bG:=bF.pk [1,0,2]
 refine cZ [.int .u64 ((y:Nat):Int)] 2 bG Tryz.sizeOf22 ?_
 intro dB bH
 refine ns (Mz rfl ?_)
 have bI:=bH.pk [1,0,2]
 obtain⟨⟨A,B⟩,Y⟩:∃ q:Nat × ReaderT,aQ z=q:=⟨_,rfl⟩
 obtain⟨dD,aO,aP,aR,bV⟩:=x8 bI
 refine cl Tryz.call51 (cK _ _ J z au O A B aO (fun j l=>aj.rds aU (by decide) h ((fun j l=>aj.rds aU (by decide) c ((fun j l=>aj.rds aU (by decide) a ((aP _ b) j l)) j l)) j l)) (show z.aa.ls.length≤O∧z.aa.ls.length≤9223372036854775807 from by omega) Y) ?_
 rintro _ dE ⟨av,P,rfl,aS,d,E⟩
 have bK:=aR _ _ aS
 replace d:aj 1 au O z.aa.ls av P B.aa.ls:=d
 have bL:=(d).le
 replace E:A≤18446744073709551615:=E
 refine Kz (.pointer (some ⟨M,3,none⟩)) ?_
 have aT:=bK.pk [1,0,2]
 refine cZ [.int .u64 ((A:Nat):Int)] 3 aT Tryz.sizeOf22 ?_
 intro bW aV
 refine ns (Mz rfl ?_)
 have aW:=aV.pk [1,0,2]
 obtain⟨⟨f,F⟩,G⟩:∃ q:(List Int) × ReaderT,jl B 255=q:=⟨_,rfl⟩
 obtain⟨bX,ax,ay,az,bM⟩:=x8 aW
 refine cl Tryz.call101 (nS _ _ J B av P 255 f F ax (fun j l=>aj.rds aU (by decide) d ((fun j l=>aj.rds aU (by decide) h ((fun j l=>aj.rds aU (by decide) c ((fun j l=>aj.rds aU (by decide) a ((ay _ b) j l)) j l)) j l)) j l)) (show B.aa.ls.length≤P∧B.aa.ls.length≤9223372036854775807 from by omega) (by omega) G) ?_
 rintro _ bY ⟨s,t,Z,aa,rfl,aA,n,I⟩
 have af:=az _ _ aA
 replace n:aj 1 av P B.aa.ls Z aa F.aa.ls:=n
 have bN:=(n).le
 have bO:=af.rowC (i:=0) rfl
 replace I:f.length≤1000:=I
 refine Kz (.pointer (some ⟨M,4,none⟩)) ?_
 have aX:=af.pk [2,0,1,3]
 refine cZ [.slice s f.length t] 4 aX Tryz.sizeOf77 ?_
 intro bZ ag
 refine ns (La ([.int .u64 ((p:Nat):Int), .int .i64 r, .int .u64 ((y:Nat):Int), .int .u64 ((A:Nat):Int), .slice s f.length t]) ag 0 Tryz.isAgg79 Tryz.sizeOf79 ?_)
 have aY:=ag.pk [3,0,1,2]
 refine cZ [.int .u64 ((p:Nat):Int), .int .i64 r, .int .u64 ((y:Nat):Int), .int .u64 ((A:Nat):Int), .slice s f.length t] 0 aY Tryz.sizeOf79 ?_
 intro cu ah
 refine nt (rt (yI (kL rfl rfl (yD (cs:= [.int .u64 ((p:Nat):Int), .int .i64 r, .int .u64 ((y:Nat):Int), .int .u64 ((A:Nat):Int), .slice s f.length t]) Tryz.isAgg79 Tryz.sizeOf79 ((ah.cls (i:=0) rfl).lit (k:=0) (m:=5) rfl))) ?_))
 have aZ:=ah.pk [2,3]
 have e:gK C=(bJ.mk p r y A (Ll.mk f),F):=et (ae S) (et (ae U) (et (ae W) (et (ae Y) (ae G))))
 obtain⟨rfl,rfl⟩:=gD (e.symm.trans hr)
 exact⟨s,t,Z,aa,rfl,aZ,(aj.trans (aj.trans (aj.trans (aj.trans a c) h) d) n),(by first | omega | (dsimp only; omega) | (simp only [List.length_nil]; omega) | decide)⟩
def dz (p1:Int):Nat→List bB→Nat→List UInt8→Int→(List bB) × (List UInt8) × Int
  | 0,c,e,d,a=>default
  | f+1,c,e,d,a=>if((e:Nat):Int) < p1 then if a=0 then bnd (iW (ReaderT.mk (Ll.mk d) a)) fun b=>dz p1 f (c++ [b.1]) (e+1) b.2.aa.ls b.2.ai else(c,d,a) else(c,d,a)
def iK (a:ReaderT) (p1:Int):(List bB) × ReaderT:=
 bnd (bnd (dz p1 ((Int.toNat p1 - 0)+1) ([]) 0 a.aa.ls a.ai) fun sLrJjL=>(sLrJjL.1,sLrJjL.2.1,sLrJjL.2.2)) fun sJrJ=>(sJrJ.1,ReaderT.mk (Ll.mk sJrJ.2.1) sJrJ.2.2)
theorem lT (w:World) (D:Nat→Prop) (t:Nat) (a:ReaderT) (b:Option Addr) (c:Nat) (p1:Int) (U:List bB) (r1:ReaderT) (H:Own w D w [blk t [.slice b a.aa.ls.length c, .int .i64 a.ai] 150]) (R:Ro w D fun w'=>bu w' 1 b a.aa.ls.length (List.flatMap eB a.aa.ls)) (aA:a.aa.ls.length≤c∧a.aa.ls.length≤9223372036854775807) (bn:p1≤1000) (hr:iK a p1=(U,r1)):
    Calls Tryz.prog 137 #[.pointer (some ⟨t,0,none⟩), .int .i64 p1, .func (.func 118) #[] #[]] w (dC fun v w'=> ∃ (B0:Option Addr) (b0:Nat) (B1ox0:Option Addr) (b1ox0:Nat),v= .slice B0 U.length b0∧Own w D w' [row B0 U.length b0 (List.flatMap bB.cells U) 133 2,blk t [.slice B1ox0 r1.aa.ls.length b1ox0, .int .i64 r1.ai] 150]∧(aj 1 b c a.aa.ls B1ox0 b1ox0 r1.aa.ls)∧(U.length≤1000)):=by
 refine xU (args:= [.pointer (some ⟨t,0,none⟩), .int .i64 p1, .func (.func 118) #[] #[]]) Tryz.func137 rfl rfl rfl ?_
 show Wp _ _ _ [(0, .pointer (some ⟨t,0,none⟩)),(1, .int .i64 p1),(2, .func (.func 118) #[] #[])] _ _
 refine sr (Ar rfl (An rfl (xV (sr (An rfl ?_)))))
 obtain⟨V,W⟩:∃ q:((Option Addr) × Nat × (List bB) × (Option Addr) × Nat × (List UInt8) × Int)→World→Prop,q=fun(i:(Option Addr) × Nat × (List bB) × (Option Addr) × Nat × (List UInt8) × Int) w'=>Own w D w' [blk t [.slice i.2.2.2.1 i.2.2.2.2.2.1.length i.2.2.2.2.1, .int .i64 i.2.2.2.2.2.2] 150,row i.1 i.2.2.1.length i.2.1 (List.flatMap bB.cells i.2.2.1) 133 2]∧(aj 1 b c a.aa.ls i.2.2.2.1 i.2.2.2.2.1 i.2.2.2.2.2.1∧0≤i.2.2.1.length∧i.2.2.2.2.2.1.length≤a.aa.ls.length∧i.2.2.2.2.2.1.length≤a.aa.ls.length+1∧i.2.2.1.length≤1000∧(bnd (dz p1 ((Int.toNat p1 - 0)+1) ([]) 0 a.aa.ls a.ai) fun sLrJjL=>(sLrJjL.1,sLrJjL.2.1,sLrJjL.2.2))=(i.2.2.1,i.2.2.2.2.2.1,i.2.2.2.2.2.2)):=⟨_,rfl⟩
 have C:∀ {E:Option Addr} {F:Nat} {l:List bB} {G:Option Addr} {I:Nat} {o:List UInt8} {J:Int} {w':World},V (E,F,l,G,I,o,J) w'↔Own w D w' [blk t [.slice G o.length I, .int .i64 J] 150,row E l.length F (List.flatMap bB.cells l) 133 2]∧aj 1 b c a.aa.ls G I o∧0≤l.length∧o.length≤a.aa.ls.length∧o.length≤a.aa.ls.length+1∧l.length≤1000∧(bnd (dz p1 ((Int.toNat p1 - 0)+1) ([]) 0 a.aa.ls a.ai) fun sLrJjL=>(sLrJjL.1,sLrJjL.2.1,sLrJjL.2.2))=(l,o,J):=by intros; subst W; exact Iff.rfl
 refine ze (fun i:(Option Addr) × Nat × (List bB) × (Option Addr) × Nat × (List UInt8) × Int=> [(7, .slice i.1 i.2.2.1.length i.2.1),(6, .slice none 0 0)]) V ?_ ?_
 refine bo ?_
 have aB:Own w D w [row none 0 0 (List.flatMap bB.cells ([])) 133 2,blk t [.slice b a.aa.ls.length c, .int .i64 a.ai] 150]:=H.free (fU 133 2)
 have aC:=aB.pk [1,0]
 obtain⟨X,Y⟩:∃ q:((Option Addr) × Nat × (List bB) × Nat × (Option Addr) × Nat × (List UInt8) × Int × Nat)→World→Prop,q=fun(i:(Option Addr) × Nat × (List bB) × Nat × (Option Addr) × Nat × (List UInt8) × Int × Nat) w'=>Own w D w' [blk t [.slice i.2.2.2.2.1 i.2.2.2.2.2.2.1.length i.2.2.2.2.2.1, .int .i64 i.2.2.2.2.2.2.2.1] 150,row i.1 i.2.2.1.length i.2.1 (List.flatMap bB.cells i.2.2.1) 133 2]∧(aj 1 b c a.aa.ls i.2.2.2.2.1 i.2.2.2.2.2.1 i.2.2.2.2.2.2.1∧i.2.2.1.length≤i.2.2.2.1∧(i.2.2.2.1=0∨((i.2.2.2.1:Nat):Int)≤p1)∧Int.toNat p1 - i.2.2.2.1 < i.2.2.2.2.2.2.2.2∧dz p1 ((Int.toNat p1 - 0)+1) ([]) 0 a.aa.ls a.ai=dz p1 i.2.2.2.2.2.2.2.2 i.2.2.1 i.2.2.2.1 i.2.2.2.2.2.2.1 i.2.2.2.2.2.2.2.1):=⟨_,rfl⟩
 have K:∀ {z:Option Addr} {A:Nat} {f:List bB} {g:Nat} {p:Option Addr} {n:Nat} {h:List UInt8} {j:Int} {B:Nat} {w':World},X (z,A,f,g,p,n,h,j,B) w'↔Own w D w' [blk t [.slice p h.length n, .int .i64 j] 150,row z f.length A (List.flatMap bB.cells f) 133 2]∧aj 1 b c a.aa.ls p n h∧f.length≤g∧(g=0∨((g:Nat):Int)≤p1)∧Int.toNat p1 - g < B∧dz p1 ((Int.toNat p1 - 0)+1) ([]) 0 a.aa.ls a.ai=dz p1 B f g h j:=by intros; subst Y; exact Iff.rfl
 refine Wp.loop (fun i:(Option Addr) × Nat × (List bB) × Nat × (Option Addr) × Nat × (List UInt8) × Int × Nat=> [(7, .slice i.1 i.2.2.1.length i.2.1),(8, .int .i64 ((i.2.2.2.1:Nat):Int)),(6, .slice none 0 0),(0, .pointer (some ⟨t,0,none⟩)),(1, .int .i64 p1),(2, .func (.func 118) #[] #[])]) X (fun i=>i.2.2.2.2.2.2.2.2) (none,0, [],0,b,c,a.aa.ls,a.ai,(Int.toNat p1 - 0)+1) ⟨rfl,rfl,rfl,rfl,rfl,rfl,trivial⟩ (K.2 ⟨aC,(show aj 1 b c a.aa.ls b c a.aa.ls∧0≤0∧(0=0∨((0:Nat):Int)≤p1)∧Int.toNat p1 - 0 < ((Int.toNat p1 - 0)+1)∧dz p1 ((Int.toNat p1 - 0)+1) ([]) 0 a.aa.ls a.ai=dz p1 ((Int.toNat p1 - 0)+1) ([]) 0 a.aa.ls a.ai from ⟨by exact(aj.refl (by omega)),by omega,by omega,by omega,rfl⟩)⟩) ?_
 rintro ⟨z,A,f,g,p,n,h,j,B⟩ bq Z
 show Wp _ _ _ [(7, .slice z f.length A),(8, .int .i64 ((g:Nat):Int)),(6, .slice none 0 0),(0, .pointer (some ⟨t,0,none⟩)),(1, .int .i64 p1),(2, .func (.func 118) #[] #[])] _ _
 obtain⟨M,r,aQ,aR,aS,L⟩:=K.1 Z
 have aT:=(r).le
 obtain⟨S,aa⟩:∃ q,B=q+1:=⟨B - 1,by omega⟩
 subst aa
 refine xV (sr (Mz rfl (Mz rfl (Kz (.bool (decide (((g:Nat):Int) < p1))) (Mz rfl ?_)))))
 by_cases d:((g:Nat):Int) < p1
 refine gw (.pointer (some ⟨t,0,none⟩)) (dT d) (yj rfl) (Gz (.pointer (some ⟨t,0,none⟩)) (dT d) (Gz (.pointer (some ⟨t,1,none⟩)) (dT d) (Gl (.int .i64 j) (dT d) M 0 Tryz.isAgg38 (Gz (.bool (decide (j=0))) (dT d) (fw (.bool (decide (j=0))) (yw rfl (dT d) rfl) (nt ?_))))))
 by_cases N:j=0
 refine jT (dT N) (sk (xV (bo (xS (Mz rfl (Mz rfl (Mz rfl ?_)))))))
 obtain⟨⟨u,O⟩,P⟩:∃ q:bB × ReaderT,iW (ReaderT.mk (Ll.mk h) j)=q:=⟨_,rfl⟩
 obtain⟨bv,af,ag,ah,aV⟩:=x8 M
 refine WL.do rfl (yB Tryz.call118 rfl rfl (nQ _ _ t (ReaderT.mk (Ll.mk h) j) p n u O af (fun w9 h9=>aj.rds aU (by decide) r ((ag _ R) w9 h9)) (show h.length≤n∧h.length≤9223372036854775807 from by omega) P) ?_)
 rintro _ bC ⟨ai,ak,rfl,au,x⟩
 have aD:=ah _ _ au
 replace x:aj 1 p n h ai ak O.aa.ls:=x
 have aW:=(x).le
 refine jR (bB.cells u) 133 2 1 aD ?_
 intro aF bD T
 replace T:=yR (y:=row aF 1 1 (List.flatMap bB.cells ([u])) 133 2) rfl T
 have av:=T.pk [2,0,1]
 refine WL.do rfl (yQ (k:=f.length) (m:=1) (qx) av rfl rfl (jg Tryz.underlying127 (av.rds (i:=1) rfl) (gV bB.one ([u]))) rfl (by omega) (s:=List.length (f++ [u])) (by first | omega | (simp only [List.length_append,List.length_cons,List.length_nil] <;> omega)) (List.flatMap_append).symm ?_)
 intro aG aH bE aI
 have aX:List.length (f++ [u])=f.length+1:=by simp only [List.length_append,List.length_cons,List.length_nil]
 refine Az rfl (xY (bN (yg (xS (Mz rfl (fw (.int .i64 ((g+1:Nat):Int)) (ym (e:=IntKind.i64.wrap (((g:Nat):Int)+1)) yk (by rw [A8 _ (by omega)]; omega)) (Az rfl (xY ?_))))))))
 have aJ:=aI.pk [2,0]
 exact yE (aG,aH,(f++ [u]),g+1,ai,ak,O.aa.ls,O.ai,S) ⟨rfl,rfl,rfl,rfl,rfl,rfl,trivial⟩ (K.2 ⟨aJ,by exact(aj.trans r x),by omega,by omega,by omega,et (L) (et (ip d) (et (ip N) (ae P)))⟩) (by show S < S+1; omega)
 refine jF (dF N) (Wp.exit (xX (xX (yx ?_))))
 have aK:=M.pk [0,1]
 exact yO (z,A,f,p,n,h,j) ⟨rfl,rfl,trivial⟩ (C.2 ⟨aK,by exact r,by omega,by omega,by omega,by omega,ae (et (L) (et (ip d) (iN N)))⟩)
 refine Sz (dF d) (Sz (dF d) (Sz (dF d) (Sz (dF d) (Sz (dF d) (fw (.bool false) (xW rfl (dF d) rfl) (nt (jf (Wp.exit (xX (xX (yx ?_)))))))))))
 have aL:=M.pk [0,1]
 exact yO (z,A,f,p,n,h,j) ⟨rfl,rfl,trivial⟩ (C.2 ⟨aL,by exact r,by omega,by omega,by omega,by omega,ae (et (L) (iN d))⟩)
 rintro ⟨E,F,l,G,I,o,J⟩ bF ax
 show Wp _ _ _ [(7, .slice E l.length F),(6, .slice none 0 0)] _ _
 obtain⟨aM,Q,aY,aZ,bf,bg,ay⟩:=C.1 ax
 have bi:=(Q).le
 refine sr (Mz rfl (An rfl (rt (rs ?_))))
 have aN:=aM.pk [1,0]
 have e:iK a p1=(l,ReaderT.mk (Ll.mk o) J):=ae ay
 obtain⟨rfl,rfl⟩:=gD (e.symm.trans hr)
 exact⟨E,F,G,I,rfl,aN,Q,(by omega)⟩
def ik (c:ReaderT) (p1:Nat):(List bB) × ReaderT:=
 bnd (aD c p1) fun a=>bnd (iK a.2 ((a.1:Nat):Int)) fun b=>(b.1,b.2)
theorem ma (w:World) (D:Nat→Prop) (p:Nat) (f:ReaderT) (b:Option Addr) (a:Nat) (p1:Nat) (u:List bB) (K:ReaderT) (H:Own w D w [blk p [.slice b f.aa.ls.length a, .int .i64 f.ai] 150]) (j:Ro w D fun w'=>bu w' 1 b f.aa.ls.length (List.flatMap eB f.aa.ls)) (L:f.aa.ls.length≤a∧f.aa.ls.length≤9223372036854775807) (X:p1≤1000) (hr:ik f p1=(u,K)):
    Calls Tryz.prog 117 #[.pointer (some ⟨p,0,none⟩), .int .u64 ((p1:Nat):Int), .func (.func 118) #[] #[]] w (dC fun v w'=> ∃ (Q:Option Addr) (R:Nat) (B1ox0:Option Addr) (b1ox0:Nat),v= .slice Q u.length R∧Own w D w' [row Q u.length R (List.flatMap bB.cells u) 133 2,blk p [.slice B1ox0 K.aa.ls.length b1ox0, .int .i64 K.ai] 150]∧(aj 1 b a f.aa.ls B1ox0 b1ox0 K.aa.ls)∧(u.length≤1000)):=by
 refine xU (args:= [.pointer (some ⟨p,0,none⟩), .int .u64 ((p1:Nat):Int), .func (.func 118) #[] #[]]) Tryz.func117 rfl rfl rfl ?_
 show Wp _ _ _ [(0, .pointer (some ⟨p,0,none⟩)),(1, .int .u64 ((p1:Nat):Int)),(2, .func (.func 118) #[] #[])] _ _
 refine sr (Ar rfl (Mz rfl (Mz rfl (Mz rfl ?_))))
 obtain⟨⟨h,d⟩,l⟩:∃ q:Nat × ReaderT,aD f p1=q:=⟨_,rfl⟩
 obtain⟨Y,x,y,z,S⟩:=x8 H
 refine cl Tryz.call93 (dY _ _ p f b a p1 h d x (y _ j) (show f.aa.ls.length≤a∧f.aa.ls.length≤9223372036854775807 from by omega) l) ?_
 rintro _ Z ⟨r,k,rfl,A,c,m⟩
 have M:=z _ _ A
 replace c:aj 1 b a f.aa.ls r k d.aa.ls:=c
 have T:=(c).le
 replace m:h≤p1:=m
 refine fw (.int .i64 ((h:Nat):Int)) (ym (e:=IntKind.i64.wrap ((h:Nat):Int)) yk (A8 _ (by omega))) (Mz rfl ?_)
 obtain⟨⟨s,t⟩,n⟩:∃ q:(List bB) × ReaderT,iK d ((h:Nat):Int)=q:=⟨_,rfl⟩
 obtain⟨aa,B,C,E,U⟩:=x8 M
 refine cl Tryz.call137 (lT _ _ p d r k ((h:Nat):Int) s t B (fun w9 h9=>aj.rds aU (by decide) c ((C _ j) w9 h9)) (show d.aa.ls.length≤k∧d.aa.ls.length≤9223372036854775807 from by omega) (by omega) n) ?_
 rintro _ ah ⟨N,O,F,G,rfl,I,g,o⟩
 have J:=E _ _ I
 replace g:aj 1 r k d.aa.ls F G t.aa.ls:=g
 have V:=(g).le
 have W:=J.rowC (i:=0) rfl
 replace o:s.length≤1000:=o
 refine An rfl (rt (rs ?_))
 have P:=J.pk [0,1]
 have e:ik f p1=(s,t):=et (ae l) (ae n)
 obtain⟨rfl,rfl⟩:=gD (e.symm.trans hr)
 exact⟨N,O,F,G,rfl,P,(aj.trans c g),(by omega)⟩
def iy (d:ReaderT):df × ReaderT:=
 bnd (aD d 1) fun a=>bnd (bZ a.2) fun b=>bnd (ik b.2 255) fun c=>(df.mk (decide (((a.1:Nat):Int)=1)) b.1 (Ll.mk c.1),c.2)
set_option maxHeartbeats 1000000 in
theorem ng (w:World) (D:Nat→Prop) (x:Nat) (n:ReaderT) (d:Option Addr) (a:Nat) (G:df) (r1:ReaderT) (H:Own w D w [blk x [.slice d n.aa.ls.length a, .int .i64 n.ai] 150]) (g:Ro w D fun w'=>bu w' 1 d n.aa.ls.length (List.flatMap eB n.aa.ls)) (au:n.aa.ls.length≤a∧n.aa.ls.length≤9223372036854775807) (hr:iy n=(G,r1)):
    Calls Tryz.prog 104 #[.pointer (some ⟨x,0,none⟩)] w (dC fun v w'=> ∃ (y:Option Addr) (z:Nat) (B1ox0:Option Addr) (b1ox0:Nat),v= .agg #[.bool G.dZ, .string ⟨List.toArray G.aB⟩, .slice y G.ay.ls.length z]∧Own w D w' [row y G.ay.ls.length z (List.flatMap bB.cells G.ay.ls) 133 2,blk x [.slice B1ox0 r1.aa.ls.length b1ox0, .int .i64 r1.ai] 150]∧(aj 1 d a n.aa.ls B1ox0 b1ox0 r1.aa.ls)∧(G.ay.ls.length≤1000)):=by
 refine xU (args:= [.pointer (some ⟨x,0,none⟩)]) Tryz.func104 rfl rfl rfl ?_
 show Wp _ _ _ [(0, .pointer (some ⟨x,0,none⟩))] _ _
 refine sr ?_
 refine dG [.bool false, .string ⟨List.toArray ([])⟩, .slice none 0 0] 129 H ?_
 intro aS aT av
 refine ns (Mz rfl ?_)
 have ax:=av.pk [1,0]
 obtain⟨⟨c,h⟩,A⟩:∃ q:Nat × ReaderT,aD n 1=q:=⟨_,rfl⟩
 obtain⟨aV,L,M,N,aL⟩:=x8 ax
 refine cl Tryz.call93 (dY _ _ x n d a 1 c h L (M _ g) (show n.aa.ls.length≤a∧n.aa.ls.length≤9223372036854775807 from by omega) A) ?_
 rintro _ aW ⟨I,t,rfl,O,b,B⟩
 have ay:=N _ _ O
 replace b:aj 1 d a n.aa.ls I t h.aa.ls:=b
 have aM:=(b).le
 replace B:c≤1:=B
 refine Kz (.bool (decide (((c:Nat):Int)=1))) (Kz (.agg #[.bool (decide (((c:Nat):Int)=1)), .string ⟨List.toArray ([])⟩, .slice none 0 0]) ?_)
 refine dG [.bool false, .string ⟨List.toArray ([])⟩, .slice none 0 0] 129 ay ?_
 intro P aX az
 refine cZ [.bool (decide (((c:Nat):Int)=1)), .string ⟨List.toArray ([])⟩, .slice none 0 0] 0 az Tryz.sizeOf129 ?_
 intro aY aA
 refine ns (Mz rfl ?_)
 have aB:=aA.pk [1,0,2]
 obtain⟨⟨p,j⟩,C⟩:∃ q:(List UInt8) × ReaderT,bZ h=q:=⟨_,rfl⟩
 obtain⟨aZ,Q,R,S,aN⟩:=x8 aB
 refine cl Tryz.call95 (fH _ _ x h I t p j Q (fun T U=>aj.rds aU (by decide) b ((R _ g) T U)) (show h.aa.ls.length≤t∧h.aa.ls.length≤9223372036854775807 from by omega) C) ?_
 rintro _ bf ⟨J,u,rfl,V,f⟩
 have aC:=S _ _ V
 replace f:aj 1 I t h.aa.ls J u j.aa.ls:=f
 have aO:=(f).le
 refine Kz (.pointer (some ⟨P,1,none⟩)) ?_
 have aF:=aC.pk [1,0,2]
 refine cZ [.string ⟨List.toArray p⟩] 1 aF Tryz.sizeOf9 ?_
 intro bg aG
 refine ns (Mz rfl ?_)
 have aH:=aG.pk [1,0,2]
 obtain⟨⟨l,K⟩,E⟩:∃ q:(List bB) × ReaderT,ik j 255=q:=⟨_,rfl⟩
 obtain⟨bi,W,X,Y,aP⟩:=x8 aH
 refine cl Tryz.call117 (ma _ _ x j J u 255 l K W (fun T U=>aj.rds aU (by decide) f ((fun T U=>aj.rds aU (by decide) b ((X _ g) T U)) T U)) (show j.aa.ls.length≤u∧j.aa.ls.length≤9223372036854775807 from by omega) (by omega) E) ?_
 rintro _ bn ⟨r,s,Z,aa,rfl,af,o,F⟩
 have ag:=Y _ _ af
 replace o:aj 1 J u j.aa.ls Z aa K.aa.ls:=o
 have aQ:=(o).le
 have aR:=ag.rowC (i:=0) rfl
 replace F:l.length≤1000:=F
 refine Kz (.pointer (some ⟨P,2,none⟩)) ?_
 have aI:=ag.pk [2,0,1,3]
 refine cZ [.slice r l.length s] 2 aI Tryz.sizeOf127 ?_
 intro bq ah
 refine ns (La ([.bool (decide (((c:Nat):Int)=1)), .string ⟨List.toArray p⟩, .slice r l.length s]) ah 0 Tryz.isAgg129 Tryz.sizeOf129 ?_)
 have aJ:=ah.pk [3,0,1,2]
 refine cZ [.bool (decide (((c:Nat):Int)=1)), .string ⟨List.toArray p⟩, .slice r l.length s] 0 aJ Tryz.sizeOf129 ?_
 intro bv ai
 refine nt (rt (yI (kL rfl rfl (yD (cs:= [.bool (decide (((c:Nat):Int)=1)), .string ⟨List.toArray p⟩, .slice r l.length s]) Tryz.isAgg129 Tryz.sizeOf129 ((ai.cls (i:=0) rfl).lit (k:=0) (m:=3) rfl))) ?_))
 have aK:=ai.pk [2,3]
 have e:iy n=(df.mk (decide (((c:Nat):Int)=1)) p (Ll.mk l),K):=et (ae A) (et (ae C) (ae E))
 obtain⟨rfl,rfl⟩:=gD (e.symm.trans hr)
 exact⟨r,s,Z,aa,rfl,aK,(aj.trans (aj.trans b f) o),(by first | omega | (dsimp only; omega) | (simp only [List.length_nil]; omega) | decide)⟩
def cO (p1:Int):Nat→List df→Nat→List UInt8→Int→(List df) × (List UInt8) × Int
  | 0,c,e,d,a=>default
  | f+1,c,e,d,a=>if((e:Nat):Int) < p1 then if a=0 then bnd (iy (ReaderT.mk (Ll.mk d) a)) fun b=>cO p1 f (c++ [b.1]) (e+1) b.2.aa.ls b.2.ai else(c,d,a) else(c,d,a)
def iq (a:ReaderT) (p1:Int):(List df) × ReaderT:=
 bnd (bnd (cO p1 ((Int.toNat p1 - 0)+1) ([]) 0 a.aa.ls a.ai) fun sLrJjL=>(sLrJjL.1,sLrJjL.2.1,sLrJjL.2.2)) fun sJrJ=>(sJrJ.1,ReaderT.mk (Ll.mk sJrJ.2.1) sJrJ.2.2)
theorem lG (w:World) (D:Nat→Prop) (x:Nat) (d:ReaderT) (b:Option Addr) (c:Nat) (p1:Int) (r0:List df) (r1:ReaderT) (H:Own w D w [blk x [.slice b d.aa.ls.length c, .int .i64 d.ai] 150]) (Z:Ro w D fun w'=>bu w' 1 b d.aa.ls.length (List.flatMap eB d.aa.ls)) (aP:d.aa.ls.length≤c∧d.aa.ls.length≤9223372036854775807) (bQ:p1≤1000) (hr:iq d p1=(r0,r1)):
    Calls Tryz.prog 116 #[.pointer (some ⟨x,0,none⟩), .int .i64 p1, .func (.func 104) #[] #[]] w (dC fun v w'=> ∃ (B0:Option Addr) (b0:Nat) (e0:List aA) (B1ox0:Option Addr) (b1ox0:Nat),v= .slice B0 r0.length b0∧Own w D w' [row B0 r0.length b0 (List.flatMap aA.cells e0) 129 3,sepL (List.flatMap yU e0),blk x [.slice B1ox0 r1.aa.ls.length b1ox0, .int .i64 r1.ai] 150]∧(List.map xZ e0=r0)∧(aj 1 b c d.aa.ls B1ox0 b1ox0 r1.aa.ls)∧(r0.length≤1000)):=by
 refine xU (args:= [.pointer (some ⟨x,0,none⟩), .int .i64 p1, .func (.func 104) #[] #[]]) Tryz.func116 rfl rfl rfl ?_
 show Wp _ _ _ [(0, .pointer (some ⟨x,0,none⟩)),(1, .int .i64 p1),(2, .func (.func 104) #[] #[])] _ _
 refine sr (Ar rfl (An rfl (xV (sr (An rfl ?_)))))
 obtain⟨av,ax⟩:∃ q:((Option Addr) × Nat × (List aA) × (List df) × (Option Addr) × Nat × (List UInt8) × Int)→World→Prop,q=fun(i:(Option Addr) × Nat × (List aA) × (List df) × (Option Addr) × Nat × (List UInt8) × Int) w'=>Own w D w' [blk x [.slice i.2.2.2.2.1 i.2.2.2.2.2.2.1.length i.2.2.2.2.2.1, .int .i64 i.2.2.2.2.2.2.2] 150,row i.1 i.2.2.2.1.length i.2.1 (List.flatMap aA.cells i.2.2.1) 129 3,sepL (List.flatMap yU i.2.2.1)]∧(List.map xZ i.2.2.1=i.2.2.2.1∧aj 1 b c d.aa.ls i.2.2.2.2.1 i.2.2.2.2.2.1 i.2.2.2.2.2.2.1∧0≤i.2.2.2.1.length∧i.2.2.2.2.2.2.1.length≤d.aa.ls.length∧i.2.2.2.2.2.2.1.length≤d.aa.ls.length+1∧i.2.2.2.1.length≤1000∧(bnd (cO p1 ((Int.toNat p1 - 0)+1) ([]) 0 d.aa.ls d.ai) fun sLrJjL=>(sLrJjL.1,sLrJjL.2.1,sLrJjL.2.2))=(i.2.2.2.1,i.2.2.2.2.2.2.1,i.2.2.2.2.2.2.2)):=⟨_,rfl⟩
 have L:∀ {M:Option Addr} {N:Nat} {F:List aA} {t:List df} {O:Option Addr} {P:Nat} {z:List UInt8} {Q:Int} {w':World},av (M,N,F,t,O,P,z,Q) w'↔Own w D w' [blk x [.slice O z.length P, .int .i64 Q] 150,row M t.length N (List.flatMap aA.cells F) 129 3,sepL (List.flatMap yU F)]∧List.map xZ F=t∧aj 1 b c d.aa.ls O P z∧0≤t.length∧z.length≤d.aa.ls.length∧z.length≤d.aa.ls.length+1∧t.length≤1000∧(bnd (cO p1 ((Int.toNat p1 - 0)+1) ([]) 0 d.aa.ls d.ai) fun sLrJjL=>(sLrJjL.1,sLrJjL.2.1,sLrJjL.2.2))=(t,z,Q):=by intros; subst ax; exact Iff.rfl
 refine ze (fun i:(Option Addr) × Nat × (List aA) × (List df) × (Option Addr) × Nat × (List UInt8) × Int=> [(7, .slice i.1 i.2.2.2.1.length i.2.1),(6, .slice none 0 0)]) av ?_ ?_
 refine bo ?_
 have aR:Own w D w [sepL (List.flatMap yU ([])),blk x [.slice b d.aa.ls.length c, .int .i64 d.ai] 150]:=H.sepNil
 have aS:Own w D w [row none 0 0 (List.flatMap aA.cells ([])) 129 3,sepL (List.flatMap yU ([])),blk x [.slice b d.aa.ls.length c, .int .i64 d.ai] 150]:=aR.free (fU 129 3)
 have aT:=aS.pk [2,0,1]
 obtain⟨ay,az⟩:∃ q:((Option Addr) × Nat × (List aA) × (List df) × Nat × (Option Addr) × Nat × (List UInt8) × Int × Nat)→World→Prop,q=fun(i:(Option Addr) × Nat × (List aA) × (List df) × Nat × (Option Addr) × Nat × (List UInt8) × Int × Nat) w'=>Own w D w' [blk x [.slice i.2.2.2.2.2.1 i.2.2.2.2.2.2.2.1.length i.2.2.2.2.2.2.1, .int .i64 i.2.2.2.2.2.2.2.2.1] 150,row i.1 i.2.2.2.1.length i.2.1 (List.flatMap aA.cells i.2.2.1) 129 3,sepL (List.flatMap yU i.2.2.1)]∧(List.map xZ i.2.2.1=i.2.2.2.1∧aj 1 b c d.aa.ls i.2.2.2.2.2.1 i.2.2.2.2.2.2.1 i.2.2.2.2.2.2.2.1∧i.2.2.2.1.length≤i.2.2.2.2.1∧(i.2.2.2.2.1=0∨((i.2.2.2.2.1:Nat):Int)≤p1)∧Int.toNat p1 - i.2.2.2.2.1 < i.2.2.2.2.2.2.2.2.2∧cO p1 ((Int.toNat p1 - 0)+1) ([]) 0 d.aa.ls d.ai=cO p1 i.2.2.2.2.2.2.2.2.2 i.2.2.2.1 i.2.2.2.2.1 i.2.2.2.2.2.2.2.1 i.2.2.2.2.2.2.2.2.1):=⟨_,rfl⟩
 have R:∀ {G:Option Addr} {I:Nat} {o:List aA} {g:List df} {j:Nat} {A:Option Addr} {u:Nat} {l:List UInt8} {n:Int} {J:Nat} {w':World},ay (G,I,o,g,j,A,u,l,n,J) w'↔Own w D w' [blk x [.slice A l.length u, .int .i64 n] 150,row G g.length I (List.flatMap aA.cells o) 129 3,sepL (List.flatMap yU o)]∧List.map xZ o=g∧aj 1 b c d.aa.ls A u l∧g.length≤j∧(j=0∨((j:Nat):Int)≤p1)∧Int.toNat p1 - j < J∧cO p1 ((Int.toNat p1 - 0)+1) ([]) 0 d.aa.ls d.ai=cO p1 J g j l n:=by intros; subst az; exact Iff.rfl
 refine Wp.loop (fun i:(Option Addr) × Nat × (List aA) × (List df) × Nat × (Option Addr) × Nat × (List UInt8) × Int × Nat=> [(7, .slice i.1 i.2.2.2.1.length i.2.1),(8, .int .i64 ((i.2.2.2.2.1:Nat):Int)),(6, .slice none 0 0),(0, .pointer (some ⟨x,0,none⟩)),(1, .int .i64 p1),(2, .func (.func 104) #[] #[])]) ay (fun i=>i.2.2.2.2.2.2.2.2.2) (none,0, [], [],0,b,c,d.aa.ls,d.ai,(Int.toNat p1 - 0)+1) ⟨rfl,rfl,rfl,rfl,rfl,rfl,trivial⟩ (R.2 ⟨aT,(show List.map xZ ([])=([])∧aj 1 b c d.aa.ls b c d.aa.ls∧0≤0∧(0=0∨((0:Nat):Int)≤p1)∧Int.toNat p1 - 0 < ((Int.toNat p1 - 0)+1)∧cO p1 ((Int.toNat p1 - 0)+1) ([]) 0 d.aa.ls d.ai=cO p1 ((Int.toNat p1 - 0)+1) ([]) 0 d.aa.ls d.ai from ⟨by exact rfl,by exact(aj.refl (by omega)),by omega,by omega,by omega,rfl⟩)⟩) ?_
 rintro ⟨G,I,o,g,j,A,u,l,n,J⟩ bR aB
 show Wp _ _ _ [(7, .slice G g.length I),(8, .int .i64 ((j:Nat):Int)),(6, .slice none 0 0),(0, .pointer (some ⟨x,0,none⟩)),(1, .int .i64 p1),(2, .func (.func 104) #[] #[])] _ _
 obtain⟨V,B,C,bF,bG,bH,S⟩:=R.1 aB
 have bI:=bV B
 have bJ:=(C).le
 obtain⟨aa,aC⟩:∃ q,J=q+1:=⟨J - 1,by omega⟩
 subst aC
 refine xV (sr (Mz rfl (Mz rfl (Kz (.bool (decide (((j:Nat):Int) < p1))) (Mz rfl ?_)))))
 by_cases h:((j:Nat):Int) < p1
 refine gw (.pointer (some ⟨x,0,none⟩)) (dT h) (yj rfl) (Gz (.pointer (some ⟨x,0,none⟩)) (dT h) (Gz (.pointer (some ⟨x,1,none⟩)) (dT h) (Gl (.int .i64 n) (dT h) V 0 Tryz.isAgg38 (Gz (.bool (decide (n=0))) (dT h) (fw (.bool (decide (n=0))) (yw rfl (dT h) rfl) (nt ?_))))))
 by_cases W:n=0
 refine jT (dT W) (sk (xV (bo (xS (Mz rfl (Mz rfl (Mz rfl ?_)))))))
 obtain⟨⟨a,K⟩,X⟩:∃ q:df × ReaderT,iy (ReaderT.mk (Ll.mk l) n)=q:=⟨_,rfl⟩
 obtain⟨bS,aD,aF,aG,bK⟩:=x8 V
 refine WL.do rfl (yB Tryz.call104 rfl rfl (ng _ _ x (ReaderT.mk (Ll.mk l) n) A u a K aD (fun w9 h9=>aj.rds aU (by decide) C ((aF _ Z) w9 h9)) (show l.length≤u∧l.length≤9223372036854775807 from by omega) X) ?_)
 rintro _ bW ⟨p,r,af,ag,rfl,aH,E,Y⟩
 have aI:=aG _ _ aH
 replace E:aj 1 A u l af ag K.aa.ls:=E
 have bL:=(E).le
 have bM:=aI.rowC (i:=0) rfl
 replace Y:a.ay.ls.length≤1000:=Y
 refine jR [.bool a.dZ, .string ⟨List.toArray a.aB⟩, .slice p a.ay.ls.length r] 129 3 1 aI ?_
 intro aJ bX ah
 replace ah:=yR (y:=row aJ 1 1 (List.flatMap aA.cells ([(aA.mk a.dZ a.aB (Sv.mk p r a.ay.ls))])) 129 3) rfl ah
 have aK:=ah.pk [3,4,1,0,2]
 refine WL.do rfl (yQ (k:=g.length) (m:=1) (rJ) aK rfl rfl (jg Tryz.underlying82 (aK.rds (i:=3) rfl) (gV aA.one ([(aA.mk a.dZ a.aB (Sv.mk p r a.ay.ls))]))) rfl (by omega) (s:=List.length (g++ [a])) (by first | omega | (simp only [List.length_append,List.length_cons,List.length_nil] <;> omega)) (List.flatMap_append).symm ?_)
 intro aL aM aV aW
 have aX:=aW.pk [1,2,0,3,4]
 have aY:Own w D aV [sepL (List.flatMap yU (o++ [(aA.mk a.dZ a.aB (Sv.mk p r a.ay.ls))])),row aL (List.length (g++ [a])) aM (List.flatMap aA.cells (o++ [(aA.mk a.dZ a.aB (Sv.mk p r a.ay.ls))])) 129 3,row aJ 1 1 (List.flatMap aA.cells ([(aA.mk a.dZ a.aB (Sv.mk p r a.ay.ls))])) 129 3,blk x [.slice af K.aa.ls.length ag, .int .i64 K.ai] 150]:=aX.sepAdd (L2:= [row p a.ay.ls.length r (List.flatMap bB.cells a.ay.ls) 133 2]) (List.flatMap_append (f:=yU) (xs:=o) (ys:= [(aA.mk a.dZ a.aB (Sv.mk p r a.ay.ls))])).symm
 have bO:List.length (g++ [a])=g.length+1:=by simp only [List.length_append,List.length_cons,List.length_nil]
 have bP:=bV (kH (es:= [(aA.mk a.dZ a.aB (Sv.mk p r a.ay.ls))]) (ms:= [a]) B rfl)
 refine Az rfl (xY (bN (yg (xS (Mz rfl (fw (.int .i64 ((j+1:Nat):Int)) (ym (e:=IntKind.i64.wrap (((j:Nat):Int)+1)) yk (by rw [A8 _ (by omega)]; omega)) (Az rfl (xY ?_))))))))
 have aZ:=aY.pk [3,1,0]
 exact yE (aL,aM,(o++ [(aA.mk a.dZ a.aB (Sv.mk p r a.ay.ls))]),(g++ [a]),j+1,af,ag,K.aa.ls,K.ai,aa) ⟨rfl,rfl,rfl,rfl,rfl,rfl,trivial⟩ (R.2 ⟨aZ,by exact(kH (es:= [(aA.mk a.dZ a.aB (Sv.mk p r a.ay.ls))]) (ms:= [a]) B rfl),by exact(aj.trans C E),by omega,by omega,by omega,et (S) (et (ip h) (et (ip W) (ae X)))⟩) (by show aa < aa+1; omega)
 refine jF (dF W) (Wp.exit (xX (xX (yx ?_))))
 have bf:=V.pk [0,1,2]
 exact yO (G,I,o,g,A,u,l,n) ⟨rfl,rfl,trivial⟩ (L.2 ⟨bf,by exact B,by exact C,by omega,by omega,by omega,by omega,ae (et (S) (et (ip h) (iN W)))⟩)
 refine Sz (dF h) (Sz (dF h) (Sz (dF h) (Sz (dF h) (Sz (dF h) (fw (.bool false) (xW rfl (dF h) rfl) (nt (jf (Wp.exit (xX (xX (yx ?_)))))))))))
 have bg:=V.pk [0,1,2]
 exact yO (G,I,o,g,A,u,l,n) ⟨rfl,rfl,trivial⟩ (L.2 ⟨bg,by exact B,by exact C,by omega,by omega,by omega,by omega,ae (et (S) (iN h))⟩)
 rintro ⟨M,N,F,t,O,P,z,Q⟩ bY ai
 show Wp _ _ _ [(7, .slice M t.length N),(6, .slice none 0 0)] _ _
 obtain⟨bi,T,U,bn,bq,bv,bz,ak⟩:=L.1 ai
 have bA:=bV T
 have bC:=(U).le
 refine sr (Mz rfl (An rfl (rt (rs ?_))))
 have aN:=bi.pk [1,2,0]
 have e:iq d p1=(t,ReaderT.mk (Ll.mk z) Q):=ae ak
 obtain⟨rfl,rfl⟩:=gD (e.symm.trans hr)
 exact⟨M,N,F,O,P,rfl,aN,T,U,(by omega)⟩
def gG (c:ReaderT) (p1:Nat):(List df) × ReaderT:=
 bnd (aD c p1) fun a=>bnd (iq a.2 ((a.1:Nat):Int)) fun b=>(b.1,b.2)
theorem lJ (w:World) (D:Nat→Prop) (r:Nat) (f:ReaderT) (b:Option Addr) (a:Nat) (p1:Nat) (x:List df) (L:ReaderT) (H:Own w D w [blk r [.slice b f.aa.ls.length a, .int .i64 f.ai] 150]) (j:Ro w D fun w'=>bu w' 1 b f.aa.ls.length (List.flatMap eB f.aa.ls)) (M:f.aa.ls.length≤a∧f.aa.ls.length≤9223372036854775807) (af:p1≤1000) (hr:gG f p1=(x,L)):
    Calls Tryz.prog 103 #[.pointer (some ⟨r,0,none⟩), .int .u64 ((p1:Nat):Int), .func (.func 104) #[] #[]] w (dC fun v w'=> ∃ (T:Option Addr) (U:Nat) (N:List aA) (B1ox0:Option Addr) (b1ox0:Nat),v= .slice T x.length U∧Own w D w' [row T x.length U (List.flatMap aA.cells N) 129 3,sepL (List.flatMap yU N),blk r [.slice B1ox0 L.aa.ls.length b1ox0, .int .i64 L.ai] 150]∧(List.map xZ N=x)∧(aj 1 b a f.aa.ls B1ox0 b1ox0 L.aa.ls)∧(x.length≤1000)):=by
 refine xU (args:= [.pointer (some ⟨r,0,none⟩), .int .u64 ((p1:Nat):Int), .func (.func 104) #[] #[]]) Tryz.func103 rfl rfl rfl ?_
 show Wp _ _ _ [(0, .pointer (some ⟨r,0,none⟩)),(1, .int .u64 ((p1:Nat):Int)),(2, .func (.func 104) #[] #[])] _ _
 refine sr (Ar rfl (Mz rfl (Mz rfl (Mz rfl ?_))))
 obtain⟨⟨h,d⟩,l⟩:∃ q:Nat × ReaderT,aD f p1=q:=⟨_,rfl⟩
 obtain⟨ag,y,z,A,V⟩:=x8 H
 refine cl Tryz.call93 (dY _ _ r f b a p1 h d y (z _ j) (show f.aa.ls.length≤a∧f.aa.ls.length≤9223372036854775807 from by omega) l) ?_
 rintro _ ah ⟨s,k,rfl,B,c,m⟩
 have O:=A _ _ B
 replace c:aj 1 b a f.aa.ls s k d.aa.ls:=c
 have W:=(c).le
 replace m:h≤p1:=m
 refine fw (.int .i64 ((h:Nat):Int)) (ym (e:=IntKind.i64.wrap ((h:Nat):Int)) yk (A8 _ (by omega))) (Mz rfl ?_)
 obtain⟨⟨t,u⟩,n⟩:∃ q:(List df) × ReaderT,iq d ((h:Nat):Int)=q:=⟨_,rfl⟩
 obtain⟨ai,C,E,F,X⟩:=x8 O
 refine cl Tryz.call116 (lG _ _ r d s k ((h:Nat):Int) t u C (fun w9 h9=>aj.rds aU (by decide) c ((E _ j) w9 h9)) (show d.aa.ls.length≤k∧d.aa.ls.length≤9223372036854775807 from by omega) (by omega) n) ?_
 rintro _ av ⟨P,Q,R,G,I,rfl,J,o,g,p⟩
 have K:=F _ _ J
 replace g:aj 1 s k d.aa.ls G I u.aa.ls:=g
 have Y:=(g).le
 have Z:=bV o
 have aa:=K.rowC (i:=0) rfl
 replace p:t.length≤1000:=p
 refine An rfl (rt (rs ?_))
 have S:=K.pk [0,1,2]
 have e:gG f p1=(t,u):=et (ae l) (ae n)
 obtain⟨rfl,rfl⟩:=gD (e.symm.trans hr)
 exact⟨P,Q,R,G,I,rfl,S,o,(aj.trans c g),(by omega)⟩
def iY (e:ReaderT):dX × ReaderT:=
 bnd (dh e) fun a=>bnd (aQ a.2) fun b=>bnd (aQ b.2) fun c=>bnd (gG c.2 255) fun d=>(dX.mk a.1 b.1 c.1 (Ll.mk d.1),d.2)
set_option maxHeartbeats 1000000 in
theorem nT (w:World) (D:Nat→Prop) (E:Nat) (t:ReaderT) (h:Option Addr) (b:Nat) (J:dX) (r1:ReaderT) (H:Own w D w [blk E [.slice h t.aa.ls.length b, .int .i64 t.ai] 150]) (d:Ro w D fun w'=>bu w' 1 h t.aa.ls.length (List.flatMap eB t.aa.ls)) (aP:t.aa.ls.length≤b∧t.aa.ls.length≤9223372036854775807) (hr:iY t=(J,r1)):
    Calls Tryz.prog 66 #[.pointer (some ⟨E,0,none⟩)] w (dC fun v w'=> ∃ (K:Option Addr) (L:Nat) (u:List aA) (B1ox0:Option Addr) (b1ox0:Nat),v= .agg #[.int .i64 J.aG, .int .u64 ((J.az:Nat):Int), .int .u64 ((J.bU:Nat):Int), .slice K J.ah.ls.length L]∧Own w D w' [row K J.ah.ls.length L (List.flatMap aA.cells u) 129 3,sepL (List.flatMap yU u),blk E [.slice B1ox0 r1.aa.ls.length b1ox0, .int .i64 r1.ai] 150]∧(List.map xZ u=J.ah.ls)∧(aj 1 h b t.aa.ls B1ox0 b1ox0 r1.aa.ls)∧(J.ah.ls.length≤1000)):=by
 refine xU (args:= [.pointer (some ⟨E,0,none⟩)]) Tryz.func66 rfl rfl rfl ?_
 show Wp _ _ _ [(0, .pointer (some ⟨E,0,none⟩))] _ _
 refine sr ?_
 refine dG [.int .i64 0, .int .u64 0, .int .u64 0, .slice none 0 0] 84 H ?_
 intro bL bM aR
 refine ns (Mz rfl ?_)
 have aS:=aR.pk [1,0]
 obtain⟨⟨f,l⟩,M⟩:∃ q:Int × ReaderT,dh t=q:=⟨_,rfl⟩
 obtain⟨bN,ag,ah,ai,bC⟩:=x8 aS
 refine cl Tryz.call50 (gH _ _ E t h b f l ag (ah _ d) (show t.aa.ls.length≤b∧t.aa.ls.length≤9223372036854775807 from by omega) M) ?_
 rintro _ bO ⟨X,F,rfl,ak,a,N⟩
 have aT:=ai _ _ ak
 replace a:aj 1 h b t.aa.ls X F l.aa.ls:=a
 have bD:=(a).le
 replace N:0≤f∧f≤255:=N
 refine Kz (.agg #[.int .i64 f, .int .u64 0, .int .u64 0, .slice none 0 0]) ?_
 refine dG [.int .i64 0, .int .u64 0, .int .u64 0, .slice none 0 0] 84 aT ?_
 intro Y bP aV
 refine cZ [.int .i64 f, .int .u64 0, .int .u64 0, .slice none 0 0] 0 aV Tryz.sizeOf84 ?_
 intro bQ aW
 refine ns (Mz rfl ?_)
 have aX:=aW.pk [1,0,2]
 obtain⟨⟨n,o⟩,O⟩:∃ q:Nat × ReaderT,aQ l=q:=⟨_,rfl⟩
 obtain⟨bR,au,av,ax,bE⟩:=x8 aX
 refine cl Tryz.call51 (cK _ _ E l X F n o au (fun x y=>aj.rds aU (by decide) a ((av _ d) x y)) (show l.aa.ls.length≤F∧l.aa.ls.length≤9223372036854775807 from by omega) O) ?_
 rintro _ bS ⟨Z,G,rfl,ay,c,P⟩
 have aY:=ax _ _ ay
 replace c:aj 1 X F l.aa.ls Z G o.aa.ls:=c
 have bF:=(c).le
 replace P:n≤18446744073709551615:=P
 refine Kz (.pointer (some ⟨Y,1,none⟩)) ?_
 have aZ:=aY.pk [1,0,2]
 refine cZ [.int .u64 ((n:Nat):Int)] 1 aZ Tryz.sizeOf22 ?_
 intro bT bf
 refine ns (Mz rfl ?_)
 have bg:=bf.pk [1,0,2]
 obtain⟨⟨p,r⟩,Q⟩:∃ q:Nat × ReaderT,aQ o=q:=⟨_,rfl⟩
 obtain⟨bU,az,aB,aC,bG⟩:=x8 bg
 refine cl Tryz.call51 (cK _ _ E o Z G p r az (fun x y=>aj.rds aU (by decide) c ((fun x y=>aj.rds aU (by decide) a ((aB _ d) x y)) x y)) (show o.aa.ls.length≤G∧o.aa.ls.length≤9223372036854775807 from by omega) Q) ?_
 rintro _ bW ⟨aa,I,rfl,aD,j,R⟩
 have bi:=aC _ _ aD
 replace j:aj 1 Z G o.aa.ls aa I r.aa.ls:=j
 have bH:=(j).le
 replace R:p≤18446744073709551615:=R
 refine Kz (.pointer (some ⟨Y,2,none⟩)) ?_
 have bn:=bi.pk [1,0,2]
 refine cZ [.int .u64 ((p:Nat):Int)] 2 bn Tryz.sizeOf22 ?_
 intro bX bq
 refine ns (Mz rfl ?_)
 have bv:=bq.pk [1,0,2]
 obtain⟨⟨s,af⟩,S⟩:∃ q:(List df) × ReaderT,gG r 255=q:=⟨_,rfl⟩
 obtain⟨bY,aF,aG,aH,bI⟩:=x8 bv
 refine cl Tryz.call103 (lJ _ _ E r aa I 255 s af aF (fun x y=>aj.rds aU (by decide) j ((fun x y=>aj.rds aU (by decide) c ((fun x y=>aj.rds aU (by decide) a ((aG _ d) x y)) x y)) x y)) (show r.aa.ls.length≤I∧r.aa.ls.length≤9223372036854775807 from by omega) (by omega) S) ?_
 rintro _ bZ ⟨z,A,aI,T,U,rfl,aJ,B,g,C⟩
 have aK:=aH _ _ aJ
 replace g:aj 1 aa I r.aa.ls T U af.aa.ls:=g
 have bz:=(g).le
 have bA:=bV B
 have bB:=aK.rowC (i:=0) rfl
 replace C:s.length≤1000:=C
 refine Kz (.pointer (some ⟨Y,3,none⟩)) ?_
 have aL:=aK.pk [3,0,1,2,4]
 refine cZ [.slice z s.length A] 3 aL Tryz.sizeOf82 ?_
 intro bJ V
 refine ns (La ([.int .i64 f, .int .u64 ((n:Nat):Int), .int .u64 ((p:Nat):Int), .slice z s.length A]) V 0 Tryz.isAgg84 Tryz.sizeOf84 ?_)
 have aM:=V.pk [4,0,1,2,3]
 refine cZ [.int .i64 f, .int .u64 ((n:Nat):Int), .int .u64 ((p:Nat):Int), .slice z s.length A] 0 aM Tryz.sizeOf84 ?_
 intro bK W
 refine nt (rt (yI (kL rfl rfl (yD (cs:= [.int .i64 f, .int .u64 ((n:Nat):Int), .int .u64 ((p:Nat):Int), .slice z s.length A]) Tryz.isAgg84 Tryz.sizeOf84 ((W.cls (i:=0) rfl).lit (k:=0) (m:=4) rfl))) ?_))
 have aN:=W.pk [2,3,4]
 have e:iY t=(dX.mk f n p (Ll.mk s),af):=et (ae M) (et (ae O) (et (ae Q) (ae S)))
 obtain⟨rfl,rfl⟩:=gD (e.symm.trans hr)
 exact⟨z,A,aI,T,U,rfl,aN,B,(aj.trans (aj.trans (aj.trans a c) j) g),(by first | omega | (dsimp only; omega) | (simp only [List.length_nil]; omega) | decide)⟩
def fK (g:List UInt8) (p1:UInt8):ReaderT:=
 bnd (mZ g) fun c=>if((g.length:Nat):Int) > 8192 then bnd (bq c 2) fun e=>bnd (dW e) fun a=>if((a.1.toNat:Nat):Int)=((p1.toNat:Nat):Int) then a.2 else bnd (bq a.2 11) fun f=>f else bnd (dW c) fun b=>if((b.1.toNat:Nat):Int)=((p1.toNat:Nat):Int) then b.2 else bnd (bq b.2 11) fun d=>d
theorem mr (w:World) (D:Nat→Prop) (Q:Option Addr) (n0 R:Nat) (n:List UInt8) (p1:UInt8) (r0:ReaderT) (H:Own w D w []) (s:Ro w D fun w'=>bu w' 1 Q n0 (List.flatMap eB n)) (aR:n0=n.length) (bH:n.length *1≤211106232532992) (bI:n.length≤R) (hr:fK n p1=r0):
    Calls Tryz.prog 49 #[.slice Q n0 R, .int .u8 ((p1.toNat:Nat):Int)] w (dC fun v w'=> ∃ (G0:Nat) (B0nx0:Option Addr) (b0nx0:Nat),v= .pointer (some ⟨G0,0,none⟩)∧Own w D w' [blk G0 [.slice B0nx0 r0.aa.ls.length b0nx0, .int .i64 r0.ai] 150]∧(aj 1 Q R n B0nx0 b0nx0 r0.aa.ls)):=by
 subst aR
 refine xU (args:= [.slice Q n.length R, .int .u8 ((p1.toNat:Nat):Int)]) Tryz.func49 rfl rfl rfl ?_
 show Wp _ _ _ [(0, .slice Q n.length R),(1, .int .u8 ((p1.toNat:Nat):Int))] _ _
 refine sr (Ar rfl (Mz rfl ?_))
 obtain⟨b,i⟩:∃ q,mZ n=q:=⟨_,rfl⟩
 obtain⟨bJ,Y,Z,aa,bg⟩:=yc H
 refine cl Tryz.call90 (qp _ _ Q n.length R n b Y (Z _ s) rfl (by omega) (by first | omega | (simp only [List.length_take,List.length_drop]; omega) | exact Nat.le_refl _) i) ?_
 rintro _ bK ⟨g,u,o,rfl,af,a⟩
 have ag:=aa _ _ af
 replace a:aj 1 Q R n u o b.aa.ls:=a
 have bi:=(a).le
 refine An rfl (xV (sr (Mz rfl (Kz (.int .i64 ((n.length:Nat):Int)) (Kz (.bool (decide (((n.length:Nat):Int) > 8192))) (nt ?_))))))
 by_cases t:((n.length:Nat):Int) > 8192
 refine jT (dT t) (xS (Mz rfl ?_))
 obtain⟨p,x⟩:∃ q,bq b 2=q:=⟨_,rfl⟩
 obtain⟨bL,ah,ai,ak,bn⟩:=x8 ag
 refine cl Tryz.call91 (fA _ _ g b u o 2 p ah (fun j k=>aj.rds aU (by decide) a ((ai _ s) j k)) (show b.aa.ls.length≤o∧b.aa.ls.length≤9223372036854775807 from by omega) x) ?_
 rintro _ bM ⟨S,F,rfl,au,c⟩
 have aS:=ak _ _ au
 replace c:aj 1 u o b.aa.ls S F p.aa.ls:=c
 have bv:=(c).le
 refine nt (xV (sr (Mz rfl ?_)))
 obtain⟨⟨G,l⟩,y⟩:∃ q:UInt8 × ReaderT,dW p=q:=⟨_,rfl⟩
 obtain⟨bN,av,ax,ay,bz⟩:=x8 aS
 refine cl Tryz.call92 (kC _ _ g p S F G l av (fun j k=>aj.rds aU (by decide) c ((fun j k=>aj.rds aU (by decide) a ((ax _ s) j k)) j k)) (show p.aa.ls.length≤F∧p.aa.ls.length≤9223372036854775807 from by omega) y) ?_
 rintro _ bO ⟨I,z,rfl,az,d⟩
 have aA:=ay _ _ az
 replace d:aj 1 S F p.aa.ls I z l.aa.ls:=d
 have bA:=(d).le
 refine Mz rfl (fw (.bool (decide (¬ (((G.toNat:Nat):Int)=((p1.toNat:Nat):Int))))) (yJ (e:= !(decide (((G.toNat:Nat):Int)=((p1.toNat:Nat):Int)))) yk decide_not.symm) (nt ?_))
 by_cases J:((G.toNat:Nat):Int)=((p1.toNat:Nat):Int)
 refine jF (dF (Ba J)) (sk (sr (Mz rfl (An rfl (rt (rs ?_))))))
 have aT:=aA.pk [0]
 obtain rfl:_=l:=hr.symm.trans (et (ae i) (et (ip t) (et (ae x) (et (ae y) (ip J)))))
 exact⟨g,I,z,rfl,aT,(aj.trans (aj.trans a c) d)⟩
 refine jT (dT J) (xS (Mz rfl ?_))
 obtain⟨T,N⟩:∃ q,bq l 11=q:=⟨_,rfl⟩
 obtain⟨bP,aB,aC,aD,bB⟩:=x8 aA
 refine cl Tryz.call91 (fA _ _ g l I z 11 T aB (fun j k=>aj.rds aU (by decide) d ((fun j k=>aj.rds aU (by decide) c ((fun j k=>aj.rds aU (by decide) a ((aC _ s) j k)) j k)) j k)) (show l.aa.ls.length≤z∧l.aa.ls.length≤9223372036854775807 from by omega) N) ?_
 rintro _ bQ ⟨aF,aG,rfl,aH,r⟩
 have aV:=aD _ _ aH
 replace r:aj 1 I z l.aa.ls aF aG T.aa.ls:=r
 have bC:=(r).le
 refine ns (Mz rfl (An rfl (rt (rs ?_))))
 have aW:=aV.pk [0]
 obtain rfl:_=T:=hr.symm.trans (et (ae i) (et (ip t) (et (ae x) (et (ae y) (et (iN J) (ae N))))))
 exact⟨g,aF,aG,rfl,aW,(aj.trans (aj.trans (aj.trans a c) d) r)⟩
 refine jF (dF t) (sk (xV (sr (Mz rfl ?_))))
 obtain⟨⟨K,m⟩,A⟩:∃ q:UInt8 × ReaderT,dW b=q:=⟨_,rfl⟩
 obtain⟨bR,aI,aJ,aK,bD⟩:=x8 ag
 refine cl Tryz.call92 (kC _ _ g b u o K m aI (fun j k=>aj.rds aU (by decide) a ((aJ _ s) j k)) (show b.aa.ls.length≤o∧b.aa.ls.length≤9223372036854775807 from by omega) A) ?_
 rintro _ bS ⟨L,B,rfl,aL,f⟩
 have aM:=aK _ _ aL
 replace f:aj 1 u o b.aa.ls L B m.aa.ls:=f
 have bE:=(f).le
 refine Mz rfl (fw (.bool (decide (¬ (((K.toNat:Nat):Int)=((p1.toNat:Nat):Int))))) (yJ (e:= !(decide (((K.toNat:Nat):Int)=((p1.toNat:Nat):Int)))) yk decide_not.symm) (nt ?_))
 by_cases M:((K.toNat:Nat):Int)=((p1.toNat:Nat):Int)
 refine jF (dF (Ba M)) (sk (sr (Mz rfl (An rfl (rt (rs ?_))))))
 have aX:=aM.pk [0]
 obtain rfl:_=m:=hr.symm.trans (et (ae i) (et (iN t) (et (ae A) (ip M))))
 exact⟨g,L,B,rfl,aX,(aj.trans a f)⟩
 refine jT (dT M) (xS (Mz rfl ?_))
 obtain⟨C,E⟩:∃ q,bq m 11=q:=⟨_,rfl⟩
 obtain⟨bF,U,V,W,aY⟩:=x8 aM
 refine cl Tryz.call91 (fA _ _ g m L B 11 C U (fun j k=>aj.rds aU (by decide) f ((fun j k=>aj.rds aU (by decide) a ((V _ s) j k)) j k)) (show m.aa.ls.length≤B∧m.aa.ls.length≤9223372036854775807 from by omega) E) ?_
 rintro _ bG ⟨O,P,rfl,X,h⟩
 have aN:=W _ _ X
 replace h:aj 1 L B m.aa.ls O P C.aa.ls:=h
 have aZ:=(h).le
 refine ns (Mz rfl (An rfl (rt (rs ?_))))
 have aO:=aN.pk [0]
 obtain rfl:_=C:=hr.symm.trans (et (ae i) (et (iN t) (et (ae A) (et (iN M) (ae E)))))
 exact⟨g,O,P,rfl,aO,(aj.trans (aj.trans a f) h)⟩
end Go.Proofs.YtcnkpjheifkgnaaGreat
