/-
 wire: the document's answer, what is read.
-/
import Derived.Test.YtccjclalngabhaaGreatWs
namespace Go.Proofs.YtccjclalngabhaaGreat
set_option maxRecDepth 100000
open Go.RowKit
set_option linter.unusedVariables false
set_option linter.unusedSectionVars false
set_option linter.unusedSimpArgs false
def gF (f:List UInt8) (d:Nat):Nat→Nat→Int→Nat
  | 0,b,a=>default
  | e+1,b,a=>if a ≥ 0 then bnd (List.getD f (Int.toNat a) default) fun c=>gF f d e (Int.toNat (IntKind.u64.wrap (((Int.toNat (IntKind.u64.wrap (((b:Nat):Int) *128)):Nat):Int)+((c.toNat % 128:Nat):Int)))) (a - 1) else b
def eU (c:List UInt8):List UInt8→Nat→Unit ⊕ (Nat × Int × Int)
  | [],a=>Sum.inl ()
  | d::e,a=>if((a:Nat):Int) < 10 then if((d.toNat:Nat):Int) ≥ 128 then eU c e (a+1) else bnd (gF c a ((Int.toNat (((a:Nat):Int)+1))+1) 0 ((a:Nat):Int)) fun sLrJjLstfL=>bnd (iV sLrJjLstfL) fun b=>if b≠(List.take (a+1) c) then Sum.inr (0,0,11) else Sum.inr (sLrJjLstfL,((a+1:Nat):Int),0) else Sum.inl ()
def fB (a:List UInt8):Nat × Int × Int:=
 lp (rZ (eU a a 0) fun _=>Sum.inl ()) fun _=>if((a.length:Nat):Int) ≥ 10 then(0,0,11) else(0,0,10)
theorem mf (w:World) (D:Nat→Prop) (g:Option Addr) (n0 n:Nat) (b:List UInt8) (r0:Nat) (T:Int) (r2:Int) (H:Own w D w []) (o:Ro w D fun w'=>bD w' 1 g n0 (List.flatMap eB b)) (aC:n0=b.length) (bf:b.length≤9223372036854775807) (bg:b.length≤n) (hr:fB b=(r0,T,r2)):
    Calls Tryz.prog 89 #[.slice g n0 n] w (cO fun v w'=>v= .tuple #[.int .u64 ((r0:Nat):Int), .int .i64 T, .int .i64 r2]∧Own w D w' []∧(¬ (r2=0)∨(1≤T∧T≤10∧T≤((b.length:Nat):Int)))∧(r0≤18446744073709551615)):=by
 subst aC
 refine yR (args:= [.slice g b.length n]) Tryz.func89 rfl rfl rfl ?_
 show Wp _ _ _ [(0, .slice g b.length n)] _ _
 refine sr (Az rfl (Az rfl (An rfl (yJ (sr (An rfl ?_))))))
 obtain⟨U,V⟩:∃ q:Unit→World→Prop,q=fun(_:Unit) w'=>Own w D w' []∧((rZ (eU b b 0) fun _=>Sum.inl ())=Sum.inl ()):=⟨_,rfl⟩
 have y:∀ {w':World},U () w'↔Own w D w' []∧(rZ (eU b b 0) fun _=>Sum.inl ())=Sum.inl ():=by intros; subst V; exact Iff.rfl
 refine zD (fun _:Unit=> [(2, .int .u64 0),(3, .int .i64 0),(4, .int .i64 0),(0, .slice g b.length n)]) U ?_ ?_
 refine bo ?_
 have aD:Own w D w []:=H.pk []
 obtain⟨X,Y⟩:∃ q:Nat→World→Prop,q=fun(i:Nat) w'=>Own w D w' []∧(i≤b.length∧i≤10∧eU b b 0=eU b (List.drop i b) i):=⟨_,rfl⟩
 have z:∀ {a:Nat} {w':World},X a w'↔Own w D w' []∧a≤b.length∧a≤10∧eU b b 0=eU b (List.drop a b) a:=by intros; subst Y; exact Iff.rfl
 refine Wp.loop (fun i:Nat=> [(2, .int .u64 0),(3, .int .i64 0),(4, .int .i64 0),(5, .int .i64 ((i:Nat):Int)),(0, .slice g b.length n)]) X (fun i=>b.length - i) 0 ⟨rfl,rfl,rfl,rfl,rfl,trivial⟩ (z.2 ⟨aD,by omega,by omega,rfl⟩) ?_
 rintro a bi Z
 show Wp _ _ _ [(2, .int .u64 0),(3, .int .i64 0),(4, .int .i64 0),(5, .int .i64 ((a:Nat):Int)),(0, .slice g b.length n)] _ _
 obtain⟨p,aQ,aR,m⟩:=z.1 Z
 refine yJ (sr (Mz rfl (Mz rfl (Kz (.int .i64 ((b.length:Nat):Int)) (Kz (.bool (decide (((a:Nat):Int) < ((b.length:Nat):Int)))) (Mz rfl ?_))))))
 by_cases t:((a:Nat):Int) < ((b.length:Nat):Int)
 obtain⟨r,L⟩:=dV (ls:=b) (i:=a) ay (by decide) (p.ro o) (by first | omega | (simp; done) | (simp; omega))
 have s:=drop_at L
 refine gw (.int .i64 ((a:Nat):Int)) (dT t) (yO rfl) (Gz (.bool (decide (((a:Nat):Int) < 10))) (dT t) (fw (.bool (decide (((a:Nat):Int) < 10))) (yN rfl (dT t) rfl) (nt ?_)))
 by_cases u:((a:Nat):Int) < 10
 refine jT (dT u) (sk (yJ (bo (yJ (sr (Mz rfl (Mz rfl (fw (.pointer (some ⟨ab g,ao g+a *1,none⟩)) (yZ (bW) rfl rfl ((p.ro o).addr (i:=a) (by omega)) (by omega)) (fw (.int .u8 ((r.toNat:Nat):Int)) (y5 rfl (bn.one Tryz.isAgg5 (((p.ro o).elem ay L (by decide)).at_ (k:=0) rfl))) (Kz (.bool (decide (((r.toNat:Nat):Int) ≥ 128))) (nt ?_)))))))))))
 by_cases A:((r.toNat:Nat):Int) ≥ 128
 refine jT (dT A) (Wp.exit (yV (y8 (yL (yK (Mz rfl (fw (.int .i64 ((a+1:Nat):Int)) (yS (e:=IntKind.i64.wrap (((a:Nat):Int)+1)) yk (by rw [BI _ (by omega)]; omega)) (Az rfl (WL.nil ?_)))))))))
 have aF:=p.pk []
 exact yY (a+1) ⟨rfl,rfl,rfl,rfl,rfl,trivial⟩ (z.2 ⟨aF,by omega,by omega,et (m) (et (congrArg (fun q=>eU b q a) s) (et (ip u) (ip A)))⟩) (by show b.length - (a+1) < b.length - a; omega)
 refine jF (dF A) (sk (sr (An rfl (yJ (sr (Mz rfl (An rfl (bo ?_))))))))
 have aG:=p.pk []
 obtain⟨ae,af⟩:∃ q:(Nat × Int × Nat)→World→Prop,q=fun(i:Nat × Int × Nat) w'=>Own w D w' []∧(-1≤i.2.1∧i.2.1 < ((b.length:Nat):Int)∧i.1≤18446744073709551615∧Int.toNat (i.2.1+1) < i.2.2∧gF b a ((Int.toNat (((a:Nat):Int)+1))+1) 0 ((a:Nat):Int)=gF b a i.2.2 i.1 i.2.1):=⟨_,rfl⟩
 have B:∀ {d:Nat} {c:Int} {x:Nat} {w':World},ae (d,c,x) w'↔Own w D w' []∧ -1≤c∧c < ((b.length:Nat):Int)∧d≤18446744073709551615∧Int.toNat (c+1) < x∧gF b a ((Int.toNat (((a:Nat):Int)+1))+1) 0 ((a:Nat):Int)=gF b a x d c:=by intros; subst af; exact Iff.rfl
 refine Wp.loop (fun i:Nat × Int × Nat=> [(6, .int .u64 ((i.1:Nat):Int)),(7, .int .i64 i.2.1),(23, .int .i64 ((a:Nat):Int)),(22, .bool (decide (((r.toNat:Nat):Int) ≥ 128))),(21, .int .u8 ((r.toNat:Nat):Int)),(20, .pointer (some ⟨ab g,ao g+a *1,none⟩)),(19, .int .i64 ((a:Nat):Int)),(18, .slice g b.length n),(15, .bool (decide (((a:Nat):Int) < 10))),(14, .bool (decide (((a:Nat):Int) < 10))),(13, .int .i64 ((a:Nat):Int)),(12, .bool (decide (((a:Nat):Int) < ((b.length:Nat):Int)))),(11, .bool (decide (((a:Nat):Int) < ((b.length:Nat):Int)))),(10, .int .i64 ((b.length:Nat):Int)),(9, .slice g b.length n),(8, .int .i64 ((a:Nat):Int)),(2, .int .u64 0),(3, .int .i64 0),(4, .int .i64 0),(5, .int .i64 ((a:Nat):Int)),(0, .slice g b.length n)]) ae (fun i=>i.2.2) (0,((a:Nat):Int),(Int.toNat (((a:Nat):Int)+1))+1) ⟨rfl,rfl,rfl,rfl,rfl,rfl,rfl,rfl,rfl,rfl,rfl,rfl,rfl,rfl,rfl,rfl,rfl,rfl,rfl,rfl,rfl,trivial⟩ (B.2 ⟨aG,by omega,by omega,by first | exact BJ _ | exact nD _ | omega,by omega,rfl⟩) ?_
 rintro ⟨d,c,x⟩ aH ag
 show Wp _ _ _ [(6, .int .u64 ((d:Nat):Int)),(7, .int .i64 c),(23, .int .i64 ((a:Nat):Int)),(22, .bool (decide (((r.toNat:Nat):Int) ≥ 128))),(21, .int .u8 ((r.toNat:Nat):Int)),(20, .pointer (some ⟨ab g,ao g+a *1,none⟩)),(19, .int .i64 ((a:Nat):Int)),(18, .slice g b.length n),(15, .bool (decide (((a:Nat):Int) < 10))),(14, .bool (decide (((a:Nat):Int) < 10))),(13, .int .i64 ((a:Nat):Int)),(12, .bool (decide (((a:Nat):Int) < ((b.length:Nat):Int)))),(11, .bool (decide (((a:Nat):Int) < ((b.length:Nat):Int)))),(10, .int .i64 ((b.length:Nat):Int)),(9, .slice g b.length n),(8, .int .i64 ((a:Nat):Int)),(2, .int .u64 0),(3, .int .i64 0),(4, .int .i64 0),(5, .int .i64 ((a:Nat):Int)),(0, .slice g b.length n)] _ _
 obtain⟨C,aS,aT,aU,aV,M⟩:=B.1 ag
 obtain⟨S,ah⟩:∃ q,x=q+1:=⟨x - 1,by omega⟩
 subst ah
 refine yJ (sr (Mz rfl (Kz (.bool (decide (c ≥ 0))) (nt ?_))))
 by_cases G:c ≥ 0
 refine jT (dT G) (sk (yJ (bo (yK (Mz rfl (fw (.int .u64 ((Int.toNat (IntKind.u64.wrap (((d:Nat):Int) *128)):Nat):Int)) (yS (e:=IntKind.u64.wrap (((d:Nat):Int) *128)) yk (gJ _)) (Mz rfl (fw (.int .i64 ((Int.toNat c:Nat):Int)) (yS (e:=c) (yO rfl) (by omega)) ?_))))))))
 obtain⟨j,N⟩:=dV (ls:=b) (i:=Int.toNat c) ay (by decide) (C.ro o) (by first | omega | (simp; done) | (simp; omega))
 refine fw (.pointer (some ⟨ab g,ao g+(Int.toNat c) *1,none⟩)) (yZ (bW) rfl rfl ((C.ro o).addr (i:=Int.toNat c) (by omega)) (by omega)) (fw (.int .u8 ((j.toNat:Nat):Int)) (y5 rfl (bn.one Tryz.isAgg5 (((C.ro o).elem ay N (by decide)).at_ (k:=0) rfl))) (fw (.int .u8 ((j.toNat % 128:Nat):Int)) (yS (e:=Int.tmod ((j.toNat:Nat):Int) 128) yk (vM _ _)) ?_))
 have aW:j.toNat % 128≤255:=by have q9:=UInt8.toNat_lt j; omega
 refine fw (.int .u64 ((j.toNat % 128:Nat):Int)) (yS (e:=IntKind.u64.wrap ((j.toNat % 128:Nat):Int)) yk (IntWalk.u64_in _ (by omega))) (fw (.int .u64 ((Int.toNat (IntKind.u64.wrap (((Int.toNat (IntKind.u64.wrap (((d:Nat):Int) *128)):Nat):Int)+((j.toNat % 128:Nat):Int))):Nat):Int)) (yS (e:=IntKind.u64.wrap (((Int.toNat (IntKind.u64.wrap (((d:Nat):Int) *128)):Nat):Int)+((j.toNat % 128:Nat):Int))) yk (gJ _)) (Az rfl (WL.nil (bN (yL (yK (Mz rfl (fw (.int .i64 (c - 1)) (yS (e:=IntKind.i64.wrap (c - 1)) yk (by rw [BI _ (by omega)])) (Az rfl (WL.nil ?_))))))))))
 have aI:=C.pk []
 exact yY (Int.toNat (IntKind.u64.wrap (((Int.toNat (IntKind.u64.wrap (((d:Nat):Int) *128)):Nat):Int)+((j.toNat % 128:Nat):Int))),c - 1,S) ⟨rfl,rfl,rfl,rfl,rfl,rfl,rfl,rfl,rfl,rfl,rfl,rfl,rfl,rfl,rfl,rfl,rfl,rfl,rfl,rfl,rfl,trivial⟩ (B.2 ⟨aI,by omega,by omega,by first | exact BJ _ | exact nD _ | omega,by omega,et (M) (et (ip G) (aa (dh N)))⟩) (by show S < S+1; omega)
 refine jF (dF G) (Wp.exit (yV ?_))
 have O:gF b a ((Int.toNat (((a:Nat):Int)+1))+1) 0 ((a:Nat):Int)=d:=et (M) (iN G)
 refine yV (y8 (yL (yJ (yJ ?_))))
 have I:=C.drew
 refine zt [] (fun W=> ∃ L',Own w D W ([]++L')) (by kernel_rfl) (by kernel_rfl) (zb (zb (bM.block (zb (zb (bM.block (zb zw))))))) ⟨_,I⟩ ?_
 revert I
 generalize World.drew aH=bq
 intro I
 refine GX.take (v:= .int .u64 ((d:Nat):Int)) (rs:= []) 0 rfl (by kernel_rfl) (fun _ _=>yO rfl) (GX.take (v:= .slice g b.length n) (rs:= []) 3 rfl (by kernel_rfl) (fun _ _=>yO rfl) (GX.take (v:= .int .i64 ((a:Nat):Int)) (rs:= []) 4 rfl (by kernel_rfl) (fun _ _=>yO rfl) (GX.take (v:= .int .i64 ((a+1:Nat):Int)) (rs:= []) 5 rfl (by kernel_rfl) (fun _ _=>yS (e:=IntKind.i64.wrap (((a:Nat):Int)+1)) yk (by rw [BI _ (by omega)]; omega)) (GX.take (v:= .slice g (a+1) n) (rs:= []) 6 rfl (by kernel_rfl) (fun _ _=>zZ (bW) rfl rfl (by omega)) (GX.take (v:= .string ⟨List.toArray (List.take (a+1) b)⟩) (rs:= []) 7 rfl (by kernel_rfl) (fun _ ⟨_,H9⟩=>zH (l:=(List.take (a+1) b)) Tryz.underlying31 Tryz.underlying5 Tryz.underlying9 (zJ (hi:=a+1) ay (H9.ro o) (by omega)) rfl) ?_)))))
 obtain⟨f,E⟩:∃ q,iV d=q:=⟨_,rfl⟩
 obtain⟨bu,ai,aX,aj,aY⟩:=yP I
 refine GX.do 1 rfl (by kernel_rfl) (zf Tryz.call63 rfl (qG _ _ d f ai (by omega) E) ?_)
 rintro _ bv ⟨ak,au,rfl,av,P,Q⟩
 have F:=aj _ _ av
 have aZ:=F.rowC (i:=0) rfl
 replace P:jI d f.length:=P
 replace Q:1≤f.length∧f.length≤10:=Q
 refine⟨.inr ⟨_,F⟩, ?_⟩
 refine Ay (Good':=fun W=> ∃ L',Own w D W ([row ak f.length au (List.flatMap eB f) 5 1]++L')) (fun _ ⟨L',h⟩=>⟨[row ak f.length au (List.flatMap eB f) 5 1]++L',h⟩) ⟨_,F⟩ (GX.take (v:= .string ⟨List.toArray f⟩) (rs:= []) 2 rfl (by kernel_rfl) (fun _ ⟨_,H9⟩=>zH (l:=f) Tryz.underlying31 Tryz.underlying5 Tryz.underlying9 (H9.rds (i:=0) rfl) rfl) (GX.take (v:= .bool (decide (f≠(List.take (a+1) b)))) (rs:= []) 8 rfl (by kernel_rfl) (fun _ _=>zA rfl rfl) (zk (by kernel_rfl) (yL ?_))))
 by_cases J:f≠(List.take (a+1) b)
 refine jT (dT J) (sr (Az rfl (Az rfl (An rfl (rt (tR (bR (tR (tR (bR (tR (y9 (kF rfl rfl rfl rfl) ?_))))))))))))
 have aK:=F.pk []
 have e:fB b=(0,0,11):=iG (pQ (et (m) (et (congrArg (fun q=>eU b q a) s) (et (ip u) (et (iN A) (et (aa O) (et (aa E) (ip J))))))))
 obtain⟨rfl,rfl,rfl⟩:=l5 (e.symm.trans hr)
 exact⟨rfl,aK,(by omega),(by omega)⟩
 refine jF (dF J) (sk (sr (Mz rfl (Mz rfl (fw (.int .i64 ((a+1:Nat):Int)) (yS (e:=IntKind.i64.wrap (((a:Nat):Int)+1)) yk (by rw [BI _ (by omega)]; omega)) (Az rfl (Az rfl (An rfl (rt (bR (tR (tR (bR (tR (y9 (kF rfl rfl rfl rfl) ?_)))))))))))))))
 have aL:=F.pk []
 have e:fB b=(d,((a+1:Nat):Int),0):=iG (pQ (et (m) (et (congrArg (fun q=>eU b q a) s) (et (ip u) (et (iN A) (et (aa O) (et (aa E) (iN J))))))))
 obtain⟨rfl,rfl,rfl⟩:=l5 (e.symm.trans hr)
 exact⟨rfl,aL,(by omega),(by omega)⟩
 refine jF (dF u) (Wp.exit (yV (yV (y8 ?_))))
 have aM:=p.pk []
 exact zu () ⟨rfl,rfl,rfl,rfl,trivial⟩ (y.2 ⟨aM,rM (et (m) (et (congrArg (fun q=>eU b q a) s) (iN u)))⟩)
 refine Sz (dF t) (Sz (dF t) (fw (.bool false) (yM rfl (dF t) rfl) (nt (jf (Wp.exit (yV (yV (y8 ?_))))))))
 have aN:=p.pk []
 exact zu () ⟨rfl,rfl,rfl,rfl,trivial⟩ (y.2 ⟨aN,rM (et (m) (et (congrArg (fun q=>eU b q a) (dZ (ls:=b) (i:=a) (by omega))) rfl))⟩)
 rintro ⟨⟩ bz ax
 show Wp _ _ _ [(2, .int .u64 0),(3, .int .i64 0),(4, .int .i64 0),(0, .slice g b.length n)] _ _
 obtain⟨az,R⟩:=y.1 ax
 refine yJ (sr (Mz rfl (Kz (.int .i64 ((b.length:Nat):Int)) (Kz (.bool (decide (((b.length:Nat):Int) ≥ 10))) (nt ?_)))))
 by_cases K:((b.length:Nat):Int) ≥ 10
 refine jT (dT K) (sr (Az rfl (Az rfl (An rfl (rt (tR (y9 (kF rfl rfl rfl rfl) ?_)))))))
 have aO:=az.pk []
 have e:fB b=(0,0,11):=et (kG R) (ip K)
 obtain⟨rfl,rfl,rfl⟩:=l5 (e.symm.trans hr)
 exact⟨rfl,aO,(by omega),(by omega)⟩
 refine jF (dF K) (sk (sr (Az rfl (Az rfl (An rfl (rt (y9 (kF rfl rfl rfl rfl) ?_)))))))
 have aP:=az.pk []
 have e:fB b=(0,0,10):=et (kG R) (iN K)
 obtain⟨rfl,rfl,rfl⟩:=l5 (e.symm.trans hr)
 exact⟨rfl,aP,(by omega),(by omega)⟩
def ig (b:List UInt8) (c:Int):(List UInt8) × Int × Int:=
 bnd (fB b) fun a=>if a.2.2=0 then if c < 0 then([],0,2) else if((a.1:Nat):Int) > ((Int.toNat (IntKind.u64.wrap c):Nat):Int) then([],0,2) else if((a.1:Nat):Int) > ((Int.toNat (((b.length:Nat):Int) - a.2.1):Nat):Int) then([],0,10) else((List.take ((Int.toNat (a.2.1+((a.1:Nat):Int))) - (Int.toNat a.2.1)) (List.drop (Int.toNat a.2.1) b)),a.2.1+((a.1:Nat):Int),0) else([],0,a.2.2)
theorem qH (w:World) (D:Nat→Prop) (r:Option Addr) (n0 p:Nat) (d:List UInt8) (g:Int) (A:List UInt8) (z:Int) (B:Int) (H:Own w D w []) (s:Ro w D fun w'=>bD w' 1 r n0 (List.flatMap eB d)) (C:n0=d.length) (M:d.length≤9223372036854775807) (N:d.length≤p) (hr:ig d g=(A,z,B)):
    Calls Tryz.prog 115 #[.slice r n0 p, .int .i64 g] w (cO fun v w'=>v= .tuple #[.string ⟨List.toArray A⟩, .int .i64 z, .int .i64 B]∧Own w D w' []∧(¬ (B=0)∨(1≤z∧z≤((d.length:Nat):Int)∧A.length≤d.length))):=by
 subst C
 refine yR (args:= [.slice r d.length p, .int .i64 g]) Tryz.func115 rfl rfl rfl ?_
 show Wp _ _ _ [(0, .slice r d.length p),(1, .int .i64 g)] _ _
 refine sr (Az rfl (Az rfl (Ar rfl (Mz rfl ?_))))
 obtain⟨⟨b,a,h⟩,f⟩:∃ q:Nat × Int × Int,fB d=q:=⟨_,rfl⟩
 obtain⟨O,t,u,x,K⟩:=yP H
 refine cl Tryz.call89 (mf _ _ r d.length p d b a h t (u _ s) rfl (by omega) (by first | omega | (simp only [List.length_take,List.length_drop]; omega) | exact Nat.le_refl _) f) ?_
 rintro _ P ⟨rfl,y,n,o⟩
 have j:=x _ _ y
 replace n: ¬ (h=0)∨(1≤a∧a≤10∧a≤((d.length:Nat):Int)):=n
 replace o:b≤18446744073709551615:=o
 refine Mz rfl (Kz (.int .u64 ((b:Nat):Int)) (Kz (.int .i64 a) (Kz (.int .i64 h) (Az rfl (Az rfl (An rfl (yJ (sr (Mz rfl (fw (.bool (decide (¬ (h=0)))) (za (e:= !(decide (h=0))) yk decide_not.symm) (nt ?_)))))))))))
 by_cases i:h=0
 refine jF (dF (BK i)) (sk (yJ (sr (Mz rfl (Kz (.bool (decide (g < 0))) (Mz rfl ?_))))))
 by_cases c:g < 0
 refine Sz (dT c) (Sz (dT c) (Sz (dT c) (Sz (dT c) (fw (.bool true) (yN rfl (dT c) rfl) (nt (jt (sr (Az rfl (Az rfl (An rfl (rt (tR (y9 (kF rfl rfl rfl rfl) ?_)))))))))))))
 have E:=j.pk []
 have e:ig d g=([],0,2):=et (aa f) (et (ip i) (ip c))
 obtain⟨rfl,rfl,rfl⟩:=l5 (e.symm.trans hr)
 exact⟨rfl,E,(by first | omega | (simp only [List.length_take,List.length_drop]; omega))⟩
 refine gw (.int .u64 ((b:Nat):Int)) (dF c) (yO rfl) (gw (.int .i64 g) (dF c) (yO rfl) ?_)
 have L:Int.toNat (IntKind.u64.wrap g)≤18446744073709551615:=nD _
 refine gw (.int .u64 ((Int.toNat (IntKind.u64.wrap g):Nat):Int)) (dF c) (yS (e:=IntKind.u64.wrap g) yk (gJ _)) (Gz (.bool (decide (((b:Nat):Int) > ((Int.toNat (IntKind.u64.wrap g):Nat):Int)))) (dF c) (fw (.bool (decide (((b:Nat):Int) > ((Int.toNat (IntKind.u64.wrap g):Nat):Int)))) (yM rfl (dF c) rfl) (nt ?_)))
 by_cases k:((b:Nat):Int) > ((Int.toNat (IntKind.u64.wrap g):Nat):Int)
 refine jT (dT k) (sr (Az rfl (Az rfl (An rfl (rt (tR (y9 (kF rfl rfl rfl rfl) ?_)))))))
 have F:=j.pk []
 have e:ig d g=([],0,2):=et (aa f) (et (ip i) (et (iN c) (ip k)))
 obtain⟨rfl,rfl,rfl⟩:=l5 (e.symm.trans hr)
 exact⟨rfl,F,(by first | omega | (simp only [List.length_take,List.length_drop]; omega))⟩
 refine jF (dF k) (sk (yJ (sr (Mz rfl (Mz rfl (Kz (.int .i64 ((d.length:Nat):Int)) (Mz rfl (fw (.int .i64 (((d.length:Nat):Int) - a)) (yS (e:=IntKind.i64.wrap (((d.length:Nat):Int) - a)) yk (by rw [BI _ (by omega)])) (fw (.int .u64 ((Int.toNat (((d.length:Nat):Int) - a):Nat):Int)) (yS (e:=IntKind.u64.wrap (((d.length:Nat):Int) - a)) yk (by rw [IntWalk.u64_in _ (by omega)]; omega)) (Kz (.bool (decide (((b:Nat):Int) > ((Int.toNat (((d.length:Nat):Int) - a):Nat):Int)))) (nt ?_)))))))))))
 by_cases m:((b:Nat):Int) > ((Int.toNat (((d.length:Nat):Int) - a):Nat):Int)
 refine jT (dT m) (sr (Az rfl (Az rfl (An rfl (rt (tR (y9 (kF rfl rfl rfl rfl) ?_)))))))
 have G:=j.pk []
 have e:ig d g=([],0,10):=et (aa f) (et (ip i) (et (iN c) (et (iN k) (ip m))))
 obtain⟨rfl,rfl,rfl⟩:=l5 (e.symm.trans hr)
 exact⟨rfl,G,(by first | omega | (simp only [List.length_take,List.length_drop]; omega))⟩
 refine jF (dF m) (sk (sr (Mz rfl (fw (.int .i64 ((Int.toNat a:Nat):Int)) (yS (e:=a) (yO rfl) (by omega)) (Mz rfl (Mz rfl (fw (.int .i64 ((b:Nat):Int)) (yS (e:=IntKind.i64.wrap ((b:Nat):Int)) yk (BI _ (by omega))) (fw (.int .i64 ((Int.toNat (a+((b:Nat):Int)):Nat):Int)) (yS (e:=IntKind.i64.wrap (a+((b:Nat):Int))) yk (by rw [BI _ (by omega)]; omega)) (fw (.slice (fI r (Int.toNat a) 1 p) ((Int.toNat (a+((b:Nat):Int))) - (Int.toNat a)) (p - (Int.toNat a))) (Yl.cut (bW) rfl rfl rfl (by omega) (by omega)) (fw (.string ⟨List.toArray (List.take ((Int.toNat (a+((b:Nat):Int))) - (Int.toNat a)) (List.drop (Int.toNat a) d))⟩) (zH (l:=(List.take ((Int.toNat (a+((b:Nat):Int))) - (Int.toNat a)) (List.drop (Int.toNat a) d))) Tryz.underlying31 Tryz.underlying5 Tryz.underlying9 (bD.cutE (lo:=Int.toNat a) (hi:=Int.toNat (a+((b:Nat):Int))) ay (j.ro s) (by omega) (by omega) (by omega)) rfl) (Mz rfl (Mz rfl (fw (.int .i64 ((b:Nat):Int)) (yS (e:=IntKind.i64.wrap ((b:Nat):Int)) yk (BI _ (by omega))) (fw (.int .i64 (a+((b:Nat):Int))) (yS (e:=IntKind.i64.wrap (a+((b:Nat):Int))) yk (by rw [BI _ (by omega)])) (Az rfl (Az rfl (An rfl (rt (y9 (kF rfl rfl rfl rfl) ?_)))))))))))))))))))
 have I:=j.pk []
 have e:ig d g=((List.take ((Int.toNat (a+((b:Nat):Int))) - (Int.toNat a)) (List.drop (Int.toNat a) d)),a+((b:Nat):Int),0):=et (aa f) (et (ip i) (et (iN c) (et (iN k) (iN m))))
 obtain⟨rfl,rfl,rfl⟩:=l5 (e.symm.trans hr)
 exact⟨rfl,I,(by first | omega | (simp only [List.length_take,List.length_drop]; omega))⟩
 refine jT (dT i) (sr (Mz rfl (Az rfl (Az rfl (An rfl (rt (tR (y9 (kF rfl rfl rfl rfl) ?_))))))))
 have J:=j.pk []
 have e:ig d g=([],0,h):=et (aa f) (iN i)
 obtain⟨rfl,rfl,rfl⟩:=l5 (e.symm.trans hr)
 exact⟨rfl,J,(by first | omega | (simp only [List.length_take,List.length_drop]; omega))⟩
def jC (a:List UInt8):Nat × Int:=
 if((a.length:Nat):Int) < 4 then(0,10) else bnd (List.getD a 0 default) fun b=>bnd (List.getD a 1 default) fun c=>bnd (List.getD a 2 default) fun d=>bnd (List.getD a 3 default) fun e=>(d9 (d9 (d9 b.toNat (cu c.toNat 8)) (cu d.toNat 16)) (cu e.toNat 24),0)
theorem ql (w:World) (D:Nat→Prop) (h:Option Addr) (n0 s:Nat) (f:List UInt8) (y:Nat) (z:Int) (H:Own w D w []) (g:Ro w D fun w'=>bD w' 1 h n0 (List.flatMap eB f)) (t:n0=f.length) (M:f.length *1≤211106232532992) (hr:jC f=(y,z)):
    Calls Tryz.prog 88 #[.slice h n0 s] w (cO fun v w'=>v= .tuple #[.int .u32 ((y:Nat):Int), .int .i64 z]∧Own w D w' []):=by
 subst t
 refine yR (args:= [.slice h f.length s]) Tryz.func88 rfl rfl rfl ?_
 show Wp _ _ _ [(0, .slice h f.length s)] _ _
 refine sr (Az rfl (An rfl (yJ (sr (Mz rfl (Kz (.int .i64 ((f.length:Nat):Int)) (Kz (.bool (decide (((f.length:Nat):Int) < 4))) (nt ?_))))))))
 by_cases l:((f.length:Nat):Int) < 4
 refine jT (dT l) (sr (Az rfl (An rfl (rt (tR (y9 (gD rfl rfl rfl) ?_))))))
 have u:Own w D w []:=H.pk []
 have e:jC f=(0,10):=ip l
 obtain⟨rfl,rfl⟩:=dN (e.symm.trans hr)
 exact⟨rfl,u⟩
 refine jF (dF l) (sk (yJ ?_))
 have n:=H.drew
 refine zt [] (fun W=> ∃ L',Own w D W ([]++L')) (by kernel_rfl) (by kernel_rfl) (zb zw) ⟨_,n⟩ ?_
 revert n
 generalize World.drew w=N
 intro n
 refine GX.take (v:= .slice h f.length s) (rs:= []) 0 rfl (by kernel_rfl) (fun _ _=>yO rfl) ?_
 obtain⟨b,o⟩:=jZ (ls:=f) (i:=0) (by first | omega | (simp; done) | (simp; omega))
 refine GX.take (v:= .pointer (some ⟨ab h,ao h+0 *1,none⟩)) (rs:= []) 1 rfl (by kernel_rfl) (fun _ ⟨_,j⟩=>yZ (bW) rfl rfl ((j.ro g).addr (i:=0) (by omega)) (by omega)) (GX.take (v:= .int .u8 ((b.toNat:Nat):Int)) (rs:= []) 2 rfl (by kernel_rfl) (fun _ ⟨_,j⟩=>y5 rfl (bn.one Tryz.isAgg5 (((j.ro g).elem ay o (by decide)).at_ (k:=0) rfl))) ?_)
 have A:b.toNat≤255:=Nat.le_of_lt_succ (UInt8.toNat_lt _)
 refine GX.take (v:= .int .u32 ((b.toNat:Nat):Int)) (rs:= []) 3 rfl (by kernel_rfl) (fun _ _=>yS (e:=IntKind.u32.wrap ((b.toNat:Nat):Int)) yk (IntWalk.u32_in _ (by omega))) (GX.take (v:= .slice h f.length s) (rs:= []) 4 rfl (by kernel_rfl) (fun _ _=>yO rfl) ?_)
 obtain⟨a,p⟩:=jZ (ls:=f) (i:=1) (by first | omega | (simp; done) | (simp; omega))
 refine GX.take (v:= .pointer (some ⟨ab h,ao h+1 *1,none⟩)) (rs:= []) 5 rfl (by kernel_rfl) (fun _ ⟨_,j⟩=>yZ (bW) rfl rfl ((j.ro g).addr (i:=1) (by omega)) (by omega)) (GX.take (v:= .int .u8 ((a.toNat:Nat):Int)) (rs:= []) 6 rfl (by kernel_rfl) (fun _ ⟨_,j⟩=>y5 rfl (bn.one Tryz.isAgg5 (((j.ro g).elem ay p (by decide)).at_ (k:=0) rfl))) ?_)
 have B:a.toNat≤255:=Nat.le_of_lt_succ (UInt8.toNat_lt _)
 refine GX.take (v:= .int .u32 ((a.toNat:Nat):Int)) (rs:= []) 7 rfl (by kernel_rfl) (fun _ _=>yS (e:=IntKind.u32.wrap ((a.toNat:Nat):Int)) yk (IntWalk.u32_in _ (by omega))) ?_
 have C:cu a.toNat 8≤4294967295:=lJ _ _
 refine GX.take (v:= .int .u32 ((cu a.toNat 8:Nat):Int)) (rs:= []) 8 rfl (by kernel_rfl) (fun _ _=>yS (zQ (m:=8) rfl rfl) (ib _)) ?_
 have E:d9 b.toNat (cu a.toNat 8)≤4294967295:=l7 _ _
 refine GX.take (v:= .int .u32 ((d9 b.toNat (cu a.toNat 8):Nat):Int)) (rs:= []) 9 rfl (by kernel_rfl) (fun _ _=>yS (e:=IntKind.u32.wrap (((BitVec.ofInt 32 ((b.toNat:Nat):Int) ||| BitVec.ofInt 32 ((cu a.toNat 8:Nat):Int)).toNat:Nat):Int)) yk (ib _)) (GX.take (v:= .slice h f.length s) (rs:= []) 10 rfl (by kernel_rfl) (fun _ _=>yO rfl) ?_)
 obtain⟨c,q⟩:=jZ (ls:=f) (i:=2) (by first | omega | (simp; done) | (simp; omega))
 refine GX.take (v:= .pointer (some ⟨ab h,ao h+2 *1,none⟩)) (rs:= []) 11 rfl (by kernel_rfl) (fun _ ⟨_,j⟩=>yZ (bW) rfl rfl ((j.ro g).addr (i:=2) (by omega)) (by omega)) (GX.take (v:= .int .u8 ((c.toNat:Nat):Int)) (rs:= []) 12 rfl (by kernel_rfl) (fun _ ⟨_,j⟩=>y5 rfl (bn.one Tryz.isAgg5 (((j.ro g).elem ay q (by decide)).at_ (k:=0) rfl))) ?_)
 have F:c.toNat≤255:=Nat.le_of_lt_succ (UInt8.toNat_lt _)
 refine GX.take (v:= .int .u32 ((c.toNat:Nat):Int)) (rs:= []) 13 rfl (by kernel_rfl) (fun _ _=>yS (e:=IntKind.u32.wrap ((c.toNat:Nat):Int)) yk (IntWalk.u32_in _ (by omega))) ?_
 have G:cu c.toNat 16≤4294967295:=lJ _ _
 refine GX.take (v:= .int .u32 ((cu c.toNat 16:Nat):Int)) (rs:= []) 14 rfl (by kernel_rfl) (fun _ _=>yS (zQ (m:=16) rfl rfl) (ib _)) ?_
 have I:d9 (d9 b.toNat (cu a.toNat 8)) (cu c.toNat 16)≤4294967295:=l7 _ _
 refine GX.take (v:= .int .u32 ((d9 (d9 b.toNat (cu a.toNat 8)) (cu c.toNat 16):Nat):Int)) (rs:= []) 15 rfl (by kernel_rfl) (fun _ _=>yS (e:=IntKind.u32.wrap (((BitVec.ofInt 32 ((d9 b.toNat (cu a.toNat 8):Nat):Int) ||| BitVec.ofInt 32 ((cu c.toNat 16:Nat):Int)).toNat:Nat):Int)) yk (ib _)) (GX.take (v:= .slice h f.length s) (rs:= []) 16 rfl (by kernel_rfl) (fun _ _=>yO rfl) ?_)
 obtain⟨d,r⟩:=jZ (ls:=f) (i:=3) (by first | omega | (simp; done) | (simp; omega))
 refine GX.take (v:= .pointer (some ⟨ab h,ao h+3 *1,none⟩)) (rs:= []) 17 rfl (by kernel_rfl) (fun _ ⟨_,j⟩=>yZ (bW) rfl rfl ((j.ro g).addr (i:=3) (by omega)) (by omega)) (GX.take (v:= .int .u8 ((d.toNat:Nat):Int)) (rs:= []) 18 rfl (by kernel_rfl) (fun _ ⟨_,j⟩=>y5 rfl (bn.one Tryz.isAgg5 (((j.ro g).elem ay r (by decide)).at_ (k:=0) rfl))) ?_)
 have J:d.toNat≤255:=Nat.le_of_lt_succ (UInt8.toNat_lt _)
 refine GX.take (v:= .int .u32 ((d.toNat:Nat):Int)) (rs:= []) 19 rfl (by kernel_rfl) (fun _ _=>yS (e:=IntKind.u32.wrap ((d.toNat:Nat):Int)) yk (IntWalk.u32_in _ (by omega))) ?_
 have K:cu d.toNat 24≤4294967295:=lJ _ _
 refine GX.take (v:= .int .u32 ((cu d.toNat 24:Nat):Int)) (rs:= []) 20 rfl (by kernel_rfl) (fun _ _=>yS (zQ (m:=24) rfl rfl) (ib _)) ?_
 have L:d9 (d9 (d9 b.toNat (cu a.toNat 8)) (cu c.toNat 16)) (cu d.toNat 24)≤4294967295:=l7 _ _
 refine GX.take (v:= .int .u32 ((d9 (d9 (d9 b.toNat (cu a.toNat 8)) (cu c.toNat 16)) (cu d.toNat 24):Nat):Int)) (rs:= []) 21 rfl (by kernel_rfl) (fun _ _=>yS (e:=IntKind.u32.wrap (((BitVec.ofInt 32 ((d9 (d9 b.toNat (cu a.toNat 8)) (cu c.toNat 16):Nat):Int) ||| BitVec.ofInt 32 ((cu d.toNat 24:Nat):Int)).toNat:Nat):Int)) yk (ib _)) (GX.take (v:= .int .u32 ((d9 (d9 (d9 b.toNat (cu a.toNat 8)) (cu c.toNat 16)) (cu d.toNat 24):Nat):Int)) (rs:= []) 22 rfl (by kernel_rfl) (fun _ _=>zo rfl) (GX.take (v:= .int .i64 0) (rs:= []) 23 rfl (by kernel_rfl) (fun _ _=>zo rfl) (zk (by kernel_rfl) (yL (rt (y9 (gD rfl rfl rfl) ?_))))))
 have x:=n.pk []
 have e:jC f=(d9 (d9 (d9 b.toNat (cu a.toNat 8)) (cu c.toNat 16)) (cu d.toNat 24),0):=et (iN l) (et (aa (dh o)) (et (aa (dh p)) (et (aa (dh q)) (aa (dh r)))))
 obtain⟨rfl,rfl⟩:=dN (e.symm.trans hr)
 exact⟨rfl,x⟩
def iQ (b:List UInt8):(List UInt8) × Int:=
 if((b.length:Nat):Int) > 4103 then([],2) else if((b.length:Nat):Int) < 6 then([],10) else bnd (jC (List.drop (b.length - 4) b)) fun c=>bnd (nT (List.take (b.length - 4) b)) fun d=>if((c.1:Nat):Int)=((d:Nat):Int) then bnd (fB (List.take ((b.length - 4) - 1) (List.drop 1 b))) fun a=>bnd (List.getD b 0 default) fun e=>if((e.toNat:Nat):Int)=83 then if a.2.2=0 then if((a.1:Nat):Int) > 4096 then([],11) else if((a.1:Nat):Int)=(((b.length - 4) - 1:Nat):Int) - a.2.1 then((List.take ((b.length - 4) - (Int.toNat (1+a.2.1))) (List.drop (Int.toNat (1+a.2.1)) b)),0) else([],11) else([],11) else([],11) else([],50)
theorem sQ (w:World) (D:Nat→Prop) (z:Option Addr) (n0 x:Nat) (a:List UInt8) (K:List UInt8) (r1:Int) (H:Own w D w []) (y:Ro w D fun w'=>bD w' 1 z n0 (List.flatMap eB a)) (ag:n0=a.length) (aX:a.length *1≤211106232532992) (aY:a.length≤x) (hr:iQ a=(K,r1)):
    Calls Tryz.prog 44 #[.slice z n0 x] w (cO fun v w'=> ∃ (B0:Option Addr) (b0:Nat),v= .tuple #[.slice B0 K.length b0, .int .i64 r1]∧Own w D w' [row B0 K.length b0 (List.flatMap eB K) 5 1]∧(K.length≤a.length)):=by
 subst ag
 refine yR (args:= [.slice z a.length x]) Tryz.func44 rfl rfl rfl ?_
 show Wp _ _ _ [(0, .slice z a.length x)] _ _
 refine sr (Az rfl (An rfl (yJ (sr (Mz rfl (Kz (.int .i64 ((a.length:Nat):Int)) (Kz (.bool (decide (((a.length:Nat):Int) > 4103))) (nt ?_))))))))
 by_cases j:((a.length:Nat):Int) > 4103
 refine jT (dT j) (sr (Az rfl (An rfl (rt (tR (y9 (gD rfl rfl rfl) ?_))))))
 have ah:Own w D w [row none 0 0 (List.flatMap eB ([])) 5 1]:=H.free (bP 5 1)
 have ai:=ah.pk [0]
 have e:iQ a=([],2):=ip j
 obtain⟨rfl,rfl⟩:=dN (e.symm.trans hr)
 exact⟨none,0,rfl,ai,(by first | omega | exact BJ _ | (simp only [List.length_take,List.length_drop]; omega))⟩
 refine jF (dF j) (sk (yJ (sr (Mz rfl (Kz (.int .i64 ((a.length:Nat):Int)) (Kz (.bool (decide (((a.length:Nat):Int) < 6))) (nt ?_)))))))
 by_cases p:((a.length:Nat):Int) < 6
 refine jT (dT p) (sr (Az rfl (An rfl (rt (tR (y9 (gD rfl rfl rfl) ?_))))))
 have aj:Own w D w [row none 0 0 (List.flatMap eB ([])) 5 1]:=H.free (bP 5 1)
 have ak:=aj.pk [0]
 have e:iQ a=([],10):=et (iN j) (ip p)
 obtain⟨rfl,rfl⟩:=dN (e.symm.trans hr)
 exact⟨none,0,rfl,ak,(by first | omega | exact BJ _ | (simp only [List.length_take,List.length_drop]; omega))⟩
 refine jF (dF p) (sk (sr (Mz rfl (Kz (.int .i64 ((a.length:Nat):Int)) (fw (.int .i64 ((a.length - 4:Nat):Int)) (yS (e:=IntKind.i64.wrap (((a.length:Nat):Int) - 4)) yk (by rw [BI _ (by omega)]; omega)) (Ar rfl (Mz rfl (Mz rfl (fw (.slice (fI z (a.length - 4) 1 x) (a.length - (a.length - 4)) (x - (a.length - 4))) (zI (bW) rfl rfl (by omega)) ?_)))))))))
 have aQ:a.length - (a.length - 4)=List.length (List.drop (a.length - 4) a):=(by first | rfl | omega | (simp only [List.length_append,List.length_cons,List.length_nil,List.length_take,List.length_drop,List.length_set,List.length_replicate,List.length_map] <;> omega))
 obtain⟨⟨A,L⟩,f⟩:∃ q:Nat × Int,jC (List.drop (a.length - 4) a)=q:=⟨_,rfl⟩
 obtain⟨aZ,M,N,O,aR⟩:=yP H
 refine cl Tryz.call88 (ql _ _ (fI z (a.length - 4) 1 x) (a.length - (a.length - 4)) (x - (a.length - 4)) (List.drop (a.length - 4) a) A L M (fun P Q=>zR (lo:=a.length - 4) ay ((N _ y) P Q) (by omega) (by omega) (by decide)) (by first | rfl | omega | (simp only [List.length_append,List.length_cons,List.length_nil,List.length_take,List.length_drop,List.length_set,List.length_replicate,List.length_map] <;> omega)) (by first | omega | (simp only [List.length_append,List.length_cons,List.length_nil,List.length_take,List.length_drop,List.length_set]; omega)) f) ?_
 rintro _ bf ⟨rfl,R⟩
 have au:=O _ _ R
 refine Mz rfl (Kz (.int .u32 ((A:Nat):Int)) (Kz (.int .i64 L) (Az rfl (An rfl (yJ (sr (Mz rfl (Mz rfl (Mz rfl (fw (.slice z (a.length - 4) x) (zZ (bW) rfl rfl (by omega)) ?_))))))))))
 have aS:a.length - 4=List.length (List.take (a.length - 4) a):=(by first | rfl | omega | (simp only [List.length_append,List.length_cons,List.length_nil,List.length_take,List.length_drop,List.length_set,List.length_replicate,List.length_map] <;> omega))
 obtain⟨B,g⟩:∃ q,nT (List.take (a.length - 4) a)=q:=⟨_,rfl⟩
 obtain⟨bg,S,T,U,aT⟩:=yP au
 refine cl Tryz.call65 (ug _ _ z (a.length - 4) x (List.take (a.length - 4) a) B S (fun P Q=>zJ (hi:=a.length - 4) ay ((T _ y) P Q) (by omega)) (by first | rfl | omega | (simp only [List.length_append,List.length_cons,List.length_nil,List.length_take,List.length_drop,List.length_set,List.length_replicate,List.length_map] <;> omega)) (by first | omega | (simp only [List.length_append,List.length_cons,List.length_nil,List.length_take,List.length_drop,List.length_set]; omega)) (by first | omega | (simp only [List.length_cons,List.length_nil,List.length_append]; omega)) g) ?_
 rintro _ av ⟨rfl,V,G⟩
 have W:=U _ _ V
 replace G:B≤4294967295:=G
 refine fw (.bool (decide (¬ (((A:Nat):Int)=((B:Nat):Int))))) (za (e:= !(decide (((A:Nat):Int)=((B:Nat):Int)))) yk decide_not.symm) (nt ?_)
 by_cases r:((A:Nat):Int)=((B:Nat):Int)
 refine jF (dF (BK r)) (sk (sr (Mz rfl (Mz rfl (fw (.slice (fI z 1 1 x) ((a.length - 4) - 1) (x - 1)) (Yl.cut (bW) rfl rfl rfl (by omega) (by omega)) ?_)))))
 have aU:(a.length - 4) - 1=List.length (List.take ((a.length - 4) - 1) (List.drop 1 a)):=(by first | rfl | omega | (simp only [List.length_append,List.length_cons,List.length_nil,List.length_take,List.length_drop,List.length_set,List.length_replicate,List.length_map] <;> omega))
 obtain⟨⟨d,b,t⟩,n⟩:∃ q:Nat × Int × Int,fB (List.take ((a.length - 4) - 1) (List.drop 1 a))=q:=⟨_,rfl⟩
 obtain⟨bi,X,Y,Z,aV⟩:=yP W
 refine cl Tryz.call89 (mf _ _ (fI z 1 1 x) ((a.length - 4) - 1) (x - 1) (List.take ((a.length - 4) - 1) (List.drop 1 a)) d b t X (fun P Q=>bD.cutE (lo:=1) (hi:=a.length - 4) ay ((Y _ y) P Q) (by omega) (by omega) (by omega)) (by first | rfl | omega | (simp only [List.length_append,List.length_cons,List.length_nil,List.length_take,List.length_drop,List.length_set,List.length_replicate,List.length_map] <;> omega)) (by first | omega | (simp only [List.length_append,List.length_cons,List.length_nil,List.length_take,List.length_drop,List.length_set]; omega)) (by first | omega | (simp only [List.length_take,List.length_drop]; omega) | exact Nat.le_refl _) n) ?_
 rintro _ C ⟨rfl,ae,I,J⟩
 have u:=Z _ _ ae
 replace I: ¬ (t=0)∨(1≤b∧b≤10∧b≤((List.length (List.take ((a.length - 4) - 1) (List.drop 1 a)):Nat):Int)):=I
 replace J:d≤18446744073709551615:=J
 refine Mz rfl (Kz (.int .u64 ((d:Nat):Int)) (Kz (.int .i64 b) (Kz (.int .i64 t) (Az rfl (Az rfl (An rfl (yJ (sr (Mz rfl ?_)))))))))
 obtain⟨E,o⟩:=dV (ls:=a) (i:=0) ay (by decide) (u.ro y) (by first | omega | (simp; done) | (simp; omega))
 refine fw (.pointer (some ⟨ab z,ao z+0 *1,none⟩)) (yZ (bW) rfl rfl ((u.ro y).addr (i:=0) (by omega)) (by omega)) (fw (.int .u8 ((E.toNat:Nat):Int)) (y5 rfl (bn.one Tryz.isAgg5 (((u.ro y).elem ay o (by decide)).at_ (k:=0) rfl))) (fw (.bool (decide (¬ (((E.toNat:Nat):Int)=83)))) (za (e:= !(decide (((E.toNat:Nat):Int)=83))) yk decide_not.symm) (Mz rfl ?_)))
 by_cases h:((E.toNat:Nat):Int)=83
 refine gw (.int .i64 t) (dF (BK h)) (yO rfl) (gw (.bool (decide (¬ (t=0)))) (dF (BK h)) (za (e:= !(decide (t=0))) yk decide_not.symm) (fw (.bool (decide (¬ (t=0)))) (yM rfl (dF (BK h)) rfl) (Mz rfl ?_)))
 by_cases l:t=0
 refine gw (.int .u64 ((d:Nat):Int)) (dF (BK l)) (yO rfl) (gw (.bool (decide (((d:Nat):Int) > 4096))) (dF (BK l)) yk (fw (.bool (decide (((d:Nat):Int) > 4096))) (yM rfl (dF (BK l)) rfl) (Mz rfl ?_)))
 by_cases c:((d:Nat):Int) > 4096
 refine Sz (dT c) (Sz (dT c) (Sz (dT c) (Sz (dT c) (Sz (dT c) (Sz (dT c) (Sz (dT c) (fw (.bool true) (yN rfl (dT c) rfl) (nt (jt (sr (Az rfl (An rfl (rt (tR (y9 (gD rfl rfl rfl) ?_)))))))))))))))
 have ax:Own w D C [row none 0 0 (List.flatMap eB ([])) 5 1]:=u.free (bP 5 1)
 have az:=ax.pk [0]
 have e:iQ a=([],11):=et (iN j) (et (iN p) (et (aa f) (et (aa g) (et (ip r) (et (aa n) (et (aa (dh o)) (et (ip h) (et (ip l) (ip c)))))))))
 obtain⟨rfl,rfl⟩:=dN (e.symm.trans hr)
 exact⟨none,0,rfl,az,(by first | omega | exact BJ _ | (simp only [List.length_take,List.length_drop]; omega))⟩
 refine gw (.int .u64 ((d:Nat):Int)) (dF c) (yO rfl) (gw (.int .i64 ((d:Nat):Int)) (dF c) (yS (e:=IntKind.i64.wrap ((d:Nat):Int)) yk (BI _ (by omega))) (gw (.int .i64 ((a.length - 4:Nat):Int)) (dF c) (yO rfl) (gw (.int .i64 (((a.length - 4) - 1:Nat):Int)) (dF c) (yS (e:=IntKind.i64.wrap (((a.length - 4:Nat):Int) - 1)) yk (by rw [BI _ (by omega)]; omega)) (gw (.int .i64 b) (dF c) (yO rfl) (gw (.int .i64 ((((a.length - 4) - 1:Nat):Int) - b)) (dF c) (yS (e:=IntKind.i64.wrap ((((a.length - 4) - 1:Nat):Int) - b)) yk (by rw [BI _ (by omega)])) (gw (.bool (decide (¬ (((d:Nat):Int)=(((a.length - 4) - 1:Nat):Int) - b)))) (dF c) (za (e:= !(decide (((d:Nat):Int)=(((a.length - 4) - 1:Nat):Int) - b))) yk decide_not.symm) (fw (.bool (decide (¬ (((d:Nat):Int)=(((a.length - 4) - 1:Nat):Int) - b)))) (yM rfl (dF c) rfl) (nt ?_))))))))
 by_cases F:((d:Nat):Int)=(((a.length - 4) - 1:Nat):Int) - b
 refine jF (dF (BK F)) (sk (sr (Mz rfl (Mz rfl (fw (.int .i64 ((Int.toNat (1+b):Nat):Int)) (yS (e:=IntKind.i64.wrap (1+b)) yk (by rw [BI _ (by omega)]; omega)) (Mz rfl (fw (.slice (fI z (Int.toNat (1+b)) 1 x) ((a.length - 4) - (Int.toNat (1+b))) (x - (Int.toNat (1+b)))) (Yl.cut (bW) rfl rfl rfl (by omega) (by omega)) ?_)))))))
 have aW:(a.length - 4) - (Int.toNat (1+b))=List.length (List.take ((a.length - 4) - (Int.toNat (1+b))) (List.drop (Int.toNat (1+b)) a)):=(by first | rfl | omega | (simp only [List.length_append,List.length_cons,List.length_nil,List.length_take,List.length_drop,List.length_set,List.length_replicate,List.length_map] <;> omega))
 have af:Own w D C [row none 0 0 (List.flatMap eB ([])) 5 1]:=u.free (bP 5 1)
 refine WL.do rfl (ze (k:=0) (m:=(a.length - 4) - (Int.toNat (1+b))) (bW) af rfl rfl (cz Tryz.underlying31 (bD.cutE (lo:=Int.toNat (1+b)) (hi:=a.length - 4) ay (af.ro y) (by omega) (by omega) (by omega)) (bK dA (List.take ((a.length - 4) - (Int.toNat (1+b))) (List.drop (Int.toNat (1+b)) a)))) rfl (by omega) (s:=List.length (List.take ((a.length - 4) - (Int.toNat (1+b))) (List.drop (Int.toNat (1+b)) a))) (by first | omega | (simp only [List.length_append,List.length_cons,List.length_nil] <;> omega)) rfl ?_)
 intro aA aB bq aC
 refine Az rfl (An rfl (rt (y9 (gD rfl rfl rfl) ?_)))
 have aD:=aC.pk [0]
 have e:iQ a=((List.take ((a.length - 4) - (Int.toNat (1+b))) (List.drop (Int.toNat (1+b)) a)),0):=et (iN j) (et (iN p) (et (aa f) (et (aa g) (et (ip r) (et (aa n) (et (aa (dh o)) (et (ip h) (et (ip l) (et (iN c) (ip F))))))))))
 obtain⟨rfl,rfl⟩:=dN (e.symm.trans hr)
 exact⟨aA,aB,rfl,aD,(by first | omega | exact BJ _ | (simp only [List.length_take,List.length_drop]; omega))⟩
 refine jT (dT F) (sr (Az rfl (An rfl (rt (tR (y9 (gD rfl rfl rfl) ?_))))))
 have aF:Own w D C [row none 0 0 (List.flatMap eB ([])) 5 1]:=u.free (bP 5 1)
 have aG:=aF.pk [0]
 have e:iQ a=([],11):=et (iN j) (et (iN p) (et (aa f) (et (aa g) (et (ip r) (et (aa n) (et (aa (dh o)) (et (ip h) (et (ip l) (et (iN c) (iN F))))))))))
 obtain⟨rfl,rfl⟩:=dN (e.symm.trans hr)
 exact⟨none,0,rfl,aG,(by first | omega | exact BJ _ | (simp only [List.length_take,List.length_drop]; omega))⟩
 refine Sz (dT l) (Sz (dT l) (fw (.bool true) (yN rfl (dT l) rfl) (Mz rfl (Sz rfl (Sz rfl (Sz rfl (Sz rfl (Sz rfl (Sz rfl (Sz rfl (fw (.bool true) (yN rfl rfl rfl) (nt (jt (sr (Az rfl (An rfl (rt (tR (y9 (gD rfl rfl rfl) ?_)))))))))))))))))))
 have aH:Own w D C [row none 0 0 (List.flatMap eB ([])) 5 1]:=u.free (bP 5 1)
 have aI:=aH.pk [0]
 have e:iQ a=([],11):=et (iN j) (et (iN p) (et (aa f) (et (aa g) (et (ip r) (et (aa n) (et (aa (dh o)) (et (ip h) (iN l))))))))
 obtain⟨rfl,rfl⟩:=dN (e.symm.trans hr)
 exact⟨none,0,rfl,aI,(by first | omega | exact BJ _ | (simp only [List.length_take,List.length_drop]; omega))⟩
 refine Sz (dT h) (Sz (dT h) (fw (.bool true) (yN rfl (dT h) rfl) (Mz rfl (Sz rfl (Sz rfl (fw (.bool true) (yN rfl rfl rfl) (Mz rfl (Sz rfl (Sz rfl (Sz rfl (Sz rfl (Sz rfl (Sz rfl (Sz rfl (fw (.bool true) (yN rfl rfl rfl) (nt (jt (sr (Az rfl (An rfl (rt (tR (y9 (gD rfl rfl rfl) ?_)))))))))))))))))))))))
 have aJ:Own w D C [row none 0 0 (List.flatMap eB ([])) 5 1]:=u.free (bP 5 1)
 have aK:=aJ.pk [0]
 have e:iQ a=([],11):=et (iN j) (et (iN p) (et (aa f) (et (aa g) (et (ip r) (et (aa n) (et (aa (dh o)) (iN h)))))))
 obtain⟨rfl,rfl⟩:=dN (e.symm.trans hr)
 exact⟨none,0,rfl,aK,(by first | omega | exact BJ _ | (simp only [List.length_take,List.length_drop]; omega))⟩
 refine jT (dT r) (sr (Az rfl (An rfl (rt (tR (y9 (gD rfl rfl rfl) ?_))))))
 have aL:Own w D av [row none 0 0 (List.flatMap eB ([])) 5 1]:=W.free (bP 5 1)
 have aM:=aL.pk [0]
 have e:iQ a=([],50):=et (iN j) (et (iN p) (et (aa f) (et (aa g) (iN r))))
 obtain⟨rfl,rfl⟩:=dN (e.symm.trans hr)
 exact⟨none,0,rfl,aM,(by first | omega | exact BJ _ | (simp only [List.length_take,List.length_drop]; omega))⟩
def dL (a:RT) (b:Int):RT:=
 if a.xE=0 then RT.mk (Ll.mk a.xB.ls) b else a
theorem je (w:World) (D:Nat→Prop) (d:Nat) (c:RT) (a:Option Addr) (b:Nat) (f:Int) (g:RT) (H:Own w D w [blk d [.slice a c.xB.ls.length b, .int .i64 c.xE] 75]) (h:Ro w D fun w'=>bD w' 1 a c.xB.ls.length (List.flatMap eB c.xB.ls)) (i:c.xB.ls.length≤b∧c.xB.ls.length≤9223372036854775807) (hr:dL c f=g):
    Calls Tryz.prog 46 #[.pointer (some ⟨d,0,none⟩), .int .i64 f] w (cO fun v w'=> ∃ (B0ox0:Option Addr) (b0ox0:Nat),v= .tuple #[]∧Own w D w' [blk d [.slice B0ox0 g.xB.ls.length b0ox0, .int .i64 g.xE] 75]∧(aj 1 a b c.xB.ls B0ox0 b0ox0 g.xB.ls)):=by
 refine yR (args:= [.pointer (some ⟨d,0,none⟩), .int .i64 f]) Tryz.func46 rfl rfl rfl ?_
 show Wp _ _ _ [(0, .pointer (some ⟨d,0,none⟩)),(1, .int .i64 f)] _ _
 refine sr (Mz rfl (Kz (.pointer (some ⟨d,0,none⟩)) (Kz (.pointer (some ⟨d,1,none⟩)) (Lz (.int .i64 c.xE) H 0 Tryz.isAgg32 (Kz (.bool (decide (c.xE=0))) (nt ?_))))))
 by_cases e:c.xE=0
 refine jT (dT e) (yK (Mz rfl (Mz rfl (Kz (.pointer (some ⟨d,0,none⟩)) (Kz (.pointer (some ⟨d,1,none⟩)) ?_)))))
 refine bz [.int .i64 f] 1 H Tryz.sizeOf32 ?_
 intro m j
 refine WL.nil (zF (res0 rfl) ?_)
 have k:=j.pk [0]
 obtain rfl:_=RT.mk (Ll.mk c.xB.ls) f:=hr.symm.trans (ip e)
 exact⟨a,b,rfl,k,(aj.refl (by omega))⟩
 refine jF (dF e) (zm (zF (res0 rfl) ?_))
 have l:Own w D w [blk d [.slice a c.xB.ls.length b, .int .i64 c.xE] 75]:=H.pk [0]
 obtain rfl:_=c:=hr.symm.trans (iN e)
 exact⟨a,b,rfl,l,(aj.refl (by omega))⟩
def aX (a:RT):Int × RT:=
 if a.xE=0 then if((a.xB.ls.length:Nat):Int)=0 then bnd (dL a 10) fun b=>(0,b) else bnd (List.getD a.xB.ls 0 default) fun c=>(((c.toNat:Nat):Int),RT.mk (Ll.mk (List.drop 1 a.xB.ls)) a.xE) else(0,a)
theorem gG (w:World) (D:Nat→Prop) (f:Nat) (c:RT) (b:Option Addr) (a:Nat) (z:Int) (A:RT) (H:Own w D w [blk f [.slice b c.xB.ls.length a, .int .i64 c.xE] 75]) (d:Ro w D fun w'=>bD w' 1 b c.xB.ls.length (List.flatMap eB c.xB.ls)) (B:c.xB.ls.length≤a∧c.xB.ls.length≤9223372036854775807) (hr:aX c=(z,A)):
    Calls Tryz.prog 90 #[.pointer (some ⟨f,0,none⟩)] w (cO fun v w'=> ∃ (B1ox0:Option Addr) (b1ox0:Nat),v= .int .i64 z∧Own w D w' [blk f [.slice B1ox0 A.xB.ls.length b1ox0, .int .i64 A.xE] 75]∧(aj 1 b a c.xB.ls B1ox0 b1ox0 A.xB.ls)∧(0≤z∧z≤255)):=by
 refine yR (args:= [.pointer (some ⟨f,0,none⟩)]) Tryz.func90 rfl rfl rfl ?_
 show Wp _ _ _ [(0, .pointer (some ⟨f,0,none⟩))] _ _
 refine sr (An rfl (yJ (sr (Mz rfl (Kz (.pointer (some ⟨f,0,none⟩)) (Kz (.pointer (some ⟨f,1,none⟩)) (Lz (.int .i64 c.xE) H 0 Tryz.isAgg32 (fw (.bool (decide (¬ (c.xE=0)))) (za (e:= !(decide (c.xE=0))) yk decide_not.symm) (nt ?_)))))))))
 by_cases h:c.xE=0
 refine jF (dF (BK h)) (sk (yJ (sr (Mz rfl (Kz (.pointer (some ⟨f,0,none⟩)) (Kz (.pointer (some ⟨f,0,none⟩)) (Lz (.slice b c.xB.ls.length a) H 0 Tryz.isAgg31 (Kz (.int .i64 ((c.xB.ls.length:Nat):Int)) (Kz (.bool (decide (((c.xB.ls.length:Nat):Int)=0))) (nt ?_))))))))))
 by_cases m:((c.xB.ls.length:Nat):Int)=0
 refine jT (dT m) (sr (Mz rfl ?_))
 obtain⟨p,n⟩:∃ q,dL c 10=q:=⟨_,rfl⟩
 obtain⟨O,r,s,t,L⟩:=yT H
 refine cl Tryz.call46 (je _ _ f c b a 10 p r (s _ d) (show c.xB.ls.length≤a∧c.xB.ls.length≤9223372036854775807 from by omega) n) ?_
 rintro _ P ⟨u,x,rfl,y,g⟩
 have C:=t _ _ y
 replace g:aj 1 b a c.xB.ls u x p.xB.ls:=g
 have M:=(g).le
 refine ns (An rfl (rt (tR (rs ?_))))
 have E:=C.pk [0]
 have e:aX c=(0,p):=et (ip h) (et (ip m) (aa n))
 obtain⟨rfl,rfl⟩:=dN (e.symm.trans hr)
 exact⟨u,x,rfl,E,g,(by omega)⟩
 refine jF (dF m) (sk (sr (Mz rfl (Kz (.pointer (some ⟨f,0,none⟩)) (Kz (.pointer (some ⟨f,0,none⟩)) (Lz (.slice b c.xB.ls.length a) H 0 Tryz.isAgg31 ?_))))))
 obtain⟨j,o⟩:=dV (ls:=c.xB.ls) (i:=0) ay (by decide) (H.ro d) (by first | omega | (simp; done) | (simp; omega))
 refine fw (.pointer (some ⟨ab b,ao b+0 *1,none⟩)) (yZ (bW) rfl rfl ((H.ro d).addr (i:=0) (by omega)) (by omega)) (fw (.int .u8 ((j.toNat:Nat):Int)) (y5 rfl (bn.one Tryz.isAgg5 (((H.ro d).elem ay o (by decide)).at_ (k:=0) rfl))) (Ar rfl (Mz rfl (Mz rfl (Kz (.pointer (some ⟨f,0,none⟩)) (Kz (.pointer (some ⟨f,0,none⟩)) (Lz (.slice b c.xB.ls.length a) H 0 Tryz.isAgg31 (fw (.slice (fI b 1 1 a) (c.xB.ls.length - 1) (a - 1)) (zI (bW) rfl rfl (by omega)) (Kz (.pointer (some ⟨f,0,none⟩)) (Kz (.pointer (some ⟨f,0,none⟩)) ?_))))))))))
 refine bz [.slice (fI b 1 1 a) (c.xB.ls.length - 1) (a - 1)] 0 H Tryz.sizeOf31 ?_
 intro F G
 refine ns (Mz rfl ?_)
 have N:j.toNat≤255:=Nat.le_of_lt_succ (UInt8.toNat_lt _)
 refine fw (.int .i64 ((j.toNat:Nat):Int)) (yS (e:=IntKind.i64.wrap ((j.toNat:Nat):Int)) yk (BI _ (by omega))) (An rfl (rt (rs ?_)))
 have l:c.xB.ls.length - 1=List.length (List.drop 1 c.xB.ls):=by first | omega | (simp only [List.length_drop,List.length_take] <;> omega)
 have I:Own w D F [blk f [.slice (fI b 1 1 a) (List.length (List.drop 1 c.xB.ls)) (a - 1), .int .i64 c.xE] 75]:=by rw [← l]; exact G
 have J:=I.pk [0]
 have e:aX c=(((j.toNat:Nat):Int),RT.mk (Ll.mk (List.drop 1 c.xB.ls)) c.xE):=et (ip h) (et (iN m) (aa (dh o)))
 obtain⟨rfl,rfl⟩:=dN (e.symm.trans hr)
 exact⟨fI b 1 1 a,a - 1,(by first | rfl | (rw [← l]; done) | (rw [← l]; rfl)),J,(aj.cut (aj.refl (by omega)) (by first | omega | (simp only [List.length_drop]; omega))),(by omega)⟩
 refine jT (dT h) (sr (An rfl (rt (tR (rs ?_)))))
 have K:Own w D w [blk f [.slice b c.xB.ls.length a, .int .i64 c.xE] 75]:=H.pk [0]
 have e:aX c=(0,c):=iN h
 obtain⟨rfl,rfl⟩:=dN (e.symm.trans hr)
 exact⟨b,a,rfl,K,(aj.refl (by omega)),(by omega)⟩
def df (b:RT):Nat × RT:=
 if b.xE=0 then bnd (fB b.xB.ls) fun a=>if a.2.2=0 then(a.1,RT.mk (Ll.mk (List.drop (Int.toNat a.2.1) b.xB.ls)) b.xE) else bnd (dL b a.2.2) fun c=>(0,c) else(0,b)
theorem nu (w:World) (D:Nat→Prop) (g:Nat) (d:RT) (b:Option Addr) (a:Nat) (J:Nat) (I:RT) (H:Own w D w [blk g [.slice b d.xB.ls.length a, .int .i64 d.xE] 75]) (i:Ro w D fun w'=>bD w' 1 b d.xB.ls.length (List.flatMap eB d.xB.ls)) (K:d.xB.ls.length≤a∧d.xB.ls.length≤9223372036854775807) (hr:df d=(J,I)):
    Calls Tryz.prog 96 #[.pointer (some ⟨g,0,none⟩)] w (cO fun v w'=> ∃ (B1ox0:Option Addr) (b1ox0:Nat),v= .int .u64 ((J:Nat):Int)∧Own w D w' [blk g [.slice B1ox0 I.xB.ls.length b1ox0, .int .i64 I.xE] 75]∧(aj 1 b a d.xB.ls B1ox0 b1ox0 I.xB.ls)∧(J≤18446744073709551615)):=by
 refine yR (args:= [.pointer (some ⟨g,0,none⟩)]) Tryz.func96 rfl rfl rfl ?_
 show Wp _ _ _ [(0, .pointer (some ⟨g,0,none⟩))] _ _
 refine sr (An rfl (yJ (sr (Mz rfl (Kz (.pointer (some ⟨g,0,none⟩)) (Kz (.pointer (some ⟨g,1,none⟩)) (Lz (.int .i64 d.xE) H 0 Tryz.isAgg32 (fw (.bool (decide (¬ (d.xE=0)))) (za (e:= !(decide (d.xE=0))) yk decide_not.symm) (nt ?_)))))))))
 by_cases j:d.xE=0
 refine jF (dF (BK j)) (sk (sr (Mz rfl (Kz (.pointer (some ⟨g,0,none⟩)) (Kz (.pointer (some ⟨g,0,none⟩)) (Lz (.slice b d.xB.ls.length a) H 0 Tryz.isAgg31 ?_))))))
 obtain⟨⟨m,c,f⟩,k⟩:∃ q:Nat × Int × Int,fB d.xB.ls=q:=⟨_,rfl⟩
 obtain⟨V,u,x,y,S⟩:=yP H
 refine cl Tryz.call89 (mf _ _ b d.xB.ls.length a d.xB.ls m c f u (x _ i) rfl (by omega) (by first | omega | (simp only [List.length_take,List.length_drop]; omega) | exact Nat.le_refl _) k) ?_
 rintro _ W ⟨rfl,z,o,p⟩
 have s:=y _ _ z
 replace o: ¬ (f=0)∨(1≤c∧c≤10∧c≤((d.xB.ls.length:Nat):Int)):=o
 replace p:m≤18446744073709551615:=p
 refine Mz rfl (Kz (.int .u64 ((m:Nat):Int)) (Kz (.int .i64 c) (Kz (.int .i64 f) (Az rfl (Az rfl (An rfl (yJ (sr (Mz rfl (fw (.bool (decide (¬ (f=0)))) (za (e:= !(decide (f=0))) yk decide_not.symm) (nt ?_)))))))))))
 by_cases n:f=0
 refine jF (dF (BK n)) (sk (sr (Mz rfl (Mz rfl (Kz (.pointer (some ⟨g,0,none⟩)) (Kz (.pointer (some ⟨g,0,none⟩)) (Lz (.slice b d.xB.ls.length a) s 0 Tryz.isAgg31 (fw (.int .i64 ((Int.toNat c:Nat):Int)) (yS (e:=c) (yO rfl) (by omega)) (fw (.slice (fI b (Int.toNat c) 1 a) (d.xB.ls.length - (Int.toNat c)) (a - (Int.toNat c))) (zI (bW) rfl rfl (by omega)) (Kz (.pointer (some ⟨g,0,none⟩)) (Kz (.pointer (some ⟨g,0,none⟩)) ?_)))))))))))
 refine bz [.slice (fI b (Int.toNat c) 1 a) (d.xB.ls.length - (Int.toNat c)) (a - (Int.toNat c))] 0 s Tryz.sizeOf31 ?_
 intro L M
 refine ns (Mz rfl (An rfl (rt (rs ?_))))
 have l:d.xB.ls.length - (Int.toNat c)=List.length (List.drop (Int.toNat c) d.xB.ls):=by first | omega | (simp only [List.length_drop,List.length_take] <;> omega)
 have N:Own w D L [blk g [.slice (fI b (Int.toNat c) 1 a) (List.length (List.drop (Int.toNat c) d.xB.ls)) (a - (Int.toNat c)), .int .i64 d.xE] 75]:=by rw [← l]; exact M
 have O:=N.pk [0]
 have e:df d=(m,RT.mk (Ll.mk (List.drop (Int.toNat c) d.xB.ls)) d.xE):=et (ip j) (et (aa k) (ip n))
 obtain⟨rfl,rfl⟩:=dN (e.symm.trans hr)
 exact⟨fI b (Int.toNat c) 1 a,a - (Int.toNat c),(by first | rfl | (rw [← l]; done) | (rw [← l]; rfl)),O,(aj.cut (aj.refl (by omega)) (by first | omega | (simp only [List.length_drop]; omega))),(by omega)⟩
 refine jT (dT n) (sr (Mz rfl (Mz rfl ?_)))
 obtain⟨t,r⟩:∃ q,dL d f=q:=⟨_,rfl⟩
 obtain⟨X,A,B,C,T⟩:=yT s
 refine cl Tryz.call46 (je _ _ g d b a f t A (B _ i) (show d.xB.ls.length≤a∧d.xB.ls.length≤9223372036854775807 from by omega) r) ?_
 rintro _ Y ⟨E,F,rfl,G,h⟩
 have P:=C _ _ G
 replace h:aj 1 b a d.xB.ls E F t.xB.ls:=h
 have U:=(h).le
 refine ns (An rfl (rt (tR (rs ?_))))
 have Q:=P.pk [0]
 have e:df d=(0,t):=et (ip j) (et (aa k) (et (iN n) (aa r)))
 obtain⟨rfl,rfl⟩:=dN (e.symm.trans hr)
 exact⟨E,F,rfl,Q,h,(by omega)⟩
 refine jT (dT j) (sr (An rfl (rt (tR (rs ?_)))))
 have R:Own w D w [blk g [.slice b d.xB.ls.length a, .int .i64 d.xE] 75]:=H.pk [0]
 have e:df d=(0,d):=iN j
 obtain⟨rfl,rfl⟩:=dN (e.symm.trans hr)
 exact⟨b,a,rfl,R,(aj.refl (by omega)),(by omega)⟩
def eP (c:RT):Int × RT:=
 bnd (df c) fun a=>if((a.1:Nat):Int) > 255 then bnd (dL a.2 11) fun b=>(0,b) else(((a.1:Nat):Int),a.2)
theorem lm (w:World) (D:Nat→Prop) (p:Nat) (f:RT) (c:Option Addr) (a:Nat) (G:Int) (I:RT) (H:Own w D w [blk p [.slice c f.xB.ls.length a, .int .i64 f.xE] 75]) (i:Ro w D fun w'=>bD w' 1 c f.xB.ls.length (List.flatMap eB f.xB.ls)) (J:f.xB.ls.length≤a∧f.xB.ls.length≤9223372036854775807) (hr:eP f=(G,I)):
    Calls Tryz.prog 116 #[.pointer (some ⟨p,0,none⟩)] w (cO fun v w'=> ∃ (B1ox0:Option Addr) (b1ox0:Nat),v= .int .i64 G∧Own w D w' [blk p [.slice B1ox0 I.xB.ls.length b1ox0, .int .i64 I.xE] 75]∧(aj 1 c a f.xB.ls B1ox0 b1ox0 I.xB.ls)∧(0≤G∧G≤255)):=by
 refine yR (args:= [.pointer (some ⟨p,0,none⟩)]) Tryz.func116 rfl rfl rfl ?_
 show Wp _ _ _ [(0, .pointer (some ⟨p,0,none⟩))] _ _
 refine sr (Ar rfl (Mz rfl ?_))
 obtain⟨⟨g,d⟩,j⟩:∃ q:Nat × RT,df f=q:=⟨_,rfl⟩
 obtain⟨R,s,t,u,N⟩:=yT H
 refine cl Tryz.call96 (nu _ _ p f c a g d s (t _ i) (show f.xB.ls.length≤a∧f.xB.ls.length≤9223372036854775807 from by omega) j) ?_
 rintro _ S ⟨l,k,rfl,x,b,n⟩
 have y:=u _ _ x
 replace b:aj 1 c a f.xB.ls l k d.xB.ls:=b
 have O:=(b).le
 replace n:g≤18446744073709551615:=n
 refine An rfl (yJ (sr (Mz rfl (Kz (.bool (decide (((g:Nat):Int) > 255))) (nt ?_)))))
 by_cases m:((g:Nat):Int) > 255
 refine jT (dT m) (sr (Mz rfl ?_))
 obtain⟨r,o⟩:∃ q,dL d 11=q:=⟨_,rfl⟩
 obtain⟨T,z,A,B,P⟩:=yT y
 refine cl Tryz.call46 (je _ _ p d l k 11 r z (fun U V=>aj.rds ay (by decide) b ((A _ i) U V)) (show d.xB.ls.length≤k∧d.xB.ls.length≤9223372036854775807 from by omega) o) ?_
 rintro _ W ⟨C,E,rfl,F,h⟩
 have K:=B _ _ F
 replace h:aj 1 l k d.xB.ls C E r.xB.ls:=h
 have Q:=(h).le
 refine ns (An rfl (rt (tR (rs ?_))))
 have L:=K.pk [0]
 have e:eP f=(0,r):=et (aa j) (et (ip m) (aa o))
 obtain⟨rfl,rfl⟩:=dN (e.symm.trans hr)
 exact⟨C,E,rfl,L,(aj.trans b h),(by omega)⟩
 refine jF (dF m) (sk (sr (Mz rfl (fw (.int .i64 ((g:Nat):Int)) (yS (e:=IntKind.i64.wrap ((g:Nat):Int)) yk (BI _ (by omega))) (An rfl (rt (rs ?_)))))))
 have M:=y.pk [0]
 have e:eP f=(((g:Nat):Int),d):=et (aa j) (iN m)
 obtain⟨rfl,rfl⟩:=dN (e.symm.trans hr)
 exact⟨l,k,rfl,M,b,(by omega)⟩
def bg (b:RT):(List UInt8) × RT:=
 if b.xE=0 then bnd (ig b.xB.ls 255) fun a=>if a.2.2=2 then bnd (dL b 11) fun c=>([],c) else if a.2.2=0 then(a.1,RT.mk (Ll.mk (List.drop (Int.toNat a.2.1) b.xB.ls)) b.xE) else bnd (dL b a.2.2) fun d=>([],d) else([],b)
theorem gP (w:World) (D:Nat→Prop) (g:Nat) (c:RT) (b:Option Addr) (a:Nat) (r0:List UInt8) (R:RT) (H:Own w D w [blk g [.slice b c.xB.ls.length a, .int .i64 c.xE] 75]) (h:Ro w D fun w'=>bD w' 1 b c.xB.ls.length (List.flatMap eB c.xB.ls)) (S:c.xB.ls.length≤a∧c.xB.ls.length≤9223372036854775807) (hr:bg c=(r0,R)):
    Calls Tryz.prog 92 #[.pointer (some ⟨g,0,none⟩)] w (cO fun v w'=> ∃ (B1ox0:Option Addr) (b1ox0:Nat),v= .string ⟨List.toArray r0⟩∧Own w D w' [blk g [.slice B1ox0 R.xB.ls.length b1ox0, .int .i64 R.xE] 75]∧(aj 1 b a c.xB.ls B1ox0 b1ox0 R.xB.ls)):=by
 refine yR (args:= [.pointer (some ⟨g,0,none⟩)]) Tryz.func92 rfl rfl rfl ?_
 show Wp _ _ _ [(0, .pointer (some ⟨g,0,none⟩))] _ _
 refine sr (An rfl (yJ (sr (Mz rfl (Kz (.pointer (some ⟨g,0,none⟩)) (Kz (.pointer (some ⟨g,1,none⟩)) (Lz (.int .i64 c.xE) H 0 Tryz.isAgg32 (fw (.bool (decide (¬ (c.xE=0)))) (za (e:= !(decide (c.xE=0))) yk decide_not.symm) (nt ?_)))))))))
 by_cases l:c.xE=0
 refine jF (dF (BK l)) (sk (sr (Mz rfl (Kz (.pointer (some ⟨g,0,none⟩)) (Kz (.pointer (some ⟨g,0,none⟩)) (Lz (.slice b c.xB.ls.length a) H 0 Tryz.isAgg31 ?_))))))
 obtain⟨⟨o,d,f⟩,i⟩:∃ q:(List UInt8) × Int × Int,ig c.xB.ls 255=q:=⟨_,rfl⟩
 obtain⟨ax,z,A,B,ah⟩:=yP H
 refine cl Tryz.call115 (qH _ _ b c.xB.ls.length a c.xB.ls 255 o d f z (A _ h) rfl (by omega) (by first | omega | (simp only [List.length_take,List.length_drop]; omega) | exact Nat.le_refl _) i) ?_
 rintro _ ay ⟨rfl,C,s⟩
 have p:=B _ _ C
 replace s: ¬ (f=0)∨(1≤d∧d≤((c.xB.ls.length:Nat):Int)∧o.length≤c.xB.ls.length):=s
 refine Mz rfl (Kz (.string ⟨List.toArray o⟩) (Kz (.int .i64 d) (Kz (.int .i64 f) (Az rfl (Az rfl (An rfl (yJ (sr (Mz rfl (Kz (.bool (decide (f=2))) (nt ?_)))))))))))
 by_cases m:f=2
 refine jT (dT m) (yK (An rfl (yJ (sr (Mz rfl (Kz (.bool true) (nt (jt (sr (Mz rfl (Mz rfl ?_)))))))))))
 obtain⟨x,t⟩:∃ q,dL c 11=q:=⟨_,rfl⟩
 obtain⟨az,E,F,G,ai⟩:=yT p
 refine cl Tryz.call46 (je _ _ g c b a 11 x E (F _ h) (show c.xB.ls.length≤a∧c.xB.ls.length≤9223372036854775807 from by omega) t) ?_
 rintro _ aA ⟨I,J,rfl,K,j⟩
 have T:=G _ _ K
 replace j:aj 1 b a c.xB.ls I J x.xB.ls:=j
 have ak:=(j).le
 refine ns (An rfl (rt (tR (rs ?_))))
 have U:=T.pk [0]
 have e:bg c=([],x):=et (ip l) (et (aa i) (et (ip m) (aa t)))
 obtain⟨rfl,rfl⟩:=dN (e.symm.trans hr)
 exact⟨I,J,rfl,U,j⟩
 refine jF (dF m) (sk (yJ (sr (Mz rfl (fw (.bool (decide (¬ (f=0)))) (za (e:= !(decide (f=0))) yk decide_not.symm) (nt ?_))))))
 by_cases r:f=0
 refine jF (dF (BK r)) (sk (sr (Mz rfl (Mz rfl (Kz (.pointer (some ⟨g,0,none⟩)) (Kz (.pointer (some ⟨g,0,none⟩)) (Lz (.slice b c.xB.ls.length a) p 0 Tryz.isAgg31 (fw (.int .i64 ((Int.toNat d:Nat):Int)) (yS (e:=d) (yO rfl) (by omega)) (fw (.slice (fI b (Int.toNat d) 1 a) (c.xB.ls.length - (Int.toNat d)) (a - (Int.toNat d))) (zI (bW) rfl rfl (by omega)) (Kz (.pointer (some ⟨g,0,none⟩)) (Kz (.pointer (some ⟨g,0,none⟩)) ?_)))))))))))
 refine bz [.slice (fI b (Int.toNat d) 1 a) (c.xB.ls.length - (Int.toNat d)) (a - (Int.toNat d))] 0 p Tryz.sizeOf31 ?_
 intro V W
 refine ns (Mz rfl (An rfl (rt (rs ?_))))
 have n:c.xB.ls.length - (Int.toNat d)=List.length (List.drop (Int.toNat d) c.xB.ls):=by first | omega | (simp only [List.length_drop,List.length_take] <;> omega)
 have X:Own w D V [blk g [.slice (fI b (Int.toNat d) 1 a) (List.length (List.drop (Int.toNat d) c.xB.ls)) (a - (Int.toNat d)), .int .i64 c.xE] 75]:=by rw [← n]; exact W
 have Y:=X.pk [0]
 have e:bg c=(o,RT.mk (Ll.mk (List.drop (Int.toNat d) c.xB.ls)) c.xE):=et (ip l) (et (aa i) (et (iN m) (ip r)))
 obtain⟨rfl,rfl⟩:=dN (e.symm.trans hr)
 exact⟨fI b (Int.toNat d) 1 a,a - (Int.toNat d),(by first | rfl | (rw [← n]; done) | (rw [← n]; rfl)),Y,(aj.cut (aj.refl (by omega)) (by first | omega | (simp only [List.length_drop]; omega)))⟩
 refine jT (dT r) (sr (Mz rfl (Mz rfl ?_)))
 obtain⟨y,u⟩:∃ q,dL c f=q:=⟨_,rfl⟩
 obtain⟨aB,L,M,N,au⟩:=yT p
 refine cl Tryz.call46 (je _ _ g c b a f y L (M _ h) (show c.xB.ls.length≤a∧c.xB.ls.length≤9223372036854775807 from by omega) u) ?_
 rintro _ aC ⟨O,P,rfl,Q,k⟩
 have Z:=N _ _ Q
 replace k:aj 1 b a c.xB.ls O P y.xB.ls:=k
 have av:=(k).le
 refine ns (An rfl (rt (tR (rs ?_))))
 have ae:=Z.pk [0]
 have e:bg c=([],y):=et (ip l) (et (aa i) (et (iN m) (et (iN r) (aa u))))
 obtain⟨rfl,rfl⟩:=dN (e.symm.trans hr)
 exact⟨O,P,rfl,ae,k⟩
 refine jT (dT l) (sr (An rfl (rt (tR (rs ?_)))))
 have af:Own w D w [blk g [.slice b c.xB.ls.length a, .int .i64 c.xE] 75]:=H.pk [0]
 have e:bg c=([],c):=iN l
 obtain⟨rfl,rfl⟩:=dN (e.symm.trans hr)
 exact⟨b,a,rfl,af,(aj.refl (by omega))⟩
def fO (c:RT):Bool × RT:=
 bnd (aX c) fun a=>if a.1 > 1 then bnd (dL a.2 11) fun b=>(decide (a.1=1),b) else(decide (a.1=1),a.2)
theorem mI (w:World) (D:Nat→Prop) (p:Nat) (g:RT) (d:Option Addr) (a:Nat) (M:Bool) (G:RT) (H:Own w D w [blk p [.slice d g.xB.ls.length a, .int .i64 g.xE] 75]) (i:Ro w D fun w'=>bD w' 1 d g.xB.ls.length (List.flatMap eB g.xB.ls)) (I:g.xB.ls.length≤a∧g.xB.ls.length≤9223372036854775807) (hr:fO g=(M,G)):
    Calls Tryz.prog 91 #[.pointer (some ⟨p,0,none⟩)] w (cO fun v w'=> ∃ (B1ox0:Option Addr) (b1ox0:Nat),v= .bool M∧Own w D w' [blk p [.slice B1ox0 G.xB.ls.length b1ox0, .int .i64 G.xE] 75]∧(aj 1 d a g.xB.ls B1ox0 b1ox0 G.xB.ls)):=by
 refine yR (args:= [.pointer (some ⟨p,0,none⟩)]) Tryz.func91 rfl rfl rfl ?_
 show Wp _ _ _ [(0, .pointer (some ⟨p,0,none⟩))] _ _
 refine sr (Ar rfl (Mz rfl ?_))
 obtain⟨⟨c,f⟩,j⟩:∃ q:Int × RT,aX g=q:=⟨_,rfl⟩
 obtain⟨R,s,t,u,N⟩:=yT H
 refine cl Tryz.call90 (gG _ _ p g d a c f s (t _ i) (show g.xB.ls.length≤a∧g.xB.ls.length≤9223372036854775807 from by omega) j) ?_
 rintro _ S ⟨l,k,rfl,x,b,n⟩
 have y:=u _ _ x
 replace b:aj 1 d a g.xB.ls l k f.xB.ls:=b
 have O:=(b).le
 replace n:0≤c∧c≤255:=n
 refine An rfl (yJ (sr (Mz rfl (Kz (.bool (decide (c > 1))) (nt ?_)))))
 by_cases m:c > 1
 refine jT (dT m) (yK (Mz rfl ?_))
 obtain⟨r,o⟩:∃ q,dL f 11=q:=⟨_,rfl⟩
 obtain⟨T,z,A,B,P⟩:=yT y
 refine cl Tryz.call46 (je _ _ p f l k 11 r z (fun U V=>aj.rds ay (by decide) b ((A _ i) U V)) (show f.xB.ls.length≤k∧f.xB.ls.length≤9223372036854775807 from by omega) o) ?_
 rintro _ W ⟨C,E,rfl,F,h⟩
 have J:=B _ _ F
 replace h:aj 1 l k f.xB.ls C E r.xB.ls:=h
 have Q:=(h).le
 refine ns (Mz rfl (Kz (.bool (decide (c=1))) (An rfl (rt (rs ?_)))))
 have K:=J.pk [0]
 have e:fO g=(decide (c=1),r):=et (aa j) (et (ip m) (aa o))
 obtain⟨rfl,rfl⟩:=dN (e.symm.trans hr)
 exact⟨C,E,rfl,K,(aj.trans b h)⟩
 refine jF (dF m) (sk (sr (Mz rfl (Kz (.bool (decide (c=1))) (An rfl (rt (rs ?_)))))))
 have L:=y.pk [0]
 have e:fO g=(decide (c=1),f):=et (aa j) (iN m)
 obtain⟨rfl,rfl⟩:=dN (e.symm.trans hr)
 exact⟨l,k,rfl,L,b⟩
def gq:Nat→List aB→Int→List UInt8→Int→(List aB) × (List UInt8) × Int
  | 0,g,j,h,b=>default
  | k+1,g,j,h,b=>if j > 0 then if b=0 then bnd (aX (RT.mk (Ll.mk h) b)) fun i=>bnd (bg i.2) fun c=>bnd (bg c.2) fun d=>bnd (bg d.2) fun e=>bnd (bg e.2) fun f=>bnd (aX f.2) fun a=>gq k (g++ [(aB.mk i.1 c.1 d.1 e.1 f.1 a.1)]) (j - 1) a.2.xB.ls a.2.xE else(g,h,b) else(g,h,b)
def jg (b:RT):(List aB) × RT:=
 bnd (eP b) fun a=>bnd (bnd (gq ((Int.toNat a.1)+1) ([]) a.1 a.2.xB.ls a.2.xE) fun sLrbJjL=>(sLrbJjL.1,sLrbJjL.2.1,sLrbJjL.2.2)) fun sJrbJ=>(sJrbJ.1,RT.mk (Ll.mk sJrbJ.2.1) sJrbJ.2.2)
set_option maxHeartbeats 1000000 in
theorem pE (w:World) (D:Nat→Prop) (M:Nat) (X:RT) (T:Option Addr) (N:Nat) (r0:List aB) (r1:RT) (H:Own w D w [blk M [.slice T X.xB.ls.length N, .int .i64 X.xE] 75]) (l:Ro w D fun w'=>bD w' 1 T X.xB.ls.length (List.flatMap eB X.xB.ls)) (eU:X.xB.ls.length≤N∧X.xB.ls.length≤9223372036854775807) (hr:jg X=(r0,r1)):
    Calls Tryz.prog 93 #[.pointer (some ⟨M,0,none⟩)] w (cO fun v w'=> ∃ (B0:Option Addr) (b0:Nat) (B1ox0:Option Addr) (b1ox0:Nat),v= .slice B0 r0.length b0∧Own w D w' [row B0 r0.length b0 (List.flatMap aB.cells r0) 64 6,blk M [.slice B1ox0 r1.xB.ls.length b1ox0, .int .i64 r1.xE] 75]∧(aj 1 T N X.xB.ls B1ox0 b1ox0 r1.xB.ls)∧(r0.length≤1000)):=by
 refine yR (args:= [.pointer (some ⟨M,0,none⟩)]) Tryz.func93 rfl rfl rfl ?_
 show Wp _ _ _ [(0, .pointer (some ⟨M,0,none⟩))] _ _
 refine sr (Ar rfl (An rfl (yJ (sr (Mz rfl ?_)))))
 obtain⟨⟨d,a⟩,aW⟩:∃ q:Int × RT,eP X=q:=⟨_,rfl⟩
 obtain⟨iq,cK,cZ,df,gu⟩:=yT H
 refine cl Tryz.call116 (lm _ _ M X T N d a cK (cZ _ l) (show X.xB.ls.length≤N∧X.xB.ls.length≤9223372036854775807 from by omega) aW) ?_
 rintro _ eX ⟨O,P,rfl,dh,h,aY⟩
 have eY:=df _ _ dh
 replace h:aj 1 T N X.xB.ls O P a.xB.ls:=h
 have gy:=(h).le
 replace aY:0≤d∧d≤255:=aY
 refine An rfl ?_
 obtain⟨di,dm⟩:∃ q:((Option Addr) × Nat × (List aB) × (Option Addr) × Nat × (List UInt8) × Int)→World→Prop,q=fun(i:(Option Addr) × Nat × (List aB) × (Option Addr) × Nat × (List UInt8) × Int) w'=>Own w D w' [blk M [.slice i.2.2.2.1 i.2.2.2.2.2.1.length i.2.2.2.2.1, .int .i64 i.2.2.2.2.2.2] 75,row i.1 i.2.2.1.length i.2.1 (List.flatMap aB.cells i.2.2.1) 64 6]∧(aj 1 O P a.xB.ls i.2.2.2.1 i.2.2.2.2.1 i.2.2.2.2.2.1∧0≤i.2.2.1.length∧i.2.2.2.2.2.1.length≤a.xB.ls.length∧i.2.2.2.2.2.1.length≤a.xB.ls.length+1∧i.2.2.1.length≤1000∧(bnd (gq ((Int.toNat d)+1) ([]) d a.xB.ls a.xE) fun sLrbJjL=>(sLrbJjL.1,sLrbJjL.2.1,sLrbJjL.2.2))=(i.2.2.1,i.2.2.2.2.2.1,i.2.2.2.2.2.2)):=⟨_,rfl⟩
 have av:∀ {ax:Option Addr} {az:Nat} {Q:List aB} {aA:Option Addr} {aC:Nat} {U:List UInt8} {aD:Int} {w':World},di (ax,az,Q,aA,aC,U,aD) w'↔Own w D w' [blk M [.slice aA U.length aC, .int .i64 aD] 75,row ax Q.length az (List.flatMap aB.cells Q) 64 6]∧aj 1 O P a.xB.ls aA aC U∧0≤Q.length∧U.length≤a.xB.ls.length∧U.length≤a.xB.ls.length+1∧Q.length≤1000∧(bnd (gq ((Int.toNat d)+1) ([]) d a.xB.ls a.xE) fun sLrbJjL=>(sLrbJjL.1,sLrbJjL.2.1,sLrbJjL.2.2))=(Q,U,aD):=by intros; subst dm; exact Iff.rfl
 refine zD (fun i:(Option Addr) × Nat × (List aB) × (Option Addr) × Nat × (List UInt8) × Int=> [(3, .slice i.1 i.2.2.1.length i.2.1),(2, .slice none 0 0)]) di ?_ ?_
 refine bo ?_
 have eZ:Own w D eX [row none 0 0 (List.flatMap aB.cells ([])) 64 6,blk M [.slice O a.xB.ls.length P, .int .i64 a.xE] 75]:=eY.free (bP 64 6)
 have fe:=eZ.pk [1,0]
 obtain⟨dn,dw⟩:∃ q:((Option Addr) × Nat × (List aB) × Int × (Option Addr) × Nat × (List UInt8) × Int × Nat)→World→Prop,q=fun(i:(Option Addr) × Nat × (List aB) × Int × (Option Addr) × Nat × (List UInt8) × Int × Nat) w'=>Own w D w' [blk M [.slice i.2.2.2.2.1 i.2.2.2.2.2.2.1.length i.2.2.2.2.2.1, .int .i64 i.2.2.2.2.2.2.2.1] 75,row i.1 i.2.2.1.length i.2.1 (List.flatMap aB.cells i.2.2.1) 64 6]∧(aj 1 O P a.xB.ls i.2.2.2.2.1 i.2.2.2.2.2.1 i.2.2.2.2.2.2.1∧((i.2.2.1.length:Nat):Int)+i.2.2.2.1≤255∧0≤i.2.2.2.1∧Int.toNat i.2.2.2.1 < i.2.2.2.2.2.2.2.2∧gq ((Int.toNat d)+1) ([]) d a.xB.ls a.xE=gq i.2.2.2.2.2.2.2.2 i.2.2.1 i.2.2.2.1 i.2.2.2.2.2.2.1 i.2.2.2.2.2.2.2.1):=⟨_,rfl⟩
 have aF:∀ {ah:Option Addr} {ai:Nat} {p:List aB} {B:Int} {V:Option Addr} {R:Nat} {C:List UInt8} {E:Int} {ak:Nat} {w':World},dn (ah,ai,p,B,V,R,C,E,ak) w'↔Own w D w' [blk M [.slice V C.length R, .int .i64 E] 75,row ah p.length ai (List.flatMap aB.cells p) 64 6]∧aj 1 O P a.xB.ls V R C∧((p.length:Nat):Int)+B≤255∧0≤B∧Int.toNat B < ak∧gq ((Int.toNat d)+1) ([]) d a.xB.ls a.xE=gq ak p B C E:=by intros; subst dw; exact Iff.rfl
 refine Wp.loop (fun i:(Option Addr) × Nat × (List aB) × Int × (Option Addr) × Nat × (List UInt8) × Int × Nat=> [(3, .slice i.1 i.2.2.1.length i.2.1),(4, .int .i64 i.2.2.2.1),(2, .slice none 0 0),(0, .pointer (some ⟨M,0,none⟩))]) dn (fun i=>i.2.2.2.2.2.2.2.2) (none,0, [],d,O,P,a.xB.ls,a.xE,(Int.toNat d)+1) ⟨rfl,rfl,rfl,rfl,trivial⟩ (aF.2 ⟨fe,(show aj 1 O P a.xB.ls O P a.xB.ls∧((0:Nat):Int)+d≤255∧0≤d∧Int.toNat d < ((Int.toNat d)+1)∧gq ((Int.toNat d)+1) ([]) d a.xB.ls a.xE=gq ((Int.toNat d)+1) ([]) d a.xB.ls a.xE from ⟨by exact(aj.refl (by omega)),by omega,by omega,by omega,rfl⟩)⟩) ?_
 rintro ⟨ah,ai,p,B,V,R,C,E,ak⟩ iw dx
 show Wp _ _ _ [(3, .slice ah p.length ai),(4, .int .i64 B),(2, .slice none 0 0),(0, .pointer (some ⟨M,0,none⟩))] _ _
 obtain⟨aT,j,gz,gB,gD,aG⟩:=aF.1 dx
 have gF:=(j).le
 obtain⟨bv,dz⟩:∃ q,ak=q+1:=⟨ak - 1,by omega⟩
 subst dz
 refine yJ (sr (Mz rfl (Kz (.bool (decide (B > 0))) (Mz rfl ?_))))
 by_cases n:B > 0
 refine gw (.pointer (some ⟨M,0,none⟩)) (dT n) (yO rfl) (Gz (.pointer (some ⟨M,0,none⟩)) (dT n) (Gz (.pointer (some ⟨M,1,none⟩)) (dT n) (Gl (.int .i64 E) (dT n) aT 0 Tryz.isAgg32 (Gz (.bool (decide (E=0))) (dT n) (fw (.bool (decide (E=0))) (yN rfl (dT n) rfl) (nt ?_))))))
 by_cases aU:E=0
 refine jT (dT aU) (sk (yJ (bo (sr (Kz (.agg #[.int .i64 0, .string ⟨List.toArray ([])⟩, .string ⟨List.toArray ([])⟩, .string ⟨List.toArray ([])⟩, .string ⟨List.toArray ([])⟩, .int .i64 0]) ?_)))))
 refine dE [.int .i64 0, .string ⟨List.toArray ([])⟩, .string ⟨List.toArray ([])⟩, .string ⟨List.toArray ([])⟩, .string ⟨List.toArray ([])⟩, .int .i64 0] 64 aT ?_
 intro au iy fo
 refine bz [.int .i64 0, .string ⟨List.toArray ([])⟩, .string ⟨List.toArray ([])⟩, .string ⟨List.toArray ([])⟩, .string ⟨List.toArray ([])⟩, .int .i64 0] 0 fo Tryz.sizeOf64 ?_
 intro iA fq
 refine ns (Mz rfl ?_)
 have fu:=fq.pk [1,0,2]
 obtain⟨⟨F,W⟩,aZ⟩:∃ q:Int × RT,aX (RT.mk (Ll.mk C) E)=q:=⟨_,rfl⟩
 obtain⟨iB,dA,dB,dC,gH⟩:=yT fu
 refine cl Tryz.call90 (gG _ _ M (RT.mk (Ll.mk C) E) V R F W dA (fun b c=>aj.rds ay (by decide) j ((fun b c=>aj.rds ay (by decide) h ((dB _ l) b c)) b c)) (show C.length≤R∧C.length≤9223372036854775807 from by omega) aZ) ?_
 rintro _ iC ⟨bA,aV,rfl,dD,r,bf⟩
 have fA:=dC _ _ dD
 replace r:aj 1 V R C bA aV W.xB.ls:=r
 have gI:=(r).le
 replace bf:0≤F∧F≤255:=bf
 refine Kz (.pointer (some ⟨au,0,none⟩)) ?_
 have fB:=fA.pk [1,0,2]
 refine bz [.int .i64 F] 0 fB Tryz.sizeOf3 ?_
 intro iD fC
 refine ns (Mz rfl ?_)
 have dG:=fC.pk [1,0,2]
 obtain⟨⟨t,G⟩,aH⟩:∃ q:(List UInt8) × RT,bg W=q:=⟨_,rfl⟩
 obtain⟨gJ,bB,bC,bE,fD⟩:=yT dG
 refine cl Tryz.call92 (gP _ _ M W bA aV t G bB (fun b c=>aj.rds ay (by decide) r ((fun b c=>aj.rds ay (by decide) j ((fun b c=>aj.rds ay (by decide) h ((bC _ l) b c)) b c)) b c)) (show W.xB.ls.length≤aV∧W.xB.ls.length≤9223372036854775807 from by omega) aH) ?_
 rintro _ gK ⟨aI,Y,rfl,bF,f⟩
 have dH:=bE _ _ bF
 replace f:aj 1 bA aV W.xB.ls aI Y G.xB.ls:=f
 have fE:=(f).le
 refine Kz (.pointer (some ⟨au,1,none⟩)) ?_
 have dI:=dH.pk [1,0,2]
 refine bz [.string ⟨List.toArray t⟩] 1 dI Tryz.sizeOf9 ?_
 intro gL dJ
 refine ns (Mz rfl ?_)
 have dK:=dJ.pk [1,0,2]
 obtain⟨⟨u,I⟩,aJ⟩:∃ q:(List UInt8) × RT,bg G=q:=⟨_,rfl⟩
 obtain⟨gM,bG,bH,bI,fF⟩:=yT dK
 refine cl Tryz.call92 (gP _ _ M G aI Y u I bG (fun b c=>aj.rds ay (by decide) f ((fun b c=>aj.rds ay (by decide) r ((fun b c=>aj.rds ay (by decide) j ((fun b c=>aj.rds ay (by decide) h ((bH _ l) b c)) b c)) b c)) b c)) (show G.xB.ls.length≤Y∧G.xB.ls.length≤9223372036854775807 from by omega) aJ) ?_
 rintro _ gN ⟨aK,Z,rfl,bJ,o⟩
 have dL:=bI _ _ bJ
 replace o:aj 1 aI Y G.xB.ls aK Z I.xB.ls:=o
 have fG:=(o).le
 refine Kz (.pointer (some ⟨au,2,none⟩)) ?_
 have dM:=dL.pk [1,0,2]
 refine bz [.string ⟨List.toArray u⟩] 2 dM Tryz.sizeOf9 ?_
 intro gQ dO
 refine ns (Mz rfl ?_)
 have dP:=dO.pk [1,0,2]
 obtain⟨⟨x,J⟩,aL⟩:∃ q:(List UInt8) × RT,bg I=q:=⟨_,rfl⟩
 obtain⟨gT,bL,bM,bO,fH⟩:=yT dP
 refine cl Tryz.call92 (gP _ _ M I aK Z x J bL (fun b c=>aj.rds ay (by decide) o ((fun b c=>aj.rds ay (by decide) f ((fun b c=>aj.rds ay (by decide) r ((fun b c=>aj.rds ay (by decide) j ((fun b c=>aj.rds ay (by decide) h ((bM _ l) b c)) b c)) b c)) b c)) b c)) (show I.xB.ls.length≤Z∧I.xB.ls.length≤9223372036854775807 from by omega) aL) ?_
 rintro _ gU ⟨aM,ae,rfl,bQ,A⟩
 have dQ:=bO _ _ bQ
 replace A:aj 1 aK Z I.xB.ls aM ae J.xB.ls:=A
 have fI:=(A).le
 refine Kz (.pointer (some ⟨au,3,none⟩)) ?_
 have dR:=dQ.pk [1,0,2]
 refine bz [.string ⟨List.toArray x⟩] 3 dR Tryz.sizeOf9 ?_
 intro gV dS
 refine ns (Mz rfl ?_)
 have dU:=dS.pk [1,0,2]
 obtain⟨⟨z,K⟩,aN⟩:∃ q:(List UInt8) × RT,bg J=q:=⟨_,rfl⟩
 obtain⟨gW,bR,bS,bT,fJ⟩:=yT dU
 refine cl Tryz.call92 (gP _ _ M J aM ae z K bR (fun b c=>aj.rds ay (by decide) A ((fun b c=>aj.rds ay (by decide) o ((fun b c=>aj.rds ay (by decide) f ((fun b c=>aj.rds ay (by decide) r ((fun b c=>aj.rds ay (by decide) j ((fun b c=>aj.rds ay (by decide) h ((bS _ l) b c)) b c)) b c)) b c)) b c)) b c)) (show J.xB.ls.length≤ae∧J.xB.ls.length≤9223372036854775807 from by omega) aN) ?_
 rintro _ gX ⟨aO,af,rfl,bU,L⟩
 have dV:=bT _ _ bU
 replace L:aj 1 aM ae J.xB.ls aO af K.xB.ls:=L
 have fK:=(L).le
 refine Kz (.pointer (some ⟨au,4,none⟩)) ?_
 have dW:=dV.pk [1,0,2]
 refine bz [.string ⟨List.toArray z⟩] 4 dW Tryz.sizeOf9 ?_
 intro gY dX
 refine ns (Mz rfl ?_)
 have dY:=dX.pk [1,0,2]
 obtain⟨⟨g,ag⟩,aP⟩:∃ q:Int × RT,aX K=q:=⟨_,rfl⟩
 obtain⟨gZ,bV,bW,bX,fM⟩:=yT dY
 refine cl Tryz.call90 (gG _ _ M K aO af g ag bV (fun b c=>aj.rds ay (by decide) L ((fun b c=>aj.rds ay (by decide) A ((fun b c=>aj.rds ay (by decide) o ((fun b c=>aj.rds ay (by decide) f ((fun b c=>aj.rds ay (by decide) r ((fun b c=>aj.rds ay (by decide) j ((fun b c=>aj.rds ay (by decide) h ((bW _ l) b c)) b c)) b c)) b c)) b c)) b c)) b c)) (show K.xB.ls.length≤af∧K.xB.ls.length≤9223372036854775807 from by omega) aP) ?_
 rintro _ ib ⟨bi,bn,rfl,bY,S,aQ⟩
 have dZ:=bX _ _ bY
 replace S:aj 1 aO af K.xB.ls bi bn ag.xB.ls:=S
 have fO:=(S).le
 replace aQ:0≤g∧g≤255:=aQ
 refine Kz (.pointer (some ⟨au,5,none⟩)) ?_
 have d9:=dZ.pk [1,0,2]
 refine bz [.int .i64 g] 5 d9 Tryz.sizeOf3 ?_
 intro ic bq
 refine nt (yK (Mz rfl (La ([.int .i64 F, .string ⟨List.toArray t⟩, .string ⟨List.toArray u⟩, .string ⟨List.toArray x⟩, .string ⟨List.toArray z⟩, .int .i64 g]) bq 0 Tryz.isAgg64 Tryz.sizeOf64 ?_)))
 refine iX [.int .i64 F, .string ⟨List.toArray t⟩, .string ⟨List.toArray u⟩, .string ⟨List.toArray x⟩, .string ⟨List.toArray z⟩, .int .i64 g] 64 6 1 bq ?_
 intro ed ig aR
 replace aR:=zi (y:=row ed 1 1 (List.flatMap aB.cells ([(aB.mk F t u x z g)])) 64 6) rfl aR
 have bu:=aR.pk [3,0,1,2]
 refine WL.do rfl (ze (k:=p.length) (m:=1) (l8) bu rfl rfl (cz Tryz.underlying25 (bu.rds (i:=1) rfl) (bK aB.one ([(aB.mk F t u x z g)]))) rfl (by omega) (s:=List.length (p++ [(aB.mk F t u x z g)])) (by first | omega | (simp only [List.length_append,List.length_cons,List.length_nil] <;> omega)) (List.flatMap_append).symm ?_)
 intro ek eu ik eD
 have fP:List.length (p++ [(aB.mk F t u x z g)])=p.length+1:=by simp only [List.length_append,List.length_cons,List.length_nil]
 refine Az rfl (WL.nil (bN (yL (yK (Mz rfl (fw (.int .i64 (B - 1)) (yS (e:=IntKind.i64.wrap (B - 1)) yk (by rw [BI _ (by omega)])) (Az rfl (WL.nil ?_))))))))
 have eF:=eD.pk [3,0]
 exact yY (ek,eu,(p++ [(aB.mk F t u x z g)]),B - 1,bi,bn,ag.xB.ls,ag.xE,bv) ⟨rfl,rfl,rfl,rfl,trivial⟩ (aF.2 ⟨eF,by exact(aj.trans (aj.trans (aj.trans (aj.trans (aj.trans (aj.trans j r) f) o) A) L) S),by omega,by omega,by omega,et (aG) (et (ip n) (et (ip aU) (et (aa aZ) (et (aa aH) (et (aa aJ) (et (aa aL) (et (aa aN) (aa aP))))))))⟩) (by show bv < bv+1; omega)
 refine jF (dF aU) (Wp.exit (yV (yV (y8 ?_))))
 have eG:=aT.pk [0,1]
 exact zu (ah,ai,p,V,R,C,E) ⟨rfl,rfl,trivial⟩ (av.2 ⟨eG,by exact j,by omega,by omega,by omega,by omega,aa (et (aG) (et (ip n) (iN aU)))⟩)
 refine Sz (dF n) (Sz (dF n) (Sz (dF n) (Sz (dF n) (Sz (dF n) (fw (.bool false) (yM rfl (dF n) rfl) (nt (jf (Wp.exit (yV (yV (y8 ?_)))))))))))
 have eH:=aT.pk [0,1]
 exact zu (ah,ai,p,V,R,C,E) ⟨rfl,rfl,trivial⟩ (av.2 ⟨eH,by exact j,by omega,by omega,by omega,by omega,aa (et (aG) (iN n))⟩)
 rintro ⟨ax,az,Q,aA,aC,U,aD⟩ il bZ
 show Wp _ _ _ [(3, .slice ax Q.length az),(2, .slice none 0 0)] _ _
 obtain⟨eO,aS,fQ,fT,fU,fV,cu⟩:=av.1 bZ
 have fZ:=(aS).le
 refine sr (Mz rfl (An rfl (rt (rs ?_))))
 have eQ:=eO.pk [1,0]
 have e:jg X=(Q,RT.mk (Ll.mk U) aD):=et (aa aW) (aa cu)
 obtain⟨rfl,rfl⟩:=dN (e.symm.trans hr)
 exact⟨ax,az,aA,aC,rfl,eQ,(aj.trans h aS),(by first | omega | exact BJ _)⟩
def eQ:Nat→List aA→Int→List UInt8→Int→(List aA) × (List UInt8) × Int
  | 0,c,f,d,b=>default
  | g+1,c,f,d,b=>if f > 0 then if b=0 then bnd (bg (RT.mk (Ll.mk d) b)) fun e=>bnd (aX e.2) fun a=>eQ g (c++ [(aA.mk e.1 a.1)]) (f - 1) a.2.xB.ls a.2.xE else(c,d,b) else(c,d,b)
def ik (b:RT):(List aA) × RT:=
 bnd (eP b) fun a=>bnd (bnd (eQ ((Int.toNat a.1)+1) ([]) a.1 a.2.xB.ls a.2.xE) fun sLrbJjL=>(sLrbJjL.1,sLrbJjL.2.1,sLrbJjL.2.2)) fun sJrbJ=>(sJrbJ.1,RT.mk (Ll.mk sJrbJ.2.1) sJrbJ.2.2)
set_option maxHeartbeats 1000000 in
theorem nM (w:World) (D:Nat→Prop) (A:Nat) (J:RT) (B:Option Addr) (l:Nat) (r0:List aA) (r1:RT) (H:Own w D w [blk A [.slice B J.xB.ls.length l, .int .i64 J.xE] 75]) (G:Ro w D fun w'=>bD w' 1 B J.xB.ls.length (List.flatMap eB J.xB.ls)) (bL:J.xB.ls.length≤l∧J.xB.ls.length≤9223372036854775807) (hr:ik J=(r0,r1)):
    Calls Tryz.prog 95 #[.pointer (some ⟨A,0,none⟩)] w (cO fun v w'=> ∃ (B0:Option Addr) (b0:Nat) (B1ox0:Option Addr) (b1ox0:Nat),v= .slice B0 r0.length b0∧Own w D w' [row B0 r0.length b0 (List.flatMap aA.cells r0) 88 2,blk A [.slice B1ox0 r1.xB.ls.length b1ox0, .int .i64 r1.xE] 75]∧(aj 1 B l J.xB.ls B1ox0 b1ox0 r1.xB.ls)∧(r0.length≤1000)):=by
 refine yR (args:= [.pointer (some ⟨A,0,none⟩)]) Tryz.func95 rfl rfl rfl ?_
 show Wp _ _ _ [(0, .pointer (some ⟨A,0,none⟩))] _ _
 refine sr (Ar rfl (An rfl (yJ (sr (Mz rfl ?_)))))
 obtain⟨⟨b,a⟩,ak⟩:∃ q:Int × RT,eP J=q:=⟨_,rfl⟩
 obtain⟨dO,aN,aO,aP,dw⟩:=yT H
 refine cl Tryz.call116 (lm _ _ A J B l b a aN (aO _ G) (show J.xB.ls.length≤l∧J.xB.ls.length≤9223372036854775807 from by omega) ak) ?_
 rintro _ bM ⟨p,r,rfl,aQ,n,au⟩
 have bO:=aP _ _ aQ
 replace n:aj 1 B l J.xB.ls p r a.xB.ls:=n
 have dx:=(n).le
 replace au:0≤b∧b≤255:=au
 refine An rfl ?_
 obtain⟨aR,aS⟩:∃ q:((Option Addr) × Nat × (List aA) × (Option Addr) × Nat × (List UInt8) × Int)→World→Prop,q=fun(i:(Option Addr) × Nat × (List aA) × (Option Addr) × Nat × (List UInt8) × Int) w'=>Own w D w' [blk A [.slice i.2.2.2.1 i.2.2.2.2.2.1.length i.2.2.2.2.1, .int .i64 i.2.2.2.2.2.2] 75,row i.1 i.2.2.1.length i.2.1 (List.flatMap aA.cells i.2.2.1) 88 2]∧(aj 1 p r a.xB.ls i.2.2.2.1 i.2.2.2.2.1 i.2.2.2.2.2.1∧0≤i.2.2.1.length∧i.2.2.2.2.2.1.length≤a.xB.ls.length∧i.2.2.2.2.2.1.length≤a.xB.ls.length+1∧i.2.2.1.length≤1000∧(bnd (eQ ((Int.toNat b)+1) ([]) b a.xB.ls a.xE) fun sLrbJjL=>(sLrbJjL.1,sLrbJjL.2.1,sLrbJjL.2.2))=(i.2.2.1,i.2.2.2.2.2.1,i.2.2.2.2.2.2)):=⟨_,rfl⟩
 have O:∀ {P:Option Addr} {Q:Nat} {t:List aA} {R:Option Addr} {S:Nat} {C:List UInt8} {T:Int} {w':World},aR (P,Q,t,R,S,C,T) w'↔Own w D w' [blk A [.slice R C.length S, .int .i64 T] 75,row P t.length Q (List.flatMap aA.cells t) 88 2]∧aj 1 p r a.xB.ls R S C∧0≤t.length∧C.length≤a.xB.ls.length∧C.length≤a.xB.ls.length+1∧t.length≤1000∧(bnd (eQ ((Int.toNat b)+1) ([]) b a.xB.ls a.xE) fun sLrbJjL=>(sLrbJjL.1,sLrbJjL.2.1,sLrbJjL.2.2))=(t,C,T):=by intros; subst aS; exact Iff.rfl
 refine zD (fun i:(Option Addr) × Nat × (List aA) × (Option Addr) × Nat × (List UInt8) × Int=> [(3, .slice i.1 i.2.2.1.length i.2.1),(2, .slice none 0 0)]) aR ?_ ?_
 refine bo ?_
 have bQ:Own w D bM [row none 0 0 (List.flatMap aA.cells ([])) 88 2,blk A [.slice p a.xB.ls.length r, .int .i64 a.xE] 75]:=bO.free (bP 88 2)
 have bR:=bQ.pk [1,0]
 obtain⟨aT,aU⟩:∃ q:((Option Addr) × Nat × (List aA) × Int × (Option Addr) × Nat × (List UInt8) × Int × Nat)→World→Prop,q=fun(i:(Option Addr) × Nat × (List aA) × Int × (Option Addr) × Nat × (List UInt8) × Int × Nat) w'=>Own w D w' [blk A [.slice i.2.2.2.2.1 i.2.2.2.2.2.2.1.length i.2.2.2.2.2.1, .int .i64 i.2.2.2.2.2.2.2.1] 75,row i.1 i.2.2.1.length i.2.1 (List.flatMap aA.cells i.2.2.1) 88 2]∧(aj 1 p r a.xB.ls i.2.2.2.2.1 i.2.2.2.2.2.1 i.2.2.2.2.2.2.1∧((i.2.2.1.length:Nat):Int)+i.2.2.2.1≤255∧0≤i.2.2.2.1∧Int.toNat i.2.2.2.1 < i.2.2.2.2.2.2.2.2∧eQ ((Int.toNat b)+1) ([]) b a.xB.ls a.xE=eQ i.2.2.2.2.2.2.2.2 i.2.2.1 i.2.2.2.1 i.2.2.2.2.2.2.1 i.2.2.2.2.2.2.2.1):=⟨_,rfl⟩
 have U:∀ {L:Option Addr} {M:Nat} {f:List aA} {g:Int} {E:Option Addr} {u:Nat} {h:List UInt8} {j:Int} {N:Nat} {w':World},aT (L,M,f,g,E,u,h,j,N) w'↔Own w D w' [blk A [.slice E h.length u, .int .i64 j] 75,row L f.length M (List.flatMap aA.cells f) 88 2]∧aj 1 p r a.xB.ls E u h∧((f.length:Nat):Int)+g≤255∧0≤g∧Int.toNat g < N∧eQ ((Int.toNat b)+1) ([]) b a.xB.ls a.xE=eQ N f g h j:=by intros; subst aU; exact Iff.rfl
 refine Wp.loop (fun i:(Option Addr) × Nat × (List aA) × Int × (Option Addr) × Nat × (List UInt8) × Int × Nat=> [(3, .slice i.1 i.2.2.1.length i.2.1),(4, .int .i64 i.2.2.2.1),(2, .slice none 0 0),(0, .pointer (some ⟨A,0,none⟩))]) aT (fun i=>i.2.2.2.2.2.2.2.2) (none,0, [],b,p,r,a.xB.ls,a.xE,(Int.toNat b)+1) ⟨rfl,rfl,rfl,rfl,trivial⟩ (U.2 ⟨bR,(show aj 1 p r a.xB.ls p r a.xB.ls∧((0:Nat):Int)+b≤255∧0≤b∧Int.toNat b < ((Int.toNat b)+1)∧eQ ((Int.toNat b)+1) ([]) b a.xB.ls a.xE=eQ ((Int.toNat b)+1) ([]) b a.xB.ls a.xE from ⟨by exact(aj.refl (by omega)),by omega,by omega,by omega,rfl⟩)⟩) ?_
 rintro ⟨L,M,f,g,E,u,h,j,N⟩ dP aV
 show Wp _ _ _ [(3, .slice L f.length M),(4, .int .i64 g),(2, .slice none 0 0),(0, .pointer (some ⟨A,0,none⟩))] _ _
 obtain⟨ae,o,dz,dA,dB,V⟩:=U.1 aV
 have dC:=(o).le
 obtain⟨aD,aW⟩:∃ q,N=q+1:=⟨N - 1,by omega⟩
 subst aW
 refine yJ (sr (Mz rfl (Kz (.bool (decide (g > 0))) (Mz rfl ?_))))
 by_cases d:g > 0
 refine gw (.pointer (some ⟨A,0,none⟩)) (dT d) (yO rfl) (Gz (.pointer (some ⟨A,0,none⟩)) (dT d) (Gz (.pointer (some ⟨A,1,none⟩)) (dT d) (Gl (.int .i64 j) (dT d) ae 0 Tryz.isAgg32 (Gz (.bool (decide (j=0))) (dT d) (fw (.bool (decide (j=0))) (yN rfl (dT d) rfl) (nt ?_))))))
 by_cases af:j=0
 refine jT (dT af) (sk (yJ (bo (sr (Kz (.agg #[.string ⟨List.toArray ([])⟩, .int .i64 0]) ?_)))))
 refine dE [.string ⟨List.toArray ([])⟩, .int .i64 0] 88 ae ?_
 intro aY dQ bS
 refine bz [.string ⟨List.toArray ([])⟩, .int .i64 0] 0 bS Tryz.sizeOf88 ?_
 intro dR bT
 refine ns (Mz rfl ?_)
 have bU:=bT.pk [1,0,2]
 obtain⟨⟨x,I⟩,av⟩:∃ q:(List UInt8) × RT,bg (RT.mk (Ll.mk h) j)=q:=⟨_,rfl⟩
 obtain⟨dS,aZ,bf,bi,dD⟩:=yT bU
 refine cl Tryz.call92 (gP _ _ A (RT.mk (Ll.mk h) j) E u x I aZ (fun w9 h9=>aj.rds ay (by decide) o ((fun w9 h9=>aj.rds ay (by decide) n ((bf _ G) w9 h9)) w9 h9)) (show h.length≤u∧h.length≤9223372036854775807 from by omega) av) ?_
 rintro _ dU ⟨aF,ai,rfl,bn,F⟩
 have bV:=bi _ _ bn
 replace F:aj 1 E u h aF ai I.xB.ls:=F
 have dG:=(F).le
 refine Kz (.pointer (some ⟨aY,0,none⟩)) ?_
 have bW:=bV.pk [1,0,2]
 refine bz [.string ⟨List.toArray x⟩] 0 bW Tryz.sizeOf9 ?_
 intro dV bX
 refine ns (Mz rfl ?_)
 have bY:=bX.pk [1,0,2]
 obtain⟨⟨c,K⟩,W⟩:∃ q:Int × RT,aX I=q:=⟨_,rfl⟩
 obtain⟨dH,aG,aH,aI,bZ⟩:=yT bY
 refine cl Tryz.call90 (gG _ _ A I aF ai c K aG (fun w9 h9=>aj.rds ay (by decide) F ((fun w9 h9=>aj.rds ay (by decide) o ((fun w9 h9=>aj.rds ay (by decide) n ((aH _ G) w9 h9)) w9 h9)) w9 h9)) (show I.xB.ls.length≤ai∧I.xB.ls.length≤9223372036854775807 from by omega) W) ?_
 rintro _ dI ⟨ax,az,rfl,aJ,z,X⟩
 have bq:=aI _ _ aJ
 replace z:aj 1 aF ai I.xB.ls ax az K.xB.ls:=z
 have cu:=(z).le
 replace X:0≤c∧c≤255:=X
 refine Kz (.pointer (some ⟨aY,1,none⟩)) ?_
 have bu:=bq.pk [1,0,2]
 refine bz [.int .i64 c] 1 bu Tryz.sizeOf3 ?_
 intro dJ aB
 refine nt (yK (Mz rfl (La ([.string ⟨List.toArray x⟩, .int .i64 c]) aB 0 Tryz.isAgg88 Tryz.sizeOf88 ?_)))
 refine iX [.string ⟨List.toArray x⟩, .int .i64 c] 88 2 1 aB ?_
 intro bv dK Y
 replace Y:=zi (y:=row bv 1 1 (List.flatMap aA.cells ([(aA.mk x c)])) 88 2) rfl Y
 have aC:=Y.pk [3,0,1,2]
 refine WL.do rfl (ze (k:=f.length) (m:=1) (lT) aC rfl rfl (cz Tryz.underlying27 (aC.rds (i:=1) rfl) (bK aA.one ([(aA.mk x c)]))) rfl (by omega) (s:=List.length (f++ [(aA.mk x c)])) (by first | omega | (simp only [List.length_append,List.length_cons,List.length_nil] <;> omega)) (List.flatMap_append).symm ?_)
 intro bA bB dL bC
 have cB:List.length (f++ [(aA.mk x c)])=f.length+1:=by simp only [List.length_append,List.length_cons,List.length_nil]
 refine Az rfl (WL.nil (bN (yL (yK (Mz rfl (fw (.int .i64 (g - 1)) (yS (e:=IntKind.i64.wrap (g - 1)) yk (by rw [BI _ (by omega)])) (Az rfl (WL.nil ?_))))))))
 have bE:=bC.pk [3,0]
 exact yY (bA,bB,(f++ [(aA.mk x c)]),g - 1,ax,az,K.xB.ls,K.xE,aD) ⟨rfl,rfl,rfl,rfl,trivial⟩ (U.2 ⟨bE,by exact(aj.trans (aj.trans o F) z),by omega,by omega,by omega,et (V) (et (ip d) (et (ip af) (et (aa av) (aa W))))⟩) (by show aD < aD+1; omega)
 refine jF (dF af) (Wp.exit (yV (yV (y8 ?_))))
 have bF:=ae.pk [0,1]
 exact zu (L,M,f,E,u,h,j) ⟨rfl,rfl,trivial⟩ (O.2 ⟨bF,by exact o,by omega,by omega,by omega,by omega,aa (et (V) (et (ip d) (iN af)))⟩)
 refine Sz (dF d) (Sz (dF d) (Sz (dF d) (Sz (dF d) (Sz (dF d) (fw (.bool false) (yM rfl (dF d) rfl) (nt (jf (Wp.exit (yV (yV (y8 ?_)))))))))))
 have bG:=ae.pk [0,1]
 exact zu (L,M,f,E,u,h,j) ⟨rfl,rfl,trivial⟩ (O.2 ⟨bG,by exact o,by omega,by omega,by omega,by omega,aa (et (V) (iN d))⟩)
 rintro ⟨P,Q,t,R,S,C,T⟩ dM aK
 show Wp _ _ _ [(3, .slice P t.length Q),(2, .slice none 0 0)] _ _
 obtain⟨bH,Z,cK,cZ,df,dh,aL⟩:=O.1 aK
 have di:=(Z).le
 refine sr (Mz rfl (An rfl (rt (rs ?_))))
 have bI:=bH.pk [1,0]
 have e:ik J=(t,RT.mk (Ll.mk C) T):=et (aa ak) (aa aL)
 obtain⟨rfl,rfl⟩:=dN (e.symm.trans hr)
 exact⟨P,Q,R,S,rfl,bI,(aj.trans n Z),(by first | omega | exact BJ _)⟩
def fH:Nat→Int→List UInt8→Int→List aR→(List UInt8) × Int × (List aR)
  | 0,e,c,a,d=>default
  | g+1,e,c,a,d=>if e > 0 then if a=0 then bnd (bg (RT.mk (Ll.mk c) a)) fun f=>bnd (bg f.2) fun b=>fH g (e - 1) b.2.xB.ls b.2.xE (d++ [(aR.mk f.1 b.1)]) else(c,a,d) else(c,a,d)
def gu:Nat→List aP→Int→List UInt8→Int→(List aP) × (List UInt8) × Int
  | 0,d,g,e,b=>default
  | h+1,d,g,e,b=>if g > 0 then if b=0 then bnd (fO (RT.mk (Ll.mk e) b)) fun f=>bnd (bg f.2) fun c=>bnd (eP c.2) fun a=>bnd (bnd (fH ((Int.toNat a.1)+1) a.1 a.2.xB.ls a.2.xE ([])) fun sLrbJjLsttbbbJjL=>(sLrbJjLsttbbbJjL.1,sLrbJjLsttbbbJjL.2.1,sLrbJjLsttbbbJjL.2.2)) fun sJrbJjLsttbbbJ=>gu h (d++ [(aP.mk f.1 c.1 (Ll.mk sJrbJjLsttbbbJ.2.2))]) (g - 1) sJrbJjLsttbbbJ.1 sJrbJjLsttbbbJ.2.1 else(d,e,b) else(d,e,b)
def jh (b:RT):(List aP) × RT:=
 bnd (eP b) fun a=>bnd (bnd (gu ((Int.toNat a.1)+1) ([]) a.1 a.2.xB.ls a.2.xE) fun sLrbJjL=>(sLrbJjL.1,sLrbJjL.2.1,sLrbJjL.2.2)) fun sJrbJ=>(sJrbJ.1,RT.mk (Ll.mk sJrbJ.2.1) sJrbJ.2.2)
set_option maxHeartbeats 1000000 in
theorem pF (w:World) (D:Nat→Prop) (j:Nat) (p0:RT) (aH:Option Addr) (ax:Nat) (r0:List aP) (r1:RT) (H:Own w D w [blk j [.slice aH p0.xB.ls.length ax, .int .i64 p0.xE] 75]) (V:Ro w D fun w'=>bD w' 1 aH p0.xB.ls.length (List.flatMap eB p0.xB.ls)) (ik:p0.xB.ls.length≤ax∧p0.xB.ls.length≤9223372036854775807) (hr:jh p0=(r0,r1)):
    Calls Tryz.prog 94 #[.pointer (some ⟨j,0,none⟩)] w (cO fun v w'=> ∃ (B0:Option Addr) (b0:Nat) (e0:List af) (B1ox0:Option Addr) (b1ox0:Nat),v= .slice B0 r0.length b0∧Own w D w' [row B0 r0.length b0 (List.flatMap af.cells e0) 84 3,sepL (List.flatMap yQ e0),blk j [.slice B1ox0 r1.xB.ls.length b1ox0, .int .i64 r1.xE] 75]∧(List.map zh e0=r0)∧(aj 1 aH ax p0.xB.ls B1ox0 b1ox0 r1.xB.ls)∧(r0.length≤1000)):=by
 refine yR (args:= [.pointer (some ⟨j,0,none⟩)]) Tryz.func94 rfl rfl rfl ?_
 show Wp _ _ _ [(0, .pointer (some ⟨j,0,none⟩))] _ _
 refine sr (Ar rfl (An rfl (yJ (sr (Mz rfl ?_)))))
 obtain⟨⟨C,h⟩,cB⟩:∃ q:Int × RT,eP p0=q:=⟨_,rfl⟩
 obtain⟨j3,eU,eX,eY,jr⟩:=yT H
 refine cl Tryz.call116 (lm _ _ j p0 aH ax C h eU (eX _ V) (show p0.xB.ls.length≤ax∧p0.xB.ls.length≤9223372036854775807 from by omega) cB) ?_
 rintro _ eZ ⟨au,av,rfl,fe,R,cK⟩
 have iq:=eY _ _ fe
 replace R:aj 1 aH ax p0.xB.ls au av h.xB.ls:=R
 have jv:=(R).le
 replace cK:0≤C∧C≤255:=cK
 refine An rfl ?_
 obtain⟨fo,fq⟩:∃ q:((Option Addr) × Nat × (List af) × (List aP) × (Option Addr) × Nat × (List UInt8) × Int)→World→Prop,q=fun(i:(Option Addr) × Nat × (List af) × (List aP) × (Option Addr) × Nat × (List UInt8) × Int) w'=>Own w D w' [blk j [.slice i.2.2.2.2.1 i.2.2.2.2.2.2.1.length i.2.2.2.2.2.1, .int .i64 i.2.2.2.2.2.2.2] 75,row i.1 i.2.2.2.1.length i.2.1 (List.flatMap af.cells i.2.2.1) 84 3,sepL (List.flatMap yQ i.2.2.1)]∧(List.map zh i.2.2.1=i.2.2.2.1∧aj 1 au av h.xB.ls i.2.2.2.2.1 i.2.2.2.2.2.1 i.2.2.2.2.2.2.1∧0≤i.2.2.2.1.length∧i.2.2.2.2.2.2.1.length≤h.xB.ls.length∧i.2.2.2.2.2.2.1.length≤h.xB.ls.length+1∧i.2.2.2.1.length≤1000∧(bnd (gu ((Int.toNat C)+1) ([]) C h.xB.ls h.xE) fun sLrbJjL=>(sLrbJjL.1,sLrbJjL.2.1,sLrbJjL.2.2))=(i.2.2.2.1,i.2.2.2.2.2.2.1,i.2.2.2.2.2.2.2)):=⟨_,rfl⟩
 have bi:∀ {bn:Option Addr} {bq:Nat} {aZ:List af} {aD:List aP} {bu:Option Addr} {bv:Nat} {aI:List UInt8} {bA:Int} {w':World},fo (bn,bq,aZ,aD,bu,bv,aI,bA) w'↔Own w D w' [blk j [.slice bu aI.length bv, .int .i64 bA] 75,row bn aD.length bq (List.flatMap af.cells aZ) 84 3,sepL (List.flatMap yQ aZ)]∧List.map zh aZ=aD∧aj 1 au av h.xB.ls bu bv aI∧0≤aD.length∧aI.length≤h.xB.ls.length∧aI.length≤h.xB.ls.length+1∧aD.length≤1000∧(bnd (gu ((Int.toNat C)+1) ([]) C h.xB.ls h.xE) fun sLrbJjL=>(sLrbJjL.1,sLrbJjL.2.1,sLrbJjL.2.2))=(aD,aI,bA):=by intros; subst fq; exact Iff.rfl
 refine zD (fun i:(Option Addr) × Nat × (List af) × (List aP) × (Option Addr) × Nat × (List UInt8) × Int=> [(3, .slice i.1 i.2.2.2.1.length i.2.1),(2, .slice none 0 0)]) fo ?_ ?_
 refine bo ?_
 have iw:Own w D eZ [sepL (List.flatMap yQ ([])),blk j [.slice au h.xB.ls.length av, .int .i64 h.xE] 75]:=iq.sepNil
 have iy:Own w D eZ [row none 0 0 (List.flatMap af.cells ([])) 84 3,sepL (List.flatMap yQ ([])),blk j [.slice au h.xB.ls.length av, .int .i64 h.xE] 75]:=iw.free (bP 84 3)
 have iA:=iy.pk [2,0,1]
 obtain⟨fu,fA⟩:∃ q:((Option Addr) × Nat × (List af) × (List aP) × Int × (Option Addr) × Nat × (List UInt8) × Int × Nat)→World→Prop,q=fun(i:(Option Addr) × Nat × (List af) × (List aP) × Int × (Option Addr) × Nat × (List UInt8) × Int × Nat) w'=>Own w D w' [blk j [.slice i.2.2.2.2.2.1 i.2.2.2.2.2.2.2.1.length i.2.2.2.2.2.2.1, .int .i64 i.2.2.2.2.2.2.2.2.1] 75,row i.1 i.2.2.2.1.length i.2.1 (List.flatMap af.cells i.2.2.1) 84 3,sepL (List.flatMap yQ i.2.2.1)]∧(List.map zh i.2.2.1=i.2.2.2.1∧aj 1 au av h.xB.ls i.2.2.2.2.2.1 i.2.2.2.2.2.2.1 i.2.2.2.2.2.2.2.1∧((i.2.2.2.1.length:Nat):Int)+i.2.2.2.2.1≤255∧0≤i.2.2.2.2.1∧Int.toNat i.2.2.2.2.1 < i.2.2.2.2.2.2.2.2.2∧gu ((Int.toNat C)+1) ([]) C h.xB.ls h.xE=gu i.2.2.2.2.2.2.2.2.2 i.2.2.2.1 i.2.2.2.2.1 i.2.2.2.2.2.2.2.1 i.2.2.2.2.2.2.2.2.1):=⟨_,rfl⟩
 have bB:∀ {N:Option Addr} {O:Nat} {E:List af} {u:List aP} {n:Int} {aJ:Option Addr} {aF:Nat} {Z:List UInt8} {x:Int} {bf:Nat} {w':World},fu (N,O,E,u,n,aJ,aF,Z,x,bf) w'↔Own w D w' [blk j [.slice aJ Z.length aF, .int .i64 x] 75,row N u.length O (List.flatMap af.cells E) 84 3,sepL (List.flatMap yQ E)]∧List.map zh E=u∧aj 1 au av h.xB.ls aJ aF Z∧((u.length:Nat):Int)+n≤255∧0≤n∧Int.toNat n < bf∧gu ((Int.toNat C)+1) ([]) C h.xB.ls h.xE=gu bf u n Z x:=by intros; subst fA; exact Iff.rfl
 refine Wp.loop (fun i:(Option Addr) × Nat × (List af) × (List aP) × Int × (Option Addr) × Nat × (List UInt8) × Int × Nat=> [(3, .slice i.1 i.2.2.2.1.length i.2.1),(4, .int .i64 i.2.2.2.2.1),(2, .slice none 0 0),(0, .pointer (some ⟨j,0,none⟩))]) fu (fun i=>i.2.2.2.2.2.2.2.2.2) (none,0, [], [],C,au,av,h.xB.ls,h.xE,(Int.toNat C)+1) ⟨rfl,rfl,rfl,rfl,trivial⟩ (bB.2 ⟨iA,(show List.map zh ([])=([])∧aj 1 au av h.xB.ls au av h.xB.ls∧((0:Nat):Int)+C≤255∧0≤C∧Int.toNat C < ((Int.toNat C)+1)∧gu ((Int.toNat C)+1) ([]) C h.xB.ls h.xE=gu ((Int.toNat C)+1) ([]) C h.xB.ls h.xE from ⟨by exact rfl,by exact(aj.refl (by omega)),by omega,by omega,by omega,rfl⟩)⟩) ?_
 rintro ⟨N,O,E,u,n,aJ,aF,Z,x,bf⟩ j4 fB
 show Wp _ _ _ [(3, .slice N u.length O),(4, .int .i64 n),(2, .slice none 0 0),(0, .pointer (some ⟨j,0,none⟩))] _ _
 obtain⟨bY,aK,S,jw,jy,jA,bC⟩:=bB.1 fB
 have jB:=dG aK
 have jC:=(S).le
 obtain⟨dI,fC⟩:∃ q,bf=q+1:=⟨bf - 1,by omega⟩
 subst fC
 refine yJ (sr (Mz rfl (Kz (.bool (decide (n > 0))) (Mz rfl ?_))))
 by_cases P:n > 0
 refine gw (.pointer (some ⟨j,0,none⟩)) (dT P) (yO rfl) (Gz (.pointer (some ⟨j,0,none⟩)) (dT P) (Gz (.pointer (some ⟨j,1,none⟩)) (dT P) (Gl (.int .i64 x) (dT P) bY 0 Tryz.isAgg32 (Gz (.bool (decide (x=0))) (dT P) (fw (.bool (decide (x=0))) (yN rfl (dT P) rfl) (nt ?_))))))
 by_cases bZ:x=0
 refine jT (dT bZ) (sk (yJ (bo (sr (Kz (.agg #[.bool false, .string ⟨List.toArray ([])⟩, .slice none 0 0]) ?_)))))
 refine dE [.bool false, .string ⟨List.toArray ([])⟩, .slice none 0 0] 84 bY ?_
 intro A j5 iB
 refine bz [.bool false, .string ⟨List.toArray ([])⟩, .slice none 0 0] 0 iB Tryz.sizeOf84 ?_
 intro j6 iC
 refine ns (Mz rfl ?_)
 have iD:=iC.pk [1,0,2,3]
 obtain⟨⟨l,aN⟩,cZ⟩:∃ q:Bool × RT,fO (RT.mk (Ll.mk Z) x)=q:=⟨_,rfl⟩
 obtain⟨kg,fD,fE,fF,jD⟩:=yT iD
 refine cl Tryz.call91 (mI _ _ j (RT.mk (Ll.mk Z) x) aJ aF l aN fD (fun F G=>aj.rds ay (by decide) S ((fun F G=>aj.rds ay (by decide) R ((fE _ V) F G)) F G)) (show Z.length≤aF∧Z.length≤9223372036854775807 from by omega) cZ) ?_
 rintro _ ko ⟨dJ,cu,rfl,fG,Y⟩
 have iE:=fF _ _ fG
 replace Y:aj 1 aJ aF Z dJ cu aN.xB.ls:=Y
 have iF:=(Y).le
 refine Kz (.pointer (some ⟨A,0,none⟩)) ?_
 have fI:=iE.pk [1,0,2,3]
 refine bz [.bool l] 0 fI Tryz.sizeOf4 ?_
 intro jE fJ
 refine ns (Mz rfl ?_)
 have fK:=fJ.pk [1,0,2,3]
 obtain⟨⟨b,ae⟩,bE⟩:∃ q:(List UInt8) × RT,bg aN=q:=⟨_,rfl⟩
 obtain⟨jG,dK,dL,dM,iG⟩:=yT fK
 refine cl Tryz.call92 (gP _ _ j aN dJ cu b ae dK (fun F G=>aj.rds ay (by decide) Y ((fun F G=>aj.rds ay (by decide) S ((fun F G=>aj.rds ay (by decide) R ((dL _ V) F G)) F G)) F G)) (show aN.xB.ls.length≤cu∧aN.xB.ls.length≤9223372036854775807 from by omega) bE) ?_
 rintro _ jH ⟨bF,aU,rfl,dO,Q⟩
 have fM:=dM _ _ dO
 replace Q:aj 1 dJ cu aN.xB.ls bF aU ae.xB.ls:=Q
 have iH:=(Q).le
 refine Kz (.pointer (some ⟨A,1,none⟩)) ?_
 have fP:=fM.pk [1,0,2,3]
 refine bz [.string ⟨List.toArray b⟩] 1 fP Tryz.sizeOf9 ?_
 intro jI fQ
 refine nt (yJ (sr (Mz rfl ?_)))
 have fT:=fQ.pk [1,0,2,3]
 obtain⟨⟨c,a⟩,bG⟩:∃ q:Int × RT,eP ae=q:=⟨_,rfl⟩
 obtain⟨jJ,dP,dQ,dR,iI⟩:=yT fT
 refine cl Tryz.call116 (lm _ _ j ae bF aU c a dP (fun F G=>aj.rds ay (by decide) Q ((fun F G=>aj.rds ay (by decide) Y ((fun F G=>aj.rds ay (by decide) S ((fun F G=>aj.rds ay (by decide) R ((dQ _ V) F G)) F G)) F G)) F G)) (show ae.xB.ls.length≤aU∧ae.xB.ls.length≤9223372036854775807 from by omega) bG) ?_
 rintro _ fU ⟨I,J,rfl,dS,W,bH⟩
 have fV:=dR _ _ dS
 replace W:aj 1 bF aU ae.xB.ls I J a.xB.ls:=W
 have iJ:=(W).le
 replace bH:0≤c∧c≤255:=bH
 refine An rfl ?_
 obtain⟨df,dU⟩:∃ q:(Int × Int × Bool × Bool × Bool × (Option Addr) × Nat × (List UInt8) × Int × (Option Addr) × Nat × (List aR))→World→Prop,q=fun(i:Int × Int × Bool × Bool × Bool × (Option Addr) × Nat × (List UInt8) × Int × (Option Addr) × Nat × (List aR)) w'=>Own w D w' [blk j [.slice i.2.2.2.2.2.1 i.2.2.2.2.2.2.2.1.length i.2.2.2.2.2.2.1, .int .i64 i.2.2.2.2.2.2.2.2.1] 75,blk A [.bool l, .string ⟨List.toArray b⟩, .slice i.2.2.2.2.2.2.2.2.2.1 i.2.2.2.2.2.2.2.2.2.2.2.length i.2.2.2.2.2.2.2.2.2.2.1] 84,row N u.length O (List.flatMap af.cells E) 84 3,sepL (List.flatMap yQ E),row i.2.2.2.2.2.2.2.2.2.1 i.2.2.2.2.2.2.2.2.2.2.2.length i.2.2.2.2.2.2.2.2.2.2.1 (List.flatMap aR.cells i.2.2.2.2.2.2.2.2.2.2.2) 86 2]∧(aj 1 I J a.xB.ls i.2.2.2.2.2.1 i.2.2.2.2.2.2.1 i.2.2.2.2.2.2.2.1∧(-9223372036854775808≤i.1∧i.1≤9223372036854775807)∧(-9223372036854775808≤i.2.1∧i.2.1≤9223372036854775807)∧i.2.2.2.2.2.2.2.1.length≤a.xB.ls.length∧i.2.2.2.2.2.2.2.1.length≤a.xB.ls.length+1∧0≤i.2.2.2.2.2.2.2.2.2.2.2.length∧(bnd (fH ((Int.toNat c)+1) c a.xB.ls a.xE ([])) fun sLrbJjLsttbbbJjL=>(sLrbJjLsttbbbJjL.1,sLrbJjLsttbbbJjL.2.1,sLrbJjLsttbbbJjL.2.2))=(i.2.2.2.2.2.2.2.1,i.2.2.2.2.2.2.2.2.1,i.2.2.2.2.2.2.2.2.2.2.2)):=⟨_,rfl⟩
 have aO:∀ {aL:Int} {aM:Int} {bI:Bool} {bJ:Bool} {bL:Bool} {az:Option Addr} {aA:Nat} {T:List UInt8} {aB:Int} {p:Option Addr} {r:Nat} {d:List aR} {w':World},df (aL,aM,bI,bJ,bL,az,aA,T,aB,p,r,d) w'↔Own w D w' [blk j [.slice az T.length aA, .int .i64 aB] 75,blk A [.bool l, .string ⟨List.toArray b⟩, .slice p d.length r] 84,row N u.length O (List.flatMap af.cells E) 84 3,sepL (List.flatMap yQ E),row p d.length r (List.flatMap aR.cells d) 86 2]∧aj 1 I J a.xB.ls az aA T∧(-9223372036854775808≤aL∧aL≤9223372036854775807)∧(-9223372036854775808≤aM∧aM≤9223372036854775807)∧T.length≤a.xB.ls.length∧T.length≤a.xB.ls.length+1∧0≤d.length∧(bnd (fH ((Int.toNat c)+1) c a.xB.ls a.xE ([])) fun sLrbJjLsttbbbJjL=>(sLrbJjLsttbbbJjL.1,sLrbJjLsttbbbJjL.2.1,sLrbJjLsttbbbJjL.2.2))=(T,aB,d):=by intros; subst dU; exact Iff.rfl
 refine zD (fun i:Int × Int × Bool × Bool × Bool × (Option Addr) × Nat × (List UInt8) × Int × (Option Addr) × Nat × (List aR)=> [(6, .int .i64 i.1),(30, .int .i64 i.2.1),(31, .bool i.2.2.1),(32, .bool i.2.2.2.1),(38, .bool i.2.2.2.2.1),(29, .int .i64 c),(28, .pointer (some ⟨j,0,none⟩)),(27, .pointer (some ⟨A,1,none⟩)),(26, .string ⟨List.toArray b⟩),(25, .pointer (some ⟨j,0,none⟩)),(24, .pointer (some ⟨A,0,none⟩)),(23, .bool l),(22, .pointer (some ⟨j,0,none⟩)),(5, .pointer (some ⟨A,0,none⟩)),(21, .agg #[.bool false, .string ⟨List.toArray ([])⟩, .slice none 0 0]),(18, .bool (decide (x=0))),(17, .bool (decide (x=0))),(16, .int .i64 x),(15, .pointer (some ⟨j,1,none⟩)),(14, .pointer (some ⟨j,0,none⟩)),(13, .pointer (some ⟨j,0,none⟩)),(12, .bool (decide (n > 0))),(11, .bool (decide (n > 0))),(10, .int .i64 n),(3, .slice N u.length O),(4, .int .i64 n),(2, .slice none 0 0),(0, .pointer (some ⟨j,0,none⟩))]) df ?_ ?_
 refine bo ?_
 have fZ:Own w D fU [row none 0 0 (List.flatMap aR.cells ([])) 86 2,blk j [.slice I a.xB.ls.length J, .int .i64 a.xE] 75,blk A [.bool l, .string ⟨List.toArray b⟩, .slice none 0 0] 84,row N u.length O (List.flatMap af.cells E) 84 3,sepL (List.flatMap yQ E)]:=fV.free (bP 86 2)
 have gm:=fZ.pk [1,2,3,4,0]
 obtain⟨dh,dV⟩:∃ q:(Int × (Option Addr) × Nat × (List UInt8) × Int × (Option Addr) × Nat × (List aR) × Nat)→World→Prop,q=fun(i:Int × (Option Addr) × Nat × (List UInt8) × Int × (Option Addr) × Nat × (List aR) × Nat) w'=>Own w D w' [blk j [.slice i.2.1 i.2.2.2.1.length i.2.2.1, .int .i64 i.2.2.2.2.1] 75,blk A [.bool l, .string ⟨List.toArray b⟩, .slice i.2.2.2.2.2.1 i.2.2.2.2.2.2.2.1.length i.2.2.2.2.2.2.1] 84,row N u.length O (List.flatMap af.cells E) 84 3,sepL (List.flatMap yQ E),row i.2.2.2.2.2.1 i.2.2.2.2.2.2.2.1.length i.2.2.2.2.2.2.1 (List.flatMap aR.cells i.2.2.2.2.2.2.2.1) 86 2]∧(aj 1 I J a.xB.ls i.2.1 i.2.2.1 i.2.2.2.1∧((i.2.2.2.2.2.2.2.1.length:Nat):Int)+i.1≤255∧0≤i.1∧Int.toNat i.1 < i.2.2.2.2.2.2.2.2∧fH ((Int.toNat c)+1) c a.xB.ls a.xE ([])=fH i.2.2.2.2.2.2.2.2 i.1 i.2.2.2.1 i.2.2.2.2.1 i.2.2.2.2.2.2.2.1):=⟨_,rfl⟩
 have aQ:∀ {g:Int} {U:Option Addr} {K:Nat} {t:List UInt8} {B:Int} {ag:Option Addr} {ah:Nat} {o:List aR} {aC:Nat} {w':World},dh (g,U,K,t,B,ag,ah,o,aC) w'↔Own w D w' [blk j [.slice U t.length K, .int .i64 B] 75,blk A [.bool l, .string ⟨List.toArray b⟩, .slice ag o.length ah] 84,row N u.length O (List.flatMap af.cells E) 84 3,sepL (List.flatMap yQ E),row ag o.length ah (List.flatMap aR.cells o) 86 2]∧aj 1 I J a.xB.ls U K t∧((o.length:Nat):Int)+g≤255∧0≤g∧Int.toNat g < aC∧fH ((Int.toNat c)+1) c a.xB.ls a.xE ([])=fH aC g t B o:=by intros; subst dV; exact Iff.rfl
 refine Wp.loop (fun i:Int × (Option Addr) × Nat × (List UInt8) × Int × (Option Addr) × Nat × (List aR) × Nat=> [(6, .int .i64 i.1),(29, .int .i64 c),(28, .pointer (some ⟨j,0,none⟩)),(27, .pointer (some ⟨A,1,none⟩)),(26, .string ⟨List.toArray b⟩),(25, .pointer (some ⟨j,0,none⟩)),(24, .pointer (some ⟨A,0,none⟩)),(23, .bool l),(22, .pointer (some ⟨j,0,none⟩)),(5, .pointer (some ⟨A,0,none⟩)),(21, .agg #[.bool false, .string ⟨List.toArray ([])⟩, .slice none 0 0]),(18, .bool (decide (x=0))),(17, .bool (decide (x=0))),(16, .int .i64 x),(15, .pointer (some ⟨j,1,none⟩)),(14, .pointer (some ⟨j,0,none⟩)),(13, .pointer (some ⟨j,0,none⟩)),(12, .bool (decide (n > 0))),(11, .bool (decide (n > 0))),(10, .int .i64 n),(3, .slice N u.length O),(4, .int .i64 n),(2, .slice none 0 0),(0, .pointer (some ⟨j,0,none⟩))]) dh (fun i=>i.2.2.2.2.2.2.2.2) (c,I,J,a.xB.ls,a.xE,none,0, [],(Int.toNat c)+1) ⟨rfl,rfl,rfl,rfl,rfl,rfl,rfl,rfl,rfl,rfl,rfl,rfl,rfl,rfl,rfl,rfl,rfl,rfl,rfl,rfl,rfl,rfl,rfl,rfl,trivial⟩ (aQ.2 ⟨gm,(show aj 1 I J a.xB.ls I J a.xB.ls∧((0:Nat):Int)+c≤255∧0≤c∧Int.toNat c < ((Int.toNat c)+1)∧fH ((Int.toNat c)+1) c a.xB.ls a.xE ([])=fH ((Int.toNat c)+1) c a.xB.ls a.xE ([]) from ⟨by exact(aj.refl (by omega)),by omega,by omega,by omega,rfl⟩)⟩) ?_
 rintro ⟨g,U,K,t,B,ag,ah,o,aC⟩ jK dW
 show Wp _ _ _ [(6, .int .i64 g),(29, .int .i64 c),(28, .pointer (some ⟨j,0,none⟩)),(27, .pointer (some ⟨A,1,none⟩)),(26, .string ⟨List.toArray b⟩),(25, .pointer (some ⟨j,0,none⟩)),(24, .pointer (some ⟨A,0,none⟩)),(23, .bool l),(22, .pointer (some ⟨j,0,none⟩)),(5, .pointer (some ⟨A,0,none⟩)),(21, .agg #[.bool false, .string ⟨List.toArray ([])⟩, .slice none 0 0]),(18, .bool (decide (x=0))),(17, .bool (decide (x=0))),(16, .int .i64 x),(15, .pointer (some ⟨j,1,none⟩)),(14, .pointer (some ⟨j,0,none⟩)),(13, .pointer (some ⟨j,0,none⟩)),(12, .bool (decide (n > 0))),(11, .bool (decide (n > 0))),(10, .int .i64 n),(3, .slice N u.length O),(4, .int .i64 n),(2, .slice none 0 0),(0, .pointer (some ⟨j,0,none⟩))] _ _
 obtain⟨aV,X,iK,iL,iM,aS⟩:=aQ.1 dW
 have iO:=(X).le
 obtain⟨bM,dX⟩:∃ q,aC=q+1:=⟨aC - 1,by omega⟩
 subst dX
 refine yJ (sr (Mz rfl (Kz (.bool (decide (g > 0))) (Mz rfl ?_))))
 by_cases z:g > 0
 refine gw (.pointer (some ⟨j,0,none⟩)) (dT z) (yO rfl) (Gz (.pointer (some ⟨j,0,none⟩)) (dT z) (Gz (.pointer (some ⟨j,1,none⟩)) (dT z) (Gl (.int .i64 B) (dT z) aV 0 Tryz.isAgg32 (Gz (.bool (decide (B=0))) (dT z) (fw (.bool (decide (B=0))) (yN rfl (dT z) rfl) (nt ?_))))))
 by_cases aW:B=0
 refine jT (dT aW) (sk (yJ (bo (sr (Kz (.agg #[.string ⟨List.toArray ([])⟩, .string ⟨List.toArray ([])⟩]) ?_)))))
 refine dE [.string ⟨List.toArray ([])⟩, .string ⟨List.toArray ([])⟩] 86 aV ?_
 intro di jL gp
 refine bz [.string ⟨List.toArray ([])⟩, .string ⟨List.toArray ([])⟩] 0 gp Tryz.sizeOf86 ?_
 intro jM gq
 refine ns (Mz rfl ?_)
 have gy:=gq.pk [1,0,2,3,4,5]
 obtain⟨⟨L,ai⟩,bO⟩:∃ q:(List UInt8) × RT,bg (RT.mk (Ll.mk t) B)=q:=⟨_,rfl⟩
 obtain⟨jN,dY,dZ,d9,iP⟩:=yT gy
 refine cl Tryz.call92 (gP _ _ j (RT.mk (Ll.mk t) B) U K L ai dY (fun F G=>aj.rds ay (by decide) X ((fun F G=>aj.rds ay (by decide) W ((fun F G=>aj.rds ay (by decide) Q ((fun F G=>aj.rds ay (by decide) Y ((fun F G=>aj.rds ay (by decide) S ((fun F G=>aj.rds ay (by decide) R ((dZ _ V) F G)) F G)) F G)) F G)) F G)) F G)) (show t.length≤K∧t.length≤9223372036854775807 from by omega) bO) ?_
 rintro _ jO ⟨bQ,aX,rfl,ed,ak⟩
 have gz:=d9 _ _ ed
 replace ak:aj 1 U K t bQ aX ai.xB.ls:=ak
 have iQ:=(ak).le
 refine Kz (.pointer (some ⟨di,0,none⟩)) ?_
 have gB:=gz.pk [1,0,2,3,4,5]
 refine bz [.string ⟨List.toArray L⟩] 0 gB Tryz.sizeOf9 ?_
 intro jP gD
 refine ns (Mz rfl ?_)
 have gF:=gD.pk [1,0,2,3,4,5]
 obtain⟨⟨M,aY⟩,bR⟩:∃ q:(List UInt8) × RT,bg ai=q:=⟨_,rfl⟩
 obtain⟨jQ,ek,eu,eD,iR⟩:=yT gF
 refine cl Tryz.call92 (gP _ _ j ai bQ aX M aY ek (fun F G=>aj.rds ay (by decide) ak ((fun F G=>aj.rds ay (by decide) X ((fun F G=>aj.rds ay (by decide) W ((fun F G=>aj.rds ay (by decide) Q ((fun F G=>aj.rds ay (by decide) Y ((fun F G=>aj.rds ay (by decide) S ((fun F G=>aj.rds ay (by decide) R ((eu _ V) F G)) F G)) F G)) F G)) F G)) F G)) F G)) (show ai.xB.ls.length≤aX∧ai.xB.ls.length≤9223372036854775807 from by omega) bR) ?_
 rintro _ jR ⟨dm,dn,rfl,eF,aG⟩
 have gG:=eD _ _ eF
 replace aG:aj 1 bQ aX ai.xB.ls dm dn aY.xB.ls:=aG
 have iT:=(aG).le
 refine Kz (.pointer (some ⟨di,1,none⟩)) ?_
 have gH:=gG.pk [1,0,2,3,4,5]
 refine bz [.string ⟨List.toArray M⟩] 1 gH Tryz.sizeOf9 ?_
 intro jS bS
 refine nt (yK (Kz (.pointer (some ⟨A,2,none⟩)) (Lz (.slice ag o.length ah) bS 2 Tryz.isAgg82 (La ([.string ⟨List.toArray L⟩, .string ⟨List.toArray M⟩]) bS 0 Tryz.isAgg86 Tryz.sizeOf86 ?_))))
 refine iX [.string ⟨List.toArray L⟩, .string ⟨List.toArray M⟩] 86 2 1 bS ?_
 intro gI jU bT
 replace bT:=zi (y:=row gI 1 1 (List.flatMap aR.cells ([(aR.mk L M)])) 86 2) rfl bT
 have dw:=bT.pk [6,0,1,2,3,4,5]
 refine WL.do rfl (ze (k:=o.length) (m:=1) (o5) dw rfl rfl (cz Tryz.underlying82 (dw.rds (i:=1) rfl) (bK aR.one ([(aR.mk L M)]))) rfl (by omega) (s:=List.length (o++ [(aR.mk L M)])) (by first | omega | (simp only [List.length_append,List.length_cons,List.length_nil] <;> omega)) (List.flatMap_append).symm ?_)
 intro dx dz jV gJ
 have iU:List.length (o++ [(aR.mk L M)])=o.length+1:=by simp only [List.length_append,List.length_cons,List.length_nil]
 refine Kz (.pointer (some ⟨A,2,none⟩)) ?_
 have gK:=gJ.pk [4,0,1,2,3,5,6]
 refine bz [.slice dx (List.length (o++ [(aR.mk L M)])) dz] 2 gK Tryz.sizeOf82 ?_
 intro jW gL
 refine WL.nil (bN (yL (yK (Mz rfl (fw (.int .i64 (g - 1)) (yS (e:=IntKind.i64.wrap (g - 1)) yk (by rw [BI _ (by omega)])) (Az rfl (WL.nil ?_)))))))
 have gM:=gL.pk [4,0,5,6,1]
 exact yY (g - 1,dm,dn,aY.xB.ls,aY.xE,dx,dz,(o++ [(aR.mk L M)]),bM) ⟨rfl,rfl,rfl,rfl,rfl,rfl,rfl,rfl,rfl,rfl,rfl,rfl,rfl,rfl,rfl,rfl,rfl,rfl,rfl,rfl,rfl,rfl,rfl,rfl,trivial⟩ (aQ.2 ⟨gM,by exact(aj.trans (aj.trans X ak) aG),by omega,by omega,by omega,et (aS) (et (ip z) (et (ip aW) (et (aa bO) (aa bR))))⟩) (by show bM < bM+1; omega)
 refine jF (dF aW) (Wp.exit (yV (yV (y8 ?_))))
 have gN:=aV.pk [0,1,2,3,4]
 exact zu (g,g,decide (g > 0),decide (g > 0),decide (B=0),U,K,t,B,ag,ah,o) ⟨rfl,rfl,rfl,rfl,rfl,rfl,rfl,rfl,rfl,rfl,rfl,rfl,rfl,rfl,rfl,rfl,rfl,rfl,rfl,rfl,rfl,rfl,rfl,rfl,rfl,rfl,rfl,rfl,trivial⟩ (aO.2 ⟨gN,by exact X,by omega,by omega,by omega,by omega,by omega,aa (et (aS) (et (ip z) (iN aW)))⟩)
 refine Sz (dF z) (Sz (dF z) (Sz (dF z) (Sz (dF z) (Sz (dF z) (fw (.bool false) (yM rfl (dF z) rfl) (nt (jf (Wp.exit (yV (yV (y8 ?_)))))))))))
 have gQ:=aV.pk [0,1,2,3,4]
 exact zu (g,g,decide (g > 0),decide (g > 0),false,U,K,t,B,ag,ah,o) ⟨rfl,rfl,rfl,rfl,rfl,rfl,rfl,rfl,rfl,rfl,rfl,rfl,rfl,rfl,rfl,rfl,rfl,rfl,rfl,rfl,rfl,rfl,rfl,rfl,rfl,rfl,rfl,rfl,trivial⟩ (aO.2 ⟨gQ,(show aj 1 I J a.xB.ls U K t∧(-9223372036854775808≤g∧g≤9223372036854775807)∧(-9223372036854775808≤g∧g≤9223372036854775807)∧t.length≤a.xB.ls.length∧t.length≤a.xB.ls.length+1∧0≤o.length∧(bnd (fH ((Int.toNat c)+1) c a.xB.ls a.xE ([])) fun sLrbJjLsttbbbJjL=>(sLrbJjLsttbbbJjL.1,sLrbJjLsttbbbJjL.2.1,sLrbJjLsttbbbJjL.2.2))=(t,B,o) from ⟨by exact X,by omega,by omega,by omega,by omega,by omega,aa (et (aS) (iN z))⟩)⟩)
 rintro ⟨aL,aM,bI,bJ,bL,az,aA,T,aB,p,r,d⟩ jX eG
 show Wp _ _ _ [(6, .int .i64 aL),(30, .int .i64 aM),(31, .bool bI),(32, .bool bJ),(38, .bool bL),(29, .int .i64 c),(28, .pointer (some ⟨j,0,none⟩)),(27, .pointer (some ⟨A,1,none⟩)),(26, .string ⟨List.toArray b⟩),(25, .pointer (some ⟨j,0,none⟩)),(24, .pointer (some ⟨A,0,none⟩)),(23, .bool l),(22, .pointer (some ⟨j,0,none⟩)),(5, .pointer (some ⟨A,0,none⟩)),(21, .agg #[.bool false, .string ⟨List.toArray ([])⟩, .slice none 0 0]),(18, .bool (decide (x=0))),(17, .bool (decide (x=0))),(16, .int .i64 x),(15, .pointer (some ⟨j,1,none⟩)),(14, .pointer (some ⟨j,0,none⟩)),(13, .pointer (some ⟨j,0,none⟩)),(12, .bool (decide (n > 0))),(11, .bool (decide (n > 0))),(10, .int .i64 n),(3, .slice N u.length O),(4, .int .i64 n),(2, .slice none 0 0),(0, .pointer (some ⟨j,0,none⟩))] _ _
 obtain⟨dA,bU,iV,iW,iY,iZ,ja,eH⟩:=aO.1 eG
 have jb:=(bU).le
 refine yK (Mz rfl (La ([.bool l, .string ⟨List.toArray b⟩, .slice p d.length r]) dA 1 Tryz.isAgg84 Tryz.sizeOf84 ?_))
 refine iX [.bool l, .string ⟨List.toArray b⟩, .slice p d.length r] 84 3 1 dA ?_
 intro dB jY bV
 replace bV:=zi (y:=row dB 1 1 (List.flatMap af.cells ([(af.mk l b (Sv.mk p r d))])) 84 3) rfl bV
 have dC:=bV.pk [3,4,5,0,1,2]
 refine WL.do rfl (ze (k:=u.length) (m:=1) (lD) dC rfl rfl (cz Tryz.underlying26 (dC.rds (i:=3) rfl) (bK af.one ([(af.mk l b (Sv.mk p r d))]))) rfl (by omega) (s:=List.length (u++ [(aP.mk l b (Ll.mk d))])) (by first | omega | (simp only [List.length_append,List.length_cons,List.length_nil] <;> omega)) (List.flatMap_append).symm ?_)
 intro dD dH gT gU
 have gV:=gU.pk [1,2,0,3,4,5]
 have gW:Own w D gT [sepL (List.flatMap yQ (E++ [(af.mk l b (Sv.mk p r d))])),row dD (List.length (u++ [(aP.mk l b (Ll.mk d))])) dH (List.flatMap af.cells (E++ [(af.mk l b (Sv.mk p r d))])) 84 3,row dB 1 1 (List.flatMap af.cells ([(af.mk l b (Sv.mk p r d))])) 84 3,blk j [.slice az T.length aA, .int .i64 aB] 75,blk A [.bool l, .string ⟨List.toArray b⟩, .slice p d.length r] 84]:=gV.sepAdd (L2:= [row p d.length r (List.flatMap aR.cells d) 86 2]) (List.flatMap_append (f:=yQ) (xs:=E) (ys:= [(af.mk l b (Sv.mk p r d))])).symm
 have jc:List.length (u++ [(aP.mk l b (Ll.mk d))])=u.length+1:=by simp only [List.length_append,List.length_cons,List.length_nil]
 have jd:=dG (pR (es:= [(af.mk l b (Sv.mk p r d))]) (ms:= [(aP.mk l b (Ll.mk d))]) aK rfl)
 refine Az rfl (WL.nil (bN (yL (yK (Mz rfl (fw (.int .i64 (n - 1)) (yS (e:=IntKind.i64.wrap (n - 1)) yk (by rw [BI _ (by omega)])) (Az rfl (WL.nil ?_))))))))
 have gX:=gW.pk [3,1,0]
 exact yY (dD,dH,(E++ [(af.mk l b (Sv.mk p r d))]),(u++ [(aP.mk l b (Ll.mk d))]),n - 1,az,aA,T,aB,dI) ⟨rfl,rfl,rfl,rfl,trivial⟩ (bB.2 ⟨gX,by exact(pR (es:= [(af.mk l b (Sv.mk p r d))]) (ms:= [(aP.mk l b (Ll.mk d))]) aK rfl),by exact(aj.trans (aj.trans (aj.trans (aj.trans S Y) Q) W) bU),by omega,by omega,by omega,et (bC) (et (ip P) (et (ip bZ) (et (aa cZ) (et (aa bE) (et (aa bG) (aa eH))))))⟩) (by show dI < dI+1; omega)
 refine jF (dF bZ) (Wp.exit (yV (yV (y8 ?_))))
 have gY:=bY.pk [0,1,2]
 exact zu (N,O,E,u,aJ,aF,Z,x) ⟨rfl,rfl,trivial⟩ (bi.2 ⟨gY,by exact aK,by exact S,by omega,by omega,by omega,by omega,aa (et (bC) (et (ip P) (iN bZ)))⟩)
 refine Sz (dF P) (Sz (dF P) (Sz (dF P) (Sz (dF P) (Sz (dF P) (fw (.bool false) (yM rfl (dF P) rfl) (nt (jf (Wp.exit (yV (yV (y8 ?_)))))))))))
 have gZ:=bY.pk [0,1,2]
 exact zu (N,O,E,u,aJ,aF,Z,x) ⟨rfl,rfl,trivial⟩ (bi.2 ⟨gZ,by exact aK,by exact S,by omega,by omega,by omega,by omega,aa (et (bC) (iN P))⟩)
 rintro ⟨bn,bq,aZ,aD,bu,bv,aI,bA⟩ jZ eO
 show Wp _ _ _ [(3, .slice bn aD.length bq),(2, .slice none 0 0)] _ _
 obtain⟨ib,bW,bX,je,jg,ji,jk,eQ⟩:=bi.1 eO
 have jl:=dG bW
 have jm:=(bX).le
 refine sr (Mz rfl (An rfl (rt (rs ?_))))
 have ic:=ib.pk [1,2,0]
 have e:jh p0=(aD,RT.mk (Ll.mk aI) bA):=et (aa cB) (aa eQ)
 obtain⟨rfl,rfl⟩:=dN (e.symm.trans hr)
 exact⟨bn,bq,aZ,bu,bv,rfl,ic,bW,(aj.trans R bX),(by first | omega | exact BJ _)⟩
end Go.Proofs.YtccjclalngabhaaGreat
