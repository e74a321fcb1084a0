/-
 wire: the chapter's examples, and what is the same.
-/
import Derived.Test.YtccjclalngabhaaGreatWx
import Derived.Test.YtccjclalngabhaaGreatWf
import Derived.Test.YtccjclalngabhaaGreatWv
import Derived.Test.YtccjclalngabhaaGreatWiD
import Derived.Test.YtccjclalngabhaaGreatWs
namespace Go.Proofs.YtccjclalngabhaaGreat
set_option maxRecDepth 100000
open Go.RowKit
set_option linter.unusedVariables false
set_option linter.unusedSectionVars false
set_option linter.unusedSimpArgs false
def jy (b:List UInt8):(List UInt8):=
 bnd (jw b) fun a=>a.1
theorem kZ (w:World) (D:Nat→Prop) (a:List UInt8) (e:List UInt8) (H:Own w D w []) (B:a.length≤100000) (hr:jy a=e):
    Calls Tryz.prog 18 #[.string ⟨List.toArray a⟩] w (cK fun v w'=> ∃ (x:Option Addr) (y:Nat),v= .slice x e.length y∧Own w D w' [row x e.length y (List.flatMap eB e) 5 1]∧(e.length≤a.length+15)):=by
 refine Calls.body (args:= [.string ⟨List.toArray a⟩]) Tryz.func18 rfl rfl rfl ?_
 show Wp _ _ _ [(0, .string ⟨List.toArray a⟩)] _ _
 refine sr (Ar rfl (Mz rfl ?_))
 refine WL.do rfl (Do.toBytesE (l:=a) Tryz.underlying9 Tryz.underlying31 Tryz.underlying5 H rfl (by unfold maxLen; omega) ?_)
 intro p r C s
 obtain⟨⟨b,f⟩,c⟩:∃ q:(List UInt8) × Int,jw a=q:=⟨_,rfl⟩
 obtain⟨E,g,z,h,j⟩:=Own.enter0 s
 refine cl Tryz.call17 (l9 _ _ p a.length r a b f g (j _ 0 _ rfl bJ) rfl (by omega) c) ?_
 rintro _ F ⟨k,m,rfl,n,d⟩
 have o:=h _ _ n
 have A:=o.rowC (i:=0) rfl
 replace d:b.length≤a.length+15:=d
 refine Mz rfl (Kz (.slice k b.length m) (Kz (.int .i64 f) (Az rfl (An rfl (Wp.seq ?_)))))
 have t:=o.pk [0]
 refine Wp.region (Mz rfl (An rfl (rt (rs ?_))))
 have u:=t.pk [0]
 obtain rfl:_=b:=hr.symm.trans (aa c)
 exact⟨k,m,rfl,u,(by first | omega | (simp only [List.length_cons,List.length_nil,List.length_append]; omega))⟩
def gG (e:List aB):List aB→Nat→Unit ⊕ Bool
  | [],c=>Sum.inl ()
  | b::d,c=>bnd (List.getD e c default) fun a=>if(b.ae=a.ae)∧(b.aL=a.aL)∧(b.au=a.au)∧(b.aD=a.aD)∧(b.aI=a.aI)∧(b.aF=a.aF) then gG e d (c+1) else Sum.inr (false)
def ji (a:List aB) (b:List aB):Bool:=
 if((a.length:Nat):Int)=((b.length:Nat):Int) then lp (gG b a 0) fun _=>true else false
theorem qM (w:World) (D:Nat→Prop) (m:Option Addr) (n0 y:Nat) (d:List aB) (n:Option Addr) (I z:Nat) (f:List aB) (R:Bool) (H:Own w D w []) (s:Ro w D fun w'=>bD w' 6 m n0 (List.flatMap aB.cells d)) (J:n0=d.length) (T:d.length≤9223372036854775807) (A:Ro w D fun w'=>bD w' 6 n I (List.flatMap aB.cells f)) (K:I=f.length) (U:f.length≤9223372036854775807) (hr:ji d f=R):
    Calls Tryz.prog 48 #[.slice m n0 y, .slice n I z] w (cK fun v w'=>v= .bool R∧Own w D w' []):=by
 subst J K
 refine Calls.body (args:= [.slice m d.length y, .slice n f.length z]) Tryz.func48 rfl rfl rfl ?_
 show Wp _ _ _ [(0, .slice m d.length y),(1, .slice n f.length z)] _ _
 refine sr (An rfl (Wp.seq (sr (Mz rfl (Kz (.int .i64 ((d.length:Nat):Int)) (Mz rfl (Kz (.int .i64 ((f.length:Nat):Int)) (fw (.bool (decide (¬ (((d.length:Nat):Int)=((f.length:Nat):Int))))) (Yl.bool (e:= !(decide (((d.length:Nat):Int)=((f.length:Nat):Int)))) yk decide_not.symm) (nt ?_)))))))))
 by_cases g:((d.length:Nat):Int)=((f.length:Nat):Int)
 refine jF (dF (not_not_intro g)) (sk (Wp.seq (sr (Mz rfl (Kz (.int .i64 ((d.length:Nat):Int)) (Mn rfl (bo ?_)))))))
 have L:Own w D w []:=H.pk []
 obtain⟨B,C⟩:∃ q:Nat→World→Prop,q=fun(i:Nat) w'=>Own w D w' []∧(i≤d.length∧gG f d 0=gG f (List.drop i d) i):=⟨_,rfl⟩
 have h:∀ {c:Nat} {w':World},B c w'↔Own w D w' []∧c≤d.length∧gG f d 0=gG f (List.drop c d) c:=by intros; subst C; exact Iff.rfl
 refine Wp.loop (fun i:Nat=> [(4, .bool false),(13, .int .i64 ((i:Nat):Int)),(12, .int .i64 ((d.length:Nat):Int)),(0, .slice m d.length y),(1, .slice n f.length z)]) B (fun i=>d.length - i) 0 ⟨rfl,rfl,rfl,rfl,rfl,trivial⟩ (h.2 ⟨L,by omega,rfl⟩) ?_
 rintro c M E
 show Wp _ _ _ [(4, .bool false),(13, .int .i64 ((c:Nat):Int)),(12, .int .i64 ((d.length:Nat):Int)),(0, .slice m d.length y),(1, .slice n f.length z)] _ _
 obtain⟨t,S,j⟩:=h.1 E
 refine sr (Kz (.bool (decide (((c:Nat):Int) < ((d.length:Nat):Int)))) (nt (Wp.seq ?_)))
 by_cases F:((c:Nat):Int) < ((d.length:Nat):Int)
 obtain⟨a,p⟩:=eG (ls:=d) (i:=c) aB.len (by decide) (t.ro s) (by first | omega | (simp; done) | (simp; omega))
 have r:=drop_at p
 refine jT (dT F) (sk (Wp.seq (bo (sr (Mz rfl (An rfl (Wp.seq ?_)))))))
 have k:=t.drew
 refine Wp.drawnX [] (fun W=> ∃ L',Own w D W ([]++L')) (by kernel_rfl) (by kernel_rfl) (bO.then (bO.block (bO.then (bO.then (bO.block (bO.then bO.base)))))) ⟨_,k⟩ ?_
 revert k
 generalize World.drew M=V
 intro k
 refine GX.take (v:= .slice m d.length y) (rs:= []) 0 rfl (by kernel_rfl) (fun _ _=>Yl.move rfl) (GX.take (v:= .int .i64 ((c:Nat):Int)) (rs:= []) 1 rfl (by kernel_rfl) (fun _ _=>Yl.move rfl) (GX.take (v:= .pointer (some ⟨ab m,ao m+c *6,none⟩)) (rs:= []) 2 rfl (by kernel_rfl) (fun _ ⟨_,x⟩=>Yl.indexAddr (ma) rfl rfl ((x.ro s).addr (i:=c) (by omega)) (by omega)) (GX.take (v:= .agg (aB.cells a).toArray) (rs:= []) 3 rfl (by kernel_rfl) (fun _ ⟨_,x⟩=>Yl.load rfl (bu.agg (cs:=(aB.cells a)) Tryz.isAgg64 Tryz.sizeOf64 ((x.ro s).elem aB.len p (by decide)))) (GX.take (v:= .slice n f.length z) (rs:= []) 4 rfl (by kernel_rfl) (fun _ _=>Yl.move rfl) (GX.take (v:= .int .i64 ((c:Nat):Int)) (rs:= []) 5 rfl (by kernel_rfl) (fun _ _=>Yl.move rfl) ?_)))))
 obtain⟨b,l⟩:=kg (ls:=f) (i:=c) (by first | omega | (simp; done) | (simp; omega))
 refine GX.take (v:= .pointer (some ⟨ab n,ao n+c *6,none⟩)) (rs:= []) 6 rfl (by kernel_rfl) (fun _ ⟨_,x⟩=>Yl.indexAddr (ma) rfl rfl ((x.ro A).addr (i:=c) (by omega)) (by omega)) (GX.take (v:= .agg (aB.cells b).toArray) (rs:= []) 7 rfl (by kernel_rfl) (fun _ ⟨_,x⟩=>Yl.load rfl (bu.agg (cs:=(aB.cells b)) Tryz.isAgg64 Tryz.sizeOf64 ((x.ro A).elem aB.len l (by decide)))) (GX.take (v:= .bool (decide (¬ ((a.ae=b.ae)∧(a.aL=b.aL)∧(a.au=b.au)∧(a.aD=b.aD)∧(a.aI=b.aI)∧(a.aF=b.aF))))) (rs:= []) 8 rfl (by kernel_rfl) (fun _ _=>Yl.bool (e:= !(decide ((a.ae=b.ae)∧(a.aL=b.aL)∧(a.au=b.au)∧(a.aD=b.aD)∧(a.aI=b.aI)∧(a.aF=b.aF)))) (Yl.neAgg rfl rfl (by kernel_rfl) rfl (fB.struct Tryz.underlying64 (by kernel_rfl) (eD.dec (eD.cons (u:= .int .i64 a.ae) (v:= .int .i64 b.ae) (by decide) (fun _=>by kernel_rfl) (fun _=>by kernel_rfl) (fB.int Tryz.underlying3) (eD.cons (u:= .string ⟨List.toArray a.aL⟩) (v:= .string ⟨List.toArray b.aL⟩) (by decide) (fun _=>by kernel_rfl) (fun _=>by kernel_rfl) (fB.string Tryz.underlying9) (eD.cons (u:= .string ⟨List.toArray a.au⟩) (v:= .string ⟨List.toArray b.au⟩) (by decide) (fun _=>by kernel_rfl) (fun _=>by kernel_rfl) (fB.string Tryz.underlying9) (eD.cons (u:= .string ⟨List.toArray a.aD⟩) (v:= .string ⟨List.toArray b.aD⟩) (by decide) (fun _=>by kernel_rfl) (fun _=>by kernel_rfl) (fB.string Tryz.underlying9) (eD.cons (u:= .string ⟨List.toArray a.aI⟩) (v:= .string ⟨List.toArray b.aI⟩) (by decide) (fun _=>by kernel_rfl) (fun _=>by kernel_rfl) (fB.string Tryz.underlying9) (eD.cons (u:= .int .i64 a.aF) (v:= .int .i64 b.aF) (by decide) (fun _=>by kernel_rfl) (fun _=>by kernel_rfl) (fB.int Tryz.underlying3) (eD.nil.up (Nat.zero_le _)))))))) ((congrArg (decide (a.ae=b.ae) && ·) ((congrArg (decide (a.aL=b.aL) && ·) ((congrArg (decide (a.au=b.au) && ·) ((congrArg (decide (a.aD=b.aD) && ·) ((congrArg (decide (a.aI=b.aI) && ·) jC).trans ek)).trans ek)).trans ek)).trans ek)).trans ek)))) decide_not.symm) (GX.done (by kernel_rfl) (Fin.then ?_))))
 by_cases o:(a.ae=b.ae)∧(a.aL=b.aL)∧(a.au=b.au)∧(a.aD=b.aD)∧(a.aI=b.aI)∧(a.aF=b.aF)
 refine jF (dF (not_not_intro o)) (Wp.skip (bN (Fin.then (Wp.region (fw (.int .i64 ((c+1:Nat):Int)) (Yl.int (e:=IntKind.i64.wrap (((c:Nat):Int)+1)) yk (by rw [IntWalk.i64_in _ (by omega)]; omega)) (Mz rfl (WL.nil ?_)))))))
 have N:=k.pk []
 exact Fin.round (c+1) ⟨rfl,rfl,rfl,rfl,rfl,trivial⟩ (h.2 ⟨N,by omega,et (j) (et (congrArg (fun q=>gG f q c) r) (et (aa (dA l)) (ip o)))⟩) (by show d.length - (c+1) < d.length - c; omega)
 refine jT (dT o) (sr (An rfl (rt (bR (tR (tR (bR (tR (rs ?_)))))))))
 have O:=k.pk []
 obtain rfl:_=false:=hr.symm.trans (et (ip g) (iH (et (j) (et (congrArg (fun q=>gG f q c) r) (et (aa (dA l)) (iN o))))))
 exact⟨rfl,O⟩
 refine jF (dF F) (Wp.exit (Fin.thenX ?_))
 have G:gG f d 0=Sum.inl ():=et (j) (et (congrArg (fun q=>gG f q c) (dY (ls:=d) (i:=c) (by omega))) rfl)
 refine Fin.thenX (Fin.blockX (Fin.then (sr (An rfl (rt (rs ?_))))))
 have P:=t.pk []
 obtain rfl:_=true:=hr.symm.trans (et (ip g) (kF G))
 exact⟨rfl,P⟩
 refine jT (dT g) (sr (An rfl (rt (tR (rs ?_)))))
 have Q:Own w D w []:=H.pk []
 obtain rfl:_=false:=hr.symm.trans (iN g)
 exact⟨rfl,Q⟩
def gH (e:List aW):List aW→Nat→Unit ⊕ Bool
  | [],b=>Sum.inl ()
  | c::d,b=>bnd (List.getD e b default) fun a=>if(c.aL=a.aL)∧(c.au=a.au) then gH e d (b+1) else Sum.inr (false)
def kW (a:List aW) (b:List aW):Bool:=
 if((a.length:Nat):Int)=((b.length:Nat):Int) then lp (gH b a 0) fun _=>true else false
theorem qN (w:World) (D:Nat→Prop) (m:Option Addr) (n0 y:Nat) (b:List aW) (n:Option Addr) (I z:Nat) (f:List aW) (R:Bool) (H:Own w D w []) (s:Ro w D fun w'=>bD w' 2 m n0 (List.flatMap aW.cells b)) (J:n0=b.length) (T:b.length≤9223372036854775807) (A:Ro w D fun w'=>bD w' 2 n I (List.flatMap aW.cells f)) (K:I=f.length) (U:f.length≤9223372036854775807) (hr:kW b f=R):
    Calls Tryz.prog 97 #[.slice m n0 y, .slice n I z] w (cK fun v w'=>v= .bool R∧Own w D w' []):=by
 subst J K
 refine Calls.body (args:= [.slice m b.length y, .slice n f.length z]) Tryz.func97 rfl rfl rfl ?_
 show Wp _ _ _ [(0, .slice m b.length y),(1, .slice n f.length z)] _ _
 refine sr (An rfl (Wp.seq (sr (Mz rfl (Kz (.int .i64 ((b.length:Nat):Int)) (Mz rfl (Kz (.int .i64 ((f.length:Nat):Int)) (fw (.bool (decide (¬ (((b.length:Nat):Int)=((f.length:Nat):Int))))) (Yl.bool (e:= !(decide (((b.length:Nat):Int)=((f.length:Nat):Int)))) yk decide_not.symm) (nt ?_)))))))))
 by_cases g:((b.length:Nat):Int)=((f.length:Nat):Int)
 refine jF (dF (not_not_intro g)) (sk (Wp.seq (sr (Mz rfl (Kz (.int .i64 ((b.length:Nat):Int)) (Mn rfl (bo ?_)))))))
 have L:Own w D w []:=H.pk []
 obtain⟨B,C⟩:∃ q:Nat→World→Prop,q=fun(i:Nat) w'=>Own w D w' []∧(i≤b.length∧gH f b 0=gH f (List.drop i b) i):=⟨_,rfl⟩
 have h:∀ {a:Nat} {w':World},B a w'↔Own w D w' []∧a≤b.length∧gH f b 0=gH f (List.drop a b) a:=by intros; subst C; exact Iff.rfl
 refine Wp.loop (fun i:Nat=> [(4, .bool false),(13, .int .i64 ((i:Nat):Int)),(12, .int .i64 ((b.length:Nat):Int)),(0, .slice m b.length y),(1, .slice n f.length z)]) B (fun i=>b.length - i) 0 ⟨rfl,rfl,rfl,rfl,rfl,trivial⟩ (h.2 ⟨L,by omega,rfl⟩) ?_
 rintro a M E
 show Wp _ _ _ [(4, .bool false),(13, .int .i64 ((a:Nat):Int)),(12, .int .i64 ((b.length:Nat):Int)),(0, .slice m b.length y),(1, .slice n f.length z)] _ _
 obtain⟨t,S,j⟩:=h.1 E
 refine sr (Kz (.bool (decide (((a:Nat):Int) < ((b.length:Nat):Int)))) (nt (Wp.seq ?_)))
 by_cases F:((a:Nat):Int) < ((b.length:Nat):Int)
 obtain⟨c,p⟩:=eG (ls:=b) (i:=a) aW.len (by decide) (t.ro s) (by first | omega | (simp; done) | (simp; omega))
 have r:=drop_at p
 refine jT (dT F) (sk (Wp.seq (bo (sr (Mz rfl (An rfl (Wp.seq ?_)))))))
 have k:=t.drew
 refine Wp.drawnX [] (fun W=> ∃ L',Own w D W ([]++L')) (by kernel_rfl) (by kernel_rfl) (bO.then (bO.block (bO.then (bO.then (bO.block (bO.then bO.base)))))) ⟨_,k⟩ ?_
 revert k
 generalize World.drew M=V
 intro k
 refine GX.take (v:= .slice m b.length y) (rs:= []) 0 rfl (by kernel_rfl) (fun _ _=>Yl.move rfl) (GX.take (v:= .int .i64 ((a:Nat):Int)) (rs:= []) 1 rfl (by kernel_rfl) (fun _ _=>Yl.move rfl) (GX.take (v:= .pointer (some ⟨ab m,ao m+a *2,none⟩)) (rs:= []) 2 rfl (by kernel_rfl) (fun _ ⟨_,x⟩=>Yl.indexAddr (pX) rfl rfl ((x.ro s).addr (i:=a) (by omega)) (by omega)) (GX.take (v:= .agg (aW.cells c).toArray) (rs:= []) 3 rfl (by kernel_rfl) (fun _ ⟨_,x⟩=>Yl.load rfl (bu.agg (cs:=(aW.cells c)) Tryz.isAgg86 Tryz.sizeOf86 ((x.ro s).elem aW.len p (by decide)))) (GX.take (v:= .slice n f.length z) (rs:= []) 4 rfl (by kernel_rfl) (fun _ _=>Yl.move rfl) (GX.take (v:= .int .i64 ((a:Nat):Int)) (rs:= []) 5 rfl (by kernel_rfl) (fun _ _=>Yl.move rfl) ?_)))))
 obtain⟨d,l⟩:=kg (ls:=f) (i:=a) (by first | omega | (simp; done) | (simp; omega))
 refine GX.take (v:= .pointer (some ⟨ab n,ao n+a *2,none⟩)) (rs:= []) 6 rfl (by kernel_rfl) (fun _ ⟨_,x⟩=>Yl.indexAddr (pX) rfl rfl ((x.ro A).addr (i:=a) (by omega)) (by omega)) (GX.take (v:= .agg (aW.cells d).toArray) (rs:= []) 7 rfl (by kernel_rfl) (fun _ ⟨_,x⟩=>Yl.load rfl (bu.agg (cs:=(aW.cells d)) Tryz.isAgg86 Tryz.sizeOf86 ((x.ro A).elem aW.len l (by decide)))) (GX.take (v:= .bool (decide (¬ ((c.aL=d.aL)∧(c.au=d.au))))) (rs:= []) 8 rfl (by kernel_rfl) (fun _ _=>Yl.bool (e:= !(decide ((c.aL=d.aL)∧(c.au=d.au)))) (Yl.neAgg rfl rfl (by kernel_rfl) rfl (fB.struct Tryz.underlying86 (by kernel_rfl) (eD.dec (eD.cons (u:= .string ⟨List.toArray c.aL⟩) (v:= .string ⟨List.toArray d.aL⟩) (by decide) (fun _=>by kernel_rfl) (fun _=>by kernel_rfl) (fB.string Tryz.underlying9) (eD.cons (u:= .string ⟨List.toArray c.au⟩) (v:= .string ⟨List.toArray d.au⟩) (by decide) (fun _=>by kernel_rfl) (fun _=>by kernel_rfl) (fB.string Tryz.underlying9) (eD.nil.up (Nat.zero_le _)))) ((congrArg (decide (c.aL=d.aL) && ·) jC).trans ek)))) decide_not.symm) (GX.done (by kernel_rfl) (Fin.then ?_))))
 by_cases o:(c.aL=d.aL)∧(c.au=d.au)
 refine jF (dF (not_not_intro o)) (Wp.skip (bN (Fin.then (Wp.region (fw (.int .i64 ((a+1:Nat):Int)) (Yl.int (e:=IntKind.i64.wrap (((a:Nat):Int)+1)) yk (by rw [IntWalk.i64_in _ (by omega)]; omega)) (Mz rfl (WL.nil ?_)))))))
 have N:=k.pk []
 exact Fin.round (a+1) ⟨rfl,rfl,rfl,rfl,rfl,trivial⟩ (h.2 ⟨N,by omega,et (j) (et (congrArg (fun q=>gH f q a) r) (et (aa (dA l)) (ip o)))⟩) (by show b.length - (a+1) < b.length - a; omega)
 refine jT (dT o) (sr (An rfl (rt (bR (tR (tR (bR (tR (rs ?_)))))))))
 have O:=k.pk []
 obtain rfl:_=false:=hr.symm.trans (et (ip g) (iH (et (j) (et (congrArg (fun q=>gH f q a) r) (et (aa (dA l)) (iN o))))))
 exact⟨rfl,O⟩
 refine jF (dF F) (Wp.exit (Fin.thenX ?_))
 have G:gH f b 0=Sum.inl ():=et (j) (et (congrArg (fun q=>gH f q a) (dY (ls:=b) (i:=a) (by omega))) rfl)
 refine Fin.thenX (Fin.blockX (Fin.then (sr (An rfl (rt (rs ?_))))))
 have P:=t.pk []
 obtain rfl:_=true:=hr.symm.trans (et (ip g) (kF G))
 exact⟨rfl,P⟩
 refine jT (dT g) (sr (An rfl (rt (tR (rs ?_)))))
 have Q:Own w D w []:=H.pk []
 obtain rfl:_=false:=hr.symm.trans (iN g)
 exact⟨rfl,Q⟩
def dV (f:List aX):List aX→Nat→Unit ⊕ Bool
  | [],b=>Sum.inl ()
  | c::e,b=>bnd (List.getD f b default) fun a=>if c.dX=a.dX then if c.au≠a.au then Sum.inr (false) else bnd (kW c.ay.ls a.ay.ls) fun d=>if d=true then dV f e (b+1) else Sum.inr (false) else Sum.inr (false)
def ig (a:List aX) (b:List aX):Bool:=
 if((a.length:Nat):Int)=((b.length:Nat):Int) then lp (dV b a 0) fun _=>true else false
theorem o5 (w:World) (D:Nat→Prop) (m:Option Addr) (n0 I:Nat) (d0:List ag) (h:List aX) (n:Option Addr) (n1 J:Nat) (d1:List ag) (j:List aX) (r0:Bool) (H:Own w D w []) (N:List.map ag.abs d0=h) (s:Ro w D fun w'=>bD w' 3 m n0 (List.flatMap ag.cells d0)) (O:∀ x ∈ d0,Ro w D (fun w'=>bD w' 2 x.ay.A x.ay.ls.length (List.flatMap aW.cells x.ay.ls))∧(x.ay.ls.length≤x.ay.c∧x.ay.ls.length≤9223372036854775807)) (aj:n0=h.length) (aJ:h.length≤9223372036854775807) (P:List.map ag.abs d1=j) (z:Ro w D fun w'=>bD w' 3 n n1 (List.flatMap ag.cells d1)) (Q:∀ x ∈ d1,Ro w D (fun w'=>bD w' 2 x.ay.A x.ay.ls.length (List.flatMap aW.cells x.ay.ls))∧(x.ay.ls.length≤x.ay.c∧x.ay.ls.length≤9223372036854775807)) (ak:n1=j.length) (aK:j.length≤9223372036854775807) (hr:ig h j=r0):
    Calls Tryz.prog 49 #[.slice m n0 I, .slice n n1 J] w (cK fun v w'=>v= .bool r0∧Own w D w' []):=by
 subst aj ak
 have hdl0:=dM N
 have hdl1:=dM P
 refine Calls.body (args:= [.slice m h.length I, .slice n j.length J]) Tryz.func49 rfl rfl rfl ?_
 show Wp _ _ _ [(0, .slice m h.length I),(1, .slice n j.length J)] _ _
 refine sr (An rfl (Wp.seq (sr (Mz rfl (Kz (.int .i64 ((h.length:Nat):Int)) (Mz rfl (Kz (.int .i64 ((j.length:Nat):Int)) (fw (.bool (decide (¬ (((h.length:Nat):Int)=((j.length:Nat):Int))))) (Yl.bool (e:= !(decide (((h.length:Nat):Int)=((j.length:Nat):Int)))) yk decide_not.symm) (nt ?_)))))))))
 by_cases t:((h.length:Nat):Int)=((j.length:Nat):Int)
 refine jF (dF (not_not_intro t)) (sk (Wp.seq (sr (Mz rfl (Kz (.int .i64 ((h.length:Nat):Int)) (Mn rfl (bo ?_)))))))
 have au:Own w D w []:=H.pk []
 obtain⟨R,S⟩:∃ q:Nat→World→Prop,q=fun(i:Nat) w'=>Own w D w' []∧(i≤h.length∧dV j h 0=dV j (List.drop i h) i):=⟨_,rfl⟩
 have C:∀ {a:Nat} {w':World},R a w'↔Own w D w' []∧a≤h.length∧dV j h 0=dV j (List.drop a h) a:=by intros; subst S; exact Iff.rfl
 refine Wp.loop (fun i:Nat=> [(4, .bool false),(13, .int .i64 ((i:Nat):Int)),(12, .int .i64 ((h.length:Nat):Int)),(0, .slice m h.length I),(1, .slice n j.length J)]) R (fun i=>h.length - i) 0 ⟨rfl,rfl,rfl,rfl,rfl,trivial⟩ (C.2 ⟨au,by omega,rfl⟩) ?_
 rintro a av T
 show Wp _ _ _ [(4, .bool false),(13, .int .i64 ((a:Nat):Int)),(12, .int .i64 ((h.length:Nat):Int)),(0, .slice m h.length I),(1, .slice n j.length J)] _ _
 obtain⟨L,aF,r⟩:=C.1 T
 refine sr (Kz (.bool (decide (((a:Nat):Int) < ((h.length:Nat):Int)))) (nt (Wp.seq ?_)))
 by_cases U:((a:Nat):Int) < ((h.length:Nat):Int)
 obtain⟨f,o⟩:=eG (ls:=d0) (i:=a) ag.len (by decide) (L.ro s) (by first | omega | (simp; done) | (simp; omega))
 have V:=oI N o
 have aG:=(O _ (List.mem_of_getElem? o)).2
 have u:=drop_at V
 refine jT (dT U) (sk (Wp.seq (bo (sr (Mz rfl (An rfl (Wp.seq ?_)))))))
 have B:=L.drew
 refine Wp.drawnX [] (fun W=> ∃ L',Own w D W ([]++L')) (by kernel_rfl) (by kernel_rfl) (bO.then (bO.block (bO.then (bO.then (bO.block (bO.then bO.base)))))) ⟨_,B⟩ ?_
 revert B
 generalize World.drew av=aL
 intro B
 refine GX.take (v:= .slice m h.length I) (rs:= []) 0 rfl (by kernel_rfl) (fun _ _=>Yl.move rfl) (GX.take (v:= .int .i64 ((a:Nat):Int)) (rs:= []) 1 rfl (by kernel_rfl) (fun _ _=>Yl.move rfl) (GX.take (v:= .pointer (some ⟨ab m,ao m+a *3,none⟩)) (rs:= []) 2 rfl (by kernel_rfl) (fun _ ⟨_,l⟩=>Yl.indexAddr (mJ) rfl rfl ((l.ro s).addr (i:=a) (by omega)) (by omega)) (GX.take (v:= .pointer (some ⟨ab m,ao m+a *3,none⟩)) (rs:= []) 3 rfl (by kernel_rfl) (fun _ _=>yk) (GX.take (v:= .bool f.dX) (rs:= []) 4 rfl (by kernel_rfl) (fun _ ⟨_,l⟩=>Yl.load rfl (bu.one Tryz.isAgg4 (((l.ro s).elem ag.len o (by decide)).at_ (k:=0) rfl))) (GX.take (v:= .slice n j.length J) (rs:= []) 5 rfl (by kernel_rfl) (fun _ _=>Yl.move rfl) (GX.take (v:= .int .i64 ((a:Nat):Int)) (rs:= []) 6 rfl (by kernel_rfl) (fun _ _=>Yl.move rfl) ?_))))))
 obtain⟨g,p⟩:=kg (ls:=d1) (i:=a) (by first | omega | (simp; done) | (simp; omega))
 have y:=oI P p
 have aH:=(Q _ (List.mem_of_getElem? p)).2
 refine GX.take (v:= .pointer (some ⟨ab n,ao n+a *3,none⟩)) (rs:= []) 7 rfl (by kernel_rfl) (fun _ ⟨_,l⟩=>Yl.indexAddr (mJ) rfl rfl ((l.ro z).addr (i:=a) (by omega)) (by omega)) (GX.take (v:= .pointer (some ⟨ab n,ao n+a *3,none⟩)) (rs:= []) 8 rfl (by kernel_rfl) (fun _ _=>yk) (GX.take (v:= .bool g.dX) (rs:= []) 9 rfl (by kernel_rfl) (fun _ ⟨_,l⟩=>Yl.load rfl (bu.one Tryz.isAgg4 (((l.ro z).elem ag.len p (by decide)).at_ (k:=0) rfl))) (GX.take (v:= .bool (decide (¬ (f.dX=g.dX)))) (rs:= []) 10 rfl (by kernel_rfl) (fun _ _=>Yl.bool (e:= !(f.dX==g.dX)) yk (by first | (rw [Bool.beq_eq_decide_eq]; exact decide_not.symm) | (by_cases q:f.dX=g.dX <;> simp [q]))) (GX.take (v:= .bool (decide (¬ (f.dX=g.dX)))) (rs:= []) 11 rfl (by kernel_rfl) (fun _ _=>Yl.move rfl) ?_))))
 by_cases d:f.dX=g.dX
 refine GX.takeG (v:= .slice m h.length I) (rs:= []) 12 rfl rfl rfl (dF (not_not_intro d)) (by kernel_rfl) (fun _ _=>Yl.move rfl) (GX.takeG (v:= .int .i64 ((a:Nat):Int)) (rs:= []) 13 rfl rfl rfl (dF (not_not_intro d)) (by kernel_rfl) (fun _ _=>Yl.move rfl) (GX.takeG (v:= .pointer (some ⟨ab m,ao m+a *3,none⟩)) (rs:= []) 14 rfl rfl rfl (dF (not_not_intro d)) (by kernel_rfl) (fun _ ⟨_,l⟩=>Yl.indexAddr (mJ) rfl rfl ((l.ro s).addr (i:=a) (by omega)) (by omega)) (GX.takeG (v:= .pointer (some ⟨ab m,ao m+a *3+1,none⟩)) (rs:= []) 15 rfl rfl rfl (dF (not_not_intro d)) (by kernel_rfl) (fun _ _=>yk) (GX.takeG (v:= .string ⟨List.toArray f.au⟩) (rs:= []) 16 rfl rfl rfl (dF (not_not_intro d)) (by kernel_rfl) (fun _ ⟨_,l⟩=>Yl.load rfl (bu.one Tryz.isAgg9 (((l.ro s).elem ag.len o (by decide)).at_ (k:=1) rfl))) (GX.takeG (v:= .slice n j.length J) (rs:= []) 17 rfl rfl rfl (dF (not_not_intro d)) (by kernel_rfl) (fun _ _=>Yl.move rfl) (GX.takeG (v:= .int .i64 ((a:Nat):Int)) (rs:= []) 18 rfl rfl rfl (dF (not_not_intro d)) (by kernel_rfl) (fun _ _=>Yl.move rfl) (GX.takeG (v:= .pointer (some ⟨ab n,ao n+a *3,none⟩)) (rs:= []) 19 rfl rfl rfl (dF (not_not_intro d)) (by kernel_rfl) (fun _ ⟨_,l⟩=>Yl.indexAddr (mJ) rfl rfl ((l.ro z).addr (i:=a) (by omega)) (by omega)) (GX.takeG (v:= .pointer (some ⟨ab n,ao n+a *3+1,none⟩)) (rs:= []) 20 rfl rfl rfl (dF (not_not_intro d)) (by kernel_rfl) (fun _ _=>yk) (GX.takeG (v:= .string ⟨List.toArray g.au⟩) (rs:= []) 21 rfl rfl rfl (dF (not_not_intro d)) (by kernel_rfl) (fun _ ⟨_,l⟩=>Yl.load rfl (bu.one Tryz.isAgg9 (((l.ro z).elem ag.len p (by decide)).at_ (k:=1) rfl))) (GX.takeG (v:= .bool (decide (f.au≠g.au))) (rs:= []) 22 rfl rfl rfl (dF (not_not_intro d)) (by kernel_rfl) (fun _ _=>Yl.strNe rfl rfl) (GX.take (v:= .bool (decide (f.au≠g.au))) (rs:= []) 23 rfl (by kernel_rfl) (fun _ _=>Yl.pickF rfl (dF (not_not_intro d)) rfl) (GX.take (v:= .bool (decide (f.au≠g.au))) (rs:= []) 24 rfl (by kernel_rfl) (fun _ _=>Yl.move rfl) ?_))))))))))))
 by_cases b:f.au≠g.au
 refine GX.skipG (rs:= []) 25 rfl rfl rfl (dT b) (by kernel_rfl) (GX.skipG (rs:= []) 26 rfl rfl rfl (dT b) (by kernel_rfl) (GX.skipG (rs:= []) 27 rfl rfl rfl (dT b) (by kernel_rfl) (GX.skipG (rs:= []) 28 rfl rfl rfl (dT b) (by kernel_rfl) (GX.skipG (rs:= []) 29 rfl rfl rfl (dT b) (by kernel_rfl) (GX.skipG (rs:= []) 30 rfl rfl rfl (dT b) (by kernel_rfl) (GX.skipG (rs:= []) 31 rfl rfl rfl (dT b) (by kernel_rfl) (GX.skipG (rs:= []) 32 rfl rfl rfl (dT b) (by kernel_rfl) (GX.skipG (rs:= []) 33 rfl rfl rfl (dT b) (by kernel_rfl) (GX.skipG (rs:= []) 34 rfl rfl rfl (dT b) (by kernel_rfl) (GX.skipG (rs:= []) 35 rfl rfl rfl (dT b) (by kernel_rfl) (GX.skipG (rs:= []) 36 rfl rfl rfl (dT b) (by kernel_rfl) (GX.take (v:= .bool true) (rs:= []) 37 rfl (by kernel_rfl) (fun _ _=>Yl.pickT rfl (dT b) rfl) (GX.done (by kernel_rfl) (Fin.then (jt (sr (An rfl (rt (bR (tR (tR (bR (tR (rs ?_))))))))))))))))))))))))
 have ax:=B.pk []
 obtain rfl:_=false:=hr.symm.trans (et (ip t) (iH (et (r) (et (congrArg (fun q=>dV j q a) u) (et (aa (dA y)) (et (ip d) (ip b)))))))
 exact⟨rfl,ax⟩
 refine GX.takeG (v:= .slice m h.length I) (rs:= []) 25 rfl rfl rfl (dF b) (by kernel_rfl) (fun _ _=>Yl.move rfl) (GX.takeG (v:= .int .i64 ((a:Nat):Int)) (rs:= []) 26 rfl rfl rfl (dF b) (by kernel_rfl) (fun _ _=>Yl.move rfl) (GX.takeG (v:= .pointer (some ⟨ab m,ao m+a *3,none⟩)) (rs:= []) 27 rfl rfl rfl (dF b) (by kernel_rfl) (fun _ ⟨_,l⟩=>Yl.indexAddr (mJ) rfl rfl ((l.ro s).addr (i:=a) (by omega)) (by omega)) (GX.takeG (v:= .pointer (some ⟨ab m,ao m+a *3+2,none⟩)) (rs:= []) 28 rfl rfl rfl (dF b) (by kernel_rfl) (fun _ _=>yk) (GX.takeG (v:= .slice f.ay.A f.ay.ls.length f.ay.c) (rs:= []) 29 rfl rfl rfl (dF b) (by kernel_rfl) (fun _ ⟨_,l⟩=>Yl.load rfl (bu.one Tryz.isAgg82 (((l.ro s).elem ag.len o (by decide)).at_ (k:=2) rfl))) (GX.takeG (v:= .slice n j.length J) (rs:= []) 30 rfl rfl rfl (dF b) (by kernel_rfl) (fun _ _=>Yl.move rfl) (GX.takeG (v:= .int .i64 ((a:Nat):Int)) (rs:= []) 31 rfl rfl rfl (dF b) (by kernel_rfl) (fun _ _=>Yl.move rfl) (GX.takeG (v:= .pointer (some ⟨ab n,ao n+a *3,none⟩)) (rs:= []) 32 rfl rfl rfl (dF b) (by kernel_rfl) (fun _ ⟨_,l⟩=>Yl.indexAddr (mJ) rfl rfl ((l.ro z).addr (i:=a) (by omega)) (by omega)) (GX.takeG (v:= .pointer (some ⟨ab n,ao n+a *3+2,none⟩)) (rs:= []) 33 rfl rfl rfl (dF b) (by kernel_rfl) (fun _ _=>yk) (GX.takeG (v:= .slice g.ay.A g.ay.ls.length g.ay.c) (rs:= []) 34 rfl rfl rfl (dF b) (by kernel_rfl) (fun _ ⟨_,l⟩=>Yl.load rfl (bu.one Tryz.isAgg82 (((l.ro z).elem ag.len p (by decide)).at_ (k:=2) rfl))) ?_)))))))))
 obtain⟨G,E⟩:∃ q,kW f.ay.ls g.ay.ls=q:=⟨_,rfl⟩
 obtain⟨aM,X,K,Y,aI⟩:=Own.enter0 B
 refine GX.doG 35 rfl rfl rfl (dF b) (by kernel_rfl) (Do.call Tryz.call97 rfl (qN _ _ f.ay.A f.ay.ls.length f.ay.c f.ay.ls g.ay.A g.ay.ls.length g.ay.c g.ay.ls G X (K _ (O _ (List.mem_of_getElem? o)).1) rfl (by omega) (K _ (Q _ (List.mem_of_getElem? p)).1) rfl (by omega) E) ?_)
 rintro _ aN ⟨rfl,Z⟩
 have M:=Y _ _ Z
 refine⟨.inr ⟨_,M⟩, ?_⟩
 refine GX.takeG (v:= .bool (!G)) (rs:= []) 36 rfl rfl rfl (dF b) (by kernel_rfl) (fun _ _=>yk) (GX.take (v:= .bool (!G)) (rs:= []) 37 rfl (by kernel_rfl) (fun _ _=>Yl.pickF rfl (dF b) rfl) (GX.done (by kernel_rfl) (Fin.then ?_)))
 rcases Bool.eq_false_or_eq_true (G) with F | F
 refine jF (cn F) (Wp.skip (bN (Fin.then (Wp.region (fw (.int .i64 ((a+1:Nat):Int)) (Yl.int (e:=IntKind.i64.wrap (((a:Nat):Int)+1)) yk (by rw [IntWalk.i64_in _ (by omega)]; omega)) (Mz rfl (WL.nil ?_)))))))
 have ay:=M.pk []
 exact Fin.round (a+1) ⟨rfl,rfl,rfl,rfl,rfl,trivial⟩ (C.2 ⟨ay,by omega,et (r) (et (congrArg (fun q=>dV j q a) u) (et (aa (dA y)) (et (ip d) (et (iN b) (et (aa E) (ip F))))))⟩) (by show h.length - (a+1) < h.length - a; omega)
 refine jT (cn F) (sr (An rfl (rt (bR (tR (tR (bR (tR (rs ?_)))))))))
 have az:=M.pk []
 obtain rfl:_=false:=hr.symm.trans (et (ip t) (iH (et (r) (et (congrArg (fun q=>dV j q a) u) (et (aa (dA y)) (et (ip d) (et (iN b) (et (aa E) (dn F)))))))))
 exact⟨rfl,az⟩
 refine GX.skipG (rs:= []) 12 rfl rfl rfl (dT d) (by kernel_rfl) (GX.skipG (rs:= []) 13 rfl rfl rfl (dT d) (by kernel_rfl) (GX.skipG (rs:= []) 14 rfl rfl rfl (dT d) (by kernel_rfl) (GX.skipG (rs:= []) 15 rfl rfl rfl (dT d) (by kernel_rfl) (GX.skipG (rs:= []) 16 rfl rfl rfl (dT d) (by kernel_rfl) (GX.skipG (rs:= []) 17 rfl rfl rfl (dT d) (by kernel_rfl) (GX.skipG (rs:= []) 18 rfl rfl rfl (dT d) (by kernel_rfl) (GX.skipG (rs:= []) 19 rfl rfl rfl (dT d) (by kernel_rfl) (GX.skipG (rs:= []) 20 rfl rfl rfl (dT d) (by kernel_rfl) (GX.skipG (rs:= []) 21 rfl rfl rfl (dT d) (by kernel_rfl) (GX.skipG (rs:= []) 22 rfl rfl rfl (dT d) (by kernel_rfl) (GX.take (v:= .bool true) (rs:= []) 23 rfl (by kernel_rfl) (fun _ _=>Yl.pickT rfl (dT d) rfl) (GX.take (v:= .bool true) (rs:= []) 24 rfl (by kernel_rfl) (fun _ _=>Yl.move rfl) (GX.skipG (rs:= []) 25 rfl rfl rfl rfl (by kernel_rfl) (GX.skipG (rs:= []) 26 rfl rfl rfl rfl (by kernel_rfl) (GX.skipG (rs:= []) 27 rfl rfl rfl rfl (by kernel_rfl) (GX.skipG (rs:= []) 28 rfl rfl rfl rfl (by kernel_rfl) (GX.skipG (rs:= []) 29 rfl rfl rfl rfl (by kernel_rfl) (GX.skipG (rs:= []) 30 rfl rfl rfl rfl (by kernel_rfl) (GX.skipG (rs:= []) 31 rfl rfl rfl rfl (by kernel_rfl) (GX.skipG (rs:= []) 32 rfl rfl rfl rfl (by kernel_rfl) (GX.skipG (rs:= []) 33 rfl rfl rfl rfl (by kernel_rfl) (GX.skipG (rs:= []) 34 rfl rfl rfl rfl (by kernel_rfl) (GX.skipG (rs:= []) 35 rfl rfl rfl rfl (by kernel_rfl) (GX.skipG (rs:= []) 36 rfl rfl rfl rfl (by kernel_rfl) (GX.take (v:= .bool true) (rs:= []) 37 rfl (by kernel_rfl) (fun _ _=>Yl.pickT rfl rfl rfl) (GX.done (by kernel_rfl) (Fin.then (jt (sr (An rfl (rt (bR (tR (tR (bR (tR ?_))))))))))))))))))))))))))))))))))))
 refine rs ?_
 have aA:=B.pk []
 obtain rfl:_=false:=hr.symm.trans (et (ip t) (iH (et (r) (et (congrArg (fun q=>dV j q a) u) (et (aa (dA y)) (iN d))))))
 exact⟨rfl,aA⟩
 refine jF (dF U) (Wp.exit (Fin.thenX ?_))
 have ae:dV j h 0=Sum.inl ():=et (r) (et (congrArg (fun q=>dV j q a) (dY (ls:=h) (i:=a) (by omega))) rfl)
 refine Fin.thenX (Fin.blockX (Fin.then (sr (An rfl (rt (rs ?_))))))
 have aB:=L.pk []
 obtain rfl:_=true:=hr.symm.trans (et (ip t) (kF ae))
 exact⟨rfl,aB⟩
 refine jT (dT t) (sr (An rfl (rt (tR (rs ?_)))))
 have aC:Own w D w []:=H.pk []
 obtain rfl:_=false:=hr.symm.trans (iN t)
 exact⟨rfl,aC⟩
def iy (e:List aA):List aA→Nat→Unit ⊕ Bool
  | [],b=>Sum.inl ()
  | c::d,b=>bnd (List.getD e b default) fun a=>if(c.aD=a.aD)∧(c.di=a.di) then iy e d (b+1) else Sum.inr (false)
def ku (a:List aA) (b:List aA):Bool:=
 if((a.length:Nat):Int)=((b.length:Nat):Int) then lp (iy b a 0) fun _=>true else false
theorem sH (w:World) (D:Nat→Prop) (m:Option Addr) (n0 y:Nat) (b:List aA) (n:Option Addr) (I z:Nat) (f:List aA) (R:Bool) (H:Own w D w []) (s:Ro w D fun w'=>bD w' 2 m n0 (List.flatMap aA.cells b)) (J:n0=b.length) (T:b.length≤9223372036854775807) (A:Ro w D fun w'=>bD w' 2 n I (List.flatMap aA.cells f)) (K:I=f.length) (U:f.length≤9223372036854775807) (hr:ku b f=R):
    Calls Tryz.prog 50 #[.slice m n0 y, .slice n I z] w (cK fun v w'=>v= .bool R∧Own w D w' []):=by
 subst J K
 refine Calls.body (args:= [.slice m b.length y, .slice n f.length z]) Tryz.func50 rfl rfl rfl ?_
 show Wp _ _ _ [(0, .slice m b.length y),(1, .slice n f.length z)] _ _
 refine sr (An rfl (Wp.seq (sr (Mz rfl (Kz (.int .i64 ((b.length:Nat):Int)) (Mz rfl (Kz (.int .i64 ((f.length:Nat):Int)) (fw (.bool (decide (¬ (((b.length:Nat):Int)=((f.length:Nat):Int))))) (Yl.bool (e:= !(decide (((b.length:Nat):Int)=((f.length:Nat):Int)))) yk decide_not.symm) (nt ?_)))))))))
 by_cases g:((b.length:Nat):Int)=((f.length:Nat):Int)
 refine jF (dF (not_not_intro g)) (sk (Wp.seq (sr (Mz rfl (Kz (.int .i64 ((b.length:Nat):Int)) (Mn rfl (bo ?_)))))))
 have L:Own w D w []:=H.pk []
 obtain⟨B,C⟩:∃ q:Nat→World→Prop,q=fun(i:Nat) w'=>Own w D w' []∧(i≤b.length∧iy f b 0=iy f (List.drop i b) i):=⟨_,rfl⟩
 have h:∀ {a:Nat} {w':World},B a w'↔Own w D w' []∧a≤b.length∧iy f b 0=iy f (List.drop a b) a:=by intros; subst C; exact Iff.rfl
 refine Wp.loop (fun i:Nat=> [(4, .bool false),(13, .int .i64 ((i:Nat):Int)),(12, .int .i64 ((b.length:Nat):Int)),(0, .slice m b.length y),(1, .slice n f.length z)]) B (fun i=>b.length - i) 0 ⟨rfl,rfl,rfl,rfl,rfl,trivial⟩ (h.2 ⟨L,by omega,rfl⟩) ?_
 rintro a M E
 show Wp _ _ _ [(4, .bool false),(13, .int .i64 ((a:Nat):Int)),(12, .int .i64 ((b.length:Nat):Int)),(0, .slice m b.length y),(1, .slice n f.length z)] _ _
 obtain⟨t,S,j⟩:=h.1 E
 refine sr (Kz (.bool (decide (((a:Nat):Int) < ((b.length:Nat):Int)))) (nt (Wp.seq ?_)))
 by_cases F:((a:Nat):Int) < ((b.length:Nat):Int)
 obtain⟨c,p⟩:=eG (ls:=b) (i:=a) aA.len (by decide) (t.ro s) (by first | omega | (simp; done) | (simp; omega))
 have r:=drop_at p
 refine jT (dT F) (sk (Wp.seq (bo (sr (Mz rfl (An rfl (Wp.seq ?_)))))))
 have k:=t.drew
 refine Wp.drawnX [] (fun W=> ∃ L',Own w D W ([]++L')) (by kernel_rfl) (by kernel_rfl) (bO.then (bO.block (bO.then (bO.then (bO.block (bO.then bO.base)))))) ⟨_,k⟩ ?_
 revert k
 generalize World.drew M=V
 intro k
 refine GX.take (v:= .slice m b.length y) (rs:= []) 0 rfl (by kernel_rfl) (fun _ _=>Yl.move rfl) (GX.take (v:= .int .i64 ((a:Nat):Int)) (rs:= []) 1 rfl (by kernel_rfl) (fun _ _=>Yl.move rfl) (GX.take (v:= .pointer (some ⟨ab m,ao m+a *2,none⟩)) (rs:= []) 2 rfl (by kernel_rfl) (fun _ ⟨_,x⟩=>Yl.indexAddr (lV) rfl rfl ((x.ro s).addr (i:=a) (by omega)) (by omega)) (GX.take (v:= .agg (aA.cells c).toArray) (rs:= []) 3 rfl (by kernel_rfl) (fun _ ⟨_,x⟩=>Yl.load rfl (bu.agg (cs:=(aA.cells c)) Tryz.isAgg88 Tryz.sizeOf88 ((x.ro s).elem aA.len p (by decide)))) (GX.take (v:= .slice n f.length z) (rs:= []) 4 rfl (by kernel_rfl) (fun _ _=>Yl.move rfl) (GX.take (v:= .int .i64 ((a:Nat):Int)) (rs:= []) 5 rfl (by kernel_rfl) (fun _ _=>Yl.move rfl) ?_)))))
 obtain⟨d,l⟩:=kg (ls:=f) (i:=a) (by first | omega | (simp; done) | (simp; omega))
 refine GX.take (v:= .pointer (some ⟨ab n,ao n+a *2,none⟩)) (rs:= []) 6 rfl (by kernel_rfl) (fun _ ⟨_,x⟩=>Yl.indexAddr (lV) rfl rfl ((x.ro A).addr (i:=a) (by omega)) (by omega)) (GX.take (v:= .agg (aA.cells d).toArray) (rs:= []) 7 rfl (by kernel_rfl) (fun _ ⟨_,x⟩=>Yl.load rfl (bu.agg (cs:=(aA.cells d)) Tryz.isAgg88 Tryz.sizeOf88 ((x.ro A).elem aA.len l (by decide)))) (GX.take (v:= .bool (decide (¬ ((c.aD=d.aD)∧(c.di=d.di))))) (rs:= []) 8 rfl (by kernel_rfl) (fun _ _=>Yl.bool (e:= !(decide ((c.aD=d.aD)∧(c.di=d.di)))) (Yl.neAgg rfl rfl (by kernel_rfl) rfl (fB.struct Tryz.underlying88 (by kernel_rfl) (eD.dec (eD.cons (u:= .string ⟨List.toArray c.aD⟩) (v:= .string ⟨List.toArray d.aD⟩) (by decide) (fun _=>by kernel_rfl) (fun _=>by kernel_rfl) (fB.string Tryz.underlying9) (eD.cons (u:= .int .i64 c.di) (v:= .int .i64 d.di) (by decide) (fun _=>by kernel_rfl) (fun _=>by kernel_rfl) (fB.int Tryz.underlying3) (eD.nil.up (Nat.zero_le _)))) ((congrArg (decide (c.aD=d.aD) && ·) jC).trans ek)))) decide_not.symm) (GX.done (by kernel_rfl) (Fin.then ?_))))
 by_cases o:(c.aD=d.aD)∧(c.di=d.di)
 refine jF (dF (not_not_intro o)) (Wp.skip (bN (Fin.then (Wp.region (fw (.int .i64 ((a+1:Nat):Int)) (Yl.int (e:=IntKind.i64.wrap (((a:Nat):Int)+1)) yk (by rw [IntWalk.i64_in _ (by omega)]; omega)) (Mz rfl (WL.nil ?_)))))))
 have N:=k.pk []
 exact Fin.round (a+1) ⟨rfl,rfl,rfl,rfl,rfl,trivial⟩ (h.2 ⟨N,by omega,et (j) (et (congrArg (fun q=>iy f q a) r) (et (aa (dA l)) (ip o)))⟩) (by show b.length - (a+1) < b.length - a; omega)
 refine jT (dT o) (sr (An rfl (rt (bR (tR (tR (bR (tR (rs ?_)))))))))
 have O:=k.pk []
 obtain rfl:_=false:=hr.symm.trans (et (ip g) (iH (et (j) (et (congrArg (fun q=>iy f q a) r) (et (aa (dA l)) (iN o))))))
 exact⟨rfl,O⟩
 refine jF (dF F) (Wp.exit (Fin.thenX ?_))
 have G:iy f b 0=Sum.inl ():=et (j) (et (congrArg (fun q=>iy f q a) (dY (ls:=b) (i:=a) (by omega))) rfl)
 refine Fin.thenX (Fin.blockX (Fin.then (sr (An rfl (rt (rs ?_))))))
 have P:=t.pk []
 obtain rfl:_=true:=hr.symm.trans (et (ip g) (kF G))
 exact⟨rfl,P⟩
 refine jT (dT g) (sr (An rfl (rt (tR (rs ?_)))))
 have Q:Own w D w []:=H.pk []
 obtain rfl:_=false:=hr.symm.trans (iN g)
 exact⟨rfl,Q⟩
def mU (a:bG) (b:bG):Bool:=
 if((a.bF:Nat):Int)=((b.bF:Nat):Int) then if((a.aY:Nat):Int)=((b.aY:Nat):Int) then if((a.bE:Nat):Int)=((b.bE:Nat):Int) then if((a.bH:Nat):Int)=((b.bH:Nat):Int) then if((a.bL:Nat):Int)=((b.bL:Nat):Int) then if((a.aS:Nat):Int)=((b.aS:Nat):Int) then if((a.bB:Nat):Int)=((b.bB:Nat):Int) then if((a.aK:Nat):Int)=((b.aK:Nat):Int) then if((a.xN:Nat):Int)=((b.xN:Nat):Int) then bnd (if a.ae=b.ae then decide (a.bn=b.bn) else false) fun sJrtttttttttR=>bnd (if sJrtttttttttR=true then decide (a.dm=b.dm) else false) fun sJrtttttttttRaR=>bnd (if sJrtttttttttRaR=true then decide (a.aO=b.aO) else false) fun sJrtttttttttRaRaR=>bnd (if sJrtttttttttRaRaR=true then decide (a.bq=b.bq) else false) fun sJrtttttttttRaRaRaR=>bnd (if sJrtttttttttRaRaRaR=true then decide (a.bM=b.bM) else false) fun sJrtttttttttRaRaRaRaR=>bnd (if sJrtttttttttRaRaRaRaR=true then decide (a.bV=b.bV) else false) fun sJrtttttttttRaRaRaRaRaR=>bnd (if sJrtttttttttRaRaRaRaRaR=true then decide ((a.aG.aD=b.aG.aD)∧(a.aG.aI=b.aG.aI)) else false) fun sJrtttttttttRaRaRaRaRaRaR=>bnd (if sJrtttttttttRaRaRaRaRaRaR=true then bnd (ji a.az.ls b.az.ls) fun c=>c else false) fun sJrtttttttttRaRaRaRaRaRaRaR=>bnd (if sJrtttttttttRaRaRaRaRaRaRaR=true then bnd (ig a.ai.ls b.ai.ls) fun d=>d else false) fun sJrtttttttttRaRaRaRaRaRaRaRaR=>bnd (if sJrtttttttttRaRaRaRaRaRaRaRaR=true then bnd (ku a.aj.ls b.aj.ls) fun e=>e else false) fun sJrtttttttttRaRaRaRaRaRaRaRaRaR=>sJrtttttttttRaRaRaRaRaRaRaRaRaR else false else false else false else false else false else false else false else false else false
set_option maxHeartbeats 4000000 in
theorem sI (w:World) (D:Nat→Prop) (a:bG) (l:Option Addr) (dh m:Nat) (n:Option Addr) (di o:Nat) (aS:List ag) (p:Option Addr) (dm r:Nat) (b:bG) (s:Option Addr) (dw t:Nat) (z:Option Addr) (dx B:Nat) (aT:List ag) (C:Option Addr) (dz E:Nat) (r0:Bool) (H:Own w D w []) (dG:dh=a.az.ls.length) (dH:Ro w D fun w'=>bD w' 6 l a.az.ls.length (List.flatMap aB.cells a.az.ls)) (gD:a.az.ls.length≤m∧a.az.ls.length≤9223372036854775807) (bA:List.map ag.abs aS=a.ai.ls) (dI:di=a.ai.ls.length) (dJ:Ro w D fun w'=>bD w' 3 n a.ai.ls.length (List.flatMap ag.cells aS)) (gF:a.ai.ls.length≤o∧a.ai.ls.length≤9223372036854775807) (bB:∀ x ∈ aS,Ro w D (fun w'=>bD w' 2 x.ay.A x.ay.ls.length (List.flatMap aW.cells x.ay.ls))∧(x.ay.ls.length≤x.ay.c∧x.ay.ls.length≤9223372036854775807)) (dK:dm=a.aj.ls.length) (dL:Ro w D fun w'=>bD w' 2 p a.aj.ls.length (List.flatMap aA.cells a.aj.ls)) (gG:a.aj.ls.length≤r∧a.aj.ls.length≤9223372036854775807) (dN:dw=b.az.ls.length) (dO:Ro w D fun w'=>bD w' 6 s b.az.ls.length (List.flatMap aB.cells b.az.ls)) (gH:b.az.ls.length≤t∧b.az.ls.length≤9223372036854775807) (bE:List.map ag.abs aT=b.ai.ls) (dP:dx=b.ai.ls.length) (dQ:Ro w D fun w'=>bD w' 3 z b.ai.ls.length (List.flatMap ag.cells aT)) (gI:b.ai.ls.length≤B∧b.ai.ls.length≤9223372036854775807) (bF:∀ x ∈ aT,Ro w D (fun w'=>bD w' 2 x.ay.A x.ay.ls.length (List.flatMap aW.cells x.ay.ls))∧(x.ay.ls.length≤x.ay.c∧x.ay.ls.length≤9223372036854775807)) (dR:dz=b.aj.ls.length) (dS:Ro w D fun w'=>bD w' 2 C b.aj.ls.length (List.flatMap aA.cells b.aj.ls)) (gJ:b.aj.ls.length≤E∧b.aj.ls.length≤9223372036854775807) (hr:mU a b=r0):
    Calls Tryz.prog 15 #[.agg (bf a.ae a.bn a.dm a.aO a.bq a.bM a.bF a.aY a.bE a.bH a.bL a.aS a.bB a.aK a.xN a.bV a.aG.aD a.aG.aI l dh m n di o p dm r).toArray, .agg (bf b.ae b.bn b.dm b.aO b.bq b.bM b.bF b.aY b.bE b.bH b.bL b.aS b.bB b.aK b.xN b.bV b.aG.aD b.aG.aI s dw t z dx B C dz E).toArray] w (cK fun v w'=>v= .bool r0∧Own w D w' []):=by
 subst dG dI dK dN dP dR
 have hdl0x1:=dM bA
 have hdl1x1:=dM bE
 refine Calls.body (args:= [.agg (aV a l m n o p r).toArray, .agg (aV b s t z B C E).toArray]) Tryz.func15 rfl rfl rfl ?_
 show Wp _ _ _ [(0, .agg (aV a l m n o p r).toArray),(1, .agg (aV b s t z B C E).toArray)] _ _
 refine sr ?_
 refine dD (aV a l m n o p r) 29 H ?_
 intro d iR gK
 refine dD (aV b s t z B C E) 29 gK ?_
 intro f iT gL
 refine An rfl (Wp.seq (sr ?_))
 refine iP [.int .u8 113, .int .u8 98, .int .u8 116, .int .u8 108, .int .u8 118, .int .u8 101, .int .u8 109, .int .u8 97, .int .u8 110] 5 1 9 gL ?_
 intro g iU dU
 replace dU:=Own.reh (y:=row g 9 9 (List.flatMap eB ([113,98,116,108,118,101,109,97,110])) 5 1) rfl dU
 refine WL.do rfl (Do.mark Tryz.underlying31 Tryz.underlying5 dU (by omega) rfl ?_)
 intro gM dV
 refine Kz (.int .i64 9) (Mn rfl (bo (Wp.unroll 200 (sr (Kz (.bool true) (nt (Wp.seq (jt (sk (Wp.seq (bo (sr ?_))))))))))))
 have eH:([113,98,116,108,118,101,109,97,110]:List UInt8)[0]? =some 113:=rfl
 refine fw (.pointer (some ⟨ab g,ao g+0 *1,none⟩)) (Yl.indexAddr (bW) rfl rfl ((dV.rds (i:=0) rfl).addr (i:=0) (by omega)) (by omega)) (fw (.int .u8 113) (Yl.load rfl (bu.one Tryz.isAgg5 (((dV.rds (i:=0) rfl).elem av eH (by decide)).at_ (k:=0) rfl))) (An rfl (Wp.seq ?_)))
 have ak:=dV.drew
 refine Wp.drawnX [] (fun W=> ∃ L',Own w D W ([row g 9 9 (List.flatMap eB ([113,98,116,108,118,101,109,97,110])) 5 1,blk f (aV b s t z B C E) 29,blk d (aV a l m n o p r) 29]++L')) (by kernel_rfl) (by kernel_rfl) (bO.then (bO.block (bO.then (bO.then (bO.block (bO.then bO.base)))))) ⟨_,ak⟩ ?_
 revert ak
 generalize World.drew gM=gN
 intro ak
 refine GX.take (v:= .int .u8 113) (rs:= []) 0 rfl (by kernel_rfl) (fun _ _=>Yl.move rfl) (GX.take (v:= .int .u8 113) (rs:= []) 4 rfl (by kernel_rfl) (fun _ _=>Yl.move rfl) ?_)
 refine GX.do 1 rfl (by kernel_rfl) (Do.call Tryz.call47 rfl ?_ (fun _ _ k=>k))
 refine Calls.body (args:= [.pointer (some ⟨d,0,none⟩), .int .u8 113]) Tryz.func47 rfl rfl rfl ?_
 show Wp _ _ _ [(0, .pointer (some ⟨d,0,none⟩)),(1, .int .u8 113)] _ _
 refine sr (An rfl (Wp.seq (sr (Mn rfl (bo (sr (Kz (.bool true) (An rfl (jt (sr (Mz rfl (Kz (.pointer (some ⟨d,0,none⟩)) (Kz (.pointer (some ⟨d,6,none⟩)) (An rfl (rt (bR (tR (rs ?_))))))))))))))))))
 refine⟨.inr ⟨_,ak⟩, ?_⟩
 refine GX.take (v:= .pointer (some ⟨d,6,none⟩)) (rs:= []) 2 rfl (by kernel_rfl) (fun _ _=>yk) (GX.take (v:= .int .u64 ((a.bF:Nat):Int)) (rs:= []) 3 rfl (by kernel_rfl) (fun _ ⟨_,S⟩=>Yl.load rfl (bu.one Tryz.isAgg22 (fG.of (S.cls (i:=2) rfl) rfl))) ?_)
 refine GX.do 5 rfl (by kernel_rfl) (Do.call Tryz.call47 rfl ?_ (fun _ _ k=>k))
 refine Calls.body (args:= [.pointer (some ⟨f,0,none⟩), .int .u8 113]) Tryz.func47 rfl rfl rfl ?_
 show Wp _ _ _ [(0, .pointer (some ⟨f,0,none⟩)),(1, .int .u8 113)] _ _
 refine sr (An rfl (Wp.seq (sr (Mn rfl (bo (sr (Kz (.bool true) (An rfl (jt (sr (Mz rfl (Kz (.pointer (some ⟨f,0,none⟩)) (Kz (.pointer (some ⟨f,6,none⟩)) (An rfl (rt (bR (tR (rs ?_))))))))))))))))))
 refine⟨.inr ⟨_,ak⟩, ?_⟩
 refine GX.take (v:= .pointer (some ⟨f,6,none⟩)) (rs:= []) 6 rfl (by kernel_rfl) (fun _ _=>yk) (GX.take (v:= .int .u64 ((b.bF:Nat):Int)) (rs:= []) 7 rfl (by kernel_rfl) (fun _ ⟨_,S⟩=>Yl.load rfl (bu.one Tryz.isAgg22 (fG.of (S.cls (i:=1) rfl) rfl))) (GX.take (v:= .bool (decide (¬ (((a.bF:Nat):Int)=((b.bF:Nat):Int))))) (rs:= []) 8 rfl (by kernel_rfl) (fun _ _=>Yl.bool (e:= !(decide (((a.bF:Nat):Int)=((b.bF:Nat):Int)))) yk decide_not.symm) (GX.done (by kernel_rfl) (Fin.then ?_))))
 by_cases ah:((a.bF:Nat):Int)=((b.bF:Nat):Int)
 refine jF (dF (not_not_intro ah)) (Wp.skip (bN (Fin.then (Wp.region (Kz (.int .i64 1) (Mz rfl (WL.nil (Fin.again [(10, .int .i64 1),(9, .int .i64 9),(8, .slice g 9 9),(4, .bool false),(3, .pointer (some ⟨f,0,none⟩)),(2, .pointer (some ⟨d,0,none⟩))] ⟨rfl,rfl,rfl,rfl,rfl,rfl,trivial⟩ (sr (Kz (.bool true) (nt (Wp.seq (jt (sk (Wp.seq (bo (sr ?_)))))))))))))))))
 have eO:([113,98,116,108,118,101,109,97,110]:List UInt8)[1]? =some 98:=rfl
 refine fw (.pointer (some ⟨ab g,ao g+1 *1,none⟩)) (Yl.indexAddr (bW) rfl rfl ((ak.rds (i:=0) rfl).addr (i:=1) (by omega)) (by omega)) (fw (.int .u8 98) (Yl.load rfl (bu.one Tryz.isAgg5 (((ak.rds (i:=0) rfl).elem av eO (by decide)).at_ (k:=0) rfl))) (An rfl (Wp.seq ?_)))
 have au:=ak.drew
 refine Wp.drawnX [] (fun W=> ∃ L',Own w D W ([row g 9 9 (List.flatMap eB ([113,98,116,108,118,101,109,97,110])) 5 1,blk f (aV b s t z B C E) 29,blk d (aV a l m n o p r) 29]++L')) (by kernel_rfl) (by kernel_rfl) (bO.then (bO.block (bO.then (bO.then (bO.block (bO.then bO.base)))))) ⟨_,au⟩ ?_
 revert au
 generalize World.drew gN=gP
 intro au
 refine GX.take (v:= .int .u8 98) (rs:= []) 0 rfl (by kernel_rfl) (fun _ _=>Yl.move rfl) (GX.take (v:= .int .u8 98) (rs:= []) 4 rfl (by kernel_rfl) (fun _ _=>Yl.move rfl) ?_)
 refine GX.do 1 rfl (by kernel_rfl) (Do.call Tryz.call47 rfl ?_ (fun _ _ k=>k))
 refine Calls.body (args:= [.pointer (some ⟨d,0,none⟩), .int .u8 98]) Tryz.func47 rfl rfl rfl ?_
 show Wp _ _ _ [(0, .pointer (some ⟨d,0,none⟩)),(1, .int .u8 98)] _ _
 refine sr (An rfl (Wp.seq (sr (Mn rfl (bo (sr (Kz (.bool false) (An rfl (jf (sr (Kz (.bool true) (An rfl (jt (sr (Mz rfl (Kz (.pointer (some ⟨d,0,none⟩)) (Kz (.pointer (some ⟨d,7,none⟩)) (An rfl (rt (bR (tR (rs ?_))))))))))))))))))))))
 refine⟨.inr ⟨_,au⟩, ?_⟩
 refine GX.take (v:= .pointer (some ⟨d,7,none⟩)) (rs:= []) 2 rfl (by kernel_rfl) (fun _ _=>yk) (GX.take (v:= .int .u64 ((a.aY:Nat):Int)) (rs:= []) 3 rfl (by kernel_rfl) (fun _ ⟨_,S⟩=>Yl.load rfl (bu.one Tryz.isAgg22 (fG.of (S.cls (i:=2) rfl) rfl))) ?_)
 refine GX.do 5 rfl (by kernel_rfl) (Do.call Tryz.call47 rfl ?_ (fun _ _ k=>k))
 refine Calls.body (args:= [.pointer (some ⟨f,0,none⟩), .int .u8 98]) Tryz.func47 rfl rfl rfl ?_
 show Wp _ _ _ [(0, .pointer (some ⟨f,0,none⟩)),(1, .int .u8 98)] _ _
 refine sr (An rfl (Wp.seq (sr (Mn rfl (bo (sr (Kz (.bool false) (An rfl (jf (sr (Kz (.bool true) (An rfl (jt (sr (Mz rfl (Kz (.pointer (some ⟨f,0,none⟩)) (Kz (.pointer (some ⟨f,7,none⟩)) (An rfl (rt (bR (tR (rs ?_))))))))))))))))))))))
 refine⟨.inr ⟨_,au⟩, ?_⟩
 refine GX.take (v:= .pointer (some ⟨f,7,none⟩)) (rs:= []) 6 rfl (by kernel_rfl) (fun _ _=>yk) (GX.take (v:= .int .u64 ((b.aY:Nat):Int)) (rs:= []) 7 rfl (by kernel_rfl) (fun _ ⟨_,S⟩=>Yl.load rfl (bu.one Tryz.isAgg22 (fG.of (S.cls (i:=1) rfl) rfl))) (GX.take (v:= .bool (decide (¬ (((a.aY:Nat):Int)=((b.aY:Nat):Int))))) (rs:= []) 8 rfl (by kernel_rfl) (fun _ _=>Yl.bool (e:= !(decide (((a.aY:Nat):Int)=((b.aY:Nat):Int)))) yk decide_not.symm) (GX.done (by kernel_rfl) (Fin.then ?_))))
 by_cases ai:((a.aY:Nat):Int)=((b.aY:Nat):Int)
 refine jF (dF (not_not_intro ai)) (Wp.skip (bN (Fin.then (Wp.region (Kz (.int .i64 2) (Mz rfl (WL.nil (Fin.again [(10, .int .i64 2),(9, .int .i64 9),(8, .slice g 9 9),(4, .bool false),(3, .pointer (some ⟨f,0,none⟩)),(2, .pointer (some ⟨d,0,none⟩))] ⟨rfl,rfl,rfl,rfl,rfl,rfl,trivial⟩ (sr (Kz (.bool true) (nt (Wp.seq (jt (sk (Wp.seq (bo (sr ?_)))))))))))))))))
 have eP:([113,98,116,108,118,101,109,97,110]:List UInt8)[2]? =some 116:=rfl
 refine fw (.pointer (some ⟨ab g,ao g+2 *1,none⟩)) (Yl.indexAddr (bW) rfl rfl ((au.rds (i:=0) rfl).addr (i:=2) (by omega)) (by omega)) (fw (.int .u8 116) (Yl.load rfl (bu.one Tryz.isAgg5 (((au.rds (i:=0) rfl).elem av eP (by decide)).at_ (k:=0) rfl))) (An rfl (Wp.seq ?_)))
 have ax:=au.drew
 refine Wp.drawnX [] (fun W=> ∃ L',Own w D W ([row g 9 9 (List.flatMap eB ([113,98,116,108,118,101,109,97,110])) 5 1,blk f (aV b s t z B C E) 29,blk d (aV a l m n o p r) 29]++L')) (by kernel_rfl) (by kernel_rfl) (bO.then (bO.block (bO.then (bO.then (bO.block (bO.then bO.base)))))) ⟨_,ax⟩ ?_
 revert ax
 generalize World.drew gP=gQ
 intro ax
 refine GX.take (v:= .int .u8 116) (rs:= []) 0 rfl (by kernel_rfl) (fun _ _=>Yl.move rfl) (GX.take (v:= .int .u8 116) (rs:= []) 4 rfl (by kernel_rfl) (fun _ _=>Yl.move rfl) ?_)
 refine GX.do 1 rfl (by kernel_rfl) (Do.call Tryz.call47 rfl ?_ (fun _ _ k=>k))
 refine Calls.body (args:= [.pointer (some ⟨d,0,none⟩), .int .u8 116]) Tryz.func47 rfl rfl rfl ?_
 show Wp _ _ _ [(0, .pointer (some ⟨d,0,none⟩)),(1, .int .u8 116)] _ _
 refine sr (An rfl (Wp.seq (sr (Mn rfl (bo (sr (Kz (.bool false) (An rfl (jf (sr (Kz (.bool false) (An rfl (jf (sr (Kz (.bool true) (An rfl (jt (sr (Mz rfl (Kz (.pointer (some ⟨d,0,none⟩)) (Kz (.pointer (some ⟨d,8,none⟩)) (Az rfl (WL.nil ?_)))))))))))))))))))))))
 refine Fin.then (rt (bR (tR (rs ?_))))
 refine⟨.inr ⟨_,ax⟩, ?_⟩
 refine GX.take (v:= .pointer (some ⟨d,8,none⟩)) (rs:= []) 2 rfl (by kernel_rfl) (fun _ _=>yk) (GX.take (v:= .int .u64 ((a.bE:Nat):Int)) (rs:= []) 3 rfl (by kernel_rfl) (fun _ ⟨_,S⟩=>Yl.load rfl (bu.one Tryz.isAgg22 (fG.of (S.cls (i:=2) rfl) rfl))) ?_)
 refine GX.do 5 rfl (by kernel_rfl) (Do.call Tryz.call47 rfl ?_ (fun _ _ k=>k))
 refine Calls.body (args:= [.pointer (some ⟨f,0,none⟩), .int .u8 116]) Tryz.func47 rfl rfl rfl ?_
 show Wp _ _ _ [(0, .pointer (some ⟨f,0,none⟩)),(1, .int .u8 116)] _ _
 refine sr (An rfl (Wp.seq (sr (Mn rfl (bo (sr (Kz (.bool false) (An rfl (jf (sr (Kz (.bool false) (An rfl (jf (sr (Kz (.bool true) (An rfl (jt (sr (Mz rfl (Kz (.pointer (some ⟨f,0,none⟩)) (Kz (.pointer (some ⟨f,8,none⟩)) (Az rfl (WL.nil ?_)))))))))))))))))))))))
 refine Fin.then (rt (bR (tR (rs ?_))))
 refine⟨.inr ⟨_,ax⟩, ?_⟩
 refine GX.take (v:= .pointer (some ⟨f,8,none⟩)) (rs:= []) 6 rfl (by kernel_rfl) (fun _ _=>yk) (GX.take (v:= .int .u64 ((b.bE:Nat):Int)) (rs:= []) 7 rfl (by kernel_rfl) (fun _ ⟨_,S⟩=>Yl.load rfl (bu.one Tryz.isAgg22 (fG.of (S.cls (i:=1) rfl) rfl))) (GX.take (v:= .bool (decide (¬ (((a.bE:Nat):Int)=((b.bE:Nat):Int))))) (rs:= []) 8 rfl (by kernel_rfl) (fun _ _=>Yl.bool (e:= !(decide (((a.bE:Nat):Int)=((b.bE:Nat):Int)))) yk decide_not.symm) (GX.done (by kernel_rfl) (Fin.then ?_))))
 by_cases aj:((a.bE:Nat):Int)=((b.bE:Nat):Int)
 refine jF (dF (not_not_intro aj)) (Wp.skip (bN (Fin.then (Wp.region (Kz (.int .i64 3) (Mz rfl (WL.nil (Fin.again [(10, .int .i64 3),(9, .int .i64 9),(8, .slice g 9 9),(4, .bool false),(3, .pointer (some ⟨f,0,none⟩)),(2, .pointer (some ⟨d,0,none⟩))] ⟨rfl,rfl,rfl,rfl,rfl,rfl,trivial⟩ (sr (Kz (.bool true) (nt (Wp.seq (jt (sk (Wp.seq (bo (sr ?_)))))))))))))))))
 have eQ:([113,98,116,108,118,101,109,97,110]:List UInt8)[3]? =some 108:=rfl
 refine fw (.pointer (some ⟨ab g,ao g+3 *1,none⟩)) (Yl.indexAddr (bW) rfl rfl ((ax.rds (i:=0) rfl).addr (i:=3) (by omega)) (by omega)) (fw (.int .u8 108) (Yl.load rfl (bu.one Tryz.isAgg5 (((ax.rds (i:=0) rfl).elem av eQ (by decide)).at_ (k:=0) rfl))) (An rfl (Wp.seq ?_)))
 have ay:=ax.drew
 refine Wp.drawnX [] (fun W=> ∃ L',Own w D W ([row g 9 9 (List.flatMap eB ([113,98,116,108,118,101,109,97,110])) 5 1,blk f (aV b s t z B C E) 29,blk d (aV a l m n o p r) 29]++L')) (by kernel_rfl) (by kernel_rfl) (bO.then (bO.block (bO.then (bO.then (bO.block (bO.then bO.base)))))) ⟨_,ay⟩ ?_
 revert ay
 generalize World.drew gQ=gT
 intro ay
 refine GX.take (v:= .int .u8 108) (rs:= []) 0 rfl (by kernel_rfl) (fun _ _=>Yl.move rfl) (GX.take (v:= .int .u8 108) (rs:= []) 4 rfl (by kernel_rfl) (fun _ _=>Yl.move rfl) ?_)
 refine GX.do 1 rfl (by kernel_rfl) (Do.call Tryz.call47 rfl ?_ (fun _ _ k=>k))
 refine Calls.body (args:= [.pointer (some ⟨d,0,none⟩), .int .u8 108]) Tryz.func47 rfl rfl rfl ?_
 show Wp _ _ _ [(0, .pointer (some ⟨d,0,none⟩)),(1, .int .u8 108)] _ _
 refine sr (An rfl (Wp.seq (sr (Mn rfl (bo (sr (Kz (.bool false) (An rfl (jf (sr (Kz (.bool false) (An rfl (jf (sr (Kz (.bool false) (An rfl (jf (sr (Kz (.bool true) (An rfl (jt ?_)))))))))))))))))))))
 refine sr (Mz rfl (Kz (.pointer (some ⟨d,0,none⟩)) (Kz (.pointer (some ⟨d,9,none⟩)) (An rfl (rt (bR (tR (rs ?_))))))))
 refine⟨.inr ⟨_,ay⟩, ?_⟩
 refine GX.take (v:= .pointer (some ⟨d,9,none⟩)) (rs:= []) 2 rfl (by kernel_rfl) (fun _ _=>yk) (GX.take (v:= .int .u64 ((a.bH:Nat):Int)) (rs:= []) 3 rfl (by kernel_rfl) (fun _ ⟨_,S⟩=>Yl.load rfl (bu.one Tryz.isAgg22 (fG.of (S.cls (i:=2) rfl) rfl))) ?_)
 refine GX.do 5 rfl (by kernel_rfl) (Do.call Tryz.call47 rfl ?_ (fun _ _ k=>k))
 refine Calls.body (args:= [.pointer (some ⟨f,0,none⟩), .int .u8 108]) Tryz.func47 rfl rfl rfl ?_
 show Wp _ _ _ [(0, .pointer (some ⟨f,0,none⟩)),(1, .int .u8 108)] _ _
 refine sr (An rfl (Wp.seq (sr (Mn rfl (bo (sr (Kz (.bool false) (An rfl (jf (sr (Kz (.bool false) (An rfl (jf (sr (Kz (.bool false) (An rfl (jf (sr (Kz (.bool true) (An rfl (jt ?_)))))))))))))))))))))
 refine sr (Mz rfl (Kz (.pointer (some ⟨f,0,none⟩)) (Kz (.pointer (some ⟨f,9,none⟩)) (An rfl (rt (bR (tR (rs ?_))))))))
 refine⟨.inr ⟨_,ay⟩, ?_⟩
 refine GX.take (v:= .pointer (some ⟨f,9,none⟩)) (rs:= []) 6 rfl (by kernel_rfl) (fun _ _=>yk) (GX.take (v:= .int .u64 ((b.bH:Nat):Int)) (rs:= []) 7 rfl (by kernel_rfl) (fun _ ⟨_,S⟩=>Yl.load rfl (bu.one Tryz.isAgg22 (fG.of (S.cls (i:=1) rfl) rfl))) (GX.take (v:= .bool (decide (¬ (((a.bH:Nat):Int)=((b.bH:Nat):Int))))) (rs:= []) 8 rfl (by kernel_rfl) (fun _ _=>Yl.bool (e:= !(decide (((a.bH:Nat):Int)=((b.bH:Nat):Int)))) yk decide_not.symm) (GX.done (by kernel_rfl) (Fin.then ?_))))
 by_cases az:((a.bH:Nat):Int)=((b.bH:Nat):Int)
 refine jF (dF (not_not_intro az)) (Wp.skip (bN (Fin.then (Wp.region (Kz (.int .i64 4) (Mz rfl (WL.nil (Fin.again [(10, .int .i64 4),(9, .int .i64 9),(8, .slice g 9 9),(4, .bool false),(3, .pointer (some ⟨f,0,none⟩)),(2, .pointer (some ⟨d,0,none⟩))] ⟨rfl,rfl,rfl,rfl,rfl,rfl,trivial⟩ (sr (Kz (.bool true) (nt (Wp.seq (jt (sk (Wp.seq (bo (sr ?_)))))))))))))))))
 have eT:([113,98,116,108,118,101,109,97,110]:List UInt8)[4]? =some 118:=rfl
 refine fw (.pointer (some ⟨ab g,ao g+4 *1,none⟩)) (Yl.indexAddr (bW) rfl rfl ((ay.rds (i:=0) rfl).addr (i:=4) (by omega)) (by omega)) (fw (.int .u8 118) (Yl.load rfl (bu.one Tryz.isAgg5 (((ay.rds (i:=0) rfl).elem av eT (by decide)).at_ (k:=0) rfl))) (An rfl (Wp.seq ?_)))
 have aC:=ay.drew
 refine Wp.drawnX [] (fun W=> ∃ L',Own w D W ([row g 9 9 (List.flatMap eB ([113,98,116,108,118,101,109,97,110])) 5 1,blk f (aV b s t z B C E) 29,blk d (aV a l m n o p r) 29]++L')) (by kernel_rfl) (by kernel_rfl) (bO.then (bO.block (bO.then (bO.then (bO.block (bO.then bO.base)))))) ⟨_,aC⟩ ?_
 revert aC
 generalize World.drew gT=gU
 intro aC
 refine GX.take (v:= .int .u8 118) (rs:= []) 0 rfl (by kernel_rfl) (fun _ _=>Yl.move rfl) (GX.take (v:= .int .u8 118) (rs:= []) 4 rfl (by kernel_rfl) (fun _ _=>Yl.move rfl) ?_)
 refine GX.do 1 rfl (by kernel_rfl) (Do.call Tryz.call47 rfl ?_ (fun _ _ k=>k))
 refine Calls.body (args:= [.pointer (some ⟨d,0,none⟩), .int .u8 118]) Tryz.func47 rfl rfl rfl ?_
 show Wp _ _ _ [(0, .pointer (some ⟨d,0,none⟩)),(1, .int .u8 118)] _ _
 refine sr (An rfl (Wp.seq (sr (Mn rfl (bo (sr (Kz (.bool false) (An rfl (jf (sr (Kz (.bool false) (An rfl (jf (sr (Kz (.bool false) (An rfl (jf (sr (Kz (.bool false) (An rfl (jf ?_)))))))))))))))))))))
 refine sr (Kz (.bool true) (An rfl (jt (sr (Mz rfl (Kz (.pointer (some ⟨d,0,none⟩)) (Kz (.pointer (some ⟨d,10,none⟩)) (An rfl (rt (bR (tR (rs ?_))))))))))))
 refine⟨.inr ⟨_,aC⟩, ?_⟩
 refine GX.take (v:= .pointer (some ⟨d,10,none⟩)) (rs:= []) 2 rfl (by kernel_rfl) (fun _ _=>yk) (GX.take (v:= .int .u64 ((a.bL:Nat):Int)) (rs:= []) 3 rfl (by kernel_rfl) (fun _ ⟨_,S⟩=>Yl.load rfl (bu.one Tryz.isAgg22 (fG.of (S.cls (i:=2) rfl) rfl))) ?_)
 refine GX.do 5 rfl (by kernel_rfl) (Do.call Tryz.call47 rfl ?_ (fun _ _ k=>k))
 refine Calls.body (args:= [.pointer (some ⟨f,0,none⟩), .int .u8 118]) Tryz.func47 rfl rfl rfl ?_
 show Wp _ _ _ [(0, .pointer (some ⟨f,0,none⟩)),(1, .int .u8 118)] _ _
 refine sr (An rfl (Wp.seq (sr (Mn rfl (bo (sr (Kz (.bool false) (An rfl (jf (sr (Kz (.bool false) (An rfl (jf (sr (Kz (.bool false) (An rfl (jf (sr (Kz (.bool false) (An rfl (jf ?_)))))))))))))))))))))
 refine sr (Kz (.bool true) (An rfl (jt (sr (Mz rfl (Kz (.pointer (some ⟨f,0,none⟩)) (Kz (.pointer (some ⟨f,10,none⟩)) (An rfl (rt (bR (tR (rs ?_))))))))))))
 refine⟨.inr ⟨_,aC⟩, ?_⟩
 refine GX.take (v:= .pointer (some ⟨f,10,none⟩)) (rs:= []) 6 rfl (by kernel_rfl) (fun _ _=>yk) (GX.take (v:= .int .u64 ((b.bL:Nat):Int)) (rs:= []) 7 rfl (by kernel_rfl) (fun _ ⟨_,S⟩=>Yl.load rfl (bu.one Tryz.isAgg22 (fG.of (S.cls (i:=1) rfl) rfl))) (GX.take (v:= .bool (decide (¬ (((a.bL:Nat):Int)=((b.bL:Nat):Int))))) (rs:= []) 8 rfl (by kernel_rfl) (fun _ _=>Yl.bool (e:= !(decide (((a.bL:Nat):Int)=((b.bL:Nat):Int)))) yk decide_not.symm) (GX.done (by kernel_rfl) (Fin.then ?_))))
 by_cases aI:((a.bL:Nat):Int)=((b.bL:Nat):Int)
 refine jF (dF (not_not_intro aI)) (Wp.skip (bN (Fin.then (Wp.region (Kz (.int .i64 5) (Mz rfl (WL.nil (Fin.again [(10, .int .i64 5),(9, .int .i64 9),(8, .slice g 9 9),(4, .bool false),(3, .pointer (some ⟨f,0,none⟩)),(2, .pointer (some ⟨d,0,none⟩))] ⟨rfl,rfl,rfl,rfl,rfl,rfl,trivial⟩ (sr (Kz (.bool true) (nt (Wp.seq (jt (sk (Wp.seq (bo (sr ?_)))))))))))))))))
 have eU:([113,98,116,108,118,101,109,97,110]:List UInt8)[5]? =some 101:=rfl
 refine fw (.pointer (some ⟨ab g,ao g+5 *1,none⟩)) (Yl.indexAddr (bW) rfl rfl ((aC.rds (i:=0) rfl).addr (i:=5) (by omega)) (by omega)) (fw (.int .u8 101) (Yl.load rfl (bu.one Tryz.isAgg5 (((aC.rds (i:=0) rfl).elem av eU (by decide)).at_ (k:=0) rfl))) (An rfl (Wp.seq ?_)))
 have aD:=aC.drew
 refine Wp.drawnX [] (fun W=> ∃ L',Own w D W ([row g 9 9 (List.flatMap eB ([113,98,116,108,118,101,109,97,110])) 5 1,blk f (aV b s t z B C E) 29,blk d (aV a l m n o p r) 29]++L')) (by kernel_rfl) (by kernel_rfl) (bO.then (bO.block (bO.then (bO.then (bO.block (bO.then bO.base)))))) ⟨_,aD⟩ ?_
 revert aD
 generalize World.drew gU=gV
 intro aD
 refine GX.take (v:= .int .u8 101) (rs:= []) 0 rfl (by kernel_rfl) (fun _ _=>Yl.move rfl) (GX.take (v:= .int .u8 101) (rs:= []) 4 rfl (by kernel_rfl) (fun _ _=>Yl.move rfl) ?_)
 refine GX.do 1 rfl (by kernel_rfl) (Do.call Tryz.call47 rfl ?_ (fun _ _ k=>k))
 refine Calls.body (args:= [.pointer (some ⟨d,0,none⟩), .int .u8 101]) Tryz.func47 rfl rfl rfl ?_
 show Wp _ _ _ [(0, .pointer (some ⟨d,0,none⟩)),(1, .int .u8 101)] _ _
 refine sr (An rfl (Wp.seq (sr (Mn rfl (bo (sr (Kz (.bool false) (An rfl (jf (sr (Kz (.bool false) (An rfl (jf (sr (Kz (.bool false) (An rfl (jf (sr (Kz (.bool false) (An rfl (jf ?_)))))))))))))))))))))
 refine sr (Kz (.bool false) (An rfl (jf (sr (Kz (.bool true) (An rfl (jt (sr (Mz rfl (Kz (.pointer (some ⟨d,0,none⟩)) (Kz (.pointer (some ⟨d,11,none⟩)) (An rfl (rt (bR (tR (rs ?_))))))))))))))))
 refine⟨.inr ⟨_,aD⟩, ?_⟩
 refine GX.take (v:= .pointer (some ⟨d,11,none⟩)) (rs:= []) 2 rfl (by kernel_rfl) (fun _ _=>yk) (GX.take (v:= .int .u64 ((a.aS:Nat):Int)) (rs:= []) 3 rfl (by kernel_rfl) (fun _ ⟨_,S⟩=>Yl.load rfl (bu.one Tryz.isAgg22 (fG.of (S.cls (i:=2) rfl) rfl))) ?_)
 refine GX.do 5 rfl (by kernel_rfl) (Do.call Tryz.call47 rfl ?_ (fun _ _ k=>k))
 refine Calls.body (args:= [.pointer (some ⟨f,0,none⟩), .int .u8 101]) Tryz.func47 rfl rfl rfl ?_
 show Wp _ _ _ [(0, .pointer (some ⟨f,0,none⟩)),(1, .int .u8 101)] _ _
 refine sr (An rfl (Wp.seq (sr (Mn rfl (bo (sr (Kz (.bool false) (An rfl (jf (sr (Kz (.bool false) (An rfl (jf (sr (Kz (.bool false) (An rfl (jf (sr (Kz (.bool false) (An rfl (jf ?_)))))))))))))))))))))
 refine sr (Kz (.bool false) (An rfl (jf (sr (Kz (.bool true) (An rfl (jt (sr (Mz rfl (Kz (.pointer (some ⟨f,0,none⟩)) (Kz (.pointer (some ⟨f,11,none⟩)) (An rfl (rt (bR (tR (rs ?_))))))))))))))))
 refine⟨.inr ⟨_,aD⟩, ?_⟩
 refine GX.take (v:= .pointer (some ⟨f,11,none⟩)) (rs:= []) 6 rfl (by kernel_rfl) (fun _ _=>yk) (GX.take (v:= .int .u64 ((b.aS:Nat):Int)) (rs:= []) 7 rfl (by kernel_rfl) (fun _ ⟨_,S⟩=>Yl.load rfl (bu.one Tryz.isAgg22 (fG.of (S.cls (i:=1) rfl) rfl))) (GX.take (v:= .bool (decide (¬ (((a.aS:Nat):Int)=((b.aS:Nat):Int))))) (rs:= []) 8 rfl (by kernel_rfl) (fun _ _=>Yl.bool (e:= !(decide (((a.aS:Nat):Int)=((b.aS:Nat):Int)))) yk decide_not.symm) (GX.done (by kernel_rfl) (Fin.then ?_))))
 by_cases aJ:((a.aS:Nat):Int)=((b.aS:Nat):Int)
 refine jF (dF (not_not_intro aJ)) (Wp.skip (bN (Fin.then (Wp.region (Kz (.int .i64 6) (Mz rfl (WL.nil (Fin.again [(10, .int .i64 6),(9, .int .i64 9),(8, .slice g 9 9),(4, .bool false),(3, .pointer (some ⟨f,0,none⟩)),(2, .pointer (some ⟨d,0,none⟩))] ⟨rfl,rfl,rfl,rfl,rfl,rfl,trivial⟩ (sr (Kz (.bool true) (nt (Wp.seq (jt (sk (Wp.seq (bo (sr ?_)))))))))))))))))
 have eX:([113,98,116,108,118,101,109,97,110]:List UInt8)[6]? =some 109:=rfl
 refine fw (.pointer (some ⟨ab g,ao g+6 *1,none⟩)) (Yl.indexAddr (bW) rfl rfl ((aD.rds (i:=0) rfl).addr (i:=6) (by omega)) (by omega)) (fw (.int .u8 109) (Yl.load rfl (bu.one Tryz.isAgg5 (((aD.rds (i:=0) rfl).elem av eX (by decide)).at_ (k:=0) rfl))) (An rfl (Wp.seq ?_)))
 have aF:=aD.drew
 refine Wp.drawnX [] (fun W=> ∃ L',Own w D W ([row g 9 9 (List.flatMap eB ([113,98,116,108,118,101,109,97,110])) 5 1,blk f (aV b s t z B C E) 29,blk d (aV a l m n o p r) 29]++L')) (by kernel_rfl) (by kernel_rfl) (bO.then (bO.block (bO.then (bO.then (bO.block (bO.then bO.base)))))) ⟨_,aF⟩ ?_
 revert aF
 generalize World.drew gV=gW
 intro aF
 refine GX.take (v:= .int .u8 109) (rs:= []) 0 rfl (by kernel_rfl) (fun _ _=>Yl.move rfl) (GX.take (v:= .int .u8 109) (rs:= []) 4 rfl (by kernel_rfl) (fun _ _=>Yl.move rfl) ?_)
 refine GX.do 1 rfl (by kernel_rfl) (Do.call Tryz.call47 rfl ?_ (fun _ _ k=>k))
 refine Calls.body (args:= [.pointer (some ⟨d,0,none⟩), .int .u8 109]) Tryz.func47 rfl rfl rfl ?_
 show Wp _ _ _ [(0, .pointer (some ⟨d,0,none⟩)),(1, .int .u8 109)] _ _
 refine sr (An rfl (Wp.seq (sr (Mn rfl (bo (sr (Kz (.bool false) (An rfl (jf (sr (Kz (.bool false) (An rfl (jf (sr (Kz (.bool false) (An rfl (jf (sr (Kz (.bool false) (An rfl (jf ?_)))))))))))))))))))))
 refine sr (Kz (.bool false) (An rfl (jf (sr (Kz (.bool false) (An rfl (jf (sr (Kz (.bool true) (An rfl (jt (sr (Mz rfl (Kz (.pointer (some ⟨d,0,none⟩)) (Kz (.pointer (some ⟨d,12,none⟩)) (An rfl (rt (bR (tR (rs ?_))))))))))))))))))))
 refine⟨.inr ⟨_,aF⟩, ?_⟩
 refine GX.take (v:= .pointer (some ⟨d,12,none⟩)) (rs:= []) 2 rfl (by kernel_rfl) (fun _ _=>yk) (GX.take (v:= .int .u64 ((a.bB:Nat):Int)) (rs:= []) 3 rfl (by kernel_rfl) (fun _ ⟨_,S⟩=>Yl.load rfl (bu.one Tryz.isAgg22 (fG.of (S.cls (i:=2) rfl) rfl))) ?_)
 refine GX.do 5 rfl (by kernel_rfl) (Do.call Tryz.call47 rfl ?_ (fun _ _ k=>k))
 refine Calls.body (args:= [.pointer (some ⟨f,0,none⟩), .int .u8 109]) Tryz.func47 rfl rfl rfl ?_
 show Wp _ _ _ [(0, .pointer (some ⟨f,0,none⟩)),(1, .int .u8 109)] _ _
 refine sr (An rfl (Wp.seq (sr (Mn rfl (bo (sr (Kz (.bool false) (An rfl (jf (sr (Kz (.bool false) (An rfl (jf (sr (Kz (.bool false) (An rfl (jf (sr (Kz (.bool false) (An rfl (jf ?_)))))))))))))))))))))
 refine sr (Kz (.bool false) (An rfl (jf (sr (Kz (.bool false) (An rfl (jf (sr (Kz (.bool true) (An rfl (jt (sr (Mz rfl (Kz (.pointer (some ⟨f,0,none⟩)) (Kz (.pointer (some ⟨f,12,none⟩)) (An rfl (rt (bR (tR (rs ?_))))))))))))))))))))
 refine⟨.inr ⟨_,aF⟩, ?_⟩
 refine GX.take (v:= .pointer (some ⟨f,12,none⟩)) (rs:= []) 6 rfl (by kernel_rfl) (fun _ _=>yk) (GX.take (v:= .int .u64 ((b.bB:Nat):Int)) (rs:= []) 7 rfl (by kernel_rfl) (fun _ ⟨_,S⟩=>Yl.load rfl (bu.one Tryz.isAgg22 (fG.of (S.cls (i:=1) rfl) rfl))) (GX.take (v:= .bool (decide (¬ (((a.bB:Nat):Int)=((b.bB:Nat):Int))))) (rs:= []) 8 rfl (by kernel_rfl) (fun _ _=>Yl.bool (e:= !(decide (((a.bB:Nat):Int)=((b.bB:Nat):Int)))) yk decide_not.symm) (GX.done (by kernel_rfl) (Fin.then ?_))))
 by_cases bv:((a.bB:Nat):Int)=((b.bB:Nat):Int)
 refine jF (dF (not_not_intro bv)) (Wp.skip (bN (Fin.then (Wp.region (Kz (.int .i64 7) (Mz rfl (WL.nil (Fin.again [(10, .int .i64 7),(9, .int .i64 9),(8, .slice g 9 9),(4, .bool false),(3, .pointer (some ⟨f,0,none⟩)),(2, .pointer (some ⟨d,0,none⟩))] ⟨rfl,rfl,rfl,rfl,rfl,rfl,trivial⟩ (sr (Kz (.bool true) (nt (Wp.seq (jt (sk (Wp.seq (bo (sr ?_)))))))))))))))))
 have eY:([113,98,116,108,118,101,109,97,110]:List UInt8)[7]? =some 97:=rfl
 refine fw (.pointer (some ⟨ab g,ao g+7 *1,none⟩)) (Yl.indexAddr (bW) rfl rfl ((aF.rds (i:=0) rfl).addr (i:=7) (by omega)) (by omega)) (fw (.int .u8 97) (Yl.load rfl (bu.one Tryz.isAgg5 (((aF.rds (i:=0) rfl).elem av eY (by decide)).at_ (k:=0) rfl))) (An rfl (Wp.seq ?_)))
 have aG:=aF.drew
 refine Wp.drawnX [] (fun W=> ∃ L',Own w D W ([row g 9 9 (List.flatMap eB ([113,98,116,108,118,101,109,97,110])) 5 1,blk f (aV b s t z B C E) 29,blk d (aV a l m n o p r) 29]++L')) (by kernel_rfl) (by kernel_rfl) (bO.then (bO.block (bO.then (bO.then (bO.block (bO.then bO.base)))))) ⟨_,aG⟩ ?_
 revert aG
 generalize World.drew gW=gX
 intro aG
 refine GX.take (v:= .int .u8 97) (rs:= []) 0 rfl (by kernel_rfl) (fun _ _=>Yl.move rfl) (GX.take (v:= .int .u8 97) (rs:= []) 4 rfl (by kernel_rfl) (fun _ _=>Yl.move rfl) ?_)
 refine GX.do 1 rfl (by kernel_rfl) (Do.call Tryz.call47 rfl ?_ (fun _ _ k=>k))
 refine Calls.body (args:= [.pointer (some ⟨d,0,none⟩), .int .u8 97]) Tryz.func47 rfl rfl rfl ?_
 show Wp _ _ _ [(0, .pointer (some ⟨d,0,none⟩)),(1, .int .u8 97)] _ _
 refine sr (An rfl (Wp.seq (sr (Mn rfl (bo (sr (Kz (.bool false) (An rfl (jf (sr (Kz (.bool false) (An rfl (jf (sr (Kz (.bool false) (An rfl (jf (sr (Kz (.bool false) (An rfl (jf ?_)))))))))))))))))))))
 refine sr (Kz (.bool false) (An rfl (jf (sr (Kz (.bool false) (An rfl (jf (sr (Kz (.bool false) (An rfl (jf (sr (Kz (.bool true) (An rfl (jt (sr (Mz rfl (Kz (.pointer (some ⟨d,0,none⟩)) (Kz (.pointer (some ⟨d,13,none⟩)) (An rfl (rt (bR (tR (rs ?_))))))))))))))))))))))))
 refine⟨.inr ⟨_,aG⟩, ?_⟩
 refine GX.take (v:= .pointer (some ⟨d,13,none⟩)) (rs:= []) 2 rfl (by kernel_rfl) (fun _ _=>yk) (GX.take (v:= .int .u64 ((a.aK:Nat):Int)) (rs:= []) 3 rfl (by kernel_rfl) (fun _ ⟨_,S⟩=>Yl.load rfl (bu.one Tryz.isAgg22 (fG.of (S.cls (i:=2) rfl) rfl))) ?_)
 refine GX.do 5 rfl (by kernel_rfl) (Do.call Tryz.call47 rfl ?_ (fun _ _ k=>k))
 refine Calls.body (args:= [.pointer (some ⟨f,0,none⟩), .int .u8 97]) Tryz.func47 rfl rfl rfl ?_
 show Wp _ _ _ [(0, .pointer (some ⟨f,0,none⟩)),(1, .int .u8 97)] _ _
 refine sr (An rfl (Wp.seq (sr (Mn rfl (bo (sr (Kz (.bool false) (An rfl (jf (sr (Kz (.bool false) (An rfl (jf (sr (Kz (.bool false) (An rfl (jf (sr (Kz (.bool false) (An rfl (jf ?_)))))))))))))))))))))
 refine sr (Kz (.bool false) (An rfl (jf (sr (Kz (.bool false) (An rfl (jf (sr (Kz (.bool false) (An rfl (jf (sr (Kz (.bool true) (An rfl (jt (sr (Mz rfl (Kz (.pointer (some ⟨f,0,none⟩)) (Kz (.pointer (some ⟨f,13,none⟩)) (An rfl (rt (bR (tR (rs ?_))))))))))))))))))))))))
 refine⟨.inr ⟨_,aG⟩, ?_⟩
 refine GX.take (v:= .pointer (some ⟨f,13,none⟩)) (rs:= []) 6 rfl (by kernel_rfl) (fun _ _=>yk) (GX.take (v:= .int .u64 ((b.aK:Nat):Int)) (rs:= []) 7 rfl (by kernel_rfl) (fun _ ⟨_,S⟩=>Yl.load rfl (bu.one Tryz.isAgg22 (fG.of (S.cls (i:=1) rfl) rfl))) (GX.take (v:= .bool (decide (¬ (((a.aK:Nat):Int)=((b.aK:Nat):Int))))) (rs:= []) 8 rfl (by kernel_rfl) (fun _ _=>Yl.bool (e:= !(decide (((a.aK:Nat):Int)=((b.aK:Nat):Int)))) yk decide_not.symm) (GX.done (by kernel_rfl) (Fin.then ?_))))
 by_cases bH:((a.aK:Nat):Int)=((b.aK:Nat):Int)
 refine jF (dF (not_not_intro bH)) (Wp.skip (bN (Fin.then (Wp.region (Kz (.int .i64 8) (Mz rfl (WL.nil (Fin.again [(10, .int .i64 8),(9, .int .i64 9),(8, .slice g 9 9),(4, .bool false),(3, .pointer (some ⟨f,0,none⟩)),(2, .pointer (some ⟨d,0,none⟩))] ⟨rfl,rfl,rfl,rfl,rfl,rfl,trivial⟩ (sr (Kz (.bool true) (nt (Wp.seq (jt (sk (Wp.seq (bo (sr ?_)))))))))))))))))
 have eZ:([113,98,116,108,118,101,109,97,110]:List UInt8)[8]? =some 110:=rfl
 refine fw (.pointer (some ⟨ab g,ao g+8 *1,none⟩)) (Yl.indexAddr (bW) rfl rfl ((aG.rds (i:=0) rfl).addr (i:=8) (by omega)) (by omega)) (fw (.int .u8 110) (Yl.load rfl (bu.one Tryz.isAgg5 (((aG.rds (i:=0) rfl).elem av eZ (by decide)).at_ (k:=0) rfl))) (An rfl (Wp.seq ?_)))
 have aK:=aG.drew
 refine Wp.drawnX [] (fun W=> ∃ L',Own w D W ([row g 9 9 (List.flatMap eB ([113,98,116,108,118,101,109,97,110])) 5 1,blk f (aV b s t z B C E) 29,blk d (aV a l m n o p r) 29]++L')) (by kernel_rfl) (by kernel_rfl) (bO.then (bO.block (bO.then (bO.then (bO.block (bO.then bO.base)))))) ⟨_,aK⟩ ?_
 revert aK
 generalize World.drew gX=iV
 intro aK
 refine GX.take (v:= .int .u8 110) (rs:= []) 0 rfl (by kernel_rfl) (fun _ _=>Yl.move rfl) (GX.take (v:= .int .u8 110) (rs:= []) 4 rfl (by kernel_rfl) (fun _ _=>Yl.move rfl) ?_)
 refine GX.do 1 rfl (by kernel_rfl) (Do.call Tryz.call47 rfl ?_ (fun _ _ k=>k))
 refine Calls.body (args:= [.pointer (some ⟨d,0,none⟩), .int .u8 110]) Tryz.func47 rfl rfl rfl ?_
 show Wp _ _ _ [(0, .pointer (some ⟨d,0,none⟩)),(1, .int .u8 110)] _ _
 refine sr (An rfl (Wp.seq (sr (Mn rfl (bo (sr (Kz (.bool false) (An rfl (jf (sr (Kz (.bool false) (An rfl (jf (sr (Kz (.bool false) (An rfl (jf (sr (Kz (.bool false) (An rfl (jf ?_)))))))))))))))))))))
 refine sr (Kz (.bool false) (An rfl (jf (sr (Kz (.bool false) (An rfl (jf (sr (Kz (.bool false) (An rfl (jf (sr (Kz (.bool false) (An rfl (jf (sr (Kz (.bool true) (An rfl (jt (sr (Mz rfl (Kz (.pointer (some ⟨d,0,none⟩)) (Kz (.pointer (some ⟨d,14,none⟩)) ?_)))))))))))))))))))))))
 refine An rfl (rt (bR (tR (rs ?_))))
 refine⟨.inr ⟨_,aK⟩, ?_⟩
 refine GX.take (v:= .pointer (some ⟨d,14,none⟩)) (rs:= []) 2 rfl (by kernel_rfl) (fun _ _=>yk) (GX.take (v:= .int .u64 ((a.xN:Nat):Int)) (rs:= []) 3 rfl (by kernel_rfl) (fun _ ⟨_,S⟩=>Yl.load rfl (bu.one Tryz.isAgg22 (fG.of (S.cls (i:=2) rfl) rfl))) ?_)
 refine GX.do 5 rfl (by kernel_rfl) (Do.call Tryz.call47 rfl ?_ (fun _ _ k=>k))
 refine Calls.body (args:= [.pointer (some ⟨f,0,none⟩), .int .u8 110]) Tryz.func47 rfl rfl rfl ?_
 show Wp _ _ _ [(0, .pointer (some ⟨f,0,none⟩)),(1, .int .u8 110)] _ _
 refine sr (An rfl (Wp.seq (sr (Mn rfl (bo (sr (Kz (.bool false) (An rfl (jf (sr (Kz (.bool false) (An rfl (jf (sr (Kz (.bool false) (An rfl (jf (sr (Kz (.bool false) (An rfl (jf ?_)))))))))))))))))))))
 refine sr (Kz (.bool false) (An rfl (jf (sr (Kz (.bool false) (An rfl (jf (sr (Kz (.bool false) (An rfl (jf (sr (Kz (.bool false) (An rfl (jf (sr (Kz (.bool true) (An rfl (jt (sr (Mz rfl (Kz (.pointer (some ⟨f,0,none⟩)) (Kz (.pointer (some ⟨f,14,none⟩)) ?_)))))))))))))))))))))))
 refine An rfl (rt (bR (tR (rs ?_))))
 refine⟨.inr ⟨_,aK⟩, ?_⟩
 refine GX.take (v:= .pointer (some ⟨f,14,none⟩)) (rs:= []) 6 rfl (by kernel_rfl) (fun _ _=>yk) (GX.take (v:= .int .u64 ((b.xN:Nat):Int)) (rs:= []) 7 rfl (by kernel_rfl) (fun _ ⟨_,S⟩=>Yl.load rfl (bu.one Tryz.isAgg22 (fG.of (S.cls (i:=1) rfl) rfl))) (GX.take (v:= .bool (decide (¬ (((a.xN:Nat):Int)=((b.xN:Nat):Int))))) (rs:= []) 8 rfl (by kernel_rfl) (fun _ _=>Yl.bool (e:= !(decide (((a.xN:Nat):Int)=((b.xN:Nat):Int)))) yk decide_not.symm) (GX.done (by kernel_rfl) (Fin.then ?_))))
 by_cases cz:((a.xN:Nat):Int)=((b.xN:Nat):Int)
 refine jF (dF (not_not_intro cz)) (Wp.skip (bN (Fin.then (Wp.region (Kz (.int .i64 9) (Mz rfl (WL.nil (Fin.again [(10, .int .i64 9),(9, .int .i64 9),(8, .slice g 9 9),(4, .bool false),(3, .pointer (some ⟨f,0,none⟩)),(2, .pointer (some ⟨d,0,none⟩))] ⟨rfl,rfl,rfl,rfl,rfl,rfl,trivial⟩ (sr (Kz (.bool false) (nt (Wp.seq (jf (Wp.exit (Fin.thenX (Fin.thenX (Fin.blockX (Fin.then (Wp.seq ?_)))))))))))))))))))
 have bz:=aK.pk [1,2]
 refine Wp.region (Kz (.pointer (some ⟨d,0,none⟩)) (Lz (.int .i64 a.ae) bz 1 Tryz.isAgg3 (Kz (.pointer (some ⟨f,0,none⟩)) (Lz (.int .i64 b.ae) bz 0 Tryz.isAgg3 (Kz (.bool (decide (a.ae=b.ae))) (Mz rfl ?_))))))
 refine WL.cutJ (ι:=Bool) 6 (fun i=> [(35, .bool i),(29, .bool (decide (a.ae=b.ae))),(28, .bool (decide (a.ae=b.ae))),(27, .int .i64 b.ae),(26, .pointer (some ⟨f,0,none⟩)),(25, .int .i64 a.ae),(24, .pointer (some ⟨d,0,none⟩)),(11, .bool false),(10, .int .i64 9),(9, .int .i64 9),(8, .slice g 9 9),(4, .bool false),(3, .pointer (some ⟨f,0,none⟩)),(2, .pointer (some ⟨d,0,none⟩))]) (fun i w'=>Own w D w' [blk f (aV b s t z B C E) 29,blk d (aV a l m n o p r) 29]∧((if a.ae=b.ae then decide (a.bn=b.bn) else false)=i)) ?_ ?_
 intro dA
 by_cases af:a.ae=b.ae
 refine Gz (.pointer (some ⟨d,1,none⟩)) (dT af) (Gl (.int .i64 a.bn) (dT af) bz 1 Tryz.isAgg3 (Gz (.pointer (some ⟨f,1,none⟩)) (dT af) (Gl (.int .i64 b.bn) (dT af) bz 0 Tryz.isAgg3 (Gz (.bool (decide (a.bn=b.bn))) (dT af) (fw (.bool (decide (a.bn=b.bn))) (Yl.pickT rfl (dT af) rfl) ?_)))))
 have gY:=bz.pk [0,1]
 exact dA (decide (a.bn=b.bn)) _ _ ⟨gY,(show (if a.ae=b.ae then decide (a.bn=b.bn) else false)=decide (a.bn=b.bn) from ip af)⟩ ⟨rfl,rfl,rfl,rfl,rfl,rfl,rfl,rfl,rfl,rfl,rfl,rfl,rfl,rfl,trivial⟩
 refine Sz (dF af) (Sz (dF af) (Sz (dF af) (Sz (dF af) (Sz (dF af) (fw (.bool false) (Yl.pickF rfl (dF af) rfl) ?_)))))
 have gZ:=bz.pk [0,1]
 exact dA false _ _ ⟨gZ,(show (if a.ae=b.ae then decide (a.bn=b.bn) else false)=false from iN af)⟩ ⟨rfl,rfl,rfl,rfl,rfl,rfl,rfl,rfl,rfl,rfl,rfl,rfl,rfl,rfl,trivial⟩
 rintro h iW ⟨cB,bI⟩
 show WL _ _ _ (List.drop 6 _) _ [(35, .bool h),(29, .bool (decide (a.ae=b.ae))),(28, .bool (decide (a.ae=b.ae))),(27, .int .i64 b.ae),(26, .pointer (some ⟨f,0,none⟩)),(25, .int .i64 a.ae),(24, .pointer (some ⟨d,0,none⟩)),(11, .bool false),(10, .int .i64 9),(9, .int .i64 9),(8, .slice g 9 9),(4, .bool false),(3, .pointer (some ⟨f,0,none⟩)),(2, .pointer (some ⟨d,0,none⟩))] _
 replace bI:(if a.ae=b.ae then decide (a.bn=b.bn) else false)=h:=bI
 refine Mz rfl ?_
 refine WL.cutJ (ι:=Bool) 6 (fun i=> [(42, .bool i),(36, .bool h),(35, .bool h),(29, .bool (decide (a.ae=b.ae))),(28, .bool (decide (a.ae=b.ae))),(27, .int .i64 b.ae),(26, .pointer (some ⟨f,0,none⟩)),(25, .int .i64 a.ae),(24, .pointer (some ⟨d,0,none⟩)),(11, .bool false),(10, .int .i64 9),(9, .int .i64 9),(8, .slice g 9 9),(4, .bool false),(3, .pointer (some ⟨f,0,none⟩)),(2, .pointer (some ⟨d,0,none⟩))]) (fun i w'=>Own w D w' [blk f (aV b s t z B C E) 29,blk d (aV a l m n o p r) 29]∧((if h=true then decide (a.dm=b.dm) else false)=i)) ?_ ?_
 intro dB
 rcases Bool.eq_false_or_eq_true (h) with U | U
 refine Gz (.pointer (some ⟨d,2,none⟩)) U (Gl (.int .i64 a.dm) U cB 1 Tryz.isAgg3 (Gz (.pointer (some ⟨f,2,none⟩)) U (Gl (.int .i64 b.dm) U cB 0 Tryz.isAgg3 (Gz (.bool (decide (a.dm=b.dm))) U (fw (.bool (decide (a.dm=b.dm))) (Yl.pickT rfl U rfl) ?_)))))
 have ib:=cB.pk [0,1]
 exact dB (decide (a.dm=b.dm)) _ _ ⟨ib,(show (if h=true then decide (a.dm=b.dm) else false)=decide (a.dm=b.dm) from ip U)⟩ ⟨rfl,rfl,rfl,rfl,rfl,rfl,rfl,rfl,rfl,rfl,rfl,rfl,rfl,rfl,rfl,rfl,trivial⟩
 refine Sz U (Sz U (Sz U (Sz U (Sz U (fw (.bool false) (Yl.pickF rfl U rfl) ?_)))))
 have ic:=cB.pk [0,1]
 exact dB false _ _ ⟨ic,(show (if h=true then decide (a.dm=b.dm) else false)=false from dn U)⟩ ⟨rfl,rfl,rfl,rfl,rfl,rfl,rfl,rfl,rfl,rfl,rfl,rfl,rfl,rfl,rfl,rfl,trivial⟩
 rintro F iX ⟨cO,bJ⟩
 show WL _ _ _ (List.drop 6 _) _ [(42, .bool F),(36, .bool h),(35, .bool h),(29, .bool (decide (a.ae=b.ae))),(28, .bool (decide (a.ae=b.ae))),(27, .int .i64 b.ae),(26, .pointer (some ⟨f,0,none⟩)),(25, .int .i64 a.ae),(24, .pointer (some ⟨d,0,none⟩)),(11, .bool false),(10, .int .i64 9),(9, .int .i64 9),(8, .slice g 9 9),(4, .bool false),(3, .pointer (some ⟨f,0,none⟩)),(2, .pointer (some ⟨d,0,none⟩))] _
 replace bJ:(if h=true then decide (a.dm=b.dm) else false)=F:=bJ
 refine Mz rfl ?_
 refine WL.cutJ (ι:=Bool) 6 (fun i=> [(49, .bool i),(43, .bool F),(42, .bool F),(36, .bool h),(35, .bool h),(29, .bool (decide (a.ae=b.ae))),(28, .bool (decide (a.ae=b.ae))),(27, .int .i64 b.ae),(26, .pointer (some ⟨f,0,none⟩)),(25, .int .i64 a.ae),(24, .pointer (some ⟨d,0,none⟩)),(11, .bool false),(10, .int .i64 9),(9, .int .i64 9),(8, .slice g 9 9),(4, .bool false),(3, .pointer (some ⟨f,0,none⟩)),(2, .pointer (some ⟨d,0,none⟩))]) (fun i w'=>Own w D w' [blk f (aV b s t z B C E) 29,blk d (aV a l m n o p r) 29]∧((if F=true then decide (a.aO=b.aO) else false)=i)) ?_ ?_
 intro dC
 rcases Bool.eq_false_or_eq_true (F) with V | V
 refine Gz (.pointer (some ⟨d,3,none⟩)) V (Gl (.int .i64 a.aO) V cO 1 Tryz.isAgg3 (Gz (.pointer (some ⟨f,3,none⟩)) V (Gl (.int .i64 b.aO) V cO 0 Tryz.isAgg3 (Gz (.bool (decide (a.aO=b.aO))) V (fw (.bool (decide (a.aO=b.aO))) (Yl.pickT rfl V rfl) ?_)))))
 have ik:=cO.pk [0,1]
 exact dC (decide (a.aO=b.aO)) _ _ ⟨ik,(show (if F=true then decide (a.aO=b.aO) else false)=decide (a.aO=b.aO) from ip V)⟩ ⟨rfl,rfl,rfl,rfl,rfl,rfl,rfl,rfl,rfl,rfl,rfl,rfl,rfl,rfl,rfl,rfl,rfl,rfl,trivial⟩
 refine Sz V (Sz V (Sz V (Sz V (Sz V (fw (.bool false) (Yl.pickF rfl V rfl) ?_)))))
 have il:=cO.pk [0,1]
 exact dC false _ _ ⟨il,(show (if F=true then decide (a.aO=b.aO) else false)=false from dn V)⟩ ⟨rfl,rfl,rfl,rfl,rfl,rfl,rfl,rfl,rfl,rfl,rfl,rfl,rfl,rfl,rfl,rfl,rfl,rfl,trivial⟩
 rintro G iY ⟨cZ,bK⟩
 show WL _ _ _ (List.drop 6 _) _ [(49, .bool G),(43, .bool F),(42, .bool F),(36, .bool h),(35, .bool h),(29, .bool (decide (a.ae=b.ae))),(28, .bool (decide (a.ae=b.ae))),(27, .int .i64 b.ae),(26, .pointer (some ⟨f,0,none⟩)),(25, .int .i64 a.ae),(24, .pointer (some ⟨d,0,none⟩)),(11, .bool false),(10, .int .i64 9),(9, .int .i64 9),(8, .slice g 9 9),(4, .bool false),(3, .pointer (some ⟨f,0,none⟩)),(2, .pointer (some ⟨d,0,none⟩))] _
 replace bK:(if F=true then decide (a.aO=b.aO) else false)=G:=bK
 refine Mz rfl ?_
 refine WL.cutJ (ι:=Bool) 6 (fun i=> [(56, .bool i),(50, .bool G),(49, .bool G),(43, .bool F),(42, .bool F),(36, .bool h),(35, .bool h),(29, .bool (decide (a.ae=b.ae))),(28, .bool (decide (a.ae=b.ae))),(27, .int .i64 b.ae),(26, .pointer (some ⟨f,0,none⟩)),(25, .int .i64 a.ae),(24, .pointer (some ⟨d,0,none⟩)),(11, .bool false),(10, .int .i64 9),(9, .int .i64 9),(8, .slice g 9 9),(4, .bool false),(3, .pointer (some ⟨f,0,none⟩)),(2, .pointer (some ⟨d,0,none⟩))]) (fun i w'=>Own w D w' [blk f (aV b s t z B C E) 29,blk d (aV a l m n o p r) 29]∧((if G=true then decide (a.bq=b.bq) else false)=i)) ?_ ?_
 intro dE
 rcases Bool.eq_false_or_eq_true (G) with X | X
 refine Gz (.pointer (some ⟨d,4,none⟩)) X (Gl (.int .i64 a.bq) X cZ 1 Tryz.isAgg3 (Gz (.pointer (some ⟨f,4,none⟩)) X (Gl (.int .i64 b.bq) X cZ 0 Tryz.isAgg3 (Gz (.bool (decide (a.bq=b.bq))) X (fw (.bool (decide (a.bq=b.bq))) (Yl.pickT rfl X rfl) ?_)))))
 have iq:=cZ.pk [0,1]
 exact dE (decide (a.bq=b.bq)) _ _ ⟨iq,(show (if G=true then decide (a.bq=b.bq) else false)=decide (a.bq=b.bq) from ip X)⟩ ⟨rfl,rfl,rfl,rfl,rfl,rfl,rfl,rfl,rfl,rfl,rfl,rfl,rfl,rfl,rfl,rfl,rfl,rfl,rfl,rfl,trivial⟩
 refine Sz X (Sz X (Sz X (Sz X (Sz X (fw (.bool false) (Yl.pickF rfl X rfl) ?_)))))
 have iw:=cZ.pk [0,1]
 exact dE false _ _ ⟨iw,(show (if G=true then decide (a.bq=b.bq) else false)=false from dn X)⟩ ⟨rfl,rfl,rfl,rfl,rfl,rfl,rfl,rfl,rfl,rfl,rfl,rfl,rfl,rfl,rfl,rfl,rfl,rfl,rfl,rfl,trivial⟩
 rintro J iZ ⟨df,aL⟩
 show WL _ _ _ (List.drop 6 _) _ [(56, .bool J),(50, .bool G),(49, .bool G),(43, .bool F),(42, .bool F),(36, .bool h),(35, .bool h),(29, .bool (decide (a.ae=b.ae))),(28, .bool (decide (a.ae=b.ae))),(27, .int .i64 b.ae),(26, .pointer (some ⟨f,0,none⟩)),(25, .int .i64 a.ae),(24, .pointer (some ⟨d,0,none⟩)),(11, .bool false),(10, .int .i64 9),(9, .int .i64 9),(8, .slice g 9 9),(4, .bool false),(3, .pointer (some ⟨f,0,none⟩)),(2, .pointer (some ⟨d,0,none⟩))] _
 replace aL:(if G=true then decide (a.bq=b.bq) else false)=J:=aL
 refine Mz rfl ?_
 refine WL.cutJ (ι:=Bool) 6 (fun i=> [(63, .bool i),(57, .bool J),(56, .bool J),(50, .bool G),(49, .bool G),(43, .bool F),(42, .bool F),(36, .bool h),(35, .bool h),(29, .bool (decide (a.ae=b.ae))),(28, .bool (decide (a.ae=b.ae))),(27, .int .i64 b.ae),(26, .pointer (some ⟨f,0,none⟩)),(25, .int .i64 a.ae),(24, .pointer (some ⟨d,0,none⟩)),(11, .bool false),(10, .int .i64 9),(9, .int .i64 9),(8, .slice g 9 9),(4, .bool false),(3, .pointer (some ⟨f,0,none⟩)),(2, .pointer (some ⟨d,0,none⟩))]) (fun i w'=>Own w D w' [blk f (aV b s t z B C E) 29,blk d (aV a l m n o p r) 29]∧((if J=true then decide (a.bM=b.bM) else false)=i)) ?_ ?_
 intro bL
 rcases Bool.eq_false_or_eq_true (J) with L | L
 refine Gz (.pointer (some ⟨d,5,none⟩)) L (Gl (.int .i64 a.bM) L df 1 Tryz.isAgg3 (Gz (.pointer (some ⟨f,5,none⟩)) L (Gl (.int .i64 b.bM) L df 0 Tryz.isAgg3 (Gz (.bool (decide (a.bM=b.bM))) L (fw (.bool (decide (a.bM=b.bM))) (Yl.pickT rfl L rfl) ?_)))))
 have fe:=df.pk [0,1]
 exact bL (decide (a.bM=b.bM)) _ _ ⟨fe,(show (if J=true then decide (a.bM=b.bM) else false)=decide (a.bM=b.bM) from ip L)⟩ ⟨rfl,rfl,rfl,rfl,rfl,rfl,rfl,rfl,rfl,rfl,rfl,rfl,rfl,rfl,rfl,rfl,rfl,rfl,rfl,rfl,rfl,rfl,trivial⟩
 refine Sz L (Sz L (Sz L (Sz L (Sz L (fw (.bool false) (Yl.pickF rfl L rfl) ?_)))))
 have fo:=df.pk [0,1]
 exact bL false _ _ ⟨fo,(show (if J=true then decide (a.bM=b.bM) else false)=false from dn L)⟩ ⟨rfl,rfl,rfl,rfl,rfl,rfl,rfl,rfl,rfl,rfl,rfl,rfl,rfl,rfl,rfl,rfl,rfl,rfl,rfl,rfl,rfl,rfl,trivial⟩
 rintro j iD ⟨aU,aM⟩
 show WL _ _ _ (List.drop 6 _) _ [(63, .bool j),(57, .bool J),(56, .bool J),(50, .bool G),(49, .bool G),(43, .bool F),(42, .bool F),(36, .bool h),(35, .bool h),(29, .bool (decide (a.ae=b.ae))),(28, .bool (decide (a.ae=b.ae))),(27, .int .i64 b.ae),(26, .pointer (some ⟨f,0,none⟩)),(25, .int .i64 a.ae),(24, .pointer (some ⟨d,0,none⟩)),(11, .bool false),(10, .int .i64 9),(9, .int .i64 9),(8, .slice g 9 9),(4, .bool false),(3, .pointer (some ⟨f,0,none⟩)),(2, .pointer (some ⟨d,0,none⟩))] _
 replace aM:(if J=true then decide (a.bM=b.bM) else false)=j:=aM
 refine Mz rfl ?_
 refine WL.cutJ (ι:=Bool) 6 (fun i=> [(70, .bool i),(64, .bool j),(63, .bool j),(57, .bool J),(56, .bool J),(50, .bool G),(49, .bool G),(43, .bool F),(42, .bool F),(36, .bool h),(35, .bool h),(29, .bool (decide (a.ae=b.ae))),(28, .bool (decide (a.ae=b.ae))),(27, .int .i64 b.ae),(26, .pointer (some ⟨f,0,none⟩)),(25, .int .i64 a.ae),(24, .pointer (some ⟨d,0,none⟩)),(11, .bool false),(10, .int .i64 9),(9, .int .i64 9),(8, .slice g 9 9),(4, .bool false),(3, .pointer (some ⟨f,0,none⟩)),(2, .pointer (some ⟨d,0,none⟩))]) (fun i w'=>Own w D w' [blk f (aV b s t z B C E) 29,blk d (aV a l m n o p r) 29]∧((if j=true then decide (a.bV=b.bV) else false)=i)) ?_ ?_
 intro bM
 rcases Bool.eq_false_or_eq_true (j) with M | M
 refine Gz (.pointer (some ⟨d,15,none⟩)) M (Gl (.bool a.bV) M aU 1 Tryz.isAgg4 (Gz (.pointer (some ⟨f,15,none⟩)) M (Gl (.bool b.bV) M aU 0 Tryz.isAgg4 (WL.valG (v:= .bool (decide (a.bV=b.bV))) rfl rfl M rfl (Yl.bool (e:=(a.bV==b.bV)) yk (by first | exact Bool.beq_eq_decide_eq _ _ | (by_cases q:a.bV=b.bV <;> simp [q]))) (fw (.bool (decide (a.bV=b.bV))) (Yl.pickT rfl M rfl) ?_)))))
 have fq:=aU.pk [0,1]
 exact bM (decide (a.bV=b.bV)) _ _ ⟨fq,(show (if j=true then decide (a.bV=b.bV) else false)=decide (a.bV=b.bV) from ip M)⟩ ⟨rfl,rfl,rfl,rfl,rfl,rfl,rfl,rfl,rfl,rfl,rfl,rfl,rfl,rfl,rfl,rfl,rfl,rfl,rfl,rfl,rfl,rfl,rfl,rfl,trivial⟩
 refine Sz M (Sz M (Sz M (Sz M (Sz M (fw (.bool false) (Yl.pickF rfl M rfl) ?_)))))
 have fu:=aU.pk [0,1]
 exact bM false _ _ ⟨fu,(show (if j=true then decide (a.bV=b.bV) else false)=false from dn M)⟩ ⟨rfl,rfl,rfl,rfl,rfl,rfl,rfl,rfl,rfl,rfl,rfl,rfl,rfl,rfl,rfl,rfl,rfl,rfl,rfl,rfl,rfl,rfl,rfl,rfl,trivial⟩
 rintro I iE ⟨aX,aN⟩
 show WL _ _ _ (List.drop 6 _) _ [(70, .bool I),(64, .bool j),(63, .bool j),(57, .bool J),(56, .bool J),(50, .bool G),(49, .bool G),(43, .bool F),(42, .bool F),(36, .bool h),(35, .bool h),(29, .bool (decide (a.ae=b.ae))),(28, .bool (decide (a.ae=b.ae))),(27, .int .i64 b.ae),(26, .pointer (some ⟨f,0,none⟩)),(25, .int .i64 a.ae),(24, .pointer (some ⟨d,0,none⟩)),(11, .bool false),(10, .int .i64 9),(9, .int .i64 9),(8, .slice g 9 9),(4, .bool false),(3, .pointer (some ⟨f,0,none⟩)),(2, .pointer (some ⟨d,0,none⟩))] _
 replace aN:(if j=true then decide (a.bV=b.bV) else false)=I:=aN
 refine Mz rfl ?_
 refine WL.cutJ (ι:=Bool) 6 (fun i=> [(77, .bool i),(71, .bool I),(70, .bool I),(64, .bool j),(63, .bool j),(57, .bool J),(56, .bool J),(50, .bool G),(49, .bool G),(43, .bool F),(42, .bool F),(36, .bool h),(35, .bool h),(29, .bool (decide (a.ae=b.ae))),(28, .bool (decide (a.ae=b.ae))),(27, .int .i64 b.ae),(26, .pointer (some ⟨f,0,none⟩)),(25, .int .i64 a.ae),(24, .pointer (some ⟨d,0,none⟩)),(11, .bool false),(10, .int .i64 9),(9, .int .i64 9),(8, .slice g 9 9),(4, .bool false),(3, .pointer (some ⟨f,0,none⟩)),(2, .pointer (some ⟨d,0,none⟩))]) (fun i w'=>Own w D w' [blk f (aV b s t z B C E) 29,blk d (aV a l m n o p r) 29]∧((if I=true then decide ((a.aG.aD=b.aG.aD)∧(a.aG.aI=b.aG.aI)) else false)=i)) ?_ ?_
 intro bP
 rcases Bool.eq_false_or_eq_true (I) with N | N
 refine Gz (.pointer (some ⟨d,16,none⟩)) N (Ga (bC.cells a.aG) N aX 1 Tryz.isAgg24 Tryz.sizeOf24 (Gz (.pointer (some ⟨f,16,none⟩)) N (Ga (bC.cells b.aG) N aX 0 Tryz.isAgg24 Tryz.sizeOf24 (WL.valG (v:= .bool (decide ((a.aG.aD=b.aG.aD)∧(a.aG.aI=b.aG.aI)))) rfl rfl N rfl (Yl.eqAgg rfl rfl (by kernel_rfl) rfl (fB.struct Tryz.underlying24 (by kernel_rfl) (eD.dec (eD.cons (u:= .string ⟨List.toArray a.aG.aD⟩) (v:= .string ⟨List.toArray b.aG.aD⟩) (by decide) (fun _=>by kernel_rfl) (fun _=>by kernel_rfl) (fB.string Tryz.underlying9) (eD.cons (u:= .string ⟨List.toArray a.aG.aI⟩) (v:= .string ⟨List.toArray b.aG.aI⟩) (by decide) (fun _=>by kernel_rfl) (fun _=>by kernel_rfl) (fB.string Tryz.underlying9) (eD.nil.up (Nat.zero_le _)))) ((congrArg (decide (a.aG.aD=b.aG.aD) && ·) jC).trans ek)))) (fw (.bool (decide ((a.aG.aD=b.aG.aD)∧(a.aG.aI=b.aG.aI)))) (Yl.pickT rfl N rfl) ?_)))))
 have fA:=aX.pk [0,1]
 exact bP (decide ((a.aG.aD=b.aG.aD)∧(a.aG.aI=b.aG.aI))) _ _ ⟨fA,(show (if I=true then decide ((a.aG.aD=b.aG.aD)∧(a.aG.aI=b.aG.aI)) else false)=decide ((a.aG.aD=b.aG.aD)∧(a.aG.aI=b.aG.aI)) from ip N)⟩ ⟨rfl,rfl,rfl,rfl,rfl,rfl,rfl,rfl,rfl,rfl,rfl,rfl,rfl,rfl,rfl,rfl,rfl,rfl,rfl,rfl,rfl,rfl,rfl,rfl,rfl,rfl,trivial⟩
 refine Sz N (Sz N (Sz N (Sz N (Sz N (fw (.bool false) (Yl.pickF rfl N rfl) ?_)))))
 have fC:=aX.pk [0,1]
 exact bP false _ _ ⟨fC,(show (if I=true then decide ((a.aG.aD=b.aG.aD)∧(a.aG.aI=b.aG.aI)) else false)=false from dn N)⟩ ⟨rfl,rfl,rfl,rfl,rfl,rfl,rfl,rfl,rfl,rfl,rfl,rfl,rfl,rfl,rfl,rfl,rfl,rfl,rfl,rfl,rfl,rfl,rfl,rfl,rfl,rfl,trivial⟩
 rintro K iF ⟨aY,aO⟩
 show WL _ _ _ (List.drop 6 _) _ [(77, .bool K),(71, .bool I),(70, .bool I),(64, .bool j),(63, .bool j),(57, .bool J),(56, .bool J),(50, .bool G),(49, .bool G),(43, .bool F),(42, .bool F),(36, .bool h),(35, .bool h),(29, .bool (decide (a.ae=b.ae))),(28, .bool (decide (a.ae=b.ae))),(27, .int .i64 b.ae),(26, .pointer (some ⟨f,0,none⟩)),(25, .int .i64 a.ae),(24, .pointer (some ⟨d,0,none⟩)),(11, .bool false),(10, .int .i64 9),(9, .int .i64 9),(8, .slice g 9 9),(4, .bool false),(3, .pointer (some ⟨f,0,none⟩)),(2, .pointer (some ⟨d,0,none⟩))] _
 replace aO:(if I=true then decide ((a.aG.aD=b.aG.aD)∧(a.aG.aI=b.aG.aI)) else false)=K:=aO
 refine Mz rfl ?_
 refine WL.cutJ (ι:=Bool) 6 (fun i=> [(84, .bool i),(78, .bool K),(77, .bool K),(71, .bool I),(70, .bool I),(64, .bool j),(63, .bool j),(57, .bool J),(56, .bool J),(50, .bool G),(49, .bool G),(43, .bool F),(42, .bool F),(36, .bool h),(35, .bool h),(29, .bool (decide (a.ae=b.ae))),(28, .bool (decide (a.ae=b.ae))),(27, .int .i64 b.ae),(26, .pointer (some ⟨f,0,none⟩)),(25, .int .i64 a.ae),(24, .pointer (some ⟨d,0,none⟩)),(11, .bool false),(10, .int .i64 9),(9, .int .i64 9),(8, .slice g 9 9),(4, .bool false),(3, .pointer (some ⟨f,0,none⟩)),(2, .pointer (some ⟨d,0,none⟩))]) (fun i w'=>Own w D w' [blk f (aV b s t z B C E) 29,blk d (aV a l m n o p r) 29]∧((if K=true then bnd (ji a.az.ls b.az.ls) fun Y=>Y else false)=i)) ?_ ?_
 intro bQ
 rcases Bool.eq_false_or_eq_true (K) with O | O
 refine Gz (.pointer (some ⟨d,18,none⟩)) O (Gl (.slice l a.az.ls.length m) O aY 1 Tryz.isAgg25 (Gz (.pointer (some ⟨f,18,none⟩)) O (Gl (.slice s b.az.ls.length t) O aY 0 Tryz.isAgg25 ?_)))
 obtain⟨aZ,bS⟩:∃ q,ji a.az.ls b.az.ls=q:=⟨_,rfl⟩
 obtain⟨iG,dW,bT,dX,iy⟩:=Own.enter0 aY
 refine WL.doG rfl rfl O rfl (Do.call Tryz.call48 rfl (qM _ _ l a.az.ls.length m a.az.ls s b.az.ls.length t b.az.ls aZ dW (bT _ dH) rfl (by omega) (bT _ dO) rfl (by omega) bS) ?_)
 rintro _ iH ⟨rfl,dY⟩
 have fD:=dX _ _ dY
 refine fw (.bool aZ) (Yl.pickT rfl O rfl) ?_
 have fE:=fD.pk [0,1]
 exact bQ aZ _ _ ⟨fE,(show (if K=true then bnd (ji a.az.ls b.az.ls) fun Y=>Y else false)=aZ from et (ip O) (aa bS))⟩ ⟨rfl,rfl,rfl,rfl,rfl,rfl,rfl,rfl,rfl,rfl,rfl,rfl,rfl,rfl,rfl,rfl,rfl,rfl,rfl,rfl,rfl,rfl,rfl,rfl,rfl,rfl,rfl,rfl,trivial⟩
 refine Sz O (Sz O (Sz O (Sz O (Sz O (fw (.bool false) (Yl.pickF rfl O rfl) ?_)))))
 have fF:=aY.pk [0,1]
 exact bQ false _ _ ⟨fF,(show (if K=true then bnd (ji a.az.ls b.az.ls) fun Y=>Y else false)=false from dn O)⟩ ⟨rfl,rfl,rfl,rfl,rfl,rfl,rfl,rfl,rfl,rfl,rfl,rfl,rfl,rfl,rfl,rfl,rfl,rfl,rfl,rfl,rfl,rfl,rfl,rfl,rfl,rfl,rfl,rfl,trivial⟩
 rintro P iI ⟨bg,aP⟩
 show WL _ _ _ (List.drop 6 _) _ [(84, .bool P),(78, .bool K),(77, .bool K),(71, .bool I),(70, .bool I),(64, .bool j),(63, .bool j),(57, .bool J),(56, .bool J),(50, .bool G),(49, .bool G),(43, .bool F),(42, .bool F),(36, .bool h),(35, .bool h),(29, .bool (decide (a.ae=b.ae))),(28, .bool (decide (a.ae=b.ae))),(27, .int .i64 b.ae),(26, .pointer (some ⟨f,0,none⟩)),(25, .int .i64 a.ae),(24, .pointer (some ⟨d,0,none⟩)),(11, .bool false),(10, .int .i64 9),(9, .int .i64 9),(8, .slice g 9 9),(4, .bool false),(3, .pointer (some ⟨f,0,none⟩)),(2, .pointer (some ⟨d,0,none⟩))] _
 replace aP:(if K=true then bnd (ji a.az.ls b.az.ls) fun Y=>Y else false)=P:=aP
 refine Mz rfl ?_
 refine WL.cutJ (ι:=Bool) 6 (fun i=> [(91, .bool i),(85, .bool P),(84, .bool P),(78, .bool K),(77, .bool K),(71, .bool I),(70, .bool I),(64, .bool j),(63, .bool j),(57, .bool J),(56, .bool J),(50, .bool G),(49, .bool G),(43, .bool F),(42, .bool F),(36, .bool h),(35, .bool h),(29, .bool (decide (a.ae=b.ae))),(28, .bool (decide (a.ae=b.ae))),(27, .int .i64 b.ae),(26, .pointer (some ⟨f,0,none⟩)),(25, .int .i64 a.ae),(24, .pointer (some ⟨d,0,none⟩)),(11, .bool false),(10, .int .i64 9),(9, .int .i64 9),(8, .slice g 9 9),(4, .bool false),(3, .pointer (some ⟨f,0,none⟩)),(2, .pointer (some ⟨d,0,none⟩))]) (fun i w'=>Own w D w' [blk f (aV b s t z B C E) 29,blk d (aV a l m n o p r) 29]∧((if P=true then bnd (ig a.ai.ls b.ai.ls) fun Z=>Z else false)=i)) ?_ ?_
 intro bU
 rcases Bool.eq_false_or_eq_true (P) with Q | Q
 refine Gz (.pointer (some ⟨d,19,none⟩)) Q (Gl (.slice n a.ai.ls.length o) Q bg 1 Tryz.isAgg26 (Gz (.pointer (some ⟨f,19,none⟩)) Q (Gl (.slice z b.ai.ls.length B) Q bg 0 Tryz.isAgg26 ?_)))
 obtain⟨bi,bV⟩:∃ q,ig a.ai.ls b.ai.ls=q:=⟨_,rfl⟩
 obtain⟨iJ,dZ,aH,d9,iA⟩:=Own.enter0 bg
 refine WL.doG rfl rfl Q rfl (Do.call Tryz.call49 rfl (o5 _ _ n a.ai.ls.length o aS a.ai.ls z b.ai.ls.length B aT b.ai.ls bi dZ bA (aH _ dJ) (fun x9 h9=>⟨aH _ (bB x9 h9).1,(bB x9 h9).2⟩) rfl (by omega) bE (aH _ dQ) (fun x9 h9=>⟨aH _ (bF x9 h9).1,(bF x9 h9).2⟩) rfl (by omega) bV) ?_)
 rintro _ iK ⟨rfl,ed⟩
 have fJ:=d9 _ _ ed
 refine fw (.bool bi) (Yl.pickT rfl Q rfl) ?_
 have fK:=fJ.pk [0,1]
 exact bU bi _ _ ⟨fK,(show (if P=true then bnd (ig a.ai.ls b.ai.ls) fun Z=>Z else false)=bi from et (ip Q) (aa bV))⟩ ⟨rfl,rfl,rfl,rfl,rfl,rfl,rfl,rfl,rfl,rfl,rfl,rfl,rfl,rfl,rfl,rfl,rfl,rfl,rfl,rfl,rfl,rfl,rfl,rfl,rfl,rfl,rfl,rfl,rfl,rfl,trivial⟩
 refine Sz Q (Sz Q (Sz Q (Sz Q (Sz Q (fw (.bool false) (Yl.pickF rfl Q rfl) ?_)))))
 have fM:=bg.pk [0,1]
 exact bU false _ _ ⟨fM,(show (if P=true then bnd (ig a.ai.ls b.ai.ls) fun Z=>Z else false)=false from dn Q)⟩ ⟨rfl,rfl,rfl,rfl,rfl,rfl,rfl,rfl,rfl,rfl,rfl,rfl,rfl,rfl,rfl,rfl,rfl,rfl,rfl,rfl,rfl,rfl,rfl,rfl,rfl,rfl,rfl,rfl,rfl,rfl,trivial⟩
 rintro T iL ⟨bn,aQ⟩
 show WL _ _ _ (List.drop 6 _) _ [(91, .bool T),(85, .bool P),(84, .bool P),(78, .bool K),(77, .bool K),(71, .bool I),(70, .bool I),(64, .bool j),(63, .bool j),(57, .bool J),(56, .bool J),(50, .bool G),(49, .bool G),(43, .bool F),(42, .bool F),(36, .bool h),(35, .bool h),(29, .bool (decide (a.ae=b.ae))),(28, .bool (decide (a.ae=b.ae))),(27, .int .i64 b.ae),(26, .pointer (some ⟨f,0,none⟩)),(25, .int .i64 a.ae),(24, .pointer (some ⟨d,0,none⟩)),(11, .bool false),(10, .int .i64 9),(9, .int .i64 9),(8, .slice g 9 9),(4, .bool false),(3, .pointer (some ⟨f,0,none⟩)),(2, .pointer (some ⟨d,0,none⟩))] _
 replace aQ:(if P=true then bnd (ig a.ai.ls b.ai.ls) fun Z=>Z else false)=T:=aQ
 refine Mz rfl ?_
 refine WL.cutJ (ι:=Bool) 6 (fun i=> [(98, .bool i),(92, .bool T),(91, .bool T),(85, .bool P),(84, .bool P),(78, .bool K),(77, .bool K),(71, .bool I),(70, .bool I),(64, .bool j),(63, .bool j),(57, .bool J),(56, .bool J),(50, .bool G),(49, .bool G),(43, .bool F),(42, .bool F),(36, .bool h),(35, .bool h),(29, .bool (decide (a.ae=b.ae))),(28, .bool (decide (a.ae=b.ae))),(27, .int .i64 b.ae),(26, .pointer (some ⟨f,0,none⟩)),(25, .int .i64 a.ae),(24, .pointer (some ⟨d,0,none⟩)),(11, .bool false),(10, .int .i64 9),(9, .int .i64 9),(8, .slice g 9 9),(4, .bool false),(3, .pointer (some ⟨f,0,none⟩)),(2, .pointer (some ⟨d,0,none⟩))]) (fun i w'=>Own w D w' [blk f (aV b s t z B C E) 29,blk d (aV a l m n o p r) 29]∧((if T=true then bnd (ku a.aj.ls b.aj.ls) fun ae=>ae else false)=i)) ?_ ?_
 intro bX
 rcases Bool.eq_false_or_eq_true (T) with R | R
 refine Gz (.pointer (some ⟨d,20,none⟩)) R (Gl (.slice p a.aj.ls.length r) R bn 1 Tryz.isAgg27 (Gz (.pointer (some ⟨f,20,none⟩)) R (Gl (.slice C b.aj.ls.length E) R bn 0 Tryz.isAgg27 ?_)))
 obtain⟨bq,bY⟩:∃ q,ku a.aj.ls b.aj.ls=q:=⟨_,rfl⟩
 obtain⟨iM,eu,bZ,eF,iB⟩:=Own.enter0 bn
 refine WL.doG rfl rfl R rfl (Do.call Tryz.call50 rfl (sH _ _ p a.aj.ls.length r a.aj.ls C b.aj.ls.length E b.aj.ls bq eu (bZ _ dL) rfl (by omega) (bZ _ dS) rfl (by omega) bY) ?_)
 rintro _ iO ⟨rfl,eG⟩
 have fO:=eF _ _ eG
 refine fw (.bool bq) (Yl.pickT rfl R rfl) ?_
 have fP:=fO.pk [0,1]
 exact bX bq _ _ ⟨fP,(show (if T=true then bnd (ku a.aj.ls b.aj.ls) fun ae=>ae else false)=bq from et (ip R) (aa bY))⟩ ⟨rfl,rfl,rfl,rfl,rfl,rfl,rfl,rfl,rfl,rfl,rfl,rfl,rfl,rfl,rfl,rfl,rfl,rfl,rfl,rfl,rfl,rfl,rfl,rfl,rfl,rfl,rfl,rfl,rfl,rfl,rfl,rfl,trivial⟩
 refine Sz R (Sz R (Sz R (Sz R (Sz R (fw (.bool false) (Yl.pickF rfl R rfl) ?_)))))
 have fQ:=bn.pk [0,1]
 exact bX false _ _ ⟨fQ,(show (if T=true then bnd (ku a.aj.ls b.aj.ls) fun ae=>ae else false)=false from dn R)⟩ ⟨rfl,rfl,rfl,rfl,rfl,rfl,rfl,rfl,rfl,rfl,rfl,rfl,rfl,rfl,rfl,rfl,rfl,rfl,rfl,rfl,rfl,rfl,rfl,rfl,rfl,rfl,rfl,rfl,rfl,rfl,rfl,rfl,trivial⟩
 rintro cu iQ ⟨fT,aR⟩
 show WL _ _ _ (List.drop 6 _) _ [(98, .bool cu),(92, .bool T),(91, .bool T),(85, .bool P),(84, .bool P),(78, .bool K),(77, .bool K),(71, .bool I),(70, .bool I),(64, .bool j),(63, .bool j),(57, .bool J),(56, .bool J),(50, .bool G),(49, .bool G),(43, .bool F),(42, .bool F),(36, .bool h),(35, .bool h),(29, .bool (decide (a.ae=b.ae))),(28, .bool (decide (a.ae=b.ae))),(27, .int .i64 b.ae),(26, .pointer (some ⟨f,0,none⟩)),(25, .int .i64 a.ae),(24, .pointer (some ⟨d,0,none⟩)),(11, .bool false),(10, .int .i64 9),(9, .int .i64 9),(8, .slice g 9 9),(4, .bool false),(3, .pointer (some ⟨f,0,none⟩)),(2, .pointer (some ⟨d,0,none⟩))] _
 replace aR:(if T=true then bnd (ku a.aj.ls b.aj.ls) fun ae=>ae else false)=cu:=aR
 refine An rfl (rt (rs ?_))
 have fU:=fT.pk []
 obtain rfl:_=cu:=hr.symm.trans (et (ip ah) (et (ip ai) (et (ip aj) (et (ip az) (et (ip aI) (et (ip aJ) (et (ip bv) (et (ip bH) (et (ip cz) (et (aa bI) (et (aa bJ) (et (aa bK) (et (aa aL) (et (aa aM) (et (aa aN) (et (aa aO) (et (aa aP) (et (aa aQ) (aa aR)))))))))))))))))))
 exact⟨rfl,fU⟩
 refine jT (dT cz) (sr (An rfl (rt (bR (tR (tR (bR (tR (rs ?_)))))))))
 have fV:=aK.pk []
 obtain rfl:_=false:=hr.symm.trans (et (ip ah) (et (ip ai) (et (ip aj) (et (ip az) (et (ip aI) (et (ip aJ) (et (ip bv) (et (ip bH) (iN cz)))))))))
 exact⟨rfl,fV⟩
 refine jT (dT bH) (sr (An rfl (rt (bR (tR (tR (bR (tR (rs ?_)))))))))
 have fZ:=aG.pk []
 obtain rfl:_=false:=hr.symm.trans (et (ip ah) (et (ip ai) (et (ip aj) (et (ip az) (et (ip aI) (et (ip aJ) (et (ip bv) (iN bH))))))))
 exact⟨rfl,fZ⟩
 refine jT (dT bv) (sr (An rfl (rt (bR (tR (tR (bR (tR (rs ?_)))))))))
 have gm:=aF.pk []
 obtain rfl:_=false:=hr.symm.trans (et (ip ah) (et (ip ai) (et (ip aj) (et (ip az) (et (ip aI) (et (ip aJ) (iN bv)))))))
 exact⟨rfl,gm⟩
 refine jT (dT aJ) (sr (An rfl (rt (bR (tR (tR (bR (tR (rs ?_)))))))))
 have gp:=aD.pk []
 obtain rfl:_=false:=hr.symm.trans (et (ip ah) (et (ip ai) (et (ip aj) (et (ip az) (et (ip aI) (iN aJ))))))
 exact⟨rfl,gp⟩
 refine jT (dT aI) (sr (An rfl (rt (bR (tR (tR (bR (tR (rs ?_)))))))))
 have gq:=aC.pk []
 obtain rfl:_=false:=hr.symm.trans (et (ip ah) (et (ip ai) (et (ip aj) (et (ip az) (iN aI)))))
 exact⟨rfl,gq⟩
 refine jT (dT az) (sr (An rfl (rt (bR (tR (tR (bR (tR (rs ?_)))))))))
 have gu:=ay.pk []
 obtain rfl:_=false:=hr.symm.trans (et (ip ah) (et (ip ai) (et (ip aj) (iN az))))
 exact⟨rfl,gu⟩
 refine jT (dT aj) (sr (An rfl (rt (bR (tR (tR (bR (tR (rs ?_)))))))))
 have gy:=ax.pk []
 obtain rfl:_=false:=hr.symm.trans (et (ip ah) (et (ip ai) (iN aj)))
 exact⟨rfl,gy⟩
 refine jT (dT ai) (sr (An rfl (rt (bR (tR (tR (bR (tR (rs ?_)))))))))
 have gz:=au.pk []
 obtain rfl:_=false:=hr.symm.trans (et (ip ah) (iN ai))
 exact⟨rfl,gz⟩
 refine jT (dT ah) (sr (An rfl (rt (bR (tR (tR (bR (tR (rs ?_)))))))))
 have gB:=ak.pk []
 obtain rfl:_=false:=hr.symm.trans (iN ah)
 exact⟨rfl,gB⟩
def oh:Bool:=
 bnd (kV (bG.mk 6 1 0 0 0 0 0 0 300 0 0 0 0 0 0 false (bC.mk ([]) ([])) (Ll.mk ([])) (Ll.mk ([])) (Ll.mk ([])))) fun b=>bnd (ed b.1) fun a=>bnd (jy ([6,1,0])) fun h=>bnd (ed h) fun i=>bnd (jy ([6,5,0,1])) fun c=>bnd (ed c) fun d=>bnd (jy ([15])) fun e=>bnd (ed e) fun f=>bnd (jy ([6,1,0,172,2])) fun g=>if b.1=g then if b.2=0 then if a.1.ae=6 then if a.1.bn=1 then if((a.1.bE:Nat):Int)=300 then if a.2=0 then if i.2=10 then if d.2=180 then decide (f.2=11) else false else false else false else false else false else false else false else false
theorem sJ (w:World) (D:Nat→Prop) (r0:Bool) (H:Own w D w []) (hr:oh=r0):
    Calls Tryz.prog 8 #[] w (cK fun v w'=>v= .bool r0∧Own w D w' []):=by
 refine Calls.body (args:= []) Tryz.func8 rfl rfl rfl ?_
 show Wp _ _ _ [] _ _
 refine sr (Ar rfl (Kz (.agg (bf 6 1 0 0 0 0 0 0 300 0 0 0 0 0 0 false ([]) ([]) none 0 0 none 0 0 none 0 0).toArray) ?_))
 obtain⟨⟨t,K⟩,u⟩:∃ q:(List UInt8) × Int,kV (bG.mk 6 1 0 0 0 0 0 0 300 0 0 0 0 0 0 false (bC.mk ([]) ([])) (Ll.mk ([])) (Ll.mk ([])) (Ll.mk ([])))=q:=⟨_,rfl⟩
 obtain⟨il,bT,fQ,bU,fT⟩:=Own.enter0 H
 refine cl Tryz.call9 (qI _ _ (bG.mk 6 1 0 0 0 0 0 0 300 0 0 0 0 0 0 false (bC.mk ([]) ([])) (Ll.mk ([])) (Ll.mk ([])) (Ll.mk ([]))) none 0 0 none 0 0 [] none 0 0 t K bT rfl (fun _ _=>bD.nil _ _ _) (by first | exact⟨Nat.le_of_ble_eq_true rfl,Nat.le_of_ble_eq_true rfl⟩ | omega | exact⟨Nat.le_refl _,by omega⟩) rfl rfl (fun _ _=>bD.nil _ _ _) (by first | exact⟨Nat.le_of_ble_eq_true rfl,Nat.le_of_ble_eq_true rfl⟩ | omega | exact⟨Nat.le_refl _,by omega⟩) (fun _ h9=>absurd h9 List.not_mem_nil) rfl (fun _ _=>bD.nil _ _ _) (by first | exact⟨Nat.le_of_ble_eq_true rfl,Nat.le_of_ble_eq_true rfl⟩ | omega | exact⟨Nat.le_refl _,by omega⟩) (by first | omega | (dsimp only; omega) | (simp only [List.length_nil]; omega)) (by first | omega | (dsimp only; omega) | (simp only [List.length_nil]; omega)) u) ?_
 rintro _ iw ⟨X,Y,rfl,bV,aF⟩
 have aY:=bU _ _ bV
 have fU:=aY.rowC (i:=0) rfl
 replace aF:t.length≤51000:=aF
 refine Mz rfl (Kz (.slice X t.length Y) (Kz (.int .i64 K) (Az rfl (Ar rfl (Mz rfl ?_)))))
 have fV:=aY.rowC (i:=0) rfl
 obtain⟨⟨a,L⟩,x⟩:∃ q:bG × Int,ed t=q:=⟨_,rfl⟩
 obtain⟨iy,bW,fZ,bX,bY⟩:=Own.enter0 aY
 refine cl Tryz.call13 (jZ _ _ X t.length Y t a L bW (bY _ 0 _ rfl bJ) rfl (by omega) (by first | omega | (simp only [List.length_take,List.length_drop]; omega) | exact Nat.le_refl _) x) ?_
 rintro _ iA ⟨Q,R,S,T,U,V,ay,rfl,bZ,cu,aG⟩
 have az:=bX _ _ bZ
 have gm:=dM cu
 have gp:=az.rowC (i:=0) rfl
 have gq:=az.rowC (i:=1) rfl
 have gu:=az.rowC (i:=3) rfl
 replace aG:a.az.ls.length≤1000∧a.ai.ls.length≤1000∧a.aj.ls.length≤1000∧a.bF≤18446744073709551615∧a.aY≤18446744073709551615∧a.bE≤18446744073709551615∧a.bH≤18446744073709551615∧a.bL≤18446744073709551615∧a.aS≤18446744073709551615∧a.bB≤18446744073709551615∧a.aK≤18446744073709551615∧a.xN≤18446744073709551615:=aG
 refine Mz rfl (Kz (.agg (aV a Q R S T U V).toArray) (Kz (.int .i64 L) ?_))
 refine dD (bf 0 0 0 0 0 0 0 0 0 0 0 0 0 0 0 false ([]) ([]) none 0 0 none 0 0 none 0 0) 29 az ?_
 intro Z iB eD
 refine bz (aV a Q R S T U V) 0 eD Tryz.sizeOf29 ?_
 intro iC eF
 refine Ar rfl ?_
 obtain⟨ae,y⟩:∃ q,jy ([6,1,0])=q:=⟨_,rfl⟩
 obtain⟨iD,cz,gy,cB,gz⟩:=Own.enter0 eF
 refine cl Tryz.call18 (kZ _ _ ([6,1,0]) ae cz (by first | omega | exact Nat.le_of_ble_eq_true rfl) y) ?_
 rintro _ iE ⟨eG,eH,rfl,cO,aH⟩
 have aZ:=cB _ _ cO
 have gB:=aZ.rowC (i:=0) rfl
 replace aH:ae.length≤3+15:=aH
 have gD:=aZ.rowC (i:=0) rfl
 obtain⟨⟨B,M⟩,z⟩:∃ q:bG × Int,ed ae=q:=⟨_,rfl⟩
 obtain⟨iF,cZ,gF,df,dh⟩:=Own.enter0 aZ
 refine cl Tryz.call13 (jZ _ _ eG ae.length eH ae B M cZ (dh _ 0 _ rfl bJ) rfl (by omega) (by first | omega | (simp only [List.length_take,List.length_drop]; omega) | exact Nat.le_refl _) z) ?_
 rintro _ iG ⟨di,dm,dn,dw,dx,dz,iH,rfl,dA,dB,af⟩
 have aC:=df _ _ dA
 have eO:=dM dB
 have eP:=aC.rowC (i:=0) rfl
 have eQ:=aC.rowC (i:=1) rfl
 have eT:=aC.rowC (i:=3) rfl
 replace af:B.az.ls.length≤1000∧B.ai.ls.length≤1000∧B.aj.ls.length≤1000∧B.bF≤18446744073709551615∧B.aY≤18446744073709551615∧B.bE≤18446744073709551615∧B.bH≤18446744073709551615∧B.bL≤18446744073709551615∧B.aS≤18446744073709551615∧B.bB≤18446744073709551615∧B.aK≤18446744073709551615∧B.xN≤18446744073709551615:=af
 refine Mz rfl (Kz (.agg (aV B di dm dn dw dx dz).toArray) (Kz (.int .i64 M) ?_))
 refine dD (bf 0 0 0 0 0 0 0 0 0 0 0 0 0 0 0 false ([]) ([]) none 0 0 none 0 0 none 0 0) 29 aC ?_
 intro gG gH dC
 refine bz (aV B di dm dn dw dx dz) 0 dC Tryz.sizeOf29 ?_
 intro gI dE
 refine An rfl (Wp.seq ?_)
 have dG:=dE.pk [6,7,8,9,10,11]
 refine Wp.region ?_
 obtain⟨I,j⟩:∃ q,jy ([6,5,0,1])=q:=⟨_,rfl⟩
 obtain⟨gJ,bg,eU,bi,eX⟩:=Own.enter0 dG
 refine cl Tryz.call18 (kZ _ _ ([6,5,0,1]) I bg (by first | omega | exact Nat.le_of_ble_eq_true rfl) j) ?_
 rintro _ gK ⟨dH,dI,rfl,bn,ah⟩
 have ai:=bi _ _ bn
 have eY:=ai.rowC (i:=0) rfl
 replace ah:I.length≤4+15:=ah
 have eZ:=ai.rowC (i:=0) rfl
 obtain⟨⟨c,F⟩,k⟩:∃ q:bG × Int,ed I=q:=⟨_,rfl⟩
 obtain⟨gL,bq,fe,bv,bA⟩:=Own.enter0 ai
 refine cl Tryz.call13 (jZ _ _ dH I.length dI I c F bq (bA _ 0 _ rfl bJ) rfl (by omega) (by first | omega | (simp only [List.length_take,List.length_drop]; omega) | exact Nat.le_refl _) k) ?_
 rintro _ gM ⟨aI,aJ,aK,aL,aM,aN,gN,rfl,bB,bE,aj⟩
 have N:=bv _ _ bB
 have fo:=dM bE
 have fq:=N.rowC (i:=0) rfl
 have fu:=N.rowC (i:=1) rfl
 have fw:=N.rowC (i:=3) rfl
 replace aj:c.az.ls.length≤1000∧c.ai.ls.length≤1000∧c.aj.ls.length≤1000∧c.bF≤18446744073709551615∧c.aY≤18446744073709551615∧c.bE≤18446744073709551615∧c.bH≤18446744073709551615∧c.bL≤18446744073709551615∧c.aS≤18446744073709551615∧c.bB≤18446744073709551615∧c.aK≤18446744073709551615∧c.xN≤18446744073709551615:=aj
 refine Mz rfl (Kz (.agg (aV c aI aJ aK aL aM aN).toArray) (Kz (.int .i64 F) ?_))
 refine dD (bf 0 0 0 0 0 0 0 0 0 0 0 0 0 0 0 false ([]) ([]) none 0 0 none 0 0 none 0 0) 29 N ?_
 intro gP gQ dJ
 refine bz (aV c aI aJ aK aL aM aN) 0 dJ Tryz.sizeOf29 ?_
 intro gT dK
 refine An rfl (Wp.seq ?_)
 have dL:=dK.pk [6,7,8,9,10,11]
 refine Wp.region ?_
 obtain⟨J,m⟩:∃ q,jy ([15])=q:=⟨_,rfl⟩
 obtain⟨gU,bF,fA,bH,fB⟩:=Own.enter0 dL
 refine cl Tryz.call18 (kZ _ _ ([15]) J bF (by first | omega | exact Nat.le_of_ble_eq_true rfl) m) ?_
 rintro _ gV ⟨dN,dO,rfl,bI,ak⟩
 have au:=bH _ _ bI
 have fC:=au.rowC (i:=0) rfl
 replace ak:J.length≤1+15:=ak
 have fD:=au.rowC (i:=0) rfl
 obtain⟨⟨d,G⟩,n⟩:∃ q:bG × Int,ed J=q:=⟨_,rfl⟩
 obtain⟨gW,bK,fE,bL,bM⟩:=Own.enter0 au
 refine cl Tryz.call13 (jZ _ _ dN J.length dO J d G bK (bM _ 0 _ rfl bJ) rfl (by omega) (by first | omega | (simp only [List.length_take,List.length_drop]; omega) | exact Nat.le_refl _) n) ?_
 rintro _ gX ⟨aO,aP,aQ,aR,aS,aT,gY,rfl,bN,bP,av⟩
 have O:=bL _ _ bN
 have fF:=dM bP
 have fH:=O.rowC (i:=0) rfl
 have fI:=O.rowC (i:=1) rfl
 have fJ:=O.rowC (i:=3) rfl
 replace av:d.az.ls.length≤1000∧d.ai.ls.length≤1000∧d.aj.ls.length≤1000∧d.bF≤18446744073709551615∧d.aY≤18446744073709551615∧d.bE≤18446744073709551615∧d.bH≤18446744073709551615∧d.bL≤18446744073709551615∧d.aS≤18446744073709551615∧d.bB≤18446744073709551615∧d.aK≤18446744073709551615∧d.xN≤18446744073709551615:=av
 refine Mz rfl (Kz (.agg (aV d aO aP aQ aR aS aT).toArray) (Kz (.int .i64 G) ?_))
 refine dD (bf 0 0 0 0 0 0 0 0 0 0 0 0 0 0 0 false ([]) ([]) none 0 0 none 0 0 none 0 0) 29 O ?_
 intro gZ ib dP
 refine bz (aV d aO aP aQ aR aS aT) 0 dP Tryz.sizeOf29 ?_
 intro dQ dR
 refine An rfl (Wp.seq ?_)
 have dS:=dR.pk [6,7,8,9,10,11]
 have P:=dS.drew
 refine Wp.drawnX [] (fun W=> ∃ L',Own w D W ([blk Z (aV a Q R S T U V) 29,row Q a.az.ls.length R (List.flatMap aB.cells a.az.ls) 64 6,row S a.ai.ls.length T (List.flatMap ag.cells ay) 84 3,sepL (List.flatMap ag.own ay),row U a.aj.ls.length V (List.flatMap aA.cells a.aj.ls) 88 2,row X t.length Y (List.flatMap eB t) 5 1]++L')) (by kernel_rfl) (by kernel_rfl) (bO.then bO.base) ⟨_,P⟩ ?_
 revert P
 generalize World.drew dQ=ic
 intro P
 refine GX.take (v:= .slice X t.length Y) (rs:= []) 0 rfl (by kernel_rfl) (fun _ _=>Yl.move rfl) (GX.take (v:= .string ⟨List.toArray t⟩) (rs:= []) 1 rfl (by kernel_rfl) (fun _ ⟨_,H9⟩=>Yl.toStringE (l:=t) Tryz.underlying31 Tryz.underlying5 Tryz.underlying9 (H9.rds (i:=5) rfl) rfl) ?_)
 obtain⟨p,o⟩:∃ q,jy ([6,1,0,172,2])=q:=⟨_,rfl⟩
 obtain⟨ig,bQ,fK,bR,fM⟩:=Own.enter0 P
 refine GX.do 2 rfl (by kernel_rfl) (Do.call Tryz.call18 rfl (kZ _ _ ([6,1,0,172,2]) p bQ (by first | omega | exact Nat.le_of_ble_eq_true rfl) o) ?_)
 rintro _ ik ⟨aU,aW,rfl,bS,ax⟩
 have aX:=bR _ _ bS
 have fO:=aX.rowC (i:=0) rfl
 replace ax:p.length≤5+15:=ax
 have r:=aX.pk [1,2,3,4,5,6,0]
 refine⟨.inr ⟨_,r⟩, ?_⟩
 refine GX.more (Good':=fun W=> ∃ L',Own w D W ([blk Z (aV a Q R S T U V) 29,row Q a.az.ls.length R (List.flatMap aB.cells a.az.ls) 64 6,row S a.ai.ls.length T (List.flatMap ag.cells ay) 84 3,sepL (List.flatMap ag.own ay),row U a.aj.ls.length V (List.flatMap aA.cells a.aj.ls) 88 2,row X t.length Y (List.flatMap eB t) 5 1,row aU p.length aW (List.flatMap eB p) 5 1]++L')) (fun _ ⟨L',h⟩=>⟨[row aU p.length aW (List.flatMap eB p) 5 1]++L',h⟩) ⟨_,r⟩ (GX.take (v:= .string ⟨List.toArray p⟩) (rs:= []) 3 rfl (by kernel_rfl) (fun _ ⟨_,H9⟩=>Yl.toStringE (l:=p) Tryz.underlying31 Tryz.underlying5 Tryz.underlying9 (H9.rds (i:=6) rfl) rfl) (GX.take (v:= .bool (decide (t=p))) (rs:= []) 4 rfl (by kernel_rfl) (fun _ _=>Yl.strEq rfl rfl) (GX.take (v:= .bool (decide (t=p))) (rs:= []) 5 rfl (by kernel_rfl) (fun _ _=>Yl.move rfl) ?_)))
 by_cases e:t=p
 refine GX.takeG (v:= .int .i64 K) (rs:= []) 6 rfl rfl rfl (dT e) (by kernel_rfl) (fun _ _=>Yl.move rfl) (GX.takeG (v:= .bool (decide (K=0))) (rs:= []) 7 rfl rfl rfl (dT e) (by kernel_rfl) (fun _ _=>yk) (GX.take (v:= .bool (decide (K=0))) (rs:= []) 8 rfl (by kernel_rfl) (fun _ _=>Yl.pickT rfl (dT e) rfl) (GX.take (v:= .bool (decide (K=0))) (rs:= []) 9 rfl (by kernel_rfl) (fun _ _=>Yl.move rfl) ?_)))
 by_cases b:K=0
 refine GX.takeG (v:= .pointer (some ⟨Z,0,none⟩)) (rs:= []) 10 rfl rfl rfl (dT b) (by kernel_rfl) (fun _ _=>yk) (GX.takeG (v:= .int .i64 a.ae) (rs:= []) 11 rfl rfl rfl (dT b) (by kernel_rfl) (fun _ ⟨_,H9⟩=>Yl.load rfl (bu.one Tryz.isAgg3 (fG.of (H9.cls (i:=0) rfl) rfl))) (GX.takeG (v:= .bool (decide (a.ae=6))) (rs:= []) 12 rfl rfl rfl (dT b) (by kernel_rfl) (fun _ _=>yk) (GX.take (v:= .bool (decide (a.ae=6))) (rs:= []) 13 rfl (by kernel_rfl) (fun _ _=>Yl.pickT rfl (dT b) rfl) (GX.take (v:= .bool (decide (a.ae=6))) (rs:= []) 14 rfl (by kernel_rfl) (fun _ _=>Yl.move rfl) ?_))))
 by_cases f:a.ae=6
 refine GX.takeG (v:= .pointer (some ⟨Z,1,none⟩)) (rs:= []) 15 rfl rfl rfl (dT f) (by kernel_rfl) (fun _ _=>yk) (GX.takeG (v:= .int .i64 a.bn) (rs:= []) 16 rfl rfl rfl (dT f) (by kernel_rfl) (fun _ ⟨_,H9⟩=>Yl.load rfl (bu.one Tryz.isAgg3 (fG.of (H9.cls (i:=0) rfl) rfl))) (GX.takeG (v:= .bool (decide (a.bn=1))) (rs:= []) 17 rfl rfl rfl (dT f) (by kernel_rfl) (fun _ _=>yk) (GX.take (v:= .bool (decide (a.bn=1))) (rs:= []) 18 rfl (by kernel_rfl) (fun _ _=>Yl.pickT rfl (dT f) rfl) (GX.take (v:= .bool (decide (a.bn=1))) (rs:= []) 19 rfl (by kernel_rfl) (fun _ _=>Yl.move rfl) ?_))))
 by_cases g:a.bn=1
 refine GX.takeG (v:= .pointer (some ⟨Z,8,none⟩)) (rs:= []) 20 rfl rfl rfl (dT g) (by kernel_rfl) (fun _ _=>yk) (GX.takeG (v:= .int .u64 ((a.bE:Nat):Int)) (rs:= []) 21 rfl rfl rfl (dT g) (by kernel_rfl) (fun _ ⟨_,H9⟩=>Yl.load rfl (bu.one Tryz.isAgg22 (fG.of (H9.cls (i:=0) rfl) rfl))) (GX.takeG (v:= .bool (decide (((a.bE:Nat):Int)=300))) (rs:= []) 22 rfl rfl rfl (dT g) (by kernel_rfl) (fun _ _=>yk) (GX.take (v:= .bool (decide (((a.bE:Nat):Int)=300))) (rs:= []) 23 rfl (by kernel_rfl) (fun _ _=>Yl.pickT rfl (dT g) rfl) (GX.take (v:= .bool (decide (((a.bE:Nat):Int)=300))) (rs:= []) 24 rfl (by kernel_rfl) (fun _ _=>Yl.move rfl) ?_))))
 by_cases s:((a.bE:Nat):Int)=300
 refine GX.takeG (v:= .int .i64 L) (rs:= []) 25 rfl rfl rfl (dT s) (by kernel_rfl) (fun _ _=>Yl.move rfl) (GX.takeG (v:= .bool (decide (L=0))) (rs:= []) 26 rfl rfl rfl (dT s) (by kernel_rfl) (fun _ _=>yk) (GX.take (v:= .bool (decide (L=0))) (rs:= []) 27 rfl (by kernel_rfl) (fun _ _=>Yl.pickT rfl (dT s) rfl) (GX.take (v:= .bool (decide (L=0))) (rs:= []) 28 rfl (by kernel_rfl) (fun _ _=>Yl.move rfl) ?_)))
 by_cases A:L=0
 refine GX.takeG (v:= .int .i64 M) (rs:= []) 29 rfl rfl rfl (dT A) (by kernel_rfl) (fun _ _=>Yl.move rfl) (GX.takeG (v:= .bool (decide (M=10))) (rs:= []) 30 rfl rfl rfl (dT A) (by kernel_rfl) (fun _ _=>yk) (GX.take (v:= .bool (decide (M=10))) (rs:= []) 31 rfl (by kernel_rfl) (fun _ _=>Yl.pickT rfl (dT A) rfl) (GX.take (v:= .bool (decide (M=10))) (rs:= []) 32 rfl (by kernel_rfl) (fun _ _=>Yl.move rfl) ?_)))
 by_cases C:M=10
 refine GX.takeG (v:= .int .i64 F) (rs:= []) 33 rfl rfl rfl (dT C) (by kernel_rfl) (fun _ _=>Yl.move rfl) (GX.takeG (v:= .bool (decide (F=180))) (rs:= []) 34 rfl rfl rfl (dT C) (by kernel_rfl) (fun _ _=>yk) (GX.take (v:= .bool (decide (F=180))) (rs:= []) 35 rfl (by kernel_rfl) (fun _ _=>Yl.pickT rfl (dT C) rfl) (GX.take (v:= .bool (decide (F=180))) (rs:= []) 36 rfl (by kernel_rfl) (fun _ _=>Yl.move rfl) ?_)))
 by_cases E:F=180
 refine GX.takeG (v:= .int .i64 G) (rs:= []) 37 rfl rfl rfl (dT E) (by kernel_rfl) (fun _ _=>Yl.move rfl) (GX.takeG (v:= .bool (decide (G=11))) (rs:= []) 38 rfl rfl rfl (dT E) (by kernel_rfl) (fun _ _=>yk) (GX.take (v:= .bool (decide (G=11))) (rs:= []) 39 rfl (by kernel_rfl) (fun _ _=>Yl.pickT rfl (dT E) rfl) (GX.take (v:= .bool (decide (G=11))) (rs:= []) 40 rfl (by kernel_rfl) (fun _ _=>Yl.assign rfl) (GX.done (by kernel_rfl) (Fin.then (rt (rs ?_)))))))
 have dU:=r.pk []
 obtain rfl:_=decide (G=11):=hr.symm.trans (et (aa u) (et (aa x) (et (aa y) (et (aa z) (et (aa j) (et (aa k) (et (aa m) (et (aa n) (et (aa o) (et (ip e) (et (ip b) (et (ip f) (et (ip g) (et (ip s) (et (ip A) (et (ip C) (ip E)))))))))))))))))
 exact⟨rfl,dU⟩
 refine GX.skipG (rs:= []) 37 rfl rfl rfl (dF E) (by kernel_rfl) (GX.skipG (rs:= []) 38 rfl rfl rfl (dF E) (by kernel_rfl) (GX.take (v:= .bool false) (rs:= []) 39 rfl (by kernel_rfl) (fun _ _=>Yl.pickF rfl (dF E) rfl) (GX.take (v:= .bool false) (rs:= []) 40 rfl (by kernel_rfl) (fun _ _=>Yl.assign rfl) (GX.done (by kernel_rfl) (Fin.then (rt (rs ?_)))))))
 have dV:=r.pk []
 obtain rfl:_=false:=hr.symm.trans (et (aa u) (et (aa x) (et (aa y) (et (aa z) (et (aa j) (et (aa k) (et (aa m) (et (aa n) (et (aa o) (et (ip e) (et (ip b) (et (ip f) (et (ip g) (et (ip s) (et (ip A) (et (ip C) (iN E)))))))))))))))))
 exact⟨rfl,dV⟩
 refine GX.skipG (rs:= []) 33 rfl rfl rfl (dF C) (by kernel_rfl) (GX.skipG (rs:= []) 34 rfl rfl rfl (dF C) (by kernel_rfl) (GX.take (v:= .bool false) (rs:= []) 35 rfl (by kernel_rfl) (fun _ _=>Yl.pickF rfl (dF C) rfl) (GX.take (v:= .bool false) (rs:= []) 36 rfl (by kernel_rfl) (fun _ _=>Yl.move rfl) (GX.skipG (rs:= []) 37 rfl rfl rfl rfl (by kernel_rfl) (GX.skipG (rs:= []) 38 rfl rfl rfl rfl (by kernel_rfl) (GX.take (v:= .bool false) (rs:= []) 39 rfl (by kernel_rfl) (fun _ _=>Yl.pickF rfl rfl rfl) (GX.take (v:= .bool false) (rs:= []) 40 rfl (by kernel_rfl) (fun _ _=>Yl.assign rfl) (GX.done (by kernel_rfl) (Fin.then (rt (rs ?_)))))))))))
 have dW:=r.pk []
 obtain rfl:_=false:=hr.symm.trans (et (aa u) (et (aa x) (et (aa y) (et (aa z) (et (aa j) (et (aa k) (et (aa m) (et (aa n) (et (aa o) (et (ip e) (et (ip b) (et (ip f) (et (ip g) (et (ip s) (et (ip A) (iN C))))))))))))))))
 exact⟨rfl,dW⟩
 refine GX.skipG (rs:= []) 29 rfl rfl rfl (dF A) (by kernel_rfl) (GX.skipG (rs:= []) 30 rfl rfl rfl (dF A) (by kernel_rfl) (GX.take (v:= .bool false) (rs:= []) 31 rfl (by kernel_rfl) (fun _ _=>Yl.pickF rfl (dF A) rfl) (GX.take (v:= .bool false) (rs:= []) 32 rfl (by kernel_rfl) (fun _ _=>Yl.move rfl) (GX.skipG (rs:= []) 33 rfl rfl rfl rfl (by kernel_rfl) (GX.skipG (rs:= []) 34 rfl rfl rfl rfl (by kernel_rfl) (GX.take (v:= .bool false) (rs:= []) 35 rfl (by kernel_rfl) (fun _ _=>Yl.pickF rfl rfl rfl) (GX.take (v:= .bool false) (rs:= []) 36 rfl (by kernel_rfl) (fun _ _=>Yl.move rfl) (GX.skipG (rs:= []) 37 rfl rfl rfl rfl (by kernel_rfl) (GX.skipG (rs:= []) 38 rfl rfl rfl rfl (by kernel_rfl) (GX.take (v:= .bool false) (rs:= []) 39 rfl (by kernel_rfl) (fun _ _=>Yl.pickF rfl rfl rfl) (GX.take (v:= .bool false) (rs:= []) 40 rfl (by kernel_rfl) (fun _ _=>Yl.assign rfl) (GX.done (by kernel_rfl) (Fin.then (rt (rs ?_)))))))))))))))
 have dX:=r.pk []
 obtain rfl:_=false:=hr.symm.trans (et (aa u) (et (aa x) (et (aa y) (et (aa z) (et (aa j) (et (aa k) (et (aa m) (et (aa n) (et (aa o) (et (ip e) (et (ip b) (et (ip f) (et (ip g) (et (ip s) (iN A)))))))))))))))
 exact⟨rfl,dX⟩
 refine GX.skipG (rs:= []) 25 rfl rfl rfl (dF s) (by kernel_rfl) (GX.skipG (rs:= []) 26 rfl rfl rfl (dF s) (by kernel_rfl) (GX.take (v:= .bool false) (rs:= []) 27 rfl (by kernel_rfl) (fun _ _=>Yl.pickF rfl (dF s) rfl) (GX.take (v:= .bool false) (rs:= []) 28 rfl (by kernel_rfl) (fun _ _=>Yl.move rfl) (GX.skipG (rs:= []) 29 rfl rfl rfl rfl (by kernel_rfl) (GX.skipG (rs:= []) 30 rfl rfl rfl rfl (by kernel_rfl) (GX.take (v:= .bool false) (rs:= []) 31 rfl (by kernel_rfl) (fun _ _=>Yl.pickF rfl rfl rfl) (GX.take (v:= .bool false) (rs:= []) 32 rfl (by kernel_rfl) (fun _ _=>Yl.move rfl) (GX.skipG (rs:= []) 33 rfl rfl rfl rfl (by kernel_rfl) (GX.skipG (rs:= []) 34 rfl rfl rfl rfl (by kernel_rfl) (GX.take (v:= .bool false) (rs:= []) 35 rfl (by kernel_rfl) (fun _ _=>Yl.pickF rfl rfl rfl) (GX.take (v:= .bool false) (rs:= []) 36 rfl (by kernel_rfl) (fun _ _=>Yl.move rfl) (GX.skipG (rs:= []) 37 rfl rfl rfl rfl (by kernel_rfl) (GX.skipG (rs:= []) 38 rfl rfl rfl rfl (by kernel_rfl) (GX.take (v:= .bool false) (rs:= []) 39 rfl (by kernel_rfl) (fun _ _=>Yl.pickF rfl rfl rfl) (GX.take (v:= .bool false) (rs:= []) 40 rfl (by kernel_rfl) (fun _ _=>Yl.assign rfl) (GX.done (by kernel_rfl) (Fin.then (rt (rs ?_)))))))))))))))))))
 have dY:=r.pk []
 obtain rfl:_=false:=hr.symm.trans (et (aa u) (et (aa x) (et (aa y) (et (aa z) (et (aa j) (et (aa k) (et (aa m) (et (aa n) (et (aa o) (et (ip e) (et (ip b) (et (ip f) (et (ip g) (iN s))))))))))))))
 exact⟨rfl,dY⟩
 refine GX.skipG (rs:= []) 20 rfl rfl rfl (dF g) (by kernel_rfl) (GX.skipG (rs:= []) 21 rfl rfl rfl (dF g) (by kernel_rfl) (GX.skipG (rs:= []) 22 rfl rfl rfl (dF g) (by kernel_rfl) (GX.take (v:= .bool false) (rs:= []) 23 rfl (by kernel_rfl) (fun _ _=>Yl.pickF rfl (dF g) rfl) (GX.take (v:= .bool false) (rs:= []) 24 rfl (by kernel_rfl) (fun _ _=>Yl.move rfl) (GX.skipG (rs:= []) 25 rfl rfl rfl rfl (by kernel_rfl) (GX.skipG (rs:= []) 26 rfl rfl rfl rfl (by kernel_rfl) (GX.take (v:= .bool false) (rs:= []) 27 rfl (by kernel_rfl) (fun _ _=>Yl.pickF rfl rfl rfl) (GX.take (v:= .bool false) (rs:= []) 28 rfl (by kernel_rfl) (fun _ _=>Yl.move rfl) (GX.skipG (rs:= []) 29 rfl rfl rfl rfl (by kernel_rfl) (GX.skipG (rs:= []) 30 rfl rfl rfl rfl (by kernel_rfl) (GX.take (v:= .bool false) (rs:= []) 31 rfl (by kernel_rfl) (fun _ _=>Yl.pickF rfl rfl rfl) (GX.take (v:= .bool false) (rs:= []) 32 rfl (by kernel_rfl) (fun _ _=>Yl.move rfl) (GX.skipG (rs:= []) 33 rfl rfl rfl rfl (by kernel_rfl) (GX.skipG (rs:= []) 34 rfl rfl rfl rfl (by kernel_rfl) (GX.take (v:= .bool false) (rs:= []) 35 rfl (by kernel_rfl) (fun _ _=>Yl.pickF rfl rfl rfl) (GX.take (v:= .bool false) (rs:= []) 36 rfl (by kernel_rfl) (fun _ _=>Yl.move rfl) (GX.skipG (rs:= []) 37 rfl rfl rfl rfl (by kernel_rfl) (GX.skipG (rs:= []) 38 rfl rfl rfl rfl (by kernel_rfl) (GX.take (v:= .bool false) (rs:= []) 39 rfl (by kernel_rfl) (fun _ _=>Yl.pickF rfl rfl rfl) (GX.take (v:= .bool false) (rs:= []) 40 rfl (by kernel_rfl) (fun _ _=>Yl.assign rfl) (GX.done (by kernel_rfl) (Fin.then (rt (rs ?_))))))))))))))))))))))))
 have dZ:=r.pk []
 obtain rfl:_=false:=hr.symm.trans (et (aa u) (et (aa x) (et (aa y) (et (aa z) (et (aa j) (et (aa k) (et (aa m) (et (aa n) (et (aa o) (et (ip e) (et (ip b) (et (ip f) (iN g)))))))))))))
 exact⟨rfl,dZ⟩
 refine GX.skipG (rs:= []) 15 rfl rfl rfl (dF f) (by kernel_rfl) (GX.skipG (rs:= []) 16 rfl rfl rfl (dF f) (by kernel_rfl) (GX.skipG (rs:= []) 17 rfl rfl rfl (dF f) (by kernel_rfl) (GX.take (v:= .bool false) (rs:= []) 18 rfl (by kernel_rfl) (fun _ _=>Yl.pickF rfl (dF f) rfl) (GX.take (v:= .bool false) (rs:= []) 19 rfl (by kernel_rfl) (fun _ _=>Yl.move rfl) (GX.skipG (rs:= []) 20 rfl rfl rfl rfl (by kernel_rfl) (GX.skipG (rs:= []) 21 rfl rfl rfl rfl (by kernel_rfl) (GX.skipG (rs:= []) 22 rfl rfl rfl rfl (by kernel_rfl) (GX.take (v:= .bool false) (rs:= []) 23 rfl (by kernel_rfl) (fun _ _=>Yl.pickF rfl rfl rfl) (GX.take (v:= .bool false) (rs:= []) 24 rfl (by kernel_rfl) (fun _ _=>Yl.move rfl) (GX.skipG (rs:= []) 25 rfl rfl rfl rfl (by kernel_rfl) (GX.skipG (rs:= []) 26 rfl rfl rfl rfl (by kernel_rfl) (GX.take (v:= .bool false) (rs:= []) 27 rfl (by kernel_rfl) (fun _ _=>Yl.pickF rfl rfl rfl) (GX.take (v:= .bool false) (rs:= []) 28 rfl (by kernel_rfl) (fun _ _=>Yl.move rfl) (GX.skipG (rs:= []) 29 rfl rfl rfl rfl (by kernel_rfl) (GX.skipG (rs:= []) 30 rfl rfl rfl rfl (by kernel_rfl) (GX.take (v:= .bool false) (rs:= []) 31 rfl (by kernel_rfl) (fun _ _=>Yl.pickF rfl rfl rfl) (GX.take (v:= .bool false) (rs:= []) 32 rfl (by kernel_rfl) (fun _ _=>Yl.move rfl) (GX.skipG (rs:= []) 33 rfl rfl rfl rfl (by kernel_rfl) (GX.skipG (rs:= []) 34 rfl rfl rfl rfl (by kernel_rfl) (GX.take (v:= .bool false) (rs:= []) 35 rfl (by kernel_rfl) (fun _ _=>Yl.pickF rfl rfl rfl) (GX.take (v:= .bool false) (rs:= []) 36 rfl (by kernel_rfl) (fun _ _=>Yl.move rfl) (GX.skipG (rs:= []) 37 rfl rfl rfl rfl (by kernel_rfl) (GX.skipG (rs:= []) 38 rfl rfl rfl rfl (by kernel_rfl) (GX.take (v:= .bool false) (rs:= []) 39 rfl (by kernel_rfl) (fun _ _=>Yl.pickF rfl rfl rfl) (GX.take (v:= .bool false) (rs:= []) 40 rfl (by kernel_rfl) (fun _ _=>Yl.assign rfl) (GX.done (by kernel_rfl) (Fin.then (rt (rs ?_)))))))))))))))))))))))))))))
 have d9:=r.pk []
 obtain rfl:_=false:=hr.symm.trans (et (aa u) (et (aa x) (et (aa y) (et (aa z) (et (aa j) (et (aa k) (et (aa m) (et (aa n) (et (aa o) (et (ip e) (et (ip b) (iN f))))))))))))
 exact⟨rfl,d9⟩
 refine GX.skipG (rs:= []) 10 rfl rfl rfl (dF b) (by kernel_rfl) (GX.skipG (rs:= []) 11 rfl rfl rfl (dF b) (by kernel_rfl) (GX.skipG (rs:= []) 12 rfl rfl rfl (dF b) (by kernel_rfl) (GX.take (v:= .bool false) (rs:= []) 13 rfl (by kernel_rfl) (fun _ _=>Yl.pickF rfl (dF b) rfl) (GX.take (v:= .bool false) (rs:= []) 14 rfl (by kernel_rfl) (fun _ _=>Yl.move rfl) (GX.skipG (rs:= []) 15 rfl rfl rfl rfl (by kernel_rfl) (GX.skipG (rs:= []) 16 rfl rfl rfl rfl (by kernel_rfl) (GX.skipG (rs:= []) 17 rfl rfl rfl rfl (by kernel_rfl) (GX.take (v:= .bool false) (rs:= []) 18 rfl (by kernel_rfl) (fun _ _=>Yl.pickF rfl rfl rfl) (GX.take (v:= .bool false) (rs:= []) 19 rfl (by kernel_rfl) (fun _ _=>Yl.move rfl) (GX.skipG (rs:= []) 20 rfl rfl rfl rfl (by kernel_rfl) (GX.skipG (rs:= []) 21 rfl rfl rfl rfl (by kernel_rfl) (GX.skipG (rs:= []) 22 rfl rfl rfl rfl (by kernel_rfl) (GX.take (v:= .bool false) (rs:= []) 23 rfl (by kernel_rfl) (fun _ _=>Yl.pickF rfl rfl rfl) (GX.take (v:= .bool false) (rs:= []) 24 rfl (by kernel_rfl) (fun _ _=>Yl.move rfl) (GX.skipG (rs:= []) 25 rfl rfl rfl rfl (by kernel_rfl) (GX.skipG (rs:= []) 26 rfl rfl rfl rfl (by kernel_rfl) (GX.take (v:= .bool false) (rs:= []) 27 rfl (by kernel_rfl) (fun _ _=>Yl.pickF rfl rfl rfl) (GX.take (v:= .bool false) (rs:= []) 28 rfl (by kernel_rfl) (fun _ _=>Yl.move rfl) (GX.skipG (rs:= []) 29 rfl rfl rfl rfl (by kernel_rfl) (GX.skipG (rs:= []) 30 rfl rfl rfl rfl (by kernel_rfl) (GX.take (v:= .bool false) (rs:= []) 31 rfl (by kernel_rfl) (fun _ _=>Yl.pickF rfl rfl rfl) (GX.take (v:= .bool false) (rs:= []) 32 rfl (by kernel_rfl) (fun _ _=>Yl.move rfl) (GX.skipG (rs:= []) 33 rfl rfl rfl rfl (by kernel_rfl) (GX.skipG (rs:= []) 34 rfl rfl rfl rfl (by kernel_rfl) (GX.take (v:= .bool false) (rs:= []) 35 rfl (by kernel_rfl) (fun _ _=>Yl.pickF rfl rfl rfl) (GX.take (v:= .bool false) (rs:= []) 36 rfl (by kernel_rfl) (fun _ _=>Yl.move rfl) (GX.skipG (rs:= []) 37 rfl rfl rfl rfl (by kernel_rfl) (GX.skipG (rs:= []) 38 rfl rfl rfl rfl (by kernel_rfl) (GX.take (v:= .bool false) (rs:= []) 39 rfl (by kernel_rfl) (fun _ _=>Yl.pickF rfl rfl rfl) (GX.take (v:= .bool false) (rs:= []) 40 rfl (by kernel_rfl) (fun _ _=>Yl.assign rfl) (GX.done (by kernel_rfl) (Fin.then (rt (rs ?_))))))))))))))))))))))))))))))))))
 have ek:=r.pk []
 obtain rfl:_=false:=hr.symm.trans (et (aa u) (et (aa x) (et (aa y) (et (aa z) (et (aa j) (et (aa k) (et (aa m) (et (aa n) (et (aa o) (et (ip e) (iN b)))))))))))
 exact⟨rfl,ek⟩
 refine GX.skipG (rs:= []) 6 rfl rfl rfl (dF e) (by kernel_rfl) (GX.skipG (rs:= []) 7 rfl rfl rfl (dF e) (by kernel_rfl) (GX.take (v:= .bool false) (rs:= []) 8 rfl (by kernel_rfl) (fun _ _=>Yl.pickF rfl (dF e) rfl) (GX.take (v:= .bool false) (rs:= []) 9 rfl (by kernel_rfl) (fun _ _=>Yl.move rfl) (GX.skipG (rs:= []) 10 rfl rfl rfl rfl (by kernel_rfl) (GX.skipG (rs:= []) 11 rfl rfl rfl rfl (by kernel_rfl) (GX.skipG (rs:= []) 12 rfl rfl rfl rfl (by kernel_rfl) (GX.take (v:= .bool false) (rs:= []) 13 rfl (by kernel_rfl) (fun _ _=>Yl.pickF rfl rfl rfl) (GX.take (v:= .bool false) (rs:= []) 14 rfl (by kernel_rfl) (fun _ _=>Yl.move rfl) (GX.skipG (rs:= []) 15 rfl rfl rfl rfl (by kernel_rfl) (GX.skipG (rs:= []) 16 rfl rfl rfl rfl (by kernel_rfl) (GX.skipG (rs:= []) 17 rfl rfl rfl rfl (by kernel_rfl) (GX.take (v:= .bool false) (rs:= []) 18 rfl (by kernel_rfl) (fun _ _=>Yl.pickF rfl rfl rfl) (GX.take (v:= .bool false) (rs:= []) 19 rfl (by kernel_rfl) (fun _ _=>Yl.move rfl) (GX.skipG (rs:= []) 20 rfl rfl rfl rfl (by kernel_rfl) (GX.skipG (rs:= []) 21 rfl rfl rfl rfl (by kernel_rfl) (GX.skipG (rs:= []) 22 rfl rfl rfl rfl (by kernel_rfl) (GX.take (v:= .bool false) (rs:= []) 23 rfl (by kernel_rfl) (fun _ _=>Yl.pickF rfl rfl rfl) (GX.take (v:= .bool false) (rs:= []) 24 rfl (by kernel_rfl) (fun _ _=>Yl.move rfl) (GX.skipG (rs:= []) 25 rfl rfl rfl rfl (by kernel_rfl) (GX.skipG (rs:= []) 26 rfl rfl rfl rfl (by kernel_rfl) (GX.take (v:= .bool false) (rs:= []) 27 rfl (by kernel_rfl) (fun _ _=>Yl.pickF rfl rfl rfl) (GX.take (v:= .bool false) (rs:= []) 28 rfl (by kernel_rfl) (fun _ _=>Yl.move rfl) (GX.skipG (rs:= []) 29 rfl rfl rfl rfl (by kernel_rfl) (GX.skipG (rs:= []) 30 rfl rfl rfl rfl (by kernel_rfl) (GX.take (v:= .bool false) (rs:= []) 31 rfl (by kernel_rfl) (fun _ _=>Yl.pickF rfl rfl rfl) (GX.take (v:= .bool false) (rs:= []) 32 rfl (by kernel_rfl) (fun _ _=>Yl.move rfl) (GX.skipG (rs:= []) 33 rfl rfl rfl rfl (by kernel_rfl) (GX.skipG (rs:= []) 34 rfl rfl rfl rfl (by kernel_rfl) (GX.take (v:= .bool false) (rs:= []) 35 rfl (by kernel_rfl) (fun _ _=>Yl.pickF rfl rfl rfl) (GX.take (v:= .bool false) (rs:= []) 36 rfl (by kernel_rfl) (fun _ _=>Yl.move rfl) (GX.skipG (rs:= []) 37 rfl rfl rfl rfl (by kernel_rfl) (GX.skipG (rs:= []) 38 rfl rfl rfl rfl (by kernel_rfl) (GX.take (v:= .bool false) (rs:= []) 39 rfl (by kernel_rfl) (fun _ _=>Yl.pickF rfl rfl rfl) (GX.take (v:= .bool false) (rs:= []) 40 rfl (by kernel_rfl) (fun _ _=>Yl.assign rfl) (GX.done (by kernel_rfl) (Fin.then (rt (rs ?_))))))))))))))))))))))))))))))))))))))
 have eu:=r.pk []
 obtain rfl:_=false:=hr.symm.trans (et (aa u) (et (aa x) (et (aa y) (et (aa z) (et (aa j) (et (aa k) (et (aa m) (et (aa n) (et (aa o) (iN e))))))))))
 exact⟨rfl,eu⟩
end Go.Proofs.YtccjclalngabhaaGreat
