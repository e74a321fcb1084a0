/-
 wire: the chapter's examples, and what is the same.
-/
import Derived.Test.YtccjclalngabhaaGreatWx
import Derived.Test.YtccjclalngabhaaGreatWf
import Derived.Test.YtccjclalngabhaaGreatWv
import Derived.Test.YtccjclalngabhaaGreatWiD
import Derived.Test.YtccjclalngabhaaGreatWs
namespace Go.Proofs.YtccjclalngabhaaGreat
set_option maxRecDepth 100000
open Go.RowKit
set_option linter.unusedVariables false
set_option linter.unusedSectionVars false
set_option linter.unusedSimpArgs false
def jD (b:List UInt8):(List UInt8):=
 bnd (kw b) fun a=>a.1
theorem lq (w:World) (D:Nat→Prop) (a:List UInt8) (e:List UInt8) (H:Own w D w []) (B:a.length≤100000) (hr:jD a=e):
    Calls Tryz.prog 18 #[.string ⟨List.toArray a⟩] w (cO fun v w'=> ∃ (x:Option Addr) (y:Nat),v= .slice x e.length y∧Own w D w' [row x e.length y (List.flatMap eB e) 5 1]∧(e.length≤a.length+15)):=by
 refine yR (args:= [.string ⟨List.toArray a⟩]) Tryz.func18 rfl rfl rfl ?_
 show Wp _ _ _ [(0, .string ⟨List.toArray a⟩)] _ _
 refine sr (Ar rfl (Mz rfl ?_))
 refine WL.do rfl (zS (l:=a) Tryz.underlying9 Tryz.underlying31 Tryz.underlying5 H rfl (by unfold maxLen; omega) ?_)
 intro p r C s
 obtain⟨⟨b,f⟩,c⟩:∃ q:(List UInt8) × Int,kw a=q:=⟨_,rfl⟩
 obtain⟨E,g,z,h,j⟩:=yP s
 refine cl Tryz.call17 (oK _ _ p a.length r a b f g (j _ 0 _ rfl bI) rfl (by omega) c) ?_
 rintro _ F ⟨k,m,rfl,n,d⟩
 have o:=h _ _ n
 have A:=o.rowC (i:=0) rfl
 replace d:b.length≤a.length+15:=d
 refine Mz rfl (Kz (.slice k b.length m) (Kz (.int .i64 f) (Az rfl (An rfl (yJ ?_)))))
 have t:=o.pk [0]
 refine yK (Mz rfl (An rfl (rt (rs ?_))))
 have u:=t.pk [0]
 obtain rfl:_=b:=hr.symm.trans (aa c)
 exact⟨k,m,rfl,u,(by first | omega | (simp only [List.length_cons,List.length_nil,List.length_append]; omega))⟩
def gH (e:List aB):List aB→Nat→Unit ⊕ Bool
  | [],c=>Sum.inl ()
  | b::d,c=>bnd (List.getD e c default) fun a=>if(b.ae=a.ae)∧(b.aL=a.aL)∧(b.au=a.au)∧(b.aD=a.aD)∧(b.aH=a.aH)∧(b.aF=a.aF) then gH e d (c+1) else Sum.inr (false)
def jv (a:List aB) (b:List aB):Bool:=
 if((a.length:Nat):Int)=((b.length:Nat):Int) then lp (gH b a 0) fun _=>true else false
theorem qY (w:World) (D:Nat→Prop) (m:Option Addr) (n0 y:Nat) (d:List aB) (n:Option Addr) (I z:Nat) (f:List aB) (R:Bool) (H:Own w D w []) (s:Ro w D fun w'=>bD w' 6 m n0 (List.flatMap aB.cells d)) (J:n0=d.length) (T:d.length≤9223372036854775807) (A:Ro w D fun w'=>bD w' 6 n I (List.flatMap aB.cells f)) (K:I=f.length) (U:f.length≤9223372036854775807) (hr:jv d f=R):
    Calls Tryz.prog 48 #[.slice m n0 y, .slice n I z] w (cO fun v w'=>v= .bool R∧Own w D w' []):=by
 subst J K
 refine yR (args:= [.slice m d.length y, .slice n f.length z]) Tryz.func48 rfl rfl rfl ?_
 show Wp _ _ _ [(0, .slice m d.length y),(1, .slice n f.length z)] _ _
 refine sr (An rfl (yJ (sr (Mz rfl (Kz (.int .i64 ((d.length:Nat):Int)) (Mz rfl (Kz (.int .i64 ((f.length:Nat):Int)) (fw (.bool (decide (¬ (((d.length:Nat):Int)=((f.length:Nat):Int))))) (za (e:= !(decide (((d.length:Nat):Int)=((f.length:Nat):Int)))) yk decide_not.symm) (nt ?_)))))))))
 by_cases g:((d.length:Nat):Int)=((f.length:Nat):Int)
 refine jF (dF (BK g)) (sk (yJ (sr (Mz rfl (Kz (.int .i64 ((d.length:Nat):Int)) (Mn rfl (bo ?_)))))))
 have L:Own w D w []:=H.pk []
 obtain⟨B,C⟩:∃ q:Nat→World→Prop,q=fun(i:Nat) w'=>Own w D w' []∧(i≤d.length∧gH f d 0=gH f (List.drop i d) i):=⟨_,rfl⟩
 have h:∀ {c:Nat} {w':World},B c w'↔Own w D w' []∧c≤d.length∧gH f d 0=gH f (List.drop c d) c:=by intros; subst C; exact Iff.rfl
 refine Wp.loop (fun i:Nat=> [(4, .bool false),(13, .int .i64 ((i:Nat):Int)),(12, .int .i64 ((d.length:Nat):Int)),(0, .slice m d.length y),(1, .slice n f.length z)]) B (fun i=>d.length - i) 0 ⟨rfl,rfl,rfl,rfl,rfl,trivial⟩ (h.2 ⟨L,by omega,rfl⟩) ?_
 rintro c M E
 show Wp _ _ _ [(4, .bool false),(13, .int .i64 ((c:Nat):Int)),(12, .int .i64 ((d.length:Nat):Int)),(0, .slice m d.length y),(1, .slice n f.length z)] _ _
 obtain⟨t,S,j⟩:=h.1 E
 refine sr (Kz (.bool (decide (((c:Nat):Int) < ((d.length:Nat):Int)))) (nt (yJ ?_)))
 by_cases F:((c:Nat):Int) < ((d.length:Nat):Int)
 obtain⟨a,p⟩:=dV (ls:=d) (i:=c) aB.len (by decide) (t.ro s) (by first | omega | (simp; done) | (simp; omega))
 have r:=drop_at p
 refine jT (dT F) (sk (yJ (bo (sr (Mz rfl (An rfl (yJ ?_)))))))
 have k:=t.drew
 refine zt [] (fun W=> ∃ L',Own w D W ([]++L')) (by kernel_rfl) (by kernel_rfl) (zb (bM.block (zb (zb (bM.block (zb zw)))))) ⟨_,k⟩ ?_
 revert k
 generalize World.drew M=V
 intro k
 refine GX.take (v:= .slice m d.length y) (rs:= []) 0 rfl (by kernel_rfl) (fun _ _=>yO rfl) (GX.take (v:= .int .i64 ((c:Nat):Int)) (rs:= []) 1 rfl (by kernel_rfl) (fun _ _=>yO rfl) (GX.take (v:= .pointer (some ⟨ab m,ao m+c *6,none⟩)) (rs:= []) 2 rfl (by kernel_rfl) (fun _ ⟨_,x⟩=>yZ (l8) rfl rfl ((x.ro s).addr (i:=c) (by omega)) (by omega)) (GX.take (v:= .agg (aB.cells a).toArray) (rs:= []) 3 rfl (by kernel_rfl) (fun _ ⟨_,x⟩=>y5 rfl (zg (cs:=(aB.cells a)) Tryz.isAgg64 Tryz.sizeOf64 ((x.ro s).elem aB.len p (by decide)))) (GX.take (v:= .slice n f.length z) (rs:= []) 4 rfl (by kernel_rfl) (fun _ _=>yO rfl) (GX.take (v:= .int .i64 ((c:Nat):Int)) (rs:= []) 5 rfl (by kernel_rfl) (fun _ _=>yO rfl) ?_)))))
 obtain⟨b,l⟩:=jZ (ls:=f) (i:=c) (by first | omega | (simp; done) | (simp; omega))
 refine GX.take (v:= .pointer (some ⟨ab n,ao n+c *6,none⟩)) (rs:= []) 6 rfl (by kernel_rfl) (fun _ ⟨_,x⟩=>yZ (l8) rfl rfl ((x.ro A).addr (i:=c) (by omega)) (by omega)) (GX.take (v:= .agg (aB.cells b).toArray) (rs:= []) 7 rfl (by kernel_rfl) (fun _ ⟨_,x⟩=>y5 rfl (zg (cs:=(aB.cells b)) Tryz.isAgg64 Tryz.sizeOf64 ((x.ro A).elem aB.len l (by decide)))) (GX.take (v:= .bool (decide (¬ ((a.ae=b.ae)∧(a.aL=b.aL)∧(a.au=b.au)∧(a.aD=b.aD)∧(a.aH=b.aH)∧(a.aF=b.aF))))) (rs:= []) 8 rfl (by kernel_rfl) (fun _ _=>za (e:= !(decide ((a.ae=b.ae)∧(a.aL=b.aL)∧(a.au=b.au)∧(a.aD=b.aD)∧(a.aH=b.aH)∧(a.aF=b.aF)))) (zM rfl rfl (by kernel_rfl) rfl (fD.struct Tryz.underlying64 (by kernel_rfl) (zK (eF.cons (u:= .int .i64 a.ae) (v:= .int .i64 b.ae) (by decide) (fun _=>by kernel_rfl) (fun _=>by kernel_rfl) (fD.int Tryz.underlying3) (eF.cons (u:= .string ⟨List.toArray a.aL⟩) (v:= .string ⟨List.toArray b.aL⟩) (by decide) (fun _=>by kernel_rfl) (fun _=>by kernel_rfl) (fD.string Tryz.underlying9) (eF.cons (u:= .string ⟨List.toArray a.au⟩) (v:= .string ⟨List.toArray b.au⟩) (by decide) (fun _=>by kernel_rfl) (fun _=>by kernel_rfl) (fD.string Tryz.underlying9) (eF.cons (u:= .string ⟨List.toArray a.aD⟩) (v:= .string ⟨List.toArray b.aD⟩) (by decide) (fun _=>by kernel_rfl) (fun _=>by kernel_rfl) (fD.string Tryz.underlying9) (eF.cons (u:= .string ⟨List.toArray a.aH⟩) (v:= .string ⟨List.toArray b.aH⟩) (by decide) (fun _=>by kernel_rfl) (fun _=>by kernel_rfl) (fD.string Tryz.underlying9) (eF.cons (u:= .int .i64 a.aF) (v:= .int .i64 b.aF) (by decide) (fun _=>by kernel_rfl) (fun _=>by kernel_rfl) (fD.int Tryz.underlying3) (eF.nil.up (BJ _)))))))) ((congrArg (decide (a.ae=b.ae) && ·) ((congrArg (decide (a.aL=b.aL) && ·) ((congrArg (decide (a.au=b.au) && ·) ((congrArg (decide (a.aD=b.aD) && ·) ((congrArg (decide (a.aH=b.aH) && ·) jH).trans eu)).trans eu)).trans eu)).trans eu)).trans eu)))) decide_not.symm) (zk (by kernel_rfl) (yL ?_))))
 by_cases o:(a.ae=b.ae)∧(a.aL=b.aL)∧(a.au=b.au)∧(a.aD=b.aD)∧(a.aH=b.aH)∧(a.aF=b.aF)
 refine jF (dF (BK o)) (zm (bN (yL (yK (fw (.int .i64 ((c+1:Nat):Int)) (yS (e:=IntKind.i64.wrap (((c:Nat):Int)+1)) yk (by rw [BI _ (by omega)]; omega)) (Mz rfl (WL.nil ?_)))))))
 have N:=k.pk []
 exact yY (c+1) ⟨rfl,rfl,rfl,rfl,rfl,trivial⟩ (h.2 ⟨N,by omega,et (j) (et (congrArg (fun q=>gH f q c) r) (et (aa (dh l)) (ip o)))⟩) (by show d.length - (c+1) < d.length - c; omega)
 refine jT (dT o) (sr (An rfl (rt (bR (tR (tR (bR (tR (rs ?_)))))))))
 have O:=k.pk []
 obtain rfl:_=false:=hr.symm.trans (et (ip g) (iG (et (j) (et (congrArg (fun q=>gH f q c) r) (et (aa (dh l)) (iN o))))))
 exact⟨rfl,O⟩
 refine jF (dF F) (Wp.exit (yV ?_))
 have G:gH f d 0=Sum.inl ():=et (j) (et (congrArg (fun q=>gH f q c) (dZ (ls:=d) (i:=c) (by omega))) rfl)
 refine yV (y8 (yL (sr (An rfl (rt (rs ?_))))))
 have P:=t.pk []
 obtain rfl:_=true:=hr.symm.trans (et (ip g) (kG G))
 exact⟨rfl,P⟩
 refine jT (dT g) (sr (An rfl (rt (tR (rs ?_)))))
 have Q:Own w D w []:=H.pk []
 obtain rfl:_=false:=hr.symm.trans (iN g)
 exact⟨rfl,Q⟩
def gI (e:List aR):List aR→Nat→Unit ⊕ Bool
  | [],b=>Sum.inl ()
  | c::d,b=>bnd (List.getD e b default) fun a=>if(c.aL=a.aL)∧(c.au=a.au) then gI e d (b+1) else Sum.inr (false)
def lh (a:List aR) (b:List aR):Bool:=
 if((a.length:Nat):Int)=((b.length:Nat):Int) then lp (gI b a 0) fun _=>true else false
theorem qZ (w:World) (D:Nat→Prop) (m:Option Addr) (n0 y:Nat) (b:List aR) (n:Option Addr) (I z:Nat) (f:List aR) (R:Bool) (H:Own w D w []) (s:Ro w D fun w'=>bD w' 2 m n0 (List.flatMap aR.cells b)) (J:n0=b.length) (T:b.length≤9223372036854775807) (A:Ro w D fun w'=>bD w' 2 n I (List.flatMap aR.cells f)) (K:I=f.length) (U:f.length≤9223372036854775807) (hr:lh b f=R):
    Calls Tryz.prog 97 #[.slice m n0 y, .slice n I z] w (cO fun v w'=>v= .bool R∧Own w D w' []):=by
 subst J K
 refine yR (args:= [.slice m b.length y, .slice n f.length z]) Tryz.func97 rfl rfl rfl ?_
 show Wp _ _ _ [(0, .slice m b.length y),(1, .slice n f.length z)] _ _
 refine sr (An rfl (yJ (sr (Mz rfl (Kz (.int .i64 ((b.length:Nat):Int)) (Mz rfl (Kz (.int .i64 ((f.length:Nat):Int)) (fw (.bool (decide (¬ (((b.length:Nat):Int)=((f.length:Nat):Int))))) (za (e:= !(decide (((b.length:Nat):Int)=((f.length:Nat):Int)))) yk decide_not.symm) (nt ?_)))))))))
 by_cases g:((b.length:Nat):Int)=((f.length:Nat):Int)
 refine jF (dF (BK g)) (sk (yJ (sr (Mz rfl (Kz (.int .i64 ((b.length:Nat):Int)) (Mn rfl (bo ?_)))))))
 have L:Own w D w []:=H.pk []
 obtain⟨B,C⟩:∃ q:Nat→World→Prop,q=fun(i:Nat) w'=>Own w D w' []∧(i≤b.length∧gI f b 0=gI f (List.drop i b) i):=⟨_,rfl⟩
 have h:∀ {a:Nat} {w':World},B a w'↔Own w D w' []∧a≤b.length∧gI f b 0=gI f (List.drop a b) a:=by intros; subst C; exact Iff.rfl
 refine Wp.loop (fun i:Nat=> [(4, .bool false),(13, .int .i64 ((i:Nat):Int)),(12, .int .i64 ((b.length:Nat):Int)),(0, .slice m b.length y),(1, .slice n f.length z)]) B (fun i=>b.length - i) 0 ⟨rfl,rfl,rfl,rfl,rfl,trivial⟩ (h.2 ⟨L,by omega,rfl⟩) ?_
 rintro a M E
 show Wp _ _ _ [(4, .bool false),(13, .int .i64 ((a:Nat):Int)),(12, .int .i64 ((b.length:Nat):Int)),(0, .slice m b.length y),(1, .slice n f.length z)] _ _
 obtain⟨t,S,j⟩:=h.1 E
 refine sr (Kz (.bool (decide (((a:Nat):Int) < ((b.length:Nat):Int)))) (nt (yJ ?_)))
 by_cases F:((a:Nat):Int) < ((b.length:Nat):Int)
 obtain⟨c,p⟩:=dV (ls:=b) (i:=a) aR.len (by decide) (t.ro s) (by first | omega | (simp; done) | (simp; omega))
 have r:=drop_at p
 refine jT (dT F) (sk (yJ (bo (sr (Mz rfl (An rfl (yJ ?_)))))))
 have k:=t.drew
 refine zt [] (fun W=> ∃ L',Own w D W ([]++L')) (by kernel_rfl) (by kernel_rfl) (zb (bM.block (zb (zb (bM.block (zb zw)))))) ⟨_,k⟩ ?_
 revert k
 generalize World.drew M=V
 intro k
 refine GX.take (v:= .slice m b.length y) (rs:= []) 0 rfl (by kernel_rfl) (fun _ _=>yO rfl) (GX.take (v:= .int .i64 ((a:Nat):Int)) (rs:= []) 1 rfl (by kernel_rfl) (fun _ _=>yO rfl) (GX.take (v:= .pointer (some ⟨ab m,ao m+a *2,none⟩)) (rs:= []) 2 rfl (by kernel_rfl) (fun _ ⟨_,x⟩=>yZ (o5) rfl rfl ((x.ro s).addr (i:=a) (by omega)) (by omega)) (GX.take (v:= .agg (aR.cells c).toArray) (rs:= []) 3 rfl (by kernel_rfl) (fun _ ⟨_,x⟩=>y5 rfl (zg (cs:=(aR.cells c)) Tryz.isAgg86 Tryz.sizeOf86 ((x.ro s).elem aR.len p (by decide)))) (GX.take (v:= .slice n f.length z) (rs:= []) 4 rfl (by kernel_rfl) (fun _ _=>yO rfl) (GX.take (v:= .int .i64 ((a:Nat):Int)) (rs:= []) 5 rfl (by kernel_rfl) (fun _ _=>yO rfl) ?_)))))
 obtain⟨d,l⟩:=jZ (ls:=f) (i:=a) (by first | omega | (simp; done) | (simp; omega))
 refine GX.take (v:= .pointer (some ⟨ab n,ao n+a *2,none⟩)) (rs:= []) 6 rfl (by kernel_rfl) (fun _ ⟨_,x⟩=>yZ (o5) rfl rfl ((x.ro A).addr (i:=a) (by omega)) (by omega)) (GX.take (v:= .agg (aR.cells d).toArray) (rs:= []) 7 rfl (by kernel_rfl) (fun _ ⟨_,x⟩=>y5 rfl (zg (cs:=(aR.cells d)) Tryz.isAgg86 Tryz.sizeOf86 ((x.ro A).elem aR.len l (by decide)))) (GX.take (v:= .bool (decide (¬ ((c.aL=d.aL)∧(c.au=d.au))))) (rs:= []) 8 rfl (by kernel_rfl) (fun _ _=>za (e:= !(decide ((c.aL=d.aL)∧(c.au=d.au)))) (zM rfl rfl (by kernel_rfl) rfl (fD.struct Tryz.underlying86 (by kernel_rfl) (zK (eF.cons (u:= .string ⟨List.toArray c.aL⟩) (v:= .string ⟨List.toArray d.aL⟩) (by decide) (fun _=>by kernel_rfl) (fun _=>by kernel_rfl) (fD.string Tryz.underlying9) (eF.cons (u:= .string ⟨List.toArray c.au⟩) (v:= .string ⟨List.toArray d.au⟩) (by decide) (fun _=>by kernel_rfl) (fun _=>by kernel_rfl) (fD.string Tryz.underlying9) (eF.nil.up (BJ _)))) ((congrArg (decide (c.aL=d.aL) && ·) jH).trans eu)))) decide_not.symm) (zk (by kernel_rfl) (yL ?_))))
 by_cases o:(c.aL=d.aL)∧(c.au=d.au)
 refine jF (dF (BK o)) (zm (bN (yL (yK (fw (.int .i64 ((a+1:Nat):Int)) (yS (e:=IntKind.i64.wrap (((a:Nat):Int)+1)) yk (by rw [BI _ (by omega)]; omega)) (Mz rfl (WL.nil ?_)))))))
 have N:=k.pk []
 exact yY (a+1) ⟨rfl,rfl,rfl,rfl,rfl,trivial⟩ (h.2 ⟨N,by omega,et (j) (et (congrArg (fun q=>gI f q a) r) (et (aa (dh l)) (ip o)))⟩) (by show b.length - (a+1) < b.length - a; omega)
 refine jT (dT o) (sr (An rfl (rt (bR (tR (tR (bR (tR (rs ?_)))))))))
 have O:=k.pk []
 obtain rfl:_=false:=hr.symm.trans (et (ip g) (iG (et (j) (et (congrArg (fun q=>gI f q a) r) (et (aa (dh l)) (iN o))))))
 exact⟨rfl,O⟩
 refine jF (dF F) (Wp.exit (yV ?_))
 have G:gI f b 0=Sum.inl ():=et (j) (et (congrArg (fun q=>gI f q a) (dZ (ls:=b) (i:=a) (by omega))) rfl)
 refine yV (y8 (yL (sr (An rfl (rt (rs ?_))))))
 have P:=t.pk []
 obtain rfl:_=true:=hr.symm.trans (et (ip g) (kG G))
 exact⟨rfl,P⟩
 refine jT (dT g) (sr (An rfl (rt (tR (rs ?_)))))
 have Q:Own w D w []:=H.pk []
 obtain rfl:_=false:=hr.symm.trans (iN g)
 exact⟨rfl,Q⟩
def dX (f:List aP):List aP→Nat→Unit ⊕ Bool
  | [],b=>Sum.inl ()
  | c::e,b=>bnd (List.getD f b default) fun a=>if c.cB=a.cB then if c.au≠a.au then Sum.inr (false) else bnd (lh c.ak.ls a.ak.ls) fun d=>if d=true then dX f e (b+1) else Sum.inr (false) else Sum.inr (false)
def iy (a:List aP) (b:List aP):Bool:=
 if((a.length:Nat):Int)=((b.length:Nat):Int) then lp (dX b a 0) fun _=>true else false
theorem pG (w:World) (D:Nat→Prop) (m:Option Addr) (n0 I:Nat) (d0:List af) (h:List aP) (n:Option Addr) (n1 J:Nat) (d1:List af) (j:List aP) (r0:Bool) (H:Own w D w []) (N:List.map zh d0=h) (s:Ro w D fun w'=>bD w' 3 m n0 (List.flatMap af.cells d0)) (O:∀ x ∈ d0,Ro w D (fun w'=>bD w' 2 x.ak.A x.ak.ls.length (List.flatMap aR.cells x.ak.ls))∧(x.ak.ls.length≤x.ak.c∧x.ak.ls.length≤9223372036854775807)) (aj:n0=h.length) (aJ:h.length≤9223372036854775807) (P:List.map zh d1=j) (z:Ro w D fun w'=>bD w' 3 n n1 (List.flatMap af.cells d1)) (Q:∀ x ∈ d1,Ro w D (fun w'=>bD w' 2 x.ak.A x.ak.ls.length (List.flatMap aR.cells x.ak.ls))∧(x.ak.ls.length≤x.ak.c∧x.ak.ls.length≤9223372036854775807)) (ak:n1=j.length) (aK:j.length≤9223372036854775807) (hr:iy h j=r0):
    Calls Tryz.prog 49 #[.slice m n0 I, .slice n n1 J] w (cO fun v w'=>v= .bool r0∧Own w D w' []):=by
 subst aj ak
 have hdl0:=dG N
 have hdl1:=dG P
 refine yR (args:= [.slice m h.length I, .slice n j.length J]) Tryz.func49 rfl rfl rfl ?_
 show Wp _ _ _ [(0, .slice m h.length I),(1, .slice n j.length J)] _ _
 refine sr (An rfl (yJ (sr (Mz rfl (Kz (.int .i64 ((h.length:Nat):Int)) (Mz rfl (Kz (.int .i64 ((j.length:Nat):Int)) (fw (.bool (decide (¬ (((h.length:Nat):Int)=((j.length:Nat):Int))))) (za (e:= !(decide (((h.length:Nat):Int)=((j.length:Nat):Int)))) yk decide_not.symm) (nt ?_)))))))))
 by_cases t:((h.length:Nat):Int)=((j.length:Nat):Int)
 refine jF (dF (BK t)) (sk (yJ (sr (Mz rfl (Kz (.int .i64 ((h.length:Nat):Int)) (Mn rfl (bo ?_)))))))
 have au:Own w D w []:=H.pk []
 obtain⟨R,S⟩:∃ q:Nat→World→Prop,q=fun(i:Nat) w'=>Own w D w' []∧(i≤h.length∧dX j h 0=dX j (List.drop i h) i):=⟨_,rfl⟩
 have C:∀ {a:Nat} {w':World},R a w'↔Own w D w' []∧a≤h.length∧dX j h 0=dX j (List.drop a h) a:=by intros; subst S; exact Iff.rfl
 refine Wp.loop (fun i:Nat=> [(4, .bool false),(13, .int .i64 ((i:Nat):Int)),(12, .int .i64 ((h.length:Nat):Int)),(0, .slice m h.length I),(1, .slice n j.length J)]) R (fun i=>h.length - i) 0 ⟨rfl,rfl,rfl,rfl,rfl,trivial⟩ (C.2 ⟨au,by omega,rfl⟩) ?_
 rintro a av T
 show Wp _ _ _ [(4, .bool false),(13, .int .i64 ((a:Nat):Int)),(12, .int .i64 ((h.length:Nat):Int)),(0, .slice m h.length I),(1, .slice n j.length J)] _ _
 obtain⟨L,aF,r⟩:=C.1 T
 refine sr (Kz (.bool (decide (((a:Nat):Int) < ((h.length:Nat):Int)))) (nt (yJ ?_)))
 by_cases U:((a:Nat):Int) < ((h.length:Nat):Int)
 obtain⟨f,o⟩:=dV (ls:=d0) (i:=a) af.len (by decide) (L.ro s) (by first | omega | (simp; done) | (simp; omega))
 have V:=mq N o
 have aG:=(O _ (List.mem_of_getElem? o)).2
 have u:=drop_at V
 refine jT (dT U) (sk (yJ (bo (sr (Mz rfl (An rfl (yJ ?_)))))))
 have B:=L.drew
 refine zt [] (fun W=> ∃ L',Own w D W ([]++L')) (by kernel_rfl) (by kernel_rfl) (zb (bM.block (zb (zb (bM.block (zb zw)))))) ⟨_,B⟩ ?_
 revert B
 generalize World.drew av=aL
 intro B
 refine GX.take (v:= .slice m h.length I) (rs:= []) 0 rfl (by kernel_rfl) (fun _ _=>yO rfl) (GX.take (v:= .int .i64 ((a:Nat):Int)) (rs:= []) 1 rfl (by kernel_rfl) (fun _ _=>yO rfl) (GX.take (v:= .pointer (some ⟨ab m,ao m+a *3,none⟩)) (rs:= []) 2 rfl (by kernel_rfl) (fun _ ⟨_,l⟩=>yZ (lD) rfl rfl ((l.ro s).addr (i:=a) (by omega)) (by omega)) (GX.take (v:= .pointer (some ⟨ab m,ao m+a *3,none⟩)) (rs:= []) 3 rfl (by kernel_rfl) (fun _ _=>yk) (GX.take (v:= .bool f.cB) (rs:= []) 4 rfl (by kernel_rfl) (fun _ ⟨_,l⟩=>y5 rfl (bn.one Tryz.isAgg4 (((l.ro s).elem af.len o (by decide)).at_ (k:=0) rfl))) (GX.take (v:= .slice n j.length J) (rs:= []) 5 rfl (by kernel_rfl) (fun _ _=>yO rfl) (GX.take (v:= .int .i64 ((a:Nat):Int)) (rs:= []) 6 rfl (by kernel_rfl) (fun _ _=>yO rfl) ?_))))))
 obtain⟨g,p⟩:=jZ (ls:=d1) (i:=a) (by first | omega | (simp; done) | (simp; omega))
 have y:=mq P p
 have aH:=(Q _ (List.mem_of_getElem? p)).2
 refine GX.take (v:= .pointer (some ⟨ab n,ao n+a *3,none⟩)) (rs:= []) 7 rfl (by kernel_rfl) (fun _ ⟨_,l⟩=>yZ (lD) rfl rfl ((l.ro z).addr (i:=a) (by omega)) (by omega)) (GX.take (v:= .pointer (some ⟨ab n,ao n+a *3,none⟩)) (rs:= []) 8 rfl (by kernel_rfl) (fun _ _=>yk) (GX.take (v:= .bool g.cB) (rs:= []) 9 rfl (by kernel_rfl) (fun _ ⟨_,l⟩=>y5 rfl (bn.one Tryz.isAgg4 (((l.ro z).elem af.len p (by decide)).at_ (k:=0) rfl))) (GX.take (v:= .bool (decide (¬ (f.cB=g.cB)))) (rs:= []) 10 rfl (by kernel_rfl) (fun _ _=>za (e:= !(f.cB==g.cB)) yk (by first | (rw [Bool.beq_eq_decide_eq]; exact decide_not.symm) | (by_cases q:f.cB=g.cB <;> simp [q]))) (GX.take (v:= .bool (decide (¬ (f.cB=g.cB)))) (rs:= []) 11 rfl (by kernel_rfl) (fun _ _=>yO rfl) ?_))))
 by_cases d:f.cB=g.cB
 refine y7 (v:= .slice m h.length I) (rs:= []) 12 rfl rfl rfl (dF (BK d)) (by kernel_rfl) (fun _ _=>yO rfl) (y7 (v:= .int .i64 ((a:Nat):Int)) (rs:= []) 13 rfl rfl rfl (dF (BK d)) (by kernel_rfl) (fun _ _=>yO rfl) (y7 (v:= .pointer (some ⟨ab m,ao m+a *3,none⟩)) (rs:= []) 14 rfl rfl rfl (dF (BK d)) (by kernel_rfl) (fun _ ⟨_,l⟩=>yZ (lD) rfl rfl ((l.ro s).addr (i:=a) (by omega)) (by omega)) (y7 (v:= .pointer (some ⟨ab m,ao m+a *3+1,none⟩)) (rs:= []) 15 rfl rfl rfl (dF (BK d)) (by kernel_rfl) (fun _ _=>yk) (y7 (v:= .string ⟨List.toArray f.au⟩) (rs:= []) 16 rfl rfl rfl (dF (BK d)) (by kernel_rfl) (fun _ ⟨_,l⟩=>y5 rfl (bn.one Tryz.isAgg9 (((l.ro s).elem af.len o (by decide)).at_ (k:=1) rfl))) (y7 (v:= .slice n j.length J) (rs:= []) 17 rfl rfl rfl (dF (BK d)) (by kernel_rfl) (fun _ _=>yO rfl) (y7 (v:= .int .i64 ((a:Nat):Int)) (rs:= []) 18 rfl rfl rfl (dF (BK d)) (by kernel_rfl) (fun _ _=>yO rfl) (y7 (v:= .pointer (some ⟨ab n,ao n+a *3,none⟩)) (rs:= []) 19 rfl rfl rfl (dF (BK d)) (by kernel_rfl) (fun _ ⟨_,l⟩=>yZ (lD) rfl rfl ((l.ro z).addr (i:=a) (by omega)) (by omega)) (y7 (v:= .pointer (some ⟨ab n,ao n+a *3+1,none⟩)) (rs:= []) 20 rfl rfl rfl (dF (BK d)) (by kernel_rfl) (fun _ _=>yk) (y7 (v:= .string ⟨List.toArray g.au⟩) (rs:= []) 21 rfl rfl rfl (dF (BK d)) (by kernel_rfl) (fun _ ⟨_,l⟩=>y5 rfl (bn.one Tryz.isAgg9 (((l.ro z).elem af.len p (by decide)).at_ (k:=1) rfl))) (y7 (v:= .bool (decide (f.au≠g.au))) (rs:= []) 22 rfl rfl rfl (dF (BK d)) (by kernel_rfl) (fun _ _=>zA rfl rfl) (GX.take (v:= .bool (decide (f.au≠g.au))) (rs:= []) 23 rfl (by kernel_rfl) (fun _ _=>yM rfl (dF (BK d)) rfl) (GX.take (v:= .bool (decide (f.au≠g.au))) (rs:= []) 24 rfl (by kernel_rfl) (fun _ _=>yO rfl) ?_))))))))))))
 by_cases b:f.au≠g.au
 refine yU (rs:= []) 25 rfl rfl rfl (dT b) (by kernel_rfl) (yU (rs:= []) 26 rfl rfl rfl (dT b) (by kernel_rfl) (yU (rs:= []) 27 rfl rfl rfl (dT b) (by kernel_rfl) (yU (rs:= []) 28 rfl rfl rfl (dT b) (by kernel_rfl) (yU (rs:= []) 29 rfl rfl rfl (dT b) (by kernel_rfl) (yU (rs:= []) 30 rfl rfl rfl (dT b) (by kernel_rfl) (yU (rs:= []) 31 rfl rfl rfl (dT b) (by kernel_rfl) (yU (rs:= []) 32 rfl rfl rfl (dT b) (by kernel_rfl) (yU (rs:= []) 33 rfl rfl rfl (dT b) (by kernel_rfl) (yU (rs:= []) 34 rfl rfl rfl (dT b) (by kernel_rfl) (yU (rs:= []) 35 rfl rfl rfl (dT b) (by kernel_rfl) (yU (rs:= []) 36 rfl rfl rfl (dT b) (by kernel_rfl) (GX.take (v:= .bool true) (rs:= []) 37 rfl (by kernel_rfl) (fun _ _=>yN rfl (dT b) rfl) (zk (by kernel_rfl) (yL (jt (sr (An rfl (rt (bR (tR (tR (bR (tR (rs ?_))))))))))))))))))))))))
 have ax:=B.pk []
 obtain rfl:_=false:=hr.symm.trans (et (ip t) (iG (et (r) (et (congrArg (fun q=>dX j q a) u) (et (aa (dh y)) (et (ip d) (ip b)))))))
 exact⟨rfl,ax⟩
 refine y7 (v:= .slice m h.length I) (rs:= []) 25 rfl rfl rfl (dF b) (by kernel_rfl) (fun _ _=>yO rfl) (y7 (v:= .int .i64 ((a:Nat):Int)) (rs:= []) 26 rfl rfl rfl (dF b) (by kernel_rfl) (fun _ _=>yO rfl) (y7 (v:= .pointer (some ⟨ab m,ao m+a *3,none⟩)) (rs:= []) 27 rfl rfl rfl (dF b) (by kernel_rfl) (fun _ ⟨_,l⟩=>yZ (lD) rfl rfl ((l.ro s).addr (i:=a) (by omega)) (by omega)) (y7 (v:= .pointer (some ⟨ab m,ao m+a *3+2,none⟩)) (rs:= []) 28 rfl rfl rfl (dF b) (by kernel_rfl) (fun _ _=>yk) (y7 (v:= .slice f.ak.A f.ak.ls.length f.ak.c) (rs:= []) 29 rfl rfl rfl (dF b) (by kernel_rfl) (fun _ ⟨_,l⟩=>y5 rfl (bn.one Tryz.isAgg82 (((l.ro s).elem af.len o (by decide)).at_ (k:=2) rfl))) (y7 (v:= .slice n j.length J) (rs:= []) 30 rfl rfl rfl (dF b) (by kernel_rfl) (fun _ _=>yO rfl) (y7 (v:= .int .i64 ((a:Nat):Int)) (rs:= []) 31 rfl rfl rfl (dF b) (by kernel_rfl) (fun _ _=>yO rfl) (y7 (v:= .pointer (some ⟨ab n,ao n+a *3,none⟩)) (rs:= []) 32 rfl rfl rfl (dF b) (by kernel_rfl) (fun _ ⟨_,l⟩=>yZ (lD) rfl rfl ((l.ro z).addr (i:=a) (by omega)) (by omega)) (y7 (v:= .pointer (some ⟨ab n,ao n+a *3+2,none⟩)) (rs:= []) 33 rfl rfl rfl (dF b) (by kernel_rfl) (fun _ _=>yk) (y7 (v:= .slice g.ak.A g.ak.ls.length g.ak.c) (rs:= []) 34 rfl rfl rfl (dF b) (by kernel_rfl) (fun _ ⟨_,l⟩=>y5 rfl (bn.one Tryz.isAgg82 (((l.ro z).elem af.len p (by decide)).at_ (k:=2) rfl))) ?_)))))))))
 obtain⟨G,E⟩:∃ q,lh f.ak.ls g.ak.ls=q:=⟨_,rfl⟩
 obtain⟨aM,X,K,Y,aI⟩:=yP B
 refine zO 35 rfl rfl rfl (dF b) (by kernel_rfl) (zf Tryz.call97 rfl (qZ _ _ f.ak.A f.ak.ls.length f.ak.c f.ak.ls g.ak.A g.ak.ls.length g.ak.c g.ak.ls G X (K _ (O _ (List.mem_of_getElem? o)).1) rfl (by omega) (K _ (Q _ (List.mem_of_getElem? p)).1) rfl (by omega) E) ?_)
 rintro _ aN ⟨rfl,Z⟩
 have M:=Y _ _ Z
 refine⟨.inr ⟨_,M⟩, ?_⟩
 refine y7 (v:= .bool (!G)) (rs:= []) 36 rfl rfl rfl (dF b) (by kernel_rfl) (fun _ _=>yk) (GX.take (v:= .bool (!G)) (rs:= []) 37 rfl (by kernel_rfl) (fun _ _=>yM rfl (dF b) rfl) (zk (by kernel_rfl) (yL ?_)))
 rcases BL (G) with F | F
 refine jF (cn F) (zm (bN (yL (yK (fw (.int .i64 ((a+1:Nat):Int)) (yS (e:=IntKind.i64.wrap (((a:Nat):Int)+1)) yk (by rw [BI _ (by omega)]; omega)) (Mz rfl (WL.nil ?_)))))))
 have ay:=M.pk []
 exact yY (a+1) ⟨rfl,rfl,rfl,rfl,rfl,trivial⟩ (C.2 ⟨ay,by omega,et (r) (et (congrArg (fun q=>dX j q a) u) (et (aa (dh y)) (et (ip d) (et (iN b) (et (aa E) (ip F))))))⟩) (by show h.length - (a+1) < h.length - a; omega)
 refine jT (cn F) (sr (An rfl (rt (bR (tR (tR (bR (tR (rs ?_)))))))))
 have az:=M.pk []
 obtain rfl:_=false:=hr.symm.trans (et (ip t) (iG (et (r) (et (congrArg (fun q=>dX j q a) u) (et (aa (dh y)) (et (ip d) (et (iN b) (et (aa E) (dz F)))))))))
 exact⟨rfl,az⟩
 refine yU (rs:= []) 12 rfl rfl rfl (dT d) (by kernel_rfl) (yU (rs:= []) 13 rfl rfl rfl (dT d) (by kernel_rfl) (yU (rs:= []) 14 rfl rfl rfl (dT d) (by kernel_rfl) (yU (rs:= []) 15 rfl rfl rfl (dT d) (by kernel_rfl) (yU (rs:= []) 16 rfl rfl rfl (dT d) (by kernel_rfl) (yU (rs:= []) 17 rfl rfl rfl (dT d) (by kernel_rfl) (yU (rs:= []) 18 rfl rfl rfl (dT d) (by kernel_rfl) (yU (rs:= []) 19 rfl rfl rfl (dT d) (by kernel_rfl) (yU (rs:= []) 20 rfl rfl rfl (dT d) (by kernel_rfl) (yU (rs:= []) 21 rfl rfl rfl (dT d) (by kernel_rfl) (yU (rs:= []) 22 rfl rfl rfl (dT d) (by kernel_rfl) (GX.take (v:= .bool true) (rs:= []) 23 rfl (by kernel_rfl) (fun _ _=>yN rfl (dT d) rfl) (GX.take (v:= .bool true) (rs:= []) 24 rfl (by kernel_rfl) (fun _ _=>yO rfl) (yU (rs:= []) 25 rfl rfl rfl rfl (by kernel_rfl) (yU (rs:= []) 26 rfl rfl rfl rfl (by kernel_rfl) (yU (rs:= []) 27 rfl rfl rfl rfl (by kernel_rfl) (yU (rs:= []) 28 rfl rfl rfl rfl (by kernel_rfl) (yU (rs:= []) 29 rfl rfl rfl rfl (by kernel_rfl) (yU (rs:= []) 30 rfl rfl rfl rfl (by kernel_rfl) (yU (rs:= []) 31 rfl rfl rfl rfl (by kernel_rfl) (yU (rs:= []) 32 rfl rfl rfl rfl (by kernel_rfl) (yU (rs:= []) 33 rfl rfl rfl rfl (by kernel_rfl) (yU (rs:= []) 34 rfl rfl rfl rfl (by kernel_rfl) (yU (rs:= []) 35 rfl rfl rfl rfl (by kernel_rfl) (yU (rs:= []) 36 rfl rfl rfl rfl (by kernel_rfl) (GX.take (v:= .bool true) (rs:= []) 37 rfl (by kernel_rfl) (fun _ _=>yN rfl rfl rfl) (zk (by kernel_rfl) (yL (jt (sr (An rfl (rt (bR (tR (tR (bR (tR ?_))))))))))))))))))))))))))))))))))))
 refine rs ?_
 have aA:=B.pk []
 obtain rfl:_=false:=hr.symm.trans (et (ip t) (iG (et (r) (et (congrArg (fun q=>dX j q a) u) (et (aa (dh y)) (iN d))))))
 exact⟨rfl,aA⟩
 refine jF (dF U) (Wp.exit (yV ?_))
 have ae:dX j h 0=Sum.inl ():=et (r) (et (congrArg (fun q=>dX j q a) (dZ (ls:=h) (i:=a) (by omega))) rfl)
 refine yV (y8 (yL (sr (An rfl (rt (rs ?_))))))
 have aB:=L.pk []
 obtain rfl:_=true:=hr.symm.trans (et (ip t) (kG ae))
 exact⟨rfl,aB⟩
 refine jT (dT t) (sr (An rfl (rt (tR (rs ?_)))))
 have aC:Own w D w []:=H.pk []
 obtain rfl:_=false:=hr.symm.trans (iN t)
 exact⟨rfl,aC⟩
def iE (e:List aA):List aA→Nat→Unit ⊕ Bool
  | [],b=>Sum.inl ()
  | c::d,b=>bnd (List.getD e b default) fun a=>if(c.aD=a.aD)∧(c.dn=a.dn) then iE e d (b+1) else Sum.inr (false)
def kC (a:List aA) (b:List aA):Bool:=
 if((a.length:Nat):Int)=((b.length:Nat):Int) then lp (iE b a 0) fun _=>true else false
theorem sS (w:World) (D:Nat→Prop) (m:Option Addr) (n0 y:Nat) (b:List aA) (n:Option Addr) (I z:Nat) (f:List aA) (R:Bool) (H:Own w D w []) (s:Ro w D fun w'=>bD w' 2 m n0 (List.flatMap aA.cells b)) (J:n0=b.length) (T:b.length≤9223372036854775807) (A:Ro w D fun w'=>bD w' 2 n I (List.flatMap aA.cells f)) (K:I=f.length) (U:f.length≤9223372036854775807) (hr:kC b f=R):
    Calls Tryz.prog 50 #[.slice m n0 y, .slice n I z] w (cO fun v w'=>v= .bool R∧Own w D w' []):=by
 subst J K
 refine yR (args:= [.slice m b.length y, .slice n f.length z]) Tryz.func50 rfl rfl rfl ?_
 show Wp _ _ _ [(0, .slice m b.length y),(1, .slice n f.length z)] _ _
 refine sr (An rfl (yJ (sr (Mz rfl (Kz (.int .i64 ((b.length:Nat):Int)) (Mz rfl (Kz (.int .i64 ((f.length:Nat):Int)) (fw (.bool (decide (¬ (((b.length:Nat):Int)=((f.length:Nat):Int))))) (za (e:= !(decide (((b.length:Nat):Int)=((f.length:Nat):Int)))) yk decide_not.symm) (nt ?_)))))))))
 by_cases g:((b.length:Nat):Int)=((f.length:Nat):Int)
 refine jF (dF (BK g)) (sk (yJ (sr (Mz rfl (Kz (.int .i64 ((b.length:Nat):Int)) (Mn rfl (bo ?_)))))))
 have L:Own w D w []:=H.pk []
 obtain⟨B,C⟩:∃ q:Nat→World→Prop,q=fun(i:Nat) w'=>Own w D w' []∧(i≤b.length∧iE f b 0=iE f (List.drop i b) i):=⟨_,rfl⟩
 have h:∀ {a:Nat} {w':World},B a w'↔Own w D w' []∧a≤b.length∧iE f b 0=iE f (List.drop a b) a:=by intros; subst C; exact Iff.rfl
 refine Wp.loop (fun i:Nat=> [(4, .bool false),(13, .int .i64 ((i:Nat):Int)),(12, .int .i64 ((b.length:Nat):Int)),(0, .slice m b.length y),(1, .slice n f.length z)]) B (fun i=>b.length - i) 0 ⟨rfl,rfl,rfl,rfl,rfl,trivial⟩ (h.2 ⟨L,by omega,rfl⟩) ?_
 rintro a M E
 show Wp _ _ _ [(4, .bool false),(13, .int .i64 ((a:Nat):Int)),(12, .int .i64 ((b.length:Nat):Int)),(0, .slice m b.length y),(1, .slice n f.length z)] _ _
 obtain⟨t,S,j⟩:=h.1 E
 refine sr (Kz (.bool (decide (((a:Nat):Int) < ((b.length:Nat):Int)))) (nt (yJ ?_)))
 by_cases F:((a:Nat):Int) < ((b.length:Nat):Int)
 obtain⟨c,p⟩:=dV (ls:=b) (i:=a) aA.len (by decide) (t.ro s) (by first | omega | (simp; done) | (simp; omega))
 have r:=drop_at p
 refine jT (dT F) (sk (yJ (bo (sr (Mz rfl (An rfl (yJ ?_)))))))
 have k:=t.drew
 refine zt [] (fun W=> ∃ L',Own w D W ([]++L')) (by kernel_rfl) (by kernel_rfl) (zb (bM.block (zb (zb (bM.block (zb zw)))))) ⟨_,k⟩ ?_
 revert k
 generalize World.drew M=V
 intro k
 refine GX.take (v:= .slice m b.length y) (rs:= []) 0 rfl (by kernel_rfl) (fun _ _=>yO rfl) (GX.take (v:= .int .i64 ((a:Nat):Int)) (rs:= []) 1 rfl (by kernel_rfl) (fun _ _=>yO rfl) (GX.take (v:= .pointer (some ⟨ab m,ao m+a *2,none⟩)) (rs:= []) 2 rfl (by kernel_rfl) (fun _ ⟨_,x⟩=>yZ (lT) rfl rfl ((x.ro s).addr (i:=a) (by omega)) (by omega)) (GX.take (v:= .agg (aA.cells c).toArray) (rs:= []) 3 rfl (by kernel_rfl) (fun _ ⟨_,x⟩=>y5 rfl (zg (cs:=(aA.cells c)) Tryz.isAgg88 Tryz.sizeOf88 ((x.ro s).elem aA.len p (by decide)))) (GX.take (v:= .slice n f.length z) (rs:= []) 4 rfl (by kernel_rfl) (fun _ _=>yO rfl) (GX.take (v:= .int .i64 ((a:Nat):Int)) (rs:= []) 5 rfl (by kernel_rfl) (fun _ _=>yO rfl) ?_)))))
 obtain⟨d,l⟩:=jZ (ls:=f) (i:=a) (by first | omega | (simp; done) | (simp; omega))
 refine GX.take (v:= .pointer (some ⟨ab n,ao n+a *2,none⟩)) (rs:= []) 6 rfl (by kernel_rfl) (fun _ ⟨_,x⟩=>yZ (lT) rfl rfl ((x.ro A).addr (i:=a) (by omega)) (by omega)) (GX.take (v:= .agg (aA.cells d).toArray) (rs:= []) 7 rfl (by kernel_rfl) (fun _ ⟨_,x⟩=>y5 rfl (zg (cs:=(aA.cells d)) Tryz.isAgg88 Tryz.sizeOf88 ((x.ro A).elem aA.len l (by decide)))) (GX.take (v:= .bool (decide (¬ ((c.aD=d.aD)∧(c.dn=d.dn))))) (rs:= []) 8 rfl (by kernel_rfl) (fun _ _=>za (e:= !(decide ((c.aD=d.aD)∧(c.dn=d.dn)))) (zM rfl rfl (by kernel_rfl) rfl (fD.struct Tryz.underlying88 (by kernel_rfl) (zK (eF.cons (u:= .string ⟨List.toArray c.aD⟩) (v:= .string ⟨List.toArray d.aD⟩) (by decide) (fun _=>by kernel_rfl) (fun _=>by kernel_rfl) (fD.string Tryz.underlying9) (eF.cons (u:= .int .i64 c.dn) (v:= .int .i64 d.dn) (by decide) (fun _=>by kernel_rfl) (fun _=>by kernel_rfl) (fD.int Tryz.underlying3) (eF.nil.up (BJ _)))) ((congrArg (decide (c.aD=d.aD) && ·) jH).trans eu)))) decide_not.symm) (zk (by kernel_rfl) (yL ?_))))
 by_cases o:(c.aD=d.aD)∧(c.dn=d.dn)
 refine jF (dF (BK o)) (zm (bN (yL (yK (fw (.int .i64 ((a+1:Nat):Int)) (yS (e:=IntKind.i64.wrap (((a:Nat):Int)+1)) yk (by rw [BI _ (by omega)]; omega)) (Mz rfl (WL.nil ?_)))))))
 have N:=k.pk []
 exact yY (a+1) ⟨rfl,rfl,rfl,rfl,rfl,trivial⟩ (h.2 ⟨N,by omega,et (j) (et (congrArg (fun q=>iE f q a) r) (et (aa (dh l)) (ip o)))⟩) (by show b.length - (a+1) < b.length - a; omega)
 refine jT (dT o) (sr (An rfl (rt (bR (tR (tR (bR (tR (rs ?_)))))))))
 have O:=k.pk []
 obtain rfl:_=false:=hr.symm.trans (et (ip g) (iG (et (j) (et (congrArg (fun q=>iE f q a) r) (et (aa (dh l)) (iN o))))))
 exact⟨rfl,O⟩
 refine jF (dF F) (Wp.exit (yV ?_))
 have G:iE f b 0=Sum.inl ():=et (j) (et (congrArg (fun q=>iE f q a) (dZ (ls:=b) (i:=a) (by omega))) rfl)
 refine yV (y8 (yL (sr (An rfl (rt (rs ?_))))))
 have P:=t.pk []
 obtain rfl:_=true:=hr.symm.trans (et (ip g) (kG G))
 exact⟨rfl,P⟩
 refine jT (dT g) (sr (An rfl (rt (tR (rs ?_)))))
 have Q:Own w D w []:=H.pk []
 obtain rfl:_=false:=hr.symm.trans (iN g)
 exact⟨rfl,Q⟩
def ny (a:bE) (b:bE):Bool:=
 if((a.bG:Nat):Int)=((b.bG:Nat):Int) then if((a.aY:Nat):Int)=((b.aY:Nat):Int) then if((a.bF:Nat):Int)=((b.bF:Nat):Int) then if((a.bH:Nat):Int)=((b.bH:Nat):Int) then if((a.bL:Nat):Int)=((b.bL:Nat):Int) then if((a.aV:Nat):Int)=((b.aV:Nat):Int) then if((a.bB:Nat):Int)=((b.bB:Nat):Int) then if((a.aK:Nat):Int)=((b.aK:Nat):Int) then if((a.xN:Nat):Int)=((b.xN:Nat):Int) then bnd (if a.ae=b.ae then decide (a.bq=b.bq) else false) fun sJrtttttttttR=>bnd (if sJrtttttttttR=true then decide (a.dw=b.dw) else false) fun sJrtttttttttRaR=>bnd (if sJrtttttttttRaR=true then decide (a.aQ=b.aQ) else false) fun sJrtttttttttRaRaR=>bnd (if sJrtttttttttRaRaR=true then decide (a.bu=b.bu) else false) fun sJrtttttttttRaRaRaR=>bnd (if sJrtttttttttRaRaRaR=true then decide (a.bO=b.bO) else false) fun sJrtttttttttRaRaRaRaR=>bnd (if sJrtttttttttRaRaRaRaR=true then decide (a.bV=b.bV) else false) fun sJrtttttttttRaRaRaRaRaR=>bnd (if sJrtttttttttRaRaRaRaRaR=true then decide ((a.aG.aD=b.aG.aD)∧(a.aG.aH=b.aG.aH)) else false) fun sJrtttttttttRaRaRaRaRaRaR=>bnd (if sJrtttttttttRaRaRaRaRaRaR=true then bnd (jv a.ax.ls b.ax.ls) fun c=>c else false) fun sJrtttttttttRaRaRaRaRaRaRaR=>bnd (if sJrtttttttttRaRaRaRaRaRaRaR=true then bnd (iy a.ah.ls b.ah.ls) fun d=>d else false) fun sJrtttttttttRaRaRaRaRaRaRaRaR=>bnd (if sJrtttttttttRaRaRaRaRaRaRaRaR=true then bnd (kC a.ai.ls b.ai.ls) fun e=>e else false) fun sJrtttttttttRaRaRaRaRaRaRaRaRaR=>sJrtttttttttRaRaRaRaRaRaRaRaRaR else false else false else false else false else false else false else false else false else false
set_option maxHeartbeats 4000000 in
theorem sU (w:World) (D:Nat→Prop) (a:bE) (l:Option Addr) (dh m:Nat) (n:Option Addr) (di o:Nat) (aU:List af) (p:Option Addr) (dm r:Nat) (b:bE) (s:Option Addr) (dn t:Nat) (z:Option Addr) (dw B:Nat) (aV:List af) (C:Option Addr) (dx E:Nat) (r0:Bool) (H:Own w D w []) (dH:dh=a.ax.ls.length) (dI:Ro w D fun w'=>bD w' 6 l a.ax.ls.length (List.flatMap aB.cells a.ax.ls)) (gB:a.ax.ls.length≤m∧a.ax.ls.length≤9223372036854775807) (bA:List.map zh aU=a.ah.ls) (dJ:di=a.ah.ls.length) (dK:Ro w D fun w'=>bD w' 3 n a.ah.ls.length (List.flatMap af.cells aU)) (gD:a.ah.ls.length≤o∧a.ah.ls.length≤9223372036854775807) (bB:∀ x ∈ aU,Ro w D (fun w'=>bD w' 2 x.ak.A x.ak.ls.length (List.flatMap aR.cells x.ak.ls))∧(x.ak.ls.length≤x.ak.c∧x.ak.ls.length≤9223372036854775807)) (dL:dm=a.ai.ls.length) (dM:Ro w D fun w'=>bD w' 2 p a.ai.ls.length (List.flatMap aA.cells a.ai.ls)) (gF:a.ai.ls.length≤r∧a.ai.ls.length≤9223372036854775807) (dN:dn=b.ax.ls.length) (dO:Ro w D fun w'=>bD w' 6 s b.ax.ls.length (List.flatMap aB.cells b.ax.ls)) (gG:b.ax.ls.length≤t∧b.ax.ls.length≤9223372036854775807) (bF:List.map zh aV=b.ah.ls) (dP:dw=b.ah.ls.length) (dQ:Ro w D fun w'=>bD w' 3 z b.ah.ls.length (List.flatMap af.cells aV)) (gH:b.ah.ls.length≤B∧b.ah.ls.length≤9223372036854775807) (bG:∀ x ∈ aV,Ro w D (fun w'=>bD w' 2 x.ak.A x.ak.ls.length (List.flatMap aR.cells x.ak.ls))∧(x.ak.ls.length≤x.ak.c∧x.ak.ls.length≤9223372036854775807)) (dR:dx=b.ai.ls.length) (dS:Ro w D fun w'=>bD w' 2 C b.ai.ls.length (List.flatMap aA.cells b.ai.ls)) (gI:b.ai.ls.length≤E∧b.ai.ls.length≤9223372036854775807) (hr:ny a b=r0):
    Calls Tryz.prog 15 #[.agg (bf a.ae a.bq a.dw a.aQ a.bu a.bO a.bG a.aY a.bF a.bH a.bL a.aV a.bB a.aK a.xN a.bV a.aG.aD a.aG.aH l dh m n di o p dm r).toArray, .agg (bf b.ae b.bq b.dw b.aQ b.bu b.bO b.bG b.aY b.bF b.bH b.bL b.aV b.bB b.aK b.xN b.bV b.aG.aD b.aG.aH s dn t z dw B C dx E).toArray] w (cO fun v w'=>v= .bool r0∧Own w D w' []):=by
 subst dH dJ dL dN dP dR
 have hdl0x1:=dG bA
 have hdl1x1:=dG bF
 refine yR (args:= [.agg (aM a l m n o p r).toArray, .agg (aM b s t z B C E).toArray]) Tryz.func15 rfl rfl rfl ?_
 show Wp _ _ _ [(0, .agg (aM a l m n o p r).toArray),(1, .agg (aM b s t z B C E).toArray)] _ _
 refine sr ?_
 refine dE (aM a l m n o p r) 29 H ?_
 intro d iP gJ
 refine dE (aM b s t z B C E) 29 gJ ?_
 intro f iQ gK
 refine An rfl (yJ (sr ?_))
 refine iX [.int .u8 113, .int .u8 98, .int .u8 116, .int .u8 108, .int .u8 118, .int .u8 101, .int .u8 109, .int .u8 97, .int .u8 110] 5 1 9 gK ?_
 intro g iR dU
 replace dU:=zi (y:=row g 9 9 (List.flatMap eB ([113,98,116,108,118,101,109,97,110])) 5 1) rfl dU
 refine WL.do rfl (Aw Tryz.underlying31 Tryz.underlying5 dU (by omega) rfl ?_)
 intro gL dV
 refine Kz (.int .i64 9) (Mn rfl (bo (zN 200 (sr (Kz (.bool true) (nt (yJ (jt (sk (yJ (bo (sr ?_))))))))))))
 have eH:([113,98,116,108,118,101,109,97,110]:List UInt8)[0]? =some 113:=rfl
 refine fw (.pointer (some ⟨ab g,ao g+0 *1,none⟩)) (yZ (bW) rfl rfl ((dV.rds (i:=0) rfl).addr (i:=0) (by omega)) (by omega)) (fw (.int .u8 113) (y5 rfl (bn.one Tryz.isAgg5 (((dV.rds (i:=0) rfl).elem ay eH (by decide)).at_ (k:=0) rfl))) (An rfl (yJ ?_)))
 have ak:=dV.drew
 refine zt [] (fun W=> ∃ L',Own w D W ([row g 9 9 (List.flatMap eB ([113,98,116,108,118,101,109,97,110])) 5 1,blk f (aM b s t z B C E) 29,blk d (aM a l m n o p r) 29]++L')) (by kernel_rfl) (by kernel_rfl) (zb (bM.block (zb (zb (bM.block (zb zw)))))) ⟨_,ak⟩ ?_
 revert ak
 generalize World.drew gL=gM
 intro ak
 refine GX.take (v:= .int .u8 113) (rs:= []) 0 rfl (by kernel_rfl) (fun _ _=>yO rfl) (GX.take (v:= .int .u8 113) (rs:= []) 4 rfl (by kernel_rfl) (fun _ _=>yO rfl) ?_)
 refine GX.do 1 rfl (by kernel_rfl) (zf Tryz.call47 rfl ?_ (fun _ _ k=>k))
 refine yR (args:= [.pointer (some ⟨d,0,none⟩), .int .u8 113]) Tryz.func47 rfl rfl rfl ?_
 show Wp _ _ _ [(0, .pointer (some ⟨d,0,none⟩)),(1, .int .u8 113)] _ _
 refine sr (An rfl (yJ (sr (Mn rfl (bo (sr (Kz (.bool true) (An rfl (jt (sr (Mz rfl (Kz (.pointer (some ⟨d,0,none⟩)) (Kz (.pointer (some ⟨d,6,none⟩)) (An rfl (rt (bR (tR (rs ?_))))))))))))))))))
 refine⟨.inr ⟨_,ak⟩, ?_⟩
 refine GX.take (v:= .pointer (some ⟨d,6,none⟩)) (rs:= []) 2 rfl (by kernel_rfl) (fun _ _=>yk) (GX.take (v:= .int .u64 ((a.bG:Nat):Int)) (rs:= []) 3 rfl (by kernel_rfl) (fun _ ⟨_,S⟩=>y5 rfl (bn.one Tryz.isAgg22 (zq (S.cls (i:=2) rfl) rfl))) ?_)
 refine GX.do 5 rfl (by kernel_rfl) (zf Tryz.call47 rfl ?_ (fun _ _ k=>k))
 refine yR (args:= [.pointer (some ⟨f,0,none⟩), .int .u8 113]) Tryz.func47 rfl rfl rfl ?_
 show Wp _ _ _ [(0, .pointer (some ⟨f,0,none⟩)),(1, .int .u8 113)] _ _
 refine sr (An rfl (yJ (sr (Mn rfl (bo (sr (Kz (.bool true) (An rfl (jt (sr (Mz rfl (Kz (.pointer (some ⟨f,0,none⟩)) (Kz (.pointer (some ⟨f,6,none⟩)) (An rfl (rt (bR (tR (rs ?_))))))))))))))))))
 refine⟨.inr ⟨_,ak⟩, ?_⟩
 refine GX.take (v:= .pointer (some ⟨f,6,none⟩)) (rs:= []) 6 rfl (by kernel_rfl) (fun _ _=>yk) (GX.take (v:= .int .u64 ((b.bG:Nat):Int)) (rs:= []) 7 rfl (by kernel_rfl) (fun _ ⟨_,S⟩=>y5 rfl (bn.one Tryz.isAgg22 (zq (S.cls (i:=1) rfl) rfl))) (GX.take (v:= .bool (decide (¬ (((a.bG:Nat):Int)=((b.bG:Nat):Int))))) (rs:= []) 8 rfl (by kernel_rfl) (fun _ _=>za (e:= !(decide (((a.bG:Nat):Int)=((b.bG:Nat):Int)))) yk decide_not.symm) (zk (by kernel_rfl) (yL ?_))))
 by_cases ah:((a.bG:Nat):Int)=((b.bG:Nat):Int)
 refine jF (dF (BK ah)) (zm (bN (yL (yK (Kz (.int .i64 1) (Mz rfl (WL.nil (zx [(10, .int .i64 1),(9, .int .i64 9),(8, .slice g 9 9),(4, .bool false),(3, .pointer (some ⟨f,0,none⟩)),(2, .pointer (some ⟨d,0,none⟩))] ⟨rfl,rfl,rfl,rfl,rfl,rfl,trivial⟩ (sr (Kz (.bool true) (nt (yJ (jt (sk (yJ (bo (sr ?_)))))))))))))))))
 have eO:([113,98,116,108,118,101,109,97,110]:List UInt8)[1]? =some 98:=rfl
 refine fw (.pointer (some ⟨ab g,ao g+1 *1,none⟩)) (yZ (bW) rfl rfl ((ak.rds (i:=0) rfl).addr (i:=1) (by omega)) (by omega)) (fw (.int .u8 98) (y5 rfl (bn.one Tryz.isAgg5 (((ak.rds (i:=0) rfl).elem ay eO (by decide)).at_ (k:=0) rfl))) (An rfl (yJ ?_)))
 have au:=ak.drew
 refine zt [] (fun W=> ∃ L',Own w D W ([row g 9 9 (List.flatMap eB ([113,98,116,108,118,101,109,97,110])) 5 1,blk f (aM b s t z B C E) 29,blk d (aM a l m n o p r) 29]++L')) (by kernel_rfl) (by kernel_rfl) (zb (bM.block (zb (zb (bM.block (zb zw)))))) ⟨_,au⟩ ?_
 revert au
 generalize World.drew gM=gN
 intro au
 refine GX.take (v:= .int .u8 98) (rs:= []) 0 rfl (by kernel_rfl) (fun _ _=>yO rfl) (GX.take (v:= .int .u8 98) (rs:= []) 4 rfl (by kernel_rfl) (fun _ _=>yO rfl) ?_)
 refine GX.do 1 rfl (by kernel_rfl) (zf Tryz.call47 rfl ?_ (fun _ _ k=>k))
 refine yR (args:= [.pointer (some ⟨d,0,none⟩), .int .u8 98]) Tryz.func47 rfl rfl rfl ?_
 show Wp _ _ _ [(0, .pointer (some ⟨d,0,none⟩)),(1, .int .u8 98)] _ _
 refine sr (An rfl (yJ (sr (Mn rfl (bo (sr (Kz (.bool false) (An rfl (jf (sr (Kz (.bool true) (An rfl (jt (sr (Mz rfl (Kz (.pointer (some ⟨d,0,none⟩)) (Kz (.pointer (some ⟨d,7,none⟩)) (An rfl (rt (bR (tR (rs ?_))))))))))))))))))))))
 refine⟨.inr ⟨_,au⟩, ?_⟩
 refine GX.take (v:= .pointer (some ⟨d,7,none⟩)) (rs:= []) 2 rfl (by kernel_rfl) (fun _ _=>yk) (GX.take (v:= .int .u64 ((a.aY:Nat):Int)) (rs:= []) 3 rfl (by kernel_rfl) (fun _ ⟨_,S⟩=>y5 rfl (bn.one Tryz.isAgg22 (zq (S.cls (i:=2) rfl) rfl))) ?_)
 refine GX.do 5 rfl (by kernel_rfl) (zf Tryz.call47 rfl ?_ (fun _ _ k=>k))
 refine yR (args:= [.pointer (some ⟨f,0,none⟩), .int .u8 98]) Tryz.func47 rfl rfl rfl ?_
 show Wp _ _ _ [(0, .pointer (some ⟨f,0,none⟩)),(1, .int .u8 98)] _ _
 refine sr (An rfl (yJ (sr (Mn rfl (bo (sr (Kz (.bool false) (An rfl (jf (sr (Kz (.bool true) (An rfl (jt (sr (Mz rfl (Kz (.pointer (some ⟨f,0,none⟩)) (Kz (.pointer (some ⟨f,7,none⟩)) (An rfl (rt (bR (tR (rs ?_))))))))))))))))))))))
 refine⟨.inr ⟨_,au⟩, ?_⟩
 refine GX.take (v:= .pointer (some ⟨f,7,none⟩)) (rs:= []) 6 rfl (by kernel_rfl) (fun _ _=>yk) (GX.take (v:= .int .u64 ((b.aY:Nat):Int)) (rs:= []) 7 rfl (by kernel_rfl) (fun _ ⟨_,S⟩=>y5 rfl (bn.one Tryz.isAgg22 (zq (S.cls (i:=1) rfl) rfl))) (GX.take (v:= .bool (decide (¬ (((a.aY:Nat):Int)=((b.aY:Nat):Int))))) (rs:= []) 8 rfl (by kernel_rfl) (fun _ _=>za (e:= !(decide (((a.aY:Nat):Int)=((b.aY:Nat):Int)))) yk decide_not.symm) (zk (by kernel_rfl) (yL ?_))))
 by_cases ai:((a.aY:Nat):Int)=((b.aY:Nat):Int)
 refine jF (dF (BK ai)) (zm (bN (yL (yK (Kz (.int .i64 2) (Mz rfl (WL.nil (zx [(10, .int .i64 2),(9, .int .i64 9),(8, .slice g 9 9),(4, .bool false),(3, .pointer (some ⟨f,0,none⟩)),(2, .pointer (some ⟨d,0,none⟩))] ⟨rfl,rfl,rfl,rfl,rfl,rfl,trivial⟩ (sr (Kz (.bool true) (nt (yJ (jt (sk (yJ (bo (sr ?_)))))))))))))))))
 have eP:([113,98,116,108,118,101,109,97,110]:List UInt8)[2]? =some 116:=rfl
 refine fw (.pointer (some ⟨ab g,ao g+2 *1,none⟩)) (yZ (bW) rfl rfl ((au.rds (i:=0) rfl).addr (i:=2) (by omega)) (by omega)) (fw (.int .u8 116) (y5 rfl (bn.one Tryz.isAgg5 (((au.rds (i:=0) rfl).elem ay eP (by decide)).at_ (k:=0) rfl))) (An rfl (yJ ?_)))
 have av:=au.drew
 refine zt [] (fun W=> ∃ L',Own w D W ([row g 9 9 (List.flatMap eB ([113,98,116,108,118,101,109,97,110])) 5 1,blk f (aM b s t z B C E) 29,blk d (aM a l m n o p r) 29]++L')) (by kernel_rfl) (by kernel_rfl) (zb (bM.block (zb (zb (bM.block (zb zw)))))) ⟨_,av⟩ ?_
 revert av
 generalize World.drew gN=gP
 intro av
 refine GX.take (v:= .int .u8 116) (rs:= []) 0 rfl (by kernel_rfl) (fun _ _=>yO rfl) (GX.take (v:= .int .u8 116) (rs:= []) 4 rfl (by kernel_rfl) (fun _ _=>yO rfl) ?_)
 refine GX.do 1 rfl (by kernel_rfl) (zf Tryz.call47 rfl ?_ (fun _ _ k=>k))
 refine yR (args:= [.pointer (some ⟨d,0,none⟩), .int .u8 116]) Tryz.func47 rfl rfl rfl ?_
 show Wp _ _ _ [(0, .pointer (some ⟨d,0,none⟩)),(1, .int .u8 116)] _ _
 refine sr (An rfl (yJ (sr (Mn rfl (bo (sr (Kz (.bool false) (An rfl (jf (sr (Kz (.bool false) (An rfl (jf (sr (Kz (.bool true) (An rfl (jt (sr (Mz rfl (Kz (.pointer (some ⟨d,0,none⟩)) (Kz (.pointer (some ⟨d,8,none⟩)) (Az rfl (WL.nil ?_)))))))))))))))))))))))
 refine yL (rt (bR (tR (rs ?_))))
 refine⟨.inr ⟨_,av⟩, ?_⟩
 refine GX.take (v:= .pointer (some ⟨d,8,none⟩)) (rs:= []) 2 rfl (by kernel_rfl) (fun _ _=>yk) (GX.take (v:= .int .u64 ((a.bF:Nat):Int)) (rs:= []) 3 rfl (by kernel_rfl) (fun _ ⟨_,S⟩=>y5 rfl (bn.one Tryz.isAgg22 (zq (S.cls (i:=2) rfl) rfl))) ?_)
 refine GX.do 5 rfl (by kernel_rfl) (zf Tryz.call47 rfl ?_ (fun _ _ k=>k))
 refine yR (args:= [.pointer (some ⟨f,0,none⟩), .int .u8 116]) Tryz.func47 rfl rfl rfl ?_
 show Wp _ _ _ [(0, .pointer (some ⟨f,0,none⟩)),(1, .int .u8 116)] _ _
 refine sr (An rfl (yJ (sr (Mn rfl (bo (sr (Kz (.bool false) (An rfl (jf (sr (Kz (.bool false) (An rfl (jf (sr (Kz (.bool true) (An rfl (jt (sr (Mz rfl (Kz (.pointer (some ⟨f,0,none⟩)) (Kz (.pointer (some ⟨f,8,none⟩)) (Az rfl (WL.nil ?_)))))))))))))))))))))))
 refine yL (rt (bR (tR (rs ?_))))
 refine⟨.inr ⟨_,av⟩, ?_⟩
 refine GX.take (v:= .pointer (some ⟨f,8,none⟩)) (rs:= []) 6 rfl (by kernel_rfl) (fun _ _=>yk) (GX.take (v:= .int .u64 ((b.bF:Nat):Int)) (rs:= []) 7 rfl (by kernel_rfl) (fun _ ⟨_,S⟩=>y5 rfl (bn.one Tryz.isAgg22 (zq (S.cls (i:=1) rfl) rfl))) (GX.take (v:= .bool (decide (¬ (((a.bF:Nat):Int)=((b.bF:Nat):Int))))) (rs:= []) 8 rfl (by kernel_rfl) (fun _ _=>za (e:= !(decide (((a.bF:Nat):Int)=((b.bF:Nat):Int)))) yk decide_not.symm) (zk (by kernel_rfl) (yL ?_))))
 by_cases aj:((a.bF:Nat):Int)=((b.bF:Nat):Int)
 refine jF (dF (BK aj)) (zm (bN (yL (yK (Kz (.int .i64 3) (Mz rfl (WL.nil (zx [(10, .int .i64 3),(9, .int .i64 9),(8, .slice g 9 9),(4, .bool false),(3, .pointer (some ⟨f,0,none⟩)),(2, .pointer (some ⟨d,0,none⟩))] ⟨rfl,rfl,rfl,rfl,rfl,rfl,trivial⟩ (sr (Kz (.bool true) (nt (yJ (jt (sk (yJ (bo (sr ?_)))))))))))))))))
 have eQ:([113,98,116,108,118,101,109,97,110]:List UInt8)[3]? =some 108:=rfl
 refine fw (.pointer (some ⟨ab g,ao g+3 *1,none⟩)) (yZ (bW) rfl rfl ((av.rds (i:=0) rfl).addr (i:=3) (by omega)) (by omega)) (fw (.int .u8 108) (y5 rfl (bn.one Tryz.isAgg5 (((av.rds (i:=0) rfl).elem ay eQ (by decide)).at_ (k:=0) rfl))) (An rfl (yJ ?_)))
 have ax:=av.drew
 refine zt [] (fun W=> ∃ L',Own w D W ([row g 9 9 (List.flatMap eB ([113,98,116,108,118,101,109,97,110])) 5 1,blk f (aM b s t z B C E) 29,blk d (aM a l m n o p r) 29]++L')) (by kernel_rfl) (by kernel_rfl) (zb (bM.block (zb (zb (bM.block (zb zw)))))) ⟨_,ax⟩ ?_
 revert ax
 generalize World.drew gP=gQ
 intro ax
 refine GX.take (v:= .int .u8 108) (rs:= []) 0 rfl (by kernel_rfl) (fun _ _=>yO rfl) (GX.take (v:= .int .u8 108) (rs:= []) 4 rfl (by kernel_rfl) (fun _ _=>yO rfl) ?_)
 refine GX.do 1 rfl (by kernel_rfl) (zf Tryz.call47 rfl ?_ (fun _ _ k=>k))
 refine yR (args:= [.pointer (some ⟨d,0,none⟩), .int .u8 108]) Tryz.func47 rfl rfl rfl ?_
 show Wp _ _ _ [(0, .pointer (some ⟨d,0,none⟩)),(1, .int .u8 108)] _ _
 refine sr (An rfl (yJ (sr (Mn rfl (bo (sr (Kz (.bool false) (An rfl (jf (sr (Kz (.bool false) (An rfl (jf (sr (Kz (.bool false) (An rfl (jf (sr (Kz (.bool true) (An rfl (jt ?_)))))))))))))))))))))
 refine sr (Mz rfl (Kz (.pointer (some ⟨d,0,none⟩)) (Kz (.pointer (some ⟨d,9,none⟩)) (An rfl (rt (bR (tR (rs ?_))))))))
 refine⟨.inr ⟨_,ax⟩, ?_⟩
 refine GX.take (v:= .pointer (some ⟨d,9,none⟩)) (rs:= []) 2 rfl (by kernel_rfl) (fun _ _=>yk) (GX.take (v:= .int .u64 ((a.bH:Nat):Int)) (rs:= []) 3 rfl (by kernel_rfl) (fun _ ⟨_,S⟩=>y5 rfl (bn.one Tryz.isAgg22 (zq (S.cls (i:=2) rfl) rfl))) ?_)
 refine GX.do 5 rfl (by kernel_rfl) (zf Tryz.call47 rfl ?_ (fun _ _ k=>k))
 refine yR (args:= [.pointer (some ⟨f,0,none⟩), .int .u8 108]) Tryz.func47 rfl rfl rfl ?_
 show Wp _ _ _ [(0, .pointer (some ⟨f,0,none⟩)),(1, .int .u8 108)] _ _
 refine sr (An rfl (yJ (sr (Mn rfl (bo (sr (Kz (.bool false) (An rfl (jf (sr (Kz (.bool false) (An rfl (jf (sr (Kz (.bool false) (An rfl (jf (sr (Kz (.bool true) (An rfl (jt ?_)))))))))))))))))))))
 refine sr (Mz rfl (Kz (.pointer (some ⟨f,0,none⟩)) (Kz (.pointer (some ⟨f,9,none⟩)) (An rfl (rt (bR (tR (rs ?_))))))))
 refine⟨.inr ⟨_,ax⟩, ?_⟩
 refine GX.take (v:= .pointer (some ⟨f,9,none⟩)) (rs:= []) 6 rfl (by kernel_rfl) (fun _ _=>yk) (GX.take (v:= .int .u64 ((b.bH:Nat):Int)) (rs:= []) 7 rfl (by kernel_rfl) (fun _ ⟨_,S⟩=>y5 rfl (bn.one Tryz.isAgg22 (zq (S.cls (i:=1) rfl) rfl))) (GX.take (v:= .bool (decide (¬ (((a.bH:Nat):Int)=((b.bH:Nat):Int))))) (rs:= []) 8 rfl (by kernel_rfl) (fun _ _=>za (e:= !(decide (((a.bH:Nat):Int)=((b.bH:Nat):Int)))) yk decide_not.symm) (zk (by kernel_rfl) (yL ?_))))
 by_cases az:((a.bH:Nat):Int)=((b.bH:Nat):Int)
 refine jF (dF (BK az)) (zm (bN (yL (yK (Kz (.int .i64 4) (Mz rfl (WL.nil (zx [(10, .int .i64 4),(9, .int .i64 9),(8, .slice g 9 9),(4, .bool false),(3, .pointer (some ⟨f,0,none⟩)),(2, .pointer (some ⟨d,0,none⟩))] ⟨rfl,rfl,rfl,rfl,rfl,rfl,trivial⟩ (sr (Kz (.bool true) (nt (yJ (jt (sk (yJ (bo (sr ?_)))))))))))))))))
 have eT:([113,98,116,108,118,101,109,97,110]:List UInt8)[4]? =some 118:=rfl
 refine fw (.pointer (some ⟨ab g,ao g+4 *1,none⟩)) (yZ (bW) rfl rfl ((ax.rds (i:=0) rfl).addr (i:=4) (by omega)) (by omega)) (fw (.int .u8 118) (y5 rfl (bn.one Tryz.isAgg5 (((ax.rds (i:=0) rfl).elem ay eT (by decide)).at_ (k:=0) rfl))) (An rfl (yJ ?_)))
 have aC:=ax.drew
 refine zt [] (fun W=> ∃ L',Own w D W ([row g 9 9 (List.flatMap eB ([113,98,116,108,118,101,109,97,110])) 5 1,blk f (aM b s t z B C E) 29,blk d (aM a l m n o p r) 29]++L')) (by kernel_rfl) (by kernel_rfl) (zb (bM.block (zb (zb (bM.block (zb zw)))))) ⟨_,aC⟩ ?_
 revert aC
 generalize World.drew gQ=gT
 intro aC
 refine GX.take (v:= .int .u8 118) (rs:= []) 0 rfl (by kernel_rfl) (fun _ _=>yO rfl) (GX.take (v:= .int .u8 118) (rs:= []) 4 rfl (by kernel_rfl) (fun _ _=>yO rfl) ?_)
 refine GX.do 1 rfl (by kernel_rfl) (zf Tryz.call47 rfl ?_ (fun _ _ k=>k))
 refine yR (args:= [.pointer (some ⟨d,0,none⟩), .int .u8 118]) Tryz.func47 rfl rfl rfl ?_
 show Wp _ _ _ [(0, .pointer (some ⟨d,0,none⟩)),(1, .int .u8 118)] _ _
 refine sr (An rfl (yJ (sr (Mn rfl (bo (sr (Kz (.bool false) (An rfl (jf (sr (Kz (.bool false) (An rfl (jf (sr (Kz (.bool false) (An rfl (jf (sr (Kz (.bool false) (An rfl (jf ?_)))))))))))))))))))))
 refine sr (Kz (.bool true) (An rfl (jt (sr (Mz rfl (Kz (.pointer (some ⟨d,0,none⟩)) (Kz (.pointer (some ⟨d,10,none⟩)) (An rfl (rt (bR (tR (rs ?_))))))))))))
 refine⟨.inr ⟨_,aC⟩, ?_⟩
 refine GX.take (v:= .pointer (some ⟨d,10,none⟩)) (rs:= []) 2 rfl (by kernel_rfl) (fun _ _=>yk) (GX.take (v:= .int .u64 ((a.bL:Nat):Int)) (rs:= []) 3 rfl (by kernel_rfl) (fun _ ⟨_,S⟩=>y5 rfl (bn.one Tryz.isAgg22 (zq (S.cls (i:=2) rfl) rfl))) ?_)
 refine GX.do 5 rfl (by kernel_rfl) (zf Tryz.call47 rfl ?_ (fun _ _ k=>k))
 refine yR (args:= [.pointer (some ⟨f,0,none⟩), .int .u8 118]) Tryz.func47 rfl rfl rfl ?_
 show Wp _ _ _ [(0, .pointer (some ⟨f,0,none⟩)),(1, .int .u8 118)] _ _
 refine sr (An rfl (yJ (sr (Mn rfl (bo (sr (Kz (.bool false) (An rfl (jf (sr (Kz (.bool false) (An rfl (jf (sr (Kz (.bool false) (An rfl (jf (sr (Kz (.bool false) (An rfl (jf ?_)))))))))))))))))))))
 refine sr (Kz (.bool true) (An rfl (jt (sr (Mz rfl (Kz (.pointer (some ⟨f,0,none⟩)) (Kz (.pointer (some ⟨f,10,none⟩)) (An rfl (rt (bR (tR (rs ?_))))))))))))
 refine⟨.inr ⟨_,aC⟩, ?_⟩
 refine GX.take (v:= .pointer (some ⟨f,10,none⟩)) (rs:= []) 6 rfl (by kernel_rfl) (fun _ _=>yk) (GX.take (v:= .int .u64 ((b.bL:Nat):Int)) (rs:= []) 7 rfl (by kernel_rfl) (fun _ ⟨_,S⟩=>y5 rfl (bn.one Tryz.isAgg22 (zq (S.cls (i:=1) rfl) rfl))) (GX.take (v:= .bool (decide (¬ (((a.bL:Nat):Int)=((b.bL:Nat):Int))))) (rs:= []) 8 rfl (by kernel_rfl) (fun _ _=>za (e:= !(decide (((a.bL:Nat):Int)=((b.bL:Nat):Int)))) yk decide_not.symm) (zk (by kernel_rfl) (yL ?_))))
 by_cases aI:((a.bL:Nat):Int)=((b.bL:Nat):Int)
 refine jF (dF (BK aI)) (zm (bN (yL (yK (Kz (.int .i64 5) (Mz rfl (WL.nil (zx [(10, .int .i64 5),(9, .int .i64 9),(8, .slice g 9 9),(4, .bool false),(3, .pointer (some ⟨f,0,none⟩)),(2, .pointer (some ⟨d,0,none⟩))] ⟨rfl,rfl,rfl,rfl,rfl,rfl,trivial⟩ (sr (Kz (.bool true) (nt (yJ (jt (sk (yJ (bo (sr ?_)))))))))))))))))
 have eU:([113,98,116,108,118,101,109,97,110]:List UInt8)[5]? =some 101:=rfl
 refine fw (.pointer (some ⟨ab g,ao g+5 *1,none⟩)) (yZ (bW) rfl rfl ((aC.rds (i:=0) rfl).addr (i:=5) (by omega)) (by omega)) (fw (.int .u8 101) (y5 rfl (bn.one Tryz.isAgg5 (((aC.rds (i:=0) rfl).elem ay eU (by decide)).at_ (k:=0) rfl))) (An rfl (yJ ?_)))
 have aD:=aC.drew
 refine zt [] (fun W=> ∃ L',Own w D W ([row g 9 9 (List.flatMap eB ([113,98,116,108,118,101,109,97,110])) 5 1,blk f (aM b s t z B C E) 29,blk d (aM a l m n o p r) 29]++L')) (by kernel_rfl) (by kernel_rfl) (zb (bM.block (zb (zb (bM.block (zb zw)))))) ⟨_,aD⟩ ?_
 revert aD
 generalize World.drew gT=gU
 intro aD
 refine GX.take (v:= .int .u8 101) (rs:= []) 0 rfl (by kernel_rfl) (fun _ _=>yO rfl) (GX.take (v:= .int .u8 101) (rs:= []) 4 rfl (by kernel_rfl) (fun _ _=>yO rfl) ?_)
 refine GX.do 1 rfl (by kernel_rfl) (zf Tryz.call47 rfl ?_ (fun _ _ k=>k))
 refine yR (args:= [.pointer (some ⟨d,0,none⟩), .int .u8 101]) Tryz.func47 rfl rfl rfl ?_
 show Wp _ _ _ [(0, .pointer (some ⟨d,0,none⟩)),(1, .int .u8 101)] _ _
 refine sr (An rfl (yJ (sr (Mn rfl (bo (sr (Kz (.bool false) (An rfl (jf (sr (Kz (.bool false) (An rfl (jf (sr (Kz (.bool false) (An rfl (jf (sr (Kz (.bool false) (An rfl (jf ?_)))))))))))))))))))))
 refine sr (Kz (.bool false) (An rfl (jf (sr (Kz (.bool true) (An rfl (jt (sr (Mz rfl (Kz (.pointer (some ⟨d,0,none⟩)) (Kz (.pointer (some ⟨d,11,none⟩)) (An rfl (rt (bR (tR (rs ?_))))))))))))))))
 refine⟨.inr ⟨_,aD⟩, ?_⟩
 refine GX.take (v:= .pointer (some ⟨d,11,none⟩)) (rs:= []) 2 rfl (by kernel_rfl) (fun _ _=>yk) (GX.take (v:= .int .u64 ((a.aV:Nat):Int)) (rs:= []) 3 rfl (by kernel_rfl) (fun _ ⟨_,S⟩=>y5 rfl (bn.one Tryz.isAgg22 (zq (S.cls (i:=2) rfl) rfl))) ?_)
 refine GX.do 5 rfl (by kernel_rfl) (zf Tryz.call47 rfl ?_ (fun _ _ k=>k))
 refine yR (args:= [.pointer (some ⟨f,0,none⟩), .int .u8 101]) Tryz.func47 rfl rfl rfl ?_
 show Wp _ _ _ [(0, .pointer (some ⟨f,0,none⟩)),(1, .int .u8 101)] _ _
 refine sr (An rfl (yJ (sr (Mn rfl (bo (sr (Kz (.bool false) (An rfl (jf (sr (Kz (.bool false) (An rfl (jf (sr (Kz (.bool false) (An rfl (jf (sr (Kz (.bool false) (An rfl (jf ?_)))))))))))))))))))))
 refine sr (Kz (.bool false) (An rfl (jf (sr (Kz (.bool true) (An rfl (jt (sr (Mz rfl (Kz (.pointer (some ⟨f,0,none⟩)) (Kz (.pointer (some ⟨f,11,none⟩)) (An rfl (rt (bR (tR (rs ?_))))))))))))))))
 refine⟨.inr ⟨_,aD⟩, ?_⟩
 refine GX.take (v:= .pointer (some ⟨f,11,none⟩)) (rs:= []) 6 rfl (by kernel_rfl) (fun _ _=>yk) (GX.take (v:= .int .u64 ((b.aV:Nat):Int)) (rs:= []) 7 rfl (by kernel_rfl) (fun _ ⟨_,S⟩=>y5 rfl (bn.one Tryz.isAgg22 (zq (S.cls (i:=1) rfl) rfl))) (GX.take (v:= .bool (decide (¬ (((a.aV:Nat):Int)=((b.aV:Nat):Int))))) (rs:= []) 8 rfl (by kernel_rfl) (fun _ _=>za (e:= !(decide (((a.aV:Nat):Int)=((b.aV:Nat):Int)))) yk decide_not.symm) (zk (by kernel_rfl) (yL ?_))))
 by_cases aJ:((a.aV:Nat):Int)=((b.aV:Nat):Int)
 refine jF (dF (BK aJ)) (zm (bN (yL (yK (Kz (.int .i64 6) (Mz rfl (WL.nil (zx [(10, .int .i64 6),(9, .int .i64 9),(8, .slice g 9 9),(4, .bool false),(3, .pointer (some ⟨f,0,none⟩)),(2, .pointer (some ⟨d,0,none⟩))] ⟨rfl,rfl,rfl,rfl,rfl,rfl,trivial⟩ (sr (Kz (.bool true) (nt (yJ (jt (sk (yJ (bo (sr ?_)))))))))))))))))
 have eX:([113,98,116,108,118,101,109,97,110]:List UInt8)[6]? =some 109:=rfl
 refine fw (.pointer (some ⟨ab g,ao g+6 *1,none⟩)) (yZ (bW) rfl rfl ((aD.rds (i:=0) rfl).addr (i:=6) (by omega)) (by omega)) (fw (.int .u8 109) (y5 rfl (bn.one Tryz.isAgg5 (((aD.rds (i:=0) rfl).elem ay eX (by decide)).at_ (k:=0) rfl))) (An rfl (yJ ?_)))
 have aF:=aD.drew
 refine zt [] (fun W=> ∃ L',Own w D W ([row g 9 9 (List.flatMap eB ([113,98,116,108,118,101,109,97,110])) 5 1,blk f (aM b s t z B C E) 29,blk d (aM a l m n o p r) 29]++L')) (by kernel_rfl) (by kernel_rfl) (zb (bM.block (zb (zb (bM.block (zb zw)))))) ⟨_,aF⟩ ?_
 revert aF
 generalize World.drew gU=gV
 intro aF
 refine GX.take (v:= .int .u8 109) (rs:= []) 0 rfl (by kernel_rfl) (fun _ _=>yO rfl) (GX.take (v:= .int .u8 109) (rs:= []) 4 rfl (by kernel_rfl) (fun _ _=>yO rfl) ?_)
 refine GX.do 1 rfl (by kernel_rfl) (zf Tryz.call47 rfl ?_ (fun _ _ k=>k))
 refine yR (args:= [.pointer (some ⟨d,0,none⟩), .int .u8 109]) Tryz.func47 rfl rfl rfl ?_
 show Wp _ _ _ [(0, .pointer (some ⟨d,0,none⟩)),(1, .int .u8 109)] _ _
 refine sr (An rfl (yJ (sr (Mn rfl (bo (sr (Kz (.bool false) (An rfl (jf (sr (Kz (.bool false) (An rfl (jf (sr (Kz (.bool false) (An rfl (jf (sr (Kz (.bool false) (An rfl (jf ?_)))))))))))))))))))))
 refine sr (Kz (.bool false) (An rfl (jf (sr (Kz (.bool false) (An rfl (jf (sr (Kz (.bool true) (An rfl (jt (sr (Mz rfl (Kz (.pointer (some ⟨d,0,none⟩)) (Kz (.pointer (some ⟨d,12,none⟩)) (An rfl (rt (bR (tR (rs ?_))))))))))))))))))))
 refine⟨.inr ⟨_,aF⟩, ?_⟩
 refine GX.take (v:= .pointer (some ⟨d,12,none⟩)) (rs:= []) 2 rfl (by kernel_rfl) (fun _ _=>yk) (GX.take (v:= .int .u64 ((a.bB:Nat):Int)) (rs:= []) 3 rfl (by kernel_rfl) (fun _ ⟨_,S⟩=>y5 rfl (bn.one Tryz.isAgg22 (zq (S.cls (i:=2) rfl) rfl))) ?_)
 refine GX.do 5 rfl (by kernel_rfl) (zf Tryz.call47 rfl ?_ (fun _ _ k=>k))
 refine yR (args:= [.pointer (some ⟨f,0,none⟩), .int .u8 109]) Tryz.func47 rfl rfl rfl ?_
 show Wp _ _ _ [(0, .pointer (some ⟨f,0,none⟩)),(1, .int .u8 109)] _ _
 refine sr (An rfl (yJ (sr (Mn rfl (bo (sr (Kz (.bool false) (An rfl (jf (sr (Kz (.bool false) (An rfl (jf (sr (Kz (.bool false) (An rfl (jf (sr (Kz (.bool false) (An rfl (jf ?_)))))))))))))))))))))
 refine sr (Kz (.bool false) (An rfl (jf (sr (Kz (.bool false) (An rfl (jf (sr (Kz (.bool true) (An rfl (jt (sr (Mz rfl (Kz (.pointer (some ⟨f,0,none⟩)) (Kz (.pointer (some ⟨f,12,none⟩)) (An rfl (rt (bR (tR (rs ?_))))))))))))))))))))
 refine⟨.inr ⟨_,aF⟩, ?_⟩
 refine GX.take (v:= .pointer (some ⟨f,12,none⟩)) (rs:= []) 6 rfl (by kernel_rfl) (fun _ _=>yk) (GX.take (v:= .int .u64 ((b.bB:Nat):Int)) (rs:= []) 7 rfl (by kernel_rfl) (fun _ ⟨_,S⟩=>y5 rfl (bn.one Tryz.isAgg22 (zq (S.cls (i:=1) rfl) rfl))) (GX.take (v:= .bool (decide (¬ (((a.bB:Nat):Int)=((b.bB:Nat):Int))))) (rs:= []) 8 rfl (by kernel_rfl) (fun _ _=>za (e:= !(decide (((a.bB:Nat):Int)=((b.bB:Nat):Int)))) yk decide_not.symm) (zk (by kernel_rfl) (yL ?_))))
 by_cases bv:((a.bB:Nat):Int)=((b.bB:Nat):Int)
 refine jF (dF (BK bv)) (zm (bN (yL (yK (Kz (.int .i64 7) (Mz rfl (WL.nil (zx [(10, .int .i64 7),(9, .int .i64 9),(8, .slice g 9 9),(4, .bool false),(3, .pointer (some ⟨f,0,none⟩)),(2, .pointer (some ⟨d,0,none⟩))] ⟨rfl,rfl,rfl,rfl,rfl,rfl,trivial⟩ (sr (Kz (.bool true) (nt (yJ (jt (sk (yJ (bo (sr ?_)))))))))))))))))
 have eY:([113,98,116,108,118,101,109,97,110]:List UInt8)[7]? =some 97:=rfl
 refine fw (.pointer (some ⟨ab g,ao g+7 *1,none⟩)) (yZ (bW) rfl rfl ((aF.rds (i:=0) rfl).addr (i:=7) (by omega)) (by omega)) (fw (.int .u8 97) (y5 rfl (bn.one Tryz.isAgg5 (((aF.rds (i:=0) rfl).elem ay eY (by decide)).at_ (k:=0) rfl))) (An rfl (yJ ?_)))
 have aG:=aF.drew
 refine zt [] (fun W=> ∃ L',Own w D W ([row g 9 9 (List.flatMap eB ([113,98,116,108,118,101,109,97,110])) 5 1,blk f (aM b s t z B C E) 29,blk d (aM a l m n o p r) 29]++L')) (by kernel_rfl) (by kernel_rfl) (zb (bM.block (zb (zb (bM.block (zb zw)))))) ⟨_,aG⟩ ?_
 revert aG
 generalize World.drew gV=gW
 intro aG
 refine GX.take (v:= .int .u8 97) (rs:= []) 0 rfl (by kernel_rfl) (fun _ _=>yO rfl) (GX.take (v:= .int .u8 97) (rs:= []) 4 rfl (by kernel_rfl) (fun _ _=>yO rfl) ?_)
 refine GX.do 1 rfl (by kernel_rfl) (zf Tryz.call47 rfl ?_ (fun _ _ k=>k))
 refine yR (args:= [.pointer (some ⟨d,0,none⟩), .int .u8 97]) Tryz.func47 rfl rfl rfl ?_
 show Wp _ _ _ [(0, .pointer (some ⟨d,0,none⟩)),(1, .int .u8 97)] _ _
 refine sr (An rfl (yJ (sr (Mn rfl (bo (sr (Kz (.bool false) (An rfl (jf (sr (Kz (.bool false) (An rfl (jf (sr (Kz (.bool false) (An rfl (jf (sr (Kz (.bool false) (An rfl (jf ?_)))))))))))))))))))))
 refine sr (Kz (.bool false) (An rfl (jf (sr (Kz (.bool false) (An rfl (jf (sr (Kz (.bool false) (An rfl (jf (sr (Kz (.bool true) (An rfl (jt (sr (Mz rfl (Kz (.pointer (some ⟨d,0,none⟩)) (Kz (.pointer (some ⟨d,13,none⟩)) (An rfl (rt (bR (tR (rs ?_))))))))))))))))))))))))
 refine⟨.inr ⟨_,aG⟩, ?_⟩
 refine GX.take (v:= .pointer (some ⟨d,13,none⟩)) (rs:= []) 2 rfl (by kernel_rfl) (fun _ _=>yk) (GX.take (v:= .int .u64 ((a.aK:Nat):Int)) (rs:= []) 3 rfl (by kernel_rfl) (fun _ ⟨_,S⟩=>y5 rfl (bn.one Tryz.isAgg22 (zq (S.cls (i:=2) rfl) rfl))) ?_)
 refine GX.do 5 rfl (by kernel_rfl) (zf Tryz.call47 rfl ?_ (fun _ _ k=>k))
 refine yR (args:= [.pointer (some ⟨f,0,none⟩), .int .u8 97]) Tryz.func47 rfl rfl rfl ?_
 show Wp _ _ _ [(0, .pointer (some ⟨f,0,none⟩)),(1, .int .u8 97)] _ _
 refine sr (An rfl (yJ (sr (Mn rfl (bo (sr (Kz (.bool false) (An rfl (jf (sr (Kz (.bool false) (An rfl (jf (sr (Kz (.bool false) (An rfl (jf (sr (Kz (.bool false) (An rfl (jf ?_)))))))))))))))))))))
 refine sr (Kz (.bool false) (An rfl (jf (sr (Kz (.bool false) (An rfl (jf (sr (Kz (.bool false) (An rfl (jf (sr (Kz (.bool true) (An rfl (jt (sr (Mz rfl (Kz (.pointer (some ⟨f,0,none⟩)) (Kz (.pointer (some ⟨f,13,none⟩)) (An rfl (rt (bR (tR (rs ?_))))))))))))))))))))))))
 refine⟨.inr ⟨_,aG⟩, ?_⟩
 refine GX.take (v:= .pointer (some ⟨f,13,none⟩)) (rs:= []) 6 rfl (by kernel_rfl) (fun _ _=>yk) (GX.take (v:= .int .u64 ((b.aK:Nat):Int)) (rs:= []) 7 rfl (by kernel_rfl) (fun _ ⟨_,S⟩=>y5 rfl (bn.one Tryz.isAgg22 (zq (S.cls (i:=1) rfl) rfl))) (GX.take (v:= .bool (decide (¬ (((a.aK:Nat):Int)=((b.aK:Nat):Int))))) (rs:= []) 8 rfl (by kernel_rfl) (fun _ _=>za (e:= !(decide (((a.aK:Nat):Int)=((b.aK:Nat):Int)))) yk decide_not.symm) (zk (by kernel_rfl) (yL ?_))))
 by_cases bH:((a.aK:Nat):Int)=((b.aK:Nat):Int)
 refine jF (dF (BK bH)) (zm (bN (yL (yK (Kz (.int .i64 8) (Mz rfl (WL.nil (zx [(10, .int .i64 8),(9, .int .i64 9),(8, .slice g 9 9),(4, .bool false),(3, .pointer (some ⟨f,0,none⟩)),(2, .pointer (some ⟨d,0,none⟩))] ⟨rfl,rfl,rfl,rfl,rfl,rfl,trivial⟩ (sr (Kz (.bool true) (nt (yJ (jt (sk (yJ (bo (sr ?_)))))))))))))))))
 have eZ:([113,98,116,108,118,101,109,97,110]:List UInt8)[8]? =some 110:=rfl
 refine fw (.pointer (some ⟨ab g,ao g+8 *1,none⟩)) (yZ (bW) rfl rfl ((aG.rds (i:=0) rfl).addr (i:=8) (by omega)) (by omega)) (fw (.int .u8 110) (y5 rfl (bn.one Tryz.isAgg5 (((aG.rds (i:=0) rfl).elem ay eZ (by decide)).at_ (k:=0) rfl))) (An rfl (yJ ?_)))
 have aK:=aG.drew
 refine zt [] (fun W=> ∃ L',Own w D W ([row g 9 9 (List.flatMap eB ([113,98,116,108,118,101,109,97,110])) 5 1,blk f (aM b s t z B C E) 29,blk d (aM a l m n o p r) 29]++L')) (by kernel_rfl) (by kernel_rfl) (zb (bM.block (zb (zb (bM.block (zb zw)))))) ⟨_,aK⟩ ?_
 revert aK
 generalize World.drew gW=iT
 intro aK
 refine GX.take (v:= .int .u8 110) (rs:= []) 0 rfl (by kernel_rfl) (fun _ _=>yO rfl) (GX.take (v:= .int .u8 110) (rs:= []) 4 rfl (by kernel_rfl) (fun _ _=>yO rfl) ?_)
 refine GX.do 1 rfl (by kernel_rfl) (zf Tryz.call47 rfl ?_ (fun _ _ k=>k))
 refine yR (args:= [.pointer (some ⟨d,0,none⟩), .int .u8 110]) Tryz.func47 rfl rfl rfl ?_
 show Wp _ _ _ [(0, .pointer (some ⟨d,0,none⟩)),(1, .int .u8 110)] _ _
 refine sr (An rfl (yJ (sr (Mn rfl (bo (sr (Kz (.bool false) (An rfl (jf (sr (Kz (.bool false) (An rfl (jf (sr (Kz (.bool false) (An rfl (jf (sr (Kz (.bool false) (An rfl (jf ?_)))))))))))))))))))))
 refine sr (Kz (.bool false) (An rfl (jf (sr (Kz (.bool false) (An rfl (jf (sr (Kz (.bool false) (An rfl (jf (sr (Kz (.bool false) (An rfl (jf (sr (Kz (.bool true) (An rfl (jt (sr (Mz rfl (Kz (.pointer (some ⟨d,0,none⟩)) (Kz (.pointer (some ⟨d,14,none⟩)) ?_)))))))))))))))))))))))
 refine An rfl (rt (bR (tR (rs ?_))))
 refine⟨.inr ⟨_,aK⟩, ?_⟩
 refine GX.take (v:= .pointer (some ⟨d,14,none⟩)) (rs:= []) 2 rfl (by kernel_rfl) (fun _ _=>yk) (GX.take (v:= .int .u64 ((a.xN:Nat):Int)) (rs:= []) 3 rfl (by kernel_rfl) (fun _ ⟨_,S⟩=>y5 rfl (bn.one Tryz.isAgg22 (zq (S.cls (i:=2) rfl) rfl))) ?_)
 refine GX.do 5 rfl (by kernel_rfl) (zf Tryz.call47 rfl ?_ (fun _ _ k=>k))
 refine yR (args:= [.pointer (some ⟨f,0,none⟩), .int .u8 110]) Tryz.func47 rfl rfl rfl ?_
 show Wp _ _ _ [(0, .pointer (some ⟨f,0,none⟩)),(1, .int .u8 110)] _ _
 refine sr (An rfl (yJ (sr (Mn rfl (bo (sr (Kz (.bool false) (An rfl (jf (sr (Kz (.bool false) (An rfl (jf (sr (Kz (.bool false) (An rfl (jf (sr (Kz (.bool false) (An rfl (jf ?_)))))))))))))))))))))
 refine sr (Kz (.bool false) (An rfl (jf (sr (Kz (.bool false) (An rfl (jf (sr (Kz (.bool false) (An rfl (jf (sr (Kz (.bool false) (An rfl (jf (sr (Kz (.bool true) (An rfl (jt (sr (Mz rfl (Kz (.pointer (some ⟨f,0,none⟩)) (Kz (.pointer (some ⟨f,14,none⟩)) ?_)))))))))))))))))))))))
 refine An rfl (rt (bR (tR (rs ?_))))
 refine⟨.inr ⟨_,aK⟩, ?_⟩
 refine GX.take (v:= .pointer (some ⟨f,14,none⟩)) (rs:= []) 6 rfl (by kernel_rfl) (fun _ _=>yk) (GX.take (v:= .int .u64 ((b.xN:Nat):Int)) (rs:= []) 7 rfl (by kernel_rfl) (fun _ ⟨_,S⟩=>y5 rfl (bn.one Tryz.isAgg22 (zq (S.cls (i:=1) rfl) rfl))) (GX.take (v:= .bool (decide (¬ (((a.xN:Nat):Int)=((b.xN:Nat):Int))))) (rs:= []) 8 rfl (by kernel_rfl) (fun _ _=>za (e:= !(decide (((a.xN:Nat):Int)=((b.xN:Nat):Int)))) yk decide_not.symm) (zk (by kernel_rfl) (yL ?_))))
 by_cases cz:((a.xN:Nat):Int)=((b.xN:Nat):Int)
 refine jF (dF (BK cz)) (zm (bN (yL (yK (Kz (.int .i64 9) (Mz rfl (WL.nil (zx [(10, .int .i64 9),(9, .int .i64 9),(8, .slice g 9 9),(4, .bool false),(3, .pointer (some ⟨f,0,none⟩)),(2, .pointer (some ⟨d,0,none⟩))] ⟨rfl,rfl,rfl,rfl,rfl,rfl,trivial⟩ (sr (Kz (.bool false) (nt (yJ (jf (Wp.exit (yV (yV (y8 (yL (yJ ?_)))))))))))))))))))
 have bz:=aK.pk [1,2]
 refine yK (Kz (.pointer (some ⟨d,0,none⟩)) (Lz (.int .i64 a.ae) bz 1 Tryz.isAgg3 (Kz (.pointer (some ⟨f,0,none⟩)) (Lz (.int .i64 b.ae) bz 0 Tryz.isAgg3 (Kz (.bool (decide (a.ae=b.ae))) (Mz rfl ?_))))))
 refine zz (ι:=Bool) 6 (fun i=> [(35, .bool i),(29, .bool (decide (a.ae=b.ae))),(28, .bool (decide (a.ae=b.ae))),(27, .int .i64 b.ae),(26, .pointer (some ⟨f,0,none⟩)),(25, .int .i64 a.ae),(24, .pointer (some ⟨d,0,none⟩)),(11, .bool false),(10, .int .i64 9),(9, .int .i64 9),(8, .slice g 9 9),(4, .bool false),(3, .pointer (some ⟨f,0,none⟩)),(2, .pointer (some ⟨d,0,none⟩))]) (fun i w'=>Own w D w' [blk f (aM b s t z B C E) 29,blk d (aM a l m n o p r) 29]∧((if a.ae=b.ae then decide (a.bq=b.bq) else false)=i)) ?_ ?_
 intro dA
 by_cases ag:a.ae=b.ae
 refine Gz (.pointer (some ⟨d,1,none⟩)) (dT ag) (Gl (.int .i64 a.bq) (dT ag) bz 1 Tryz.isAgg3 (Gz (.pointer (some ⟨f,1,none⟩)) (dT ag) (Gl (.int .i64 b.bq) (dT ag) bz 0 Tryz.isAgg3 (Gz (.bool (decide (a.bq=b.bq))) (dT ag) (fw (.bool (decide (a.bq=b.bq))) (yN rfl (dT ag) rfl) ?_)))))
 have gX:=bz.pk [0,1]
 exact dA (decide (a.bq=b.bq)) _ _ ⟨gX,(show (if a.ae=b.ae then decide (a.bq=b.bq) else false)=decide (a.bq=b.bq) from ip ag)⟩ ⟨rfl,rfl,rfl,rfl,rfl,rfl,rfl,rfl,rfl,rfl,rfl,rfl,rfl,rfl,trivial⟩
 refine Sz (dF ag) (Sz (dF ag) (Sz (dF ag) (Sz (dF ag) (Sz (dF ag) (fw (.bool false) (yM rfl (dF ag) rfl) ?_)))))
 have gY:=bz.pk [0,1]
 exact dA false _ _ ⟨gY,(show (if a.ae=b.ae then decide (a.bq=b.bq) else false)=false from iN ag)⟩ ⟨rfl,rfl,rfl,rfl,rfl,rfl,rfl,rfl,rfl,rfl,rfl,rfl,rfl,rfl,trivial⟩
 rintro h iU ⟨cB,bI⟩
 show WL _ _ _ (List.drop 6 _) _ [(35, .bool h),(29, .bool (decide (a.ae=b.ae))),(28, .bool (decide (a.ae=b.ae))),(27, .int .i64 b.ae),(26, .pointer (some ⟨f,0,none⟩)),(25, .int .i64 a.ae),(24, .pointer (some ⟨d,0,none⟩)),(11, .bool false),(10, .int .i64 9),(9, .int .i64 9),(8, .slice g 9 9),(4, .bool false),(3, .pointer (some ⟨f,0,none⟩)),(2, .pointer (some ⟨d,0,none⟩))] _
 replace bI:(if a.ae=b.ae then decide (a.bq=b.bq) else false)=h:=bI
 refine Mz rfl ?_
 refine zz (ι:=Bool) 6 (fun i=> [(42, .bool i),(36, .bool h),(35, .bool h),(29, .bool (decide (a.ae=b.ae))),(28, .bool (decide (a.ae=b.ae))),(27, .int .i64 b.ae),(26, .pointer (some ⟨f,0,none⟩)),(25, .int .i64 a.ae),(24, .pointer (some ⟨d,0,none⟩)),(11, .bool false),(10, .int .i64 9),(9, .int .i64 9),(8, .slice g 9 9),(4, .bool false),(3, .pointer (some ⟨f,0,none⟩)),(2, .pointer (some ⟨d,0,none⟩))]) (fun i w'=>Own w D w' [blk f (aM b s t z B C E) 29,blk d (aM a l m n o p r) 29]∧((if h=true then decide (a.dw=b.dw) else false)=i)) ?_ ?_
 intro dB
 rcases BL (h) with U | U
 refine Gz (.pointer (some ⟨d,2,none⟩)) U (Gl (.int .i64 a.dw) U cB 1 Tryz.isAgg3 (Gz (.pointer (some ⟨f,2,none⟩)) U (Gl (.int .i64 b.dw) U cB 0 Tryz.isAgg3 (Gz (.bool (decide (a.dw=b.dw))) U (fw (.bool (decide (a.dw=b.dw))) (yN rfl U rfl) ?_)))))
 have gZ:=cB.pk [0,1]
 exact dB (decide (a.dw=b.dw)) _ _ ⟨gZ,(show (if h=true then decide (a.dw=b.dw) else false)=decide (a.dw=b.dw) from ip U)⟩ ⟨rfl,rfl,rfl,rfl,rfl,rfl,rfl,rfl,rfl,rfl,rfl,rfl,rfl,rfl,rfl,rfl,trivial⟩
 refine Sz U (Sz U (Sz U (Sz U (Sz U (fw (.bool false) (yM rfl U rfl) ?_)))))
 have ib:=cB.pk [0,1]
 exact dB false _ _ ⟨ib,(show (if h=true then decide (a.dw=b.dw) else false)=false from dz U)⟩ ⟨rfl,rfl,rfl,rfl,rfl,rfl,rfl,rfl,rfl,rfl,rfl,rfl,rfl,rfl,rfl,rfl,trivial⟩
 rintro F iV ⟨cK,bJ⟩
 show WL _ _ _ (List.drop 6 _) _ [(42, .bool F),(36, .bool h),(35, .bool h),(29, .bool (decide (a.ae=b.ae))),(28, .bool (decide (a.ae=b.ae))),(27, .int .i64 b.ae),(26, .pointer (some ⟨f,0,none⟩)),(25, .int .i64 a.ae),(24, .pointer (some ⟨d,0,none⟩)),(11, .bool false),(10, .int .i64 9),(9, .int .i64 9),(8, .slice g 9 9),(4, .bool false),(3, .pointer (some ⟨f,0,none⟩)),(2, .pointer (some ⟨d,0,none⟩))] _
 replace bJ:(if h=true then decide (a.dw=b.dw) else false)=F:=bJ
 refine Mz rfl ?_
 refine zz (ι:=Bool) 6 (fun i=> [(49, .bool i),(43, .bool F),(42, .bool F),(36, .bool h),(35, .bool h),(29, .bool (decide (a.ae=b.ae))),(28, .bool (decide (a.ae=b.ae))),(27, .int .i64 b.ae),(26, .pointer (some ⟨f,0,none⟩)),(25, .int .i64 a.ae),(24, .pointer (some ⟨d,0,none⟩)),(11, .bool false),(10, .int .i64 9),(9, .int .i64 9),(8, .slice g 9 9),(4, .bool false),(3, .pointer (some ⟨f,0,none⟩)),(2, .pointer (some ⟨d,0,none⟩))]) (fun i w'=>Own w D w' [blk f (aM b s t z B C E) 29,blk d (aM a l m n o p r) 29]∧((if F=true then decide (a.aQ=b.aQ) else false)=i)) ?_ ?_
 intro dC
 rcases BL (F) with V | V
 refine Gz (.pointer (some ⟨d,3,none⟩)) V (Gl (.int .i64 a.aQ) V cK 1 Tryz.isAgg3 (Gz (.pointer (some ⟨f,3,none⟩)) V (Gl (.int .i64 b.aQ) V cK 0 Tryz.isAgg3 (Gz (.bool (decide (a.aQ=b.aQ))) V (fw (.bool (decide (a.aQ=b.aQ))) (yN rfl V rfl) ?_)))))
 have ic:=cK.pk [0,1]
 exact dC (decide (a.aQ=b.aQ)) _ _ ⟨ic,(show (if F=true then decide (a.aQ=b.aQ) else false)=decide (a.aQ=b.aQ) from ip V)⟩ ⟨rfl,rfl,rfl,rfl,rfl,rfl,rfl,rfl,rfl,rfl,rfl,rfl,rfl,rfl,rfl,rfl,rfl,rfl,trivial⟩
 refine Sz V (Sz V (Sz V (Sz V (Sz V (fw (.bool false) (yM rfl V rfl) ?_)))))
 have ig:=cK.pk [0,1]
 exact dC false _ _ ⟨ig,(show (if F=true then decide (a.aQ=b.aQ) else false)=false from dz V)⟩ ⟨rfl,rfl,rfl,rfl,rfl,rfl,rfl,rfl,rfl,rfl,rfl,rfl,rfl,rfl,rfl,rfl,rfl,rfl,trivial⟩
 rintro G iW ⟨cZ,bK⟩
 show WL _ _ _ (List.drop 6 _) _ [(49, .bool G),(43, .bool F),(42, .bool F),(36, .bool h),(35, .bool h),(29, .bool (decide (a.ae=b.ae))),(28, .bool (decide (a.ae=b.ae))),(27, .int .i64 b.ae),(26, .pointer (some ⟨f,0,none⟩)),(25, .int .i64 a.ae),(24, .pointer (some ⟨d,0,none⟩)),(11, .bool false),(10, .int .i64 9),(9, .int .i64 9),(8, .slice g 9 9),(4, .bool false),(3, .pointer (some ⟨f,0,none⟩)),(2, .pointer (some ⟨d,0,none⟩))] _
 replace bK:(if F=true then decide (a.aQ=b.aQ) else false)=G:=bK
 refine Mz rfl ?_
 refine zz (ι:=Bool) 6 (fun i=> [(56, .bool i),(50, .bool G),(49, .bool G),(43, .bool F),(42, .bool F),(36, .bool h),(35, .bool h),(29, .bool (decide (a.ae=b.ae))),(28, .bool (decide (a.ae=b.ae))),(27, .int .i64 b.ae),(26, .pointer (some ⟨f,0,none⟩)),(25, .int .i64 a.ae),(24, .pointer (some ⟨d,0,none⟩)),(11, .bool false),(10, .int .i64 9),(9, .int .i64 9),(8, .slice g 9 9),(4, .bool false),(3, .pointer (some ⟨f,0,none⟩)),(2, .pointer (some ⟨d,0,none⟩))]) (fun i w'=>Own w D w' [blk f (aM b s t z B C E) 29,blk d (aM a l m n o p r) 29]∧((if G=true then decide (a.bu=b.bu) else false)=i)) ?_ ?_
 intro dD
 rcases BL (G) with X | X
 refine Gz (.pointer (some ⟨d,4,none⟩)) X (Gl (.int .i64 a.bu) X cZ 1 Tryz.isAgg3 (Gz (.pointer (some ⟨f,4,none⟩)) X (Gl (.int .i64 b.bu) X cZ 0 Tryz.isAgg3 (Gz (.bool (decide (a.bu=b.bu))) X (fw (.bool (decide (a.bu=b.bu))) (yN rfl X rfl) ?_)))))
 have ik:=cZ.pk [0,1]
 exact dD (decide (a.bu=b.bu)) _ _ ⟨ik,(show (if G=true then decide (a.bu=b.bu) else false)=decide (a.bu=b.bu) from ip X)⟩ ⟨rfl,rfl,rfl,rfl,rfl,rfl,rfl,rfl,rfl,rfl,rfl,rfl,rfl,rfl,rfl,rfl,rfl,rfl,rfl,rfl,trivial⟩
 refine Sz X (Sz X (Sz X (Sz X (Sz X (fw (.bool false) (yM rfl X rfl) ?_)))))
 have il:=cZ.pk [0,1]
 exact dD false _ _ ⟨il,(show (if G=true then decide (a.bu=b.bu) else false)=false from dz X)⟩ ⟨rfl,rfl,rfl,rfl,rfl,rfl,rfl,rfl,rfl,rfl,rfl,rfl,rfl,rfl,rfl,rfl,rfl,rfl,rfl,rfl,trivial⟩
 rintro J iY ⟨df,aL⟩
 show WL _ _ _ (List.drop 6 _) _ [(56, .bool J),(50, .bool G),(49, .bool G),(43, .bool F),(42, .bool F),(36, .bool h),(35, .bool h),(29, .bool (decide (a.ae=b.ae))),(28, .bool (decide (a.ae=b.ae))),(27, .int .i64 b.ae),(26, .pointer (some ⟨f,0,none⟩)),(25, .int .i64 a.ae),(24, .pointer (some ⟨d,0,none⟩)),(11, .bool false),(10, .int .i64 9),(9, .int .i64 9),(8, .slice g 9 9),(4, .bool false),(3, .pointer (some ⟨f,0,none⟩)),(2, .pointer (some ⟨d,0,none⟩))] _
 replace aL:(if G=true then decide (a.bu=b.bu) else false)=J:=aL
 refine Mz rfl ?_
 refine zz (ι:=Bool) 6 (fun i=> [(63, .bool i),(57, .bool J),(56, .bool J),(50, .bool G),(49, .bool G),(43, .bool F),(42, .bool F),(36, .bool h),(35, .bool h),(29, .bool (decide (a.ae=b.ae))),(28, .bool (decide (a.ae=b.ae))),(27, .int .i64 b.ae),(26, .pointer (some ⟨f,0,none⟩)),(25, .int .i64 a.ae),(24, .pointer (some ⟨d,0,none⟩)),(11, .bool false),(10, .int .i64 9),(9, .int .i64 9),(8, .slice g 9 9),(4, .bool false),(3, .pointer (some ⟨f,0,none⟩)),(2, .pointer (some ⟨d,0,none⟩))]) (fun i w'=>Own w D w' [blk f (aM b s t z B C E) 29,blk d (aM a l m n o p r) 29]∧((if J=true then decide (a.bO=b.bO) else false)=i)) ?_ ?_
 intro bL
 rcases BL (J) with L | L
 refine Gz (.pointer (some ⟨d,5,none⟩)) L (Gl (.int .i64 a.bO) L df 1 Tryz.isAgg3 (Gz (.pointer (some ⟨f,5,none⟩)) L (Gl (.int .i64 b.bO) L df 0 Tryz.isAgg3 (Gz (.bool (decide (a.bO=b.bO))) L (fw (.bool (decide (a.bO=b.bO))) (yN rfl L rfl) ?_)))))
 have fe:=df.pk [0,1]
 exact bL (decide (a.bO=b.bO)) _ _ ⟨fe,(show (if J=true then decide (a.bO=b.bO) else false)=decide (a.bO=b.bO) from ip L)⟩ ⟨rfl,rfl,rfl,rfl,rfl,rfl,rfl,rfl,rfl,rfl,rfl,rfl,rfl,rfl,rfl,rfl,rfl,rfl,rfl,rfl,rfl,rfl,trivial⟩
 refine Sz L (Sz L (Sz L (Sz L (Sz L (fw (.bool false) (yM rfl L rfl) ?_)))))
 have fo:=df.pk [0,1]
 exact bL false _ _ ⟨fo,(show (if J=true then decide (a.bO=b.bO) else false)=false from dz L)⟩ ⟨rfl,rfl,rfl,rfl,rfl,rfl,rfl,rfl,rfl,rfl,rfl,rfl,rfl,rfl,rfl,rfl,rfl,rfl,rfl,rfl,rfl,rfl,trivial⟩
 rintro j iC ⟨aW,aN⟩
 show WL _ _ _ (List.drop 6 _) _ [(63, .bool j),(57, .bool J),(56, .bool J),(50, .bool G),(49, .bool G),(43, .bool F),(42, .bool F),(36, .bool h),(35, .bool h),(29, .bool (decide (a.ae=b.ae))),(28, .bool (decide (a.ae=b.ae))),(27, .int .i64 b.ae),(26, .pointer (some ⟨f,0,none⟩)),(25, .int .i64 a.ae),(24, .pointer (some ⟨d,0,none⟩)),(11, .bool false),(10, .int .i64 9),(9, .int .i64 9),(8, .slice g 9 9),(4, .bool false),(3, .pointer (some ⟨f,0,none⟩)),(2, .pointer (some ⟨d,0,none⟩))] _
 replace aN:(if J=true then decide (a.bO=b.bO) else false)=j:=aN
 refine Mz rfl ?_
 refine zz (ι:=Bool) 6 (fun i=> [(70, .bool i),(64, .bool j),(63, .bool j),(57, .bool J),(56, .bool J),(50, .bool G),(49, .bool G),(43, .bool F),(42, .bool F),(36, .bool h),(35, .bool h),(29, .bool (decide (a.ae=b.ae))),(28, .bool (decide (a.ae=b.ae))),(27, .int .i64 b.ae),(26, .pointer (some ⟨f,0,none⟩)),(25, .int .i64 a.ae),(24, .pointer (some ⟨d,0,none⟩)),(11, .bool false),(10, .int .i64 9),(9, .int .i64 9),(8, .slice g 9 9),(4, .bool false),(3, .pointer (some ⟨f,0,none⟩)),(2, .pointer (some ⟨d,0,none⟩))]) (fun i w'=>Own w D w' [blk f (aM b s t z B C E) 29,blk d (aM a l m n o p r) 29]∧((if j=true then decide (a.bV=b.bV) else false)=i)) ?_ ?_
 intro bO
 rcases BL (j) with M | M
 refine Gz (.pointer (some ⟨d,15,none⟩)) M (Gl (.bool a.bV) M aW 1 Tryz.isAgg4 (Gz (.pointer (some ⟨f,15,none⟩)) M (Gl (.bool b.bV) M aW 0 Tryz.isAgg4 (zy (v:= .bool (decide (a.bV=b.bV))) rfl rfl M rfl (za (e:=(a.bV==b.bV)) yk (by first | exact Bool.beq_eq_decide_eq _ _ | (by_cases q:a.bV=b.bV <;> simp [q]))) (fw (.bool (decide (a.bV=b.bV))) (yN rfl M rfl) ?_)))))
 have fq:=aW.pk [0,1]
 exact bO (decide (a.bV=b.bV)) _ _ ⟨fq,(show (if j=true then decide (a.bV=b.bV) else false)=decide (a.bV=b.bV) from ip M)⟩ ⟨rfl,rfl,rfl,rfl,rfl,rfl,rfl,rfl,rfl,rfl,rfl,rfl,rfl,rfl,rfl,rfl,rfl,rfl,rfl,rfl,rfl,rfl,rfl,rfl,trivial⟩
 refine Sz M (Sz M (Sz M (Sz M (Sz M (fw (.bool false) (yM rfl M rfl) ?_)))))
 have fu:=aW.pk [0,1]
 exact bO false _ _ ⟨fu,(show (if j=true then decide (a.bV=b.bV) else false)=false from dz M)⟩ ⟨rfl,rfl,rfl,rfl,rfl,rfl,rfl,rfl,rfl,rfl,rfl,rfl,rfl,rfl,rfl,rfl,rfl,rfl,rfl,rfl,rfl,rfl,rfl,rfl,trivial⟩
 rintro I iD ⟨aX,aO⟩
 show WL _ _ _ (List.drop 6 _) _ [(70, .bool I),(64, .bool j),(63, .bool j),(57, .bool J),(56, .bool J),(50, .bool G),(49, .bool G),(43, .bool F),(42, .bool F),(36, .bool h),(35, .bool h),(29, .bool (decide (a.ae=b.ae))),(28, .bool (decide (a.ae=b.ae))),(27, .int .i64 b.ae),(26, .pointer (some ⟨f,0,none⟩)),(25, .int .i64 a.ae),(24, .pointer (some ⟨d,0,none⟩)),(11, .bool false),(10, .int .i64 9),(9, .int .i64 9),(8, .slice g 9 9),(4, .bool false),(3, .pointer (some ⟨f,0,none⟩)),(2, .pointer (some ⟨d,0,none⟩))] _
 replace aO:(if j=true then decide (a.bV=b.bV) else false)=I:=aO
 refine Mz rfl ?_
 refine zz (ι:=Bool) 6 (fun i=> [(77, .bool i),(71, .bool I),(70, .bool I),(64, .bool j),(63, .bool j),(57, .bool J),(56, .bool J),(50, .bool G),(49, .bool G),(43, .bool F),(42, .bool F),(36, .bool h),(35, .bool h),(29, .bool (decide (a.ae=b.ae))),(28, .bool (decide (a.ae=b.ae))),(27, .int .i64 b.ae),(26, .pointer (some ⟨f,0,none⟩)),(25, .int .i64 a.ae),(24, .pointer (some ⟨d,0,none⟩)),(11, .bool false),(10, .int .i64 9),(9, .int .i64 9),(8, .slice g 9 9),(4, .bool false),(3, .pointer (some ⟨f,0,none⟩)),(2, .pointer (some ⟨d,0,none⟩))]) (fun i w'=>Own w D w' [blk f (aM b s t z B C E) 29,blk d (aM a l m n o p r) 29]∧((if I=true then decide ((a.aG.aD=b.aG.aD)∧(a.aG.aH=b.aG.aH)) else false)=i)) ?_ ?_
 intro bP
 rcases BL (I) with N | N
 refine Gz (.pointer (some ⟨d,16,none⟩)) N (Ga (bC.cells a.aG) N aX 1 Tryz.isAgg24 Tryz.sizeOf24 (Gz (.pointer (some ⟨f,16,none⟩)) N (Ga (bC.cells b.aG) N aX 0 Tryz.isAgg24 Tryz.sizeOf24 (zy (v:= .bool (decide ((a.aG.aD=b.aG.aD)∧(a.aG.aH=b.aG.aH)))) rfl rfl N rfl (z8 rfl rfl (by kernel_rfl) rfl (fD.struct Tryz.underlying24 (by kernel_rfl) (zK (eF.cons (u:= .string ⟨List.toArray a.aG.aD⟩) (v:= .string ⟨List.toArray b.aG.aD⟩) (by decide) (fun _=>by kernel_rfl) (fun _=>by kernel_rfl) (fD.string Tryz.underlying9) (eF.cons (u:= .string ⟨List.toArray a.aG.aH⟩) (v:= .string ⟨List.toArray b.aG.aH⟩) (by decide) (fun _=>by kernel_rfl) (fun _=>by kernel_rfl) (fD.string Tryz.underlying9) (eF.nil.up (BJ _)))) ((congrArg (decide (a.aG.aD=b.aG.aD) && ·) jH).trans eu)))) (fw (.bool (decide ((a.aG.aD=b.aG.aD)∧(a.aG.aH=b.aG.aH)))) (yN rfl N rfl) ?_)))))
 have fA:=aX.pk [0,1]
 exact bP (decide ((a.aG.aD=b.aG.aD)∧(a.aG.aH=b.aG.aH))) _ _ ⟨fA,(show (if I=true then decide ((a.aG.aD=b.aG.aD)∧(a.aG.aH=b.aG.aH)) else false)=decide ((a.aG.aD=b.aG.aD)∧(a.aG.aH=b.aG.aH)) from ip N)⟩ ⟨rfl,rfl,rfl,rfl,rfl,rfl,rfl,rfl,rfl,rfl,rfl,rfl,rfl,rfl,rfl,rfl,rfl,rfl,rfl,rfl,rfl,rfl,rfl,rfl,rfl,rfl,trivial⟩
 refine Sz N (Sz N (Sz N (Sz N (Sz N (fw (.bool false) (yM rfl N rfl) ?_)))))
 have fB:=aX.pk [0,1]
 exact bP false _ _ ⟨fB,(show (if I=true then decide ((a.aG.aD=b.aG.aD)∧(a.aG.aH=b.aG.aH)) else false)=false from dz N)⟩ ⟨rfl,rfl,rfl,rfl,rfl,rfl,rfl,rfl,rfl,rfl,rfl,rfl,rfl,rfl,rfl,rfl,rfl,rfl,rfl,rfl,rfl,rfl,rfl,rfl,rfl,rfl,trivial⟩
 rintro K iE ⟨aY,aP⟩
 show WL _ _ _ (List.drop 6 _) _ [(77, .bool K),(71, .bool I),(70, .bool I),(64, .bool j),(63, .bool j),(57, .bool J),(56, .bool J),(50, .bool G),(49, .bool G),(43, .bool F),(42, .bool F),(36, .bool h),(35, .bool h),(29, .bool (decide (a.ae=b.ae))),(28, .bool (decide (a.ae=b.ae))),(27, .int .i64 b.ae),(26, .pointer (some ⟨f,0,none⟩)),(25, .int .i64 a.ae),(24, .pointer (some ⟨d,0,none⟩)),(11, .bool false),(10, .int .i64 9),(9, .int .i64 9),(8, .slice g 9 9),(4, .bool false),(3, .pointer (some ⟨f,0,none⟩)),(2, .pointer (some ⟨d,0,none⟩))] _
 replace aP:(if I=true then decide ((a.aG.aD=b.aG.aD)∧(a.aG.aH=b.aG.aH)) else false)=K:=aP
 refine Mz rfl ?_
 refine zz (ι:=Bool) 6 (fun i=> [(84, .bool i),(78, .bool K),(77, .bool K),(71, .bool I),(70, .bool I),(64, .bool j),(63, .bool j),(57, .bool J),(56, .bool J),(50, .bool G),(49, .bool G),(43, .bool F),(42, .bool F),(36, .bool h),(35, .bool h),(29, .bool (decide (a.ae=b.ae))),(28, .bool (decide (a.ae=b.ae))),(27, .int .i64 b.ae),(26, .pointer (some ⟨f,0,none⟩)),(25, .int .i64 a.ae),(24, .pointer (some ⟨d,0,none⟩)),(11, .bool false),(10, .int .i64 9),(9, .int .i64 9),(8, .slice g 9 9),(4, .bool false),(3, .pointer (some ⟨f,0,none⟩)),(2, .pointer (some ⟨d,0,none⟩))]) (fun i w'=>Own w D w' [blk f (aM b s t z B C E) 29,blk d (aM a l m n o p r) 29]∧((if K=true then bnd (jv a.ax.ls b.ax.ls) fun Y=>Y else false)=i)) ?_ ?_
 intro bQ
 rcases BL (K) with O | O
 refine Gz (.pointer (some ⟨d,18,none⟩)) O (Gl (.slice l a.ax.ls.length m) O aY 1 Tryz.isAgg25 (Gz (.pointer (some ⟨f,18,none⟩)) O (Gl (.slice s b.ax.ls.length t) O aY 0 Tryz.isAgg25 ?_)))
 obtain⟨aZ,bS⟩:∃ q,jv a.ax.ls b.ax.ls=q:=⟨_,rfl⟩
 obtain⟨iF,dW,bT,dX,iq⟩:=yP aY
 refine zC rfl rfl O rfl (zf Tryz.call48 rfl (qY _ _ l a.ax.ls.length m a.ax.ls s b.ax.ls.length t b.ax.ls aZ dW (bT _ dI) rfl (by omega) (bT _ dO) rfl (by omega) bS) ?_)
 rintro _ iG ⟨rfl,dY⟩
 have fC:=dX _ _ dY
 refine fw (.bool aZ) (yN rfl O rfl) ?_
 have fE:=fC.pk [0,1]
 exact bQ aZ _ _ ⟨fE,(show (if K=true then bnd (jv a.ax.ls b.ax.ls) fun Y=>Y else false)=aZ from et (ip O) (aa bS))⟩ ⟨rfl,rfl,rfl,rfl,rfl,rfl,rfl,rfl,rfl,rfl,rfl,rfl,rfl,rfl,rfl,rfl,rfl,rfl,rfl,rfl,rfl,rfl,rfl,rfl,rfl,rfl,rfl,rfl,trivial⟩
 refine Sz O (Sz O (Sz O (Sz O (Sz O (fw (.bool false) (yM rfl O rfl) ?_)))))
 have fF:=aY.pk [0,1]
 exact bQ false _ _ ⟨fF,(show (if K=true then bnd (jv a.ax.ls b.ax.ls) fun Y=>Y else false)=false from dz O)⟩ ⟨rfl,rfl,rfl,rfl,rfl,rfl,rfl,rfl,rfl,rfl,rfl,rfl,rfl,rfl,rfl,rfl,rfl,rfl,rfl,rfl,rfl,rfl,rfl,rfl,rfl,rfl,rfl,rfl,trivial⟩
 rintro P iH ⟨bg,aQ⟩
 show WL _ _ _ (List.drop 6 _) _ [(84, .bool P),(78, .bool K),(77, .bool K),(71, .bool I),(70, .bool I),(64, .bool j),(63, .bool j),(57, .bool J),(56, .bool J),(50, .bool G),(49, .bool G),(43, .bool F),(42, .bool F),(36, .bool h),(35, .bool h),(29, .bool (decide (a.ae=b.ae))),(28, .bool (decide (a.ae=b.ae))),(27, .int .i64 b.ae),(26, .pointer (some ⟨f,0,none⟩)),(25, .int .i64 a.ae),(24, .pointer (some ⟨d,0,none⟩)),(11, .bool false),(10, .int .i64 9),(9, .int .i64 9),(8, .slice g 9 9),(4, .bool false),(3, .pointer (some ⟨f,0,none⟩)),(2, .pointer (some ⟨d,0,none⟩))] _
 replace aQ:(if K=true then bnd (jv a.ax.ls b.ax.ls) fun Y=>Y else false)=P:=aQ
 refine Mz rfl ?_
 refine zz (ι:=Bool) 6 (fun i=> [(91, .bool i),(85, .bool P),(84, .bool P),(78, .bool K),(77, .bool K),(71, .bool I),(70, .bool I),(64, .bool j),(63, .bool j),(57, .bool J),(56, .bool J),(50, .bool G),(49, .bool G),(43, .bool F),(42, .bool F),(36, .bool h),(35, .bool h),(29, .bool (decide (a.ae=b.ae))),(28, .bool (decide (a.ae=b.ae))),(27, .int .i64 b.ae),(26, .pointer (some ⟨f,0,none⟩)),(25, .int .i64 a.ae),(24, .pointer (some ⟨d,0,none⟩)),(11, .bool false),(10, .int .i64 9),(9, .int .i64 9),(8, .slice g 9 9),(4, .bool false),(3, .pointer (some ⟨f,0,none⟩)),(2, .pointer (some ⟨d,0,none⟩))]) (fun i w'=>Own w D w' [blk f (aM b s t z B C E) 29,blk d (aM a l m n o p r) 29]∧((if P=true then bnd (iy a.ah.ls b.ah.ls) fun Z=>Z else false)=i)) ?_ ?_
 intro bU
 rcases BL (P) with Q | Q
 refine Gz (.pointer (some ⟨d,19,none⟩)) Q (Gl (.slice n a.ah.ls.length o) Q bg 1 Tryz.isAgg26 (Gz (.pointer (some ⟨f,19,none⟩)) Q (Gl (.slice z b.ah.ls.length B) Q bg 0 Tryz.isAgg26 ?_)))
 obtain⟨bi,bV⟩:∃ q,iy a.ah.ls b.ah.ls=q:=⟨_,rfl⟩
 obtain⟨iI,dZ,aH,d9,iw⟩:=yP bg
 refine zC rfl rfl Q rfl (zf Tryz.call49 rfl (pG _ _ n a.ah.ls.length o aU a.ah.ls z b.ah.ls.length B aV b.ah.ls bi dZ bA (aH _ dK) (fun x9 h9=>⟨aH _ (bB x9 h9).1,(bB x9 h9).2⟩) rfl (by omega) bF (aH _ dQ) (fun x9 h9=>⟨aH _ (bG x9 h9).1,(bG x9 h9).2⟩) rfl (by omega) bV) ?_)
 rintro _ iJ ⟨rfl,ed⟩
 have fI:=d9 _ _ ed
 refine fw (.bool bi) (yN rfl Q rfl) ?_
 have fJ:=fI.pk [0,1]
 exact bU bi _ _ ⟨fJ,(show (if P=true then bnd (iy a.ah.ls b.ah.ls) fun Z=>Z else false)=bi from et (ip Q) (aa bV))⟩ ⟨rfl,rfl,rfl,rfl,rfl,rfl,rfl,rfl,rfl,rfl,rfl,rfl,rfl,rfl,rfl,rfl,rfl,rfl,rfl,rfl,rfl,rfl,rfl,rfl,rfl,rfl,rfl,rfl,rfl,rfl,trivial⟩
 refine Sz Q (Sz Q (Sz Q (Sz Q (Sz Q (fw (.bool false) (yM rfl Q rfl) ?_)))))
 have fK:=bg.pk [0,1]
 exact bU false _ _ ⟨fK,(show (if P=true then bnd (iy a.ah.ls b.ah.ls) fun Z=>Z else false)=false from dz Q)⟩ ⟨rfl,rfl,rfl,rfl,rfl,rfl,rfl,rfl,rfl,rfl,rfl,rfl,rfl,rfl,rfl,rfl,rfl,rfl,rfl,rfl,rfl,rfl,rfl,rfl,rfl,rfl,rfl,rfl,rfl,rfl,trivial⟩
 rintro T iK ⟨bq,aS⟩
 show WL _ _ _ (List.drop 6 _) _ [(91, .bool T),(85, .bool P),(84, .bool P),(78, .bool K),(77, .bool K),(71, .bool I),(70, .bool I),(64, .bool j),(63, .bool j),(57, .bool J),(56, .bool J),(50, .bool G),(49, .bool G),(43, .bool F),(42, .bool F),(36, .bool h),(35, .bool h),(29, .bool (decide (a.ae=b.ae))),(28, .bool (decide (a.ae=b.ae))),(27, .int .i64 b.ae),(26, .pointer (some ⟨f,0,none⟩)),(25, .int .i64 a.ae),(24, .pointer (some ⟨d,0,none⟩)),(11, .bool false),(10, .int .i64 9),(9, .int .i64 9),(8, .slice g 9 9),(4, .bool false),(3, .pointer (some ⟨f,0,none⟩)),(2, .pointer (some ⟨d,0,none⟩))] _
 replace aS:(if P=true then bnd (iy a.ah.ls b.ah.ls) fun Z=>Z else false)=T:=aS
 refine Mz rfl ?_
 refine zz (ι:=Bool) 6 (fun i=> [(98, .bool i),(92, .bool T),(91, .bool T),(85, .bool P),(84, .bool P),(78, .bool K),(77, .bool K),(71, .bool I),(70, .bool I),(64, .bool j),(63, .bool j),(57, .bool J),(56, .bool J),(50, .bool G),(49, .bool G),(43, .bool F),(42, .bool F),(36, .bool h),(35, .bool h),(29, .bool (decide (a.ae=b.ae))),(28, .bool (decide (a.ae=b.ae))),(27, .int .i64 b.ae),(26, .pointer (some ⟨f,0,none⟩)),(25, .int .i64 a.ae),(24, .pointer (some ⟨d,0,none⟩)),(11, .bool false),(10, .int .i64 9),(9, .int .i64 9),(8, .slice g 9 9),(4, .bool false),(3, .pointer (some ⟨f,0,none⟩)),(2, .pointer (some ⟨d,0,none⟩))]) (fun i w'=>Own w D w' [blk f (aM b s t z B C E) 29,blk d (aM a l m n o p r) 29]∧((if T=true then bnd (kC a.ai.ls b.ai.ls) fun ae=>ae else false)=i)) ?_ ?_
 intro bX
 rcases BL (T) with R | R
 refine Gz (.pointer (some ⟨d,20,none⟩)) R (Gl (.slice p a.ai.ls.length r) R bq 1 Tryz.isAgg27 (Gz (.pointer (some ⟨f,20,none⟩)) R (Gl (.slice C b.ai.ls.length E) R bq 0 Tryz.isAgg27 ?_)))
 obtain⟨bu,bY⟩:∃ q,kC a.ai.ls b.ai.ls=q:=⟨_,rfl⟩
 obtain⟨iL,ek,bZ,eD,iA⟩:=yP bq
 refine zC rfl rfl R rfl (zf Tryz.call50 rfl (sS _ _ p a.ai.ls.length r a.ai.ls C b.ai.ls.length E b.ai.ls bu ek (bZ _ dM) rfl (by omega) (bZ _ dS) rfl (by omega) bY) ?_)
 rintro _ iM ⟨rfl,eG⟩
 have fM:=eD _ _ eG
 refine fw (.bool bu) (yN rfl R rfl) ?_
 have fO:=fM.pk [0,1]
 exact bX bu _ _ ⟨fO,(show (if T=true then bnd (kC a.ai.ls b.ai.ls) fun ae=>ae else false)=bu from et (ip R) (aa bY))⟩ ⟨rfl,rfl,rfl,rfl,rfl,rfl,rfl,rfl,rfl,rfl,rfl,rfl,rfl,rfl,rfl,rfl,rfl,rfl,rfl,rfl,rfl,rfl,rfl,rfl,rfl,rfl,rfl,rfl,rfl,rfl,rfl,rfl,trivial⟩
 refine Sz R (Sz R (Sz R (Sz R (Sz R (fw (.bool false) (yM rfl R rfl) ?_)))))
 have fP:=bq.pk [0,1]
 exact bX false _ _ ⟨fP,(show (if T=true then bnd (kC a.ai.ls b.ai.ls) fun ae=>ae else false)=false from dz R)⟩ ⟨rfl,rfl,rfl,rfl,rfl,rfl,rfl,rfl,rfl,rfl,rfl,rfl,rfl,rfl,rfl,rfl,rfl,rfl,rfl,rfl,rfl,rfl,rfl,rfl,rfl,rfl,rfl,rfl,rfl,rfl,rfl,rfl,trivial⟩
 rintro cu iO ⟨fQ,aT⟩
 show WL _ _ _ (List.drop 6 _) _ [(98, .bool cu),(92, .bool T),(91, .bool T),(85, .bool P),(84, .bool P),(78, .bool K),(77, .bool K),(71, .bool I),(70, .bool I),(64, .bool j),(63, .bool j),(57, .bool J),(56, .bool J),(50, .bool G),(49, .bool G),(43, .bool F),(42, .bool F),(36, .bool h),(35, .bool h),(29, .bool (decide (a.ae=b.ae))),(28, .bool (decide (a.ae=b.ae))),(27, .int .i64 b.ae),(26, .pointer (some ⟨f,0,none⟩)),(25, .int .i64 a.ae),(24, .pointer (some ⟨d,0,none⟩)),(11, .bool false),(10, .int .i64 9),(9, .int .i64 9),(8, .slice g 9 9),(4, .bool false),(3, .pointer (some ⟨f,0,none⟩)),(2, .pointer (some ⟨d,0,none⟩))] _
 replace aT:(if T=true then bnd (kC a.ai.ls b.ai.ls) fun ae=>ae else false)=cu:=aT
 refine An rfl (rt (rs ?_))
 have fT:=fQ.pk []
 obtain rfl:_=cu:=hr.symm.trans (et (ip ah) (et (ip ai) (et (ip aj) (et (ip az) (et (ip aI) (et (ip aJ) (et (ip bv) (et (ip bH) (et (ip cz) (et (aa bI) (et (aa bJ) (et (aa bK) (et (aa aL) (et (aa aN) (et (aa aO) (et (aa aP) (et (aa aQ) (et (aa aS) (aa aT)))))))))))))))))))
 exact⟨rfl,fT⟩
 refine jT (dT cz) (sr (An rfl (rt (bR (tR (tR (bR (tR (rs ?_)))))))))
 have fU:=aK.pk []
 obtain rfl:_=false:=hr.symm.trans (et (ip ah) (et (ip ai) (et (ip aj) (et (ip az) (et (ip aI) (et (ip aJ) (et (ip bv) (et (ip bH) (iN cz)))))))))
 exact⟨rfl,fU⟩
 refine jT (dT bH) (sr (An rfl (rt (bR (tR (tR (bR (tR (rs ?_)))))))))
 have fV:=aG.pk []
 obtain rfl:_=false:=hr.symm.trans (et (ip ah) (et (ip ai) (et (ip aj) (et (ip az) (et (ip aI) (et (ip aJ) (et (ip bv) (iN bH))))))))
 exact⟨rfl,fV⟩
 refine jT (dT bv) (sr (An rfl (rt (bR (tR (tR (bR (tR (rs ?_)))))))))
 have fZ:=aF.pk []
 obtain rfl:_=false:=hr.symm.trans (et (ip ah) (et (ip ai) (et (ip aj) (et (ip az) (et (ip aI) (et (ip aJ) (iN bv)))))))
 exact⟨rfl,fZ⟩
 refine jT (dT aJ) (sr (An rfl (rt (bR (tR (tR (bR (tR (rs ?_)))))))))
 have gm:=aD.pk []
 obtain rfl:_=false:=hr.symm.trans (et (ip ah) (et (ip ai) (et (ip aj) (et (ip az) (et (ip aI) (iN aJ))))))
 exact⟨rfl,gm⟩
 refine jT (dT aI) (sr (An rfl (rt (bR (tR (tR (bR (tR (rs ?_)))))))))
 have gp:=aC.pk []
 obtain rfl:_=false:=hr.symm.trans (et (ip ah) (et (ip ai) (et (ip aj) (et (ip az) (iN aI)))))
 exact⟨rfl,gp⟩
 refine jT (dT az) (sr (An rfl (rt (bR (tR (tR (bR (tR (rs ?_)))))))))
 have gq:=ax.pk []
 obtain rfl:_=false:=hr.symm.trans (et (ip ah) (et (ip ai) (et (ip aj) (iN az))))
 exact⟨rfl,gq⟩
 refine jT (dT aj) (sr (An rfl (rt (bR (tR (tR (bR (tR (rs ?_)))))))))
 have gu:=av.pk []
 obtain rfl:_=false:=hr.symm.trans (et (ip ah) (et (ip ai) (iN aj)))
 exact⟨rfl,gu⟩
 refine jT (dT ai) (sr (An rfl (rt (bR (tR (tR (bR (tR (rs ?_)))))))))
 have gy:=au.pk []
 obtain rfl:_=false:=hr.symm.trans (et (ip ah) (iN ai))
 exact⟨rfl,gy⟩
 refine jT (dT ah) (sr (An rfl (rt (bR (tR (tR (bR (tR (rs ?_)))))))))
 have gz:=ak.pk []
 obtain rfl:_=false:=hr.symm.trans (iN ah)
 exact⟨rfl,gz⟩
def oF:Bool:=
 bnd (lg (bE.mk 6 1 0 0 0 0 0 0 300 0 0 0 0 0 0 false (bC.mk ([]) ([])) (Ll.mk ([])) (Ll.mk ([])) (Ll.mk ([])))) fun b=>bnd (ek b.1) fun a=>bnd (jD ([6,1,0])) fun h=>bnd (ek h) fun i=>bnd (jD ([6,5,0,1])) fun c=>bnd (ek c) fun d=>bnd (jD ([15])) fun e=>bnd (ek e) fun f=>bnd (jD ([6,1,0,172,2])) fun g=>if b.1=g then if b.2=0 then if a.1.ae=6 then if a.1.bq=1 then if((a.1.bF:Nat):Int)=300 then if a.2=0 then if i.2=10 then if d.2=180 then decide (f.2=11) else false else false else false else false else false else false else false else false
theorem sV (w:World) (D:Nat→Prop) (r0:Bool) (H:Own w D w []) (hr:oF=r0):
    Calls Tryz.prog 8 #[] w (cO fun v w'=>v= .bool r0∧Own w D w' []):=by
 refine yR (args:= []) Tryz.func8 rfl rfl rfl ?_
 show Wp _ _ _ [] _ _
 refine sr (Ar rfl (Kz (.agg (bf 6 1 0 0 0 0 0 0 300 0 0 0 0 0 0 false ([]) ([]) none 0 0 none 0 0 none 0 0).toArray) ?_))
 obtain⟨⟨t,K⟩,u⟩:∃ q:(List UInt8) × Int,lg (bE.mk 6 1 0 0 0 0 0 0 300 0 0 0 0 0 0 false (bC.mk ([]) ([])) (Ll.mk ([])) (Ll.mk ([])) (Ll.mk ([])))=q:=⟨_,rfl⟩
 obtain⟨ig,bS,fO,bT,fP⟩:=yP H
 refine cl Tryz.call9 (qU _ _ (bE.mk 6 1 0 0 0 0 0 0 300 0 0 0 0 0 0 false (bC.mk ([]) ([])) (Ll.mk ([])) (Ll.mk ([])) (Ll.mk ([]))) none 0 0 none 0 0 [] none 0 0 t K bS rfl (fun _ _=>bD.nil _ _ _) (by first | exact⟨BH rfl,BH rfl⟩ | omega | exact⟨Nat.le_refl _,by omega⟩) rfl rfl (fun _ _=>bD.nil _ _ _) (by first | exact⟨BH rfl,BH rfl⟩ | omega | exact⟨Nat.le_refl _,by omega⟩) (fun _ h9=>absurd h9 List.not_mem_nil) rfl (fun _ _=>bD.nil _ _ _) (by first | exact⟨BH rfl,BH rfl⟩ | omega | exact⟨Nat.le_refl _,by omega⟩) (by first | omega | (dsimp only; omega) | (simp only [List.length_nil]; omega)) (by first | omega | (dsimp only; omega) | (simp only [List.length_nil]; omega)) u) ?_
 rintro _ il ⟨X,Y,rfl,bU,aF⟩
 have aY:=bT _ _ bU
 have fQ:=aY.rowC (i:=0) rfl
 replace aF:t.length≤51000:=aF
 refine Mz rfl (Kz (.slice X t.length Y) (Kz (.int .i64 K) (Az rfl (Ar rfl (Mz rfl ?_)))))
 have fT:=aY.rowC (i:=0) rfl
 obtain⟨⟨a,L⟩,x⟩:∃ q:bE × Int,ek t=q:=⟨_,rfl⟩
 obtain⟨iq,bV,fU,bW,bX⟩:=yP aY
 refine cl Tryz.call13 (kg _ _ X t.length Y t a L bV (bX _ 0 _ rfl bI) rfl (by omega) (by first | omega | (simp only [List.length_take,List.length_drop]; omega) | exact Nat.le_refl _) x) ?_
 rintro _ iw ⟨Q,R,S,T,U,V,ay,rfl,bY,bZ,aG⟩
 have az:=bW _ _ bY
 have fV:=dG bZ
 have fZ:=az.rowC (i:=0) rfl
 have gm:=az.rowC (i:=1) rfl
 have gp:=az.rowC (i:=3) rfl
 replace aG:a.ax.ls.length≤1000∧a.ah.ls.length≤1000∧a.ai.ls.length≤1000∧a.bG≤18446744073709551615∧a.aY≤18446744073709551615∧a.bF≤18446744073709551615∧a.bH≤18446744073709551615∧a.bL≤18446744073709551615∧a.aV≤18446744073709551615∧a.bB≤18446744073709551615∧a.aK≤18446744073709551615∧a.xN≤18446744073709551615:=aG
 refine Mz rfl (Kz (.agg (aM a Q R S T U V).toArray) (Kz (.int .i64 L) ?_))
 refine dE (bf 0 0 0 0 0 0 0 0 0 0 0 0 0 0 0 false ([]) ([]) none 0 0 none 0 0 none 0 0) 29 az ?_
 intro Z iy eu
 refine bz (aM a Q R S T U V) 0 eu Tryz.sizeOf29 ?_
 intro iA eD
 refine Ar rfl ?_
 obtain⟨ae,y⟩:∃ q,jD ([6,1,0])=q:=⟨_,rfl⟩
 obtain⟨iB,cu,gq,cz,gu⟩:=yP eD
 refine cl Tryz.call18 (lq _ _ ([6,1,0]) ae cu (by first | omega | exact BH rfl) y) ?_
 rintro _ iC ⟨eF,eG,rfl,cB,aH⟩
 have aZ:=cz _ _ cB
 have gy:=aZ.rowC (i:=0) rfl
 replace aH:ae.length≤3+15:=aH
 have gz:=aZ.rowC (i:=0) rfl
 obtain⟨⟨B,M⟩,z⟩:∃ q:bE × Int,ek ae=q:=⟨_,rfl⟩
 obtain⟨iD,cK,gB,cZ,df⟩:=yP aZ
 refine cl Tryz.call13 (kg _ _ eF ae.length eG ae B M cK (df _ 0 _ rfl bI) rfl (by omega) (by first | omega | (simp only [List.length_take,List.length_drop]; omega) | exact Nat.le_refl _) z) ?_
 rintro _ iE ⟨dh,di,dm,dn,dw,dx,iF,rfl,dz,dA,ag⟩
 have aC:=cZ _ _ dz
 have eH:=dG dA
 have eO:=aC.rowC (i:=0) rfl
 have eP:=aC.rowC (i:=1) rfl
 have eQ:=aC.rowC (i:=3) rfl
 replace ag:B.ax.ls.length≤1000∧B.ah.ls.length≤1000∧B.ai.ls.length≤1000∧B.bG≤18446744073709551615∧B.aY≤18446744073709551615∧B.bF≤18446744073709551615∧B.bH≤18446744073709551615∧B.bL≤18446744073709551615∧B.aV≤18446744073709551615∧B.bB≤18446744073709551615∧B.aK≤18446744073709551615∧B.xN≤18446744073709551615:=ag
 refine Mz rfl (Kz (.agg (aM B dh di dm dn dw dx).toArray) (Kz (.int .i64 M) ?_))
 refine dE (bf 0 0 0 0 0 0 0 0 0 0 0 0 0 0 0 false ([]) ([]) none 0 0 none 0 0 none 0 0) 29 aC ?_
 intro gD gF dB
 refine bz (aM B dh di dm dn dw dx) 0 dB Tryz.sizeOf29 ?_
 intro gG dC
 refine An rfl (yJ ?_)
 have dD:=dC.pk [6,7,8,9,10,11]
 refine yK ?_
 obtain⟨I,j⟩:∃ q,jD ([6,5,0,1])=q:=⟨_,rfl⟩
 obtain⟨gH,bg,eT,bi,eU⟩:=yP dD
 refine cl Tryz.call18 (lq _ _ ([6,5,0,1]) I bg (by first | omega | exact BH rfl) j) ?_
 rintro _ gI ⟨dH,dI,rfl,bq,ah⟩
 have ai:=bi _ _ bq
 have eX:=ai.rowC (i:=0) rfl
 replace ah:I.length≤4+15:=ah
 have eY:=ai.rowC (i:=0) rfl
 obtain⟨⟨c,F⟩,k⟩:∃ q:bE × Int,ek I=q:=⟨_,rfl⟩
 obtain⟨gJ,bu,eZ,bv,bA⟩:=yP ai
 refine cl Tryz.call13 (kg _ _ dH I.length dI I c F bu (bA _ 0 _ rfl bI) rfl (by omega) (by first | omega | (simp only [List.length_take,List.length_drop]; omega) | exact Nat.le_refl _) k) ?_
 rintro _ gK ⟨aI,aJ,aK,aL,aN,aO,gL,rfl,bB,bF,aj⟩
 have N:=bv _ _ bB
 have fe:=dG bF
 have fo:=N.rowC (i:=0) rfl
 have fq:=N.rowC (i:=1) rfl
 have fu:=N.rowC (i:=3) rfl
 replace aj:c.ax.ls.length≤1000∧c.ah.ls.length≤1000∧c.ai.ls.length≤1000∧c.bG≤18446744073709551615∧c.aY≤18446744073709551615∧c.bF≤18446744073709551615∧c.bH≤18446744073709551615∧c.bL≤18446744073709551615∧c.aV≤18446744073709551615∧c.bB≤18446744073709551615∧c.aK≤18446744073709551615∧c.xN≤18446744073709551615:=aj
 refine Mz rfl (Kz (.agg (aM c aI aJ aK aL aN aO).toArray) (Kz (.int .i64 F) ?_))
 refine dE (bf 0 0 0 0 0 0 0 0 0 0 0 0 0 0 0 false ([]) ([]) none 0 0 none 0 0 none 0 0) 29 N ?_
 intro gM gN dJ
 refine bz (aM c aI aJ aK aL aN aO) 0 dJ Tryz.sizeOf29 ?_
 intro gP dK
 refine An rfl (yJ ?_)
 have dL:=dK.pk [6,7,8,9,10,11]
 refine yK ?_
 obtain⟨J,m⟩:∃ q,jD ([15])=q:=⟨_,rfl⟩
 obtain⟨gQ,bG,fw,bH,fA⟩:=yP dL
 refine cl Tryz.call18 (lq _ _ ([15]) J bG (by first | omega | exact BH rfl) m) ?_
 rintro _ gT ⟨dM,dN,rfl,bJ,ak⟩
 have au:=bH _ _ bJ
 have fB:=au.rowC (i:=0) rfl
 replace ak:J.length≤1+15:=ak
 have fC:=au.rowC (i:=0) rfl
 obtain⟨⟨d,G⟩,n⟩:∃ q:bE × Int,ek J=q:=⟨_,rfl⟩
 obtain⟨gU,bK,fD,bL,bM⟩:=yP au
 refine cl Tryz.call13 (kg _ _ dM J.length dN J d G bK (bM _ 0 _ rfl bI) rfl (by omega) (by first | omega | (simp only [List.length_take,List.length_drop]; omega) | exact Nat.le_refl _) n) ?_
 rintro _ gV ⟨aP,aQ,aR,aS,aT,aU,gW,rfl,bN,bO,av⟩
 have O:=bL _ _ bN
 have fE:=dG bO
 have fF:=O.rowC (i:=0) rfl
 have fG:=O.rowC (i:=1) rfl
 have fH:=O.rowC (i:=3) rfl
 replace av:d.ax.ls.length≤1000∧d.ah.ls.length≤1000∧d.ai.ls.length≤1000∧d.bG≤18446744073709551615∧d.aY≤18446744073709551615∧d.bF≤18446744073709551615∧d.bH≤18446744073709551615∧d.bL≤18446744073709551615∧d.aV≤18446744073709551615∧d.bB≤18446744073709551615∧d.aK≤18446744073709551615∧d.xN≤18446744073709551615:=av
 refine Mz rfl (Kz (.agg (aM d aP aQ aR aS aT aU).toArray) (Kz (.int .i64 G) ?_))
 refine dE (bf 0 0 0 0 0 0 0 0 0 0 0 0 0 0 0 false ([]) ([]) none 0 0 none 0 0 none 0 0) 29 O ?_
 intro gX gY dO
 refine bz (aM d aP aQ aR aS aT aU) 0 dO Tryz.sizeOf29 ?_
 intro dP dQ
 refine An rfl (yJ ?_)
 have dR:=dQ.pk [6,7,8,9,10,11]
 have P:=dR.drew
 refine zt [] (fun W=> ∃ L',Own w D W ([blk Z (aM a Q R S T U V) 29,row Q a.ax.ls.length R (List.flatMap aB.cells a.ax.ls) 64 6,row S a.ah.ls.length T (List.flatMap af.cells ay) 84 3,sepL (List.flatMap yQ ay),row U a.ai.ls.length V (List.flatMap aA.cells a.ai.ls) 88 2,row X t.length Y (List.flatMap eB t) 5 1]++L')) (by kernel_rfl) (by kernel_rfl) (zb zw) ⟨_,P⟩ ?_
 revert P
 generalize World.drew dP=gZ
 intro P
 refine GX.take (v:= .slice X t.length Y) (rs:= []) 0 rfl (by kernel_rfl) (fun _ _=>yO rfl) (GX.take (v:= .string ⟨List.toArray t⟩) (rs:= []) 1 rfl (by kernel_rfl) (fun _ ⟨_,H9⟩=>zH (l:=t) Tryz.underlying31 Tryz.underlying5 Tryz.underlying9 (H9.rds (i:=5) rfl) rfl) ?_)
 obtain⟨p,o⟩:∃ q,jD ([6,1,0,172,2])=q:=⟨_,rfl⟩
 obtain⟨ib,bP,fI,bQ,fJ⟩:=yP P
 refine GX.do 2 rfl (by kernel_rfl) (zf Tryz.call18 rfl (lq _ _ ([6,1,0,172,2]) p bP (by first | omega | exact BH rfl) o) ?_)
 rintro _ ic ⟨aV,aW,rfl,bR,ax⟩
 have aX:=bQ _ _ bR
 have fK:=aX.rowC (i:=0) rfl
 replace ax:p.length≤5+15:=ax
 have r:=aX.pk [1,2,3,4,5,6,0]
 refine⟨.inr ⟨_,r⟩, ?_⟩
 refine Ay (Good':=fun W=> ∃ L',Own w D W ([blk Z (aM a Q R S T U V) 29,row Q a.ax.ls.length R (List.flatMap aB.cells a.ax.ls) 64 6,row S a.ah.ls.length T (List.flatMap af.cells ay) 84 3,sepL (List.flatMap yQ ay),row U a.ai.ls.length V (List.flatMap aA.cells a.ai.ls) 88 2,row X t.length Y (List.flatMap eB t) 5 1,row aV p.length aW (List.flatMap eB p) 5 1]++L')) (fun _ ⟨L',h⟩=>⟨[row aV p.length aW (List.flatMap eB p) 5 1]++L',h⟩) ⟨_,r⟩ (GX.take (v:= .string ⟨List.toArray p⟩) (rs:= []) 3 rfl (by kernel_rfl) (fun _ ⟨_,H9⟩=>zH (l:=p) Tryz.underlying31 Tryz.underlying5 Tryz.underlying9 (H9.rds (i:=6) rfl) rfl) (GX.take (v:= .bool (decide (t=p))) (rs:= []) 4 rfl (by kernel_rfl) (fun _ _=>zX rfl rfl) (GX.take (v:= .bool (decide (t=p))) (rs:= []) 5 rfl (by kernel_rfl) (fun _ _=>yO rfl) ?_)))
 by_cases e:t=p
 refine y7 (v:= .int .i64 K) (rs:= []) 6 rfl rfl rfl (dT e) (by kernel_rfl) (fun _ _=>yO rfl) (y7 (v:= .bool (decide (K=0))) (rs:= []) 7 rfl rfl rfl (dT e) (by kernel_rfl) (fun _ _=>yk) (GX.take (v:= .bool (decide (K=0))) (rs:= []) 8 rfl (by kernel_rfl) (fun _ _=>yN rfl (dT e) rfl) (GX.take (v:= .bool (decide (K=0))) (rs:= []) 9 rfl (by kernel_rfl) (fun _ _=>yO rfl) ?_)))
 by_cases b:K=0
 refine y7 (v:= .pointer (some ⟨Z,0,none⟩)) (rs:= []) 10 rfl rfl rfl (dT b) (by kernel_rfl) (fun _ _=>yk) (y7 (v:= .int .i64 a.ae) (rs:= []) 11 rfl rfl rfl (dT b) (by kernel_rfl) (fun _ ⟨_,H9⟩=>y5 rfl (bn.one Tryz.isAgg3 (zq (H9.cls (i:=0) rfl) rfl))) (y7 (v:= .bool (decide (a.ae=6))) (rs:= []) 12 rfl rfl rfl (dT b) (by kernel_rfl) (fun _ _=>yk) (GX.take (v:= .bool (decide (a.ae=6))) (rs:= []) 13 rfl (by kernel_rfl) (fun _ _=>yN rfl (dT b) rfl) (GX.take (v:= .bool (decide (a.ae=6))) (rs:= []) 14 rfl (by kernel_rfl) (fun _ _=>yO rfl) ?_))))
 by_cases f:a.ae=6
 refine y7 (v:= .pointer (some ⟨Z,1,none⟩)) (rs:= []) 15 rfl rfl rfl (dT f) (by kernel_rfl) (fun _ _=>yk) (y7 (v:= .int .i64 a.bq) (rs:= []) 16 rfl rfl rfl (dT f) (by kernel_rfl) (fun _ ⟨_,H9⟩=>y5 rfl (bn.one Tryz.isAgg3 (zq (H9.cls (i:=0) rfl) rfl))) (y7 (v:= .bool (decide (a.bq=1))) (rs:= []) 17 rfl rfl rfl (dT f) (by kernel_rfl) (fun _ _=>yk) (GX.take (v:= .bool (decide (a.bq=1))) (rs:= []) 18 rfl (by kernel_rfl) (fun _ _=>yN rfl (dT f) rfl) (GX.take (v:= .bool (decide (a.bq=1))) (rs:= []) 19 rfl (by kernel_rfl) (fun _ _=>yO rfl) ?_))))
 by_cases g:a.bq=1
 refine y7 (v:= .pointer (some ⟨Z,8,none⟩)) (rs:= []) 20 rfl rfl rfl (dT g) (by kernel_rfl) (fun _ _=>yk) (y7 (v:= .int .u64 ((a.bF:Nat):Int)) (rs:= []) 21 rfl rfl rfl (dT g) (by kernel_rfl) (fun _ ⟨_,H9⟩=>y5 rfl (bn.one Tryz.isAgg22 (zq (H9.cls (i:=0) rfl) rfl))) (y7 (v:= .bool (decide (((a.bF:Nat):Int)=300))) (rs:= []) 22 rfl rfl rfl (dT g) (by kernel_rfl) (fun _ _=>yk) (GX.take (v:= .bool (decide (((a.bF:Nat):Int)=300))) (rs:= []) 23 rfl (by kernel_rfl) (fun _ _=>yN rfl (dT g) rfl) (GX.take (v:= .bool (decide (((a.bF:Nat):Int)=300))) (rs:= []) 24 rfl (by kernel_rfl) (fun _ _=>yO rfl) ?_))))
 by_cases s:((a.bF:Nat):Int)=300
 refine y7 (v:= .int .i64 L) (rs:= []) 25 rfl rfl rfl (dT s) (by kernel_rfl) (fun _ _=>yO rfl) (y7 (v:= .bool (decide (L=0))) (rs:= []) 26 rfl rfl rfl (dT s) (by kernel_rfl) (fun _ _=>yk) (GX.take (v:= .bool (decide (L=0))) (rs:= []) 27 rfl (by kernel_rfl) (fun _ _=>yN rfl (dT s) rfl) (GX.take (v:= .bool (decide (L=0))) (rs:= []) 28 rfl (by kernel_rfl) (fun _ _=>yO rfl) ?_)))
 by_cases A:L=0
 refine y7 (v:= .int .i64 M) (rs:= []) 29 rfl rfl rfl (dT A) (by kernel_rfl) (fun _ _=>yO rfl) (y7 (v:= .bool (decide (M=10))) (rs:= []) 30 rfl rfl rfl (dT A) (by kernel_rfl) (fun _ _=>yk) (GX.take (v:= .bool (decide (M=10))) (rs:= []) 31 rfl (by kernel_rfl) (fun _ _=>yN rfl (dT A) rfl) (GX.take (v:= .bool (decide (M=10))) (rs:= []) 32 rfl (by kernel_rfl) (fun _ _=>yO rfl) ?_)))
 by_cases C:M=10
 refine y7 (v:= .int .i64 F) (rs:= []) 33 rfl rfl rfl (dT C) (by kernel_rfl) (fun _ _=>yO rfl) (y7 (v:= .bool (decide (F=180))) (rs:= []) 34 rfl rfl rfl (dT C) (by kernel_rfl) (fun _ _=>yk) (GX.take (v:= .bool (decide (F=180))) (rs:= []) 35 rfl (by kernel_rfl) (fun _ _=>yN rfl (dT C) rfl) (GX.take (v:= .bool (decide (F=180))) (rs:= []) 36 rfl (by kernel_rfl) (fun _ _=>yO rfl) ?_)))
 by_cases E:F=180
 refine y7 (v:= .int .i64 G) (rs:= []) 37 rfl rfl rfl (dT E) (by kernel_rfl) (fun _ _=>yO rfl) (y7 (v:= .bool (decide (G=11))) (rs:= []) 38 rfl rfl rfl (dT E) (by kernel_rfl) (fun _ _=>yk) (GX.take (v:= .bool (decide (G=11))) (rs:= []) 39 rfl (by kernel_rfl) (fun _ _=>yN rfl (dT E) rfl) (GX.take (v:= .bool (decide (G=11))) (rs:= []) 40 rfl (by kernel_rfl) (fun _ _=>zo rfl) (zk (by kernel_rfl) (yL (rt (rs ?_)))))))
 have dS:=r.pk []
 obtain rfl:_=decide (G=11):=hr.symm.trans (et (aa u) (et (aa x) (et (aa y) (et (aa z) (et (aa j) (et (aa k) (et (aa m) (et (aa n) (et (aa o) (et (ip e) (et (ip b) (et (ip f) (et (ip g) (et (ip s) (et (ip A) (et (ip C) (ip E)))))))))))))))))
 exact⟨rfl,dS⟩
 refine yU (rs:= []) 37 rfl rfl rfl (dF E) (by kernel_rfl) (yU (rs:= []) 38 rfl rfl rfl (dF E) (by kernel_rfl) (GX.take (v:= .bool false) (rs:= []) 39 rfl (by kernel_rfl) (fun _ _=>yM rfl (dF E) rfl) (GX.take (v:= .bool false) (rs:= []) 40 rfl (by kernel_rfl) (fun _ _=>zo rfl) (zk (by kernel_rfl) (yL (rt (rs ?_)))))))
 have dU:=r.pk []
 obtain rfl:_=false:=hr.symm.trans (et (aa u) (et (aa x) (et (aa y) (et (aa z) (et (aa j) (et (aa k) (et (aa m) (et (aa n) (et (aa o) (et (ip e) (et (ip b) (et (ip f) (et (ip g) (et (ip s) (et (ip A) (et (ip C) (iN E)))))))))))))))))
 exact⟨rfl,dU⟩
 refine yU (rs:= []) 33 rfl rfl rfl (dF C) (by kernel_rfl) (yU (rs:= []) 34 rfl rfl rfl (dF C) (by kernel_rfl) (GX.take (v:= .bool false) (rs:= []) 35 rfl (by kernel_rfl) (fun _ _=>yM rfl (dF C) rfl) (GX.take (v:= .bool false) (rs:= []) 36 rfl (by kernel_rfl) (fun _ _=>yO rfl) (yU (rs:= []) 37 rfl rfl rfl rfl (by kernel_rfl) (yU (rs:= []) 38 rfl rfl rfl rfl (by kernel_rfl) (GX.take (v:= .bool false) (rs:= []) 39 rfl (by kernel_rfl) (fun _ _=>yM rfl rfl rfl) (GX.take (v:= .bool false) (rs:= []) 40 rfl (by kernel_rfl) (fun _ _=>zo rfl) (zk (by kernel_rfl) (yL (rt (rs ?_)))))))))))
 have dV:=r.pk []
 obtain rfl:_=false:=hr.symm.trans (et (aa u) (et (aa x) (et (aa y) (et (aa z) (et (aa j) (et (aa k) (et (aa m) (et (aa n) (et (aa o) (et (ip e) (et (ip b) (et (ip f) (et (ip g) (et (ip s) (et (ip A) (iN C))))))))))))))))
 exact⟨rfl,dV⟩
 refine yU (rs:= []) 29 rfl rfl rfl (dF A) (by kernel_rfl) (yU (rs:= []) 30 rfl rfl rfl (dF A) (by kernel_rfl) (GX.take (v:= .bool false) (rs:= []) 31 rfl (by kernel_rfl) (fun _ _=>yM rfl (dF A) rfl) (GX.take (v:= .bool false) (rs:= []) 32 rfl (by kernel_rfl) (fun _ _=>yO rfl) (yU (rs:= []) 33 rfl rfl rfl rfl (by kernel_rfl) (yU (rs:= []) 34 rfl rfl rfl rfl (by kernel_rfl) (GX.take (v:= .bool false) (rs:= []) 35 rfl (by kernel_rfl) (fun _ _=>yM rfl rfl rfl) (GX.take (v:= .bool false) (rs:= []) 36 rfl (by kernel_rfl) (fun _ _=>yO rfl) (yU (rs:= []) 37 rfl rfl rfl rfl (by kernel_rfl) (yU (rs:= []) 38 rfl rfl rfl rfl (by kernel_rfl) (GX.take (v:= .bool false) (rs:= []) 39 rfl (by kernel_rfl) (fun _ _=>yM rfl rfl rfl) (GX.take (v:= .bool false) (rs:= []) 40 rfl (by kernel_rfl) (fun _ _=>zo rfl) (zk (by kernel_rfl) (yL (rt (rs ?_)))))))))))))))
 have dW:=r.pk []
 obtain rfl:_=false:=hr.symm.trans (et (aa u) (et (aa x) (et (aa y) (et (aa z) (et (aa j) (et (aa k) (et (aa m) (et (aa n) (et (aa o) (et (ip e) (et (ip b) (et (ip f) (et (ip g) (et (ip s) (iN A)))))))))))))))
 exact⟨rfl,dW⟩
 refine yU (rs:= []) 25 rfl rfl rfl (dF s) (by kernel_rfl) (yU (rs:= []) 26 rfl rfl rfl (dF s) (by kernel_rfl) (GX.take (v:= .bool false) (rs:= []) 27 rfl (by kernel_rfl) (fun _ _=>yM rfl (dF s) rfl) (GX.take (v:= .bool false) (rs:= []) 28 rfl (by kernel_rfl) (fun _ _=>yO rfl) (yU (rs:= []) 29 rfl rfl rfl rfl (by kernel_rfl) (yU (rs:= []) 30 rfl rfl rfl rfl (by kernel_rfl) (GX.take (v:= .bool false) (rs:= []) 31 rfl (by kernel_rfl) (fun _ _=>yM rfl rfl rfl) (GX.take (v:= .bool false) (rs:= []) 32 rfl (by kernel_rfl) (fun _ _=>yO rfl) (yU (rs:= []) 33 rfl rfl rfl rfl (by kernel_rfl) (yU (rs:= []) 34 rfl rfl rfl rfl (by kernel_rfl) (GX.take (v:= .bool false) (rs:= []) 35 rfl (by kernel_rfl) (fun _ _=>yM rfl rfl rfl) (GX.take (v:= .bool false) (rs:= []) 36 rfl (by kernel_rfl) (fun _ _=>yO rfl) (yU (rs:= []) 37 rfl rfl rfl rfl (by kernel_rfl) (yU (rs:= []) 38 rfl rfl rfl rfl (by kernel_rfl) (GX.take (v:= .bool false) (rs:= []) 39 rfl (by kernel_rfl) (fun _ _=>yM rfl rfl rfl) (GX.take (v:= .bool false) (rs:= []) 40 rfl (by kernel_rfl) (fun _ _=>zo rfl) (zk (by kernel_rfl) (yL (rt (rs ?_)))))))))))))))))))
 have dX:=r.pk []
 obtain rfl:_=false:=hr.symm.trans (et (aa u) (et (aa x) (et (aa y) (et (aa z) (et (aa j) (et (aa k) (et (aa m) (et (aa n) (et (aa o) (et (ip e) (et (ip b) (et (ip f) (et (ip g) (iN s))))))))))))))
 exact⟨rfl,dX⟩
 refine yU (rs:= []) 20 rfl rfl rfl (dF g) (by kernel_rfl) (yU (rs:= []) 21 rfl rfl rfl (dF g) (by kernel_rfl) (yU (rs:= []) 22 rfl rfl rfl (dF g) (by kernel_rfl) (GX.take (v:= .bool false) (rs:= []) 23 rfl (by kernel_rfl) (fun _ _=>yM rfl (dF g) rfl) (GX.take (v:= .bool false) (rs:= []) 24 rfl (by kernel_rfl) (fun _ _=>yO rfl) (yU (rs:= []) 25 rfl rfl rfl rfl (by kernel_rfl) (yU (rs:= []) 26 rfl rfl rfl rfl (by kernel_rfl) (GX.take (v:= .bool false) (rs:= []) 27 rfl (by kernel_rfl) (fun _ _=>yM rfl rfl rfl) (GX.take (v:= .bool false) (rs:= []) 28 rfl (by kernel_rfl) (fun _ _=>yO rfl) (yU (rs:= []) 29 rfl rfl rfl rfl (by kernel_rfl) (yU (rs:= []) 30 rfl rfl rfl rfl (by kernel_rfl) (GX.take (v:= .bool false) (rs:= []) 31 rfl (by kernel_rfl) (fun _ _=>yM rfl rfl rfl) (GX.take (v:= .bool false) (rs:= []) 32 rfl (by kernel_rfl) (fun _ _=>yO rfl) (yU (rs:= []) 33 rfl rfl rfl rfl (by kernel_rfl) (yU (rs:= []) 34 rfl rfl rfl rfl (by kernel_rfl) (GX.take (v:= .bool false) (rs:= []) 35 rfl (by kernel_rfl) (fun _ _=>yM rfl rfl rfl) (GX.take (v:= .bool false) (rs:= []) 36 rfl (by kernel_rfl) (fun _ _=>yO rfl) (yU (rs:= []) 37 rfl rfl rfl rfl (by kernel_rfl) (yU (rs:= []) 38 rfl rfl rfl rfl (by kernel_rfl) (GX.take (v:= .bool false) (rs:= []) 39 rfl (by kernel_rfl) (fun _ _=>yM rfl rfl rfl) (GX.take (v:= .bool false) (rs:= []) 40 rfl (by kernel_rfl) (fun _ _=>zo rfl) (zk (by kernel_rfl) (yL (rt (rs ?_))))))))))))))))))))))))
 have dY:=r.pk []
 obtain rfl:_=false:=hr.symm.trans (et (aa u) (et (aa x) (et (aa y) (et (aa z) (et (aa j) (et (aa k) (et (aa m) (et (aa n) (et (aa o) (et (ip e) (et (ip b) (et (ip f) (iN g)))))))))))))
 exact⟨rfl,dY⟩
 refine yU (rs:= []) 15 rfl rfl rfl (dF f) (by kernel_rfl) (yU (rs:= []) 16 rfl rfl rfl (dF f) (by kernel_rfl) (yU (rs:= []) 17 rfl rfl rfl (dF f) (by kernel_rfl) (GX.take (v:= .bool false) (rs:= []) 18 rfl (by kernel_rfl) (fun _ _=>yM rfl (dF f) rfl) (GX.take (v:= .bool false) (rs:= []) 19 rfl (by kernel_rfl) (fun _ _=>yO rfl) (yU (rs:= []) 20 rfl rfl rfl rfl (by kernel_rfl) (yU (rs:= []) 21 rfl rfl rfl rfl (by kernel_rfl) (yU (rs:= []) 22 rfl rfl rfl rfl (by kernel_rfl) (GX.take (v:= .bool false) (rs:= []) 23 rfl (by kernel_rfl) (fun _ _=>yM rfl rfl rfl) (GX.take (v:= .bool false) (rs:= []) 24 rfl (by kernel_rfl) (fun _ _=>yO rfl) (yU (rs:= []) 25 rfl rfl rfl rfl (by kernel_rfl) (yU (rs:= []) 26 rfl rfl rfl rfl (by kernel_rfl) (GX.take (v:= .bool false) (rs:= []) 27 rfl (by kernel_rfl) (fun _ _=>yM rfl rfl rfl) (GX.take (v:= .bool false) (rs:= []) 28 rfl (by kernel_rfl) (fun _ _=>yO rfl) (yU (rs:= []) 29 rfl rfl rfl rfl (by kernel_rfl) (yU (rs:= []) 30 rfl rfl rfl rfl (by kernel_rfl) (GX.take (v:= .bool false) (rs:= []) 31 rfl (by kernel_rfl) (fun _ _=>yM rfl rfl rfl) (GX.take (v:= .bool false) (rs:= []) 32 rfl (by kernel_rfl) (fun _ _=>yO rfl) (yU (rs:= []) 33 rfl rfl rfl rfl (by kernel_rfl) (yU (rs:= []) 34 rfl rfl rfl rfl (by kernel_rfl) (GX.take (v:= .bool false) (rs:= []) 35 rfl (by kernel_rfl) (fun _ _=>yM rfl rfl rfl) (GX.take (v:= .bool false) (rs:= []) 36 rfl (by kernel_rfl) (fun _ _=>yO rfl) (yU (rs:= []) 37 rfl rfl rfl rfl (by kernel_rfl) (yU (rs:= []) 38 rfl rfl rfl rfl (by kernel_rfl) (GX.take (v:= .bool false) (rs:= []) 39 rfl (by kernel_rfl) (fun _ _=>yM rfl rfl rfl) (GX.take (v:= .bool false) (rs:= []) 40 rfl (by kernel_rfl) (fun _ _=>zo rfl) (zk (by kernel_rfl) (yL (rt (rs ?_)))))))))))))))))))))))))))))
 have dZ:=r.pk []
 obtain rfl:_=false:=hr.symm.trans (et (aa u) (et (aa x) (et (aa y) (et (aa z) (et (aa j) (et (aa k) (et (aa m) (et (aa n) (et (aa o) (et (ip e) (et (ip b) (iN f))))))))))))
 exact⟨rfl,dZ⟩
 refine yU (rs:= []) 10 rfl rfl rfl (dF b) (by kernel_rfl) (yU (rs:= []) 11 rfl rfl rfl (dF b) (by kernel_rfl) (yU (rs:= []) 12 rfl rfl rfl (dF b) (by kernel_rfl) (GX.take (v:= .bool false) (rs:= []) 13 rfl (by kernel_rfl) (fun _ _=>yM rfl (dF b) rfl) (GX.take (v:= .bool false) (rs:= []) 14 rfl (by kernel_rfl) (fun _ _=>yO rfl) (yU (rs:= []) 15 rfl rfl rfl rfl (by kernel_rfl) (yU (rs:= []) 16 rfl rfl rfl rfl (by kernel_rfl) (yU (rs:= []) 17 rfl rfl rfl rfl (by kernel_rfl) (GX.take (v:= .bool false) (rs:= []) 18 rfl (by kernel_rfl) (fun _ _=>yM rfl rfl rfl) (GX.take (v:= .bool false) (rs:= []) 19 rfl (by kernel_rfl) (fun _ _=>yO rfl) (yU (rs:= []) 20 rfl rfl rfl rfl (by kernel_rfl) (yU (rs:= []) 21 rfl rfl rfl rfl (by kernel_rfl) (yU (rs:= []) 22 rfl rfl rfl rfl (by kernel_rfl) (GX.take (v:= .bool false) (rs:= []) 23 rfl (by kernel_rfl) (fun _ _=>yM rfl rfl rfl) (GX.take (v:= .bool false) (rs:= []) 24 rfl (by kernel_rfl) (fun _ _=>yO rfl) (yU (rs:= []) 25 rfl rfl rfl rfl (by kernel_rfl) (yU (rs:= []) 26 rfl rfl rfl rfl (by kernel_rfl) (GX.take (v:= .bool false) (rs:= []) 27 rfl (by kernel_rfl) (fun _ _=>yM rfl rfl rfl) (GX.take (v:= .bool false) (rs:= []) 28 rfl (by kernel_rfl) (fun _ _=>yO rfl) (yU (rs:= []) 29 rfl rfl rfl rfl (by kernel_rfl) (yU (rs:= []) 30 rfl rfl rfl rfl (by kernel_rfl) (GX.take (v:= .bool false) (rs:= []) 31 rfl (by kernel_rfl) (fun _ _=>yM rfl rfl rfl) (GX.take (v:= .bool false) (rs:= []) 32 rfl (by kernel_rfl) (fun _ _=>yO rfl) (yU (rs:= []) 33 rfl rfl rfl rfl (by kernel_rfl) (yU (rs:= []) 34 rfl rfl rfl rfl (by kernel_rfl) (GX.take (v:= .bool false) (rs:= []) 35 rfl (by kernel_rfl) (fun _ _=>yM rfl rfl rfl) (GX.take (v:= .bool false) (rs:= []) 36 rfl (by kernel_rfl) (fun _ _=>yO rfl) (yU (rs:= []) 37 rfl rfl rfl rfl (by kernel_rfl) (yU (rs:= []) 38 rfl rfl rfl rfl (by kernel_rfl) (GX.take (v:= .bool false) (rs:= []) 39 rfl (by kernel_rfl) (fun _ _=>yM rfl rfl rfl) (GX.take (v:= .bool false) (rs:= []) 40 rfl (by kernel_rfl) (fun _ _=>zo rfl) (zk (by kernel_rfl) (yL (rt (rs ?_))))))))))))))))))))))))))))))))))
 have d9:=r.pk []
 obtain rfl:_=false:=hr.symm.trans (et (aa u) (et (aa x) (et (aa y) (et (aa z) (et (aa j) (et (aa k) (et (aa m) (et (aa n) (et (aa o) (et (ip e) (iN b)))))))))))
 exact⟨rfl,d9⟩
 refine yU (rs:= []) 6 rfl rfl rfl (dF e) (by kernel_rfl) (yU (rs:= []) 7 rfl rfl rfl (dF e) (by kernel_rfl) (GX.take (v:= .bool false) (rs:= []) 8 rfl (by kernel_rfl) (fun _ _=>yM rfl (dF e) rfl) (GX.take (v:= .bool false) (rs:= []) 9 rfl (by kernel_rfl) (fun _ _=>yO rfl) (yU (rs:= []) 10 rfl rfl rfl rfl (by kernel_rfl) (yU (rs:= []) 11 rfl rfl rfl rfl (by kernel_rfl) (yU (rs:= []) 12 rfl rfl rfl rfl (by kernel_rfl) (GX.take (v:= .bool false) (rs:= []) 13 rfl (by kernel_rfl) (fun _ _=>yM rfl rfl rfl) (GX.take (v:= .bool false) (rs:= []) 14 rfl (by kernel_rfl) (fun _ _=>yO rfl) (yU (rs:= []) 15 rfl rfl rfl rfl (by kernel_rfl) (yU (rs:= []) 16 rfl rfl rfl rfl (by kernel_rfl) (yU (rs:= []) 17 rfl rfl rfl rfl (by kernel_rfl) (GX.take (v:= .bool false) (rs:= []) 18 rfl (by kernel_rfl) (fun _ _=>yM rfl rfl rfl) (GX.take (v:= .bool false) (rs:= []) 19 rfl (by kernel_rfl) (fun _ _=>yO rfl) (yU (rs:= []) 20 rfl rfl rfl rfl (by kernel_rfl) (yU (rs:= []) 21 rfl rfl rfl rfl (by kernel_rfl) (yU (rs:= []) 22 rfl rfl rfl rfl (by kernel_rfl) (GX.take (v:= .bool false) (rs:= []) 23 rfl (by kernel_rfl) (fun _ _=>yM rfl rfl rfl) (GX.take (v:= .bool false) (rs:= []) 24 rfl (by kernel_rfl) (fun _ _=>yO rfl) (yU (rs:= []) 25 rfl rfl rfl rfl (by kernel_rfl) (yU (rs:= []) 26 rfl rfl rfl rfl (by kernel_rfl) (GX.take (v:= .bool false) (rs:= []) 27 rfl (by kernel_rfl) (fun _ _=>yM rfl rfl rfl) (GX.take (v:= .bool false) (rs:= []) 28 rfl (by kernel_rfl) (fun _ _=>yO rfl) (yU (rs:= []) 29 rfl rfl rfl rfl (by kernel_rfl) (yU (rs:= []) 30 rfl rfl rfl rfl (by kernel_rfl) (GX.take (v:= .bool false) (rs:= []) 31 rfl (by kernel_rfl) (fun _ _=>yM rfl rfl rfl) (GX.take (v:= .bool false) (rs:= []) 32 rfl (by kernel_rfl) (fun _ _=>yO rfl) (yU (rs:= []) 33 rfl rfl rfl rfl (by kernel_rfl) (yU (rs:= []) 34 rfl rfl rfl rfl (by kernel_rfl) (GX.take (v:= .bool false) (rs:= []) 35 rfl (by kernel_rfl) (fun _ _=>yM rfl rfl rfl) (GX.take (v:= .bool false) (rs:= []) 36 rfl (by kernel_rfl) (fun _ _=>yO rfl) (yU (rs:= []) 37 rfl rfl rfl rfl (by kernel_rfl) (yU (rs:= []) 38 rfl rfl rfl rfl (by kernel_rfl) (GX.take (v:= .bool false) (rs:= []) 39 rfl (by kernel_rfl) (fun _ _=>yM rfl rfl rfl) (GX.take (v:= .bool false) (rs:= []) 40 rfl (by kernel_rfl) (fun _ _=>zo rfl) (zk (by kernel_rfl) (yL (rt (rs ?_))))))))))))))))))))))))))))))))))))))
 have ed:=r.pk []
 obtain rfl:_=false:=hr.symm.trans (et (aa u) (et (aa x) (et (aa y) (et (aa z) (et (aa j) (et (aa k) (et (aa m) (et (aa n) (et (aa o) (iN e))))))))))
 exact⟨rfl,ed⟩
end Go.Proofs.YtccjclalngabhaaGreat
