/-
 record: what is the same.
-/
import Derived.Test.YtcnkpjheifkgnaaGreatRcA
namespace Go.Proofs.YtcnkpjheifkgnaaGreat
set_option maxRecDepth 100000
open Go.RowKit
set_option linter.unusedVariables false
set_option linter.unusedSectionVars false
set_option linter.unusedSimpArgs false
def gM (e:List aW):List aW→Nat→Unit ⊕ Bool
  | [],c=>Sum.inl ()
  | b::d,c=>bnd (List.getD e c default) fun a=>if(b.aV=a.aV)∧(b.aX=a.aX)∧(b.aB=a.aB)∧(b.aJ=a.aJ)∧(b.aN=a.aN)∧(b.bF=a.bF) then gM e d (c+1) else Sum.inr (false)
def kV (a:List aW) (b:List aW):Bool:=
 if((a.length:Nat):Int)=((b.length:Nat):Int) then lp (gM b a 0) fun _=>true else false
theorem qP (w:World) (D:Nat→Prop) (m:Option Addr) (G y:Nat) (d:List aW) (n:Option Addr) (I c1:Nat) (f:List aW) (R:Bool) (H:Own w D w []) (s:Ro w D fun w'=>bn w' 6 m G (List.flatMap aW.cells d)) (J:G=d.length) (T:d.length≤9223372036854775807) (z:Ro w D fun w'=>bn w' 6 n I (List.flatMap aW.cells f)) (K:I=f.length) (U:f.length≤9223372036854775807) (hr:kV d f=R):
    Calls Tryz.prog 62 #[.slice m G y, .slice n I c1] w (dE fun v w'=>v= .bool R∧Own w D w' []):=by
 subst J K
 refine zg (args:= [.slice m d.length y, .slice n f.length c1]) Tryz.func62 rfl rfl rfl ?_
 show Wp _ _ _ [(0, .slice m d.length y),(1, .slice n f.length c1)] _ _
 refine sr (An rfl (ze (sr (Mz rfl (Kz (.int .i64 ((d.length:Nat):Int)) (Mz rfl (Kz (.int .i64 ((f.length:Nat):Int)) (fw (.bool (decide (¬ (((d.length:Nat):Int)=((f.length:Nat):Int))))) (zF (e:= !(decide (((d.length:Nat):Int)=((f.length:Nat):Int)))) yk decide_not.symm) (nt ?_)))))))))
 by_cases g:((d.length:Nat):Int)=((f.length:Nat):Int)
 refine jF (dF (Ce g)) (sk (ze (sr (Mz rfl (Kz (.int .i64 ((d.length:Nat):Int)) (Mn rfl (bo ?_)))))))
 have L:Own w D w []:=H.pk []
 obtain⟨A,B⟩:∃ q:Nat→World→Prop,q=fun(i:Nat) w'=>Own w D w' []∧(i≤d.length∧gM f d 0=gM f (List.drop i d) i):=⟨_,rfl⟩
 have h:∀ {c:Nat} {w':World},A c w'↔Own w D w' []∧c≤d.length∧gM f d 0=gM f (List.drop c d) c:=by intros; subst B; exact Iff.rfl
 refine Wp.loop (fun i:Nat=> [(4, .bool false),(13, .int .i64 ((i:Nat):Int)),(12, .int .i64 ((d.length:Nat):Int)),(0, .slice m d.length y),(1, .slice n f.length c1)]) A (fun i=>d.length - i) 0 ⟨rfl,rfl,rfl,rfl,rfl,trivial⟩ (h.2 ⟨L,by omega,rfl⟩) ?_
 rintro c M C
 show Wp _ _ _ [(4, .bool false),(13, .int .i64 ((c:Nat):Int)),(12, .int .i64 ((d.length:Nat):Int)),(0, .slice m d.length y),(1, .slice n f.length c1)] _ _
 obtain⟨t,S,j⟩:=h.1 C
 refine sr (Kz (.bool (decide (((c:Nat):Int) < ((d.length:Nat):Int)))) (nt (ze ?_)))
 by_cases E:((c:Nat):Int) < ((d.length:Nat):Int)
 obtain⟨a,p⟩:=eH (ls:=d) (i:=c) aW.len (by decide) (t.ro s) (by first | omega | (simp; done) | (simp; omega))
 have r:=drop_at p
 refine jT (dT E) (sk (ze (bo (sr (Mz rfl (An rfl (ze ?_)))))))
 have k:=t.drew
 refine zX [] (fun W=> ∃ L',Own w D W ([]++L')) (by kernel_rfl) (by kernel_rfl) (zG (cK.block (zG (zG (cK.block (zG z8)))))) ⟨_,k⟩ ?_
 revert k
 generalize World.drew M=V
 intro k
 refine GX.take (v:= .slice m d.length y) (rs:= []) 0 rfl (by kernel_rfl) (fun _ _=>zo rfl) (GX.take (v:= .int .i64 ((c:Nat):Int)) (rs:= []) 1 rfl (by kernel_rfl) (fun _ _=>zo rfl) (GX.take (v:= .pointer (some ⟨ab m,ao m+c *6,none⟩)) (rs:= []) 2 rfl (by kernel_rfl) (fun _ ⟨_,x⟩=>zn (qD) rfl rfl ((x.ro s).addr (i:=c) (by omega)) (by omega)) (GX.take (v:= .agg (aW.cells a).toArray) (rs:= []) 3 rfl (by kernel_rfl) (fun _ ⟨_,x⟩=>zi rfl (zD (cs:=(aW.cells a)) Tryz.isAgg74 Tryz.sizeOf74 ((x.ro s).elem aW.len p (by decide)))) (GX.take (v:= .slice n f.length c1) (rs:= []) 4 rfl (by kernel_rfl) (fun _ _=>zo rfl) (GX.take (v:= .int .i64 ((c:Nat):Int)) (rs:= []) 5 rfl (by kernel_rfl) (fun _ _=>zo rfl) ?_)))))
 obtain⟨b,l⟩:=lC (ls:=f) (i:=c) (by first | omega | (simp; done) | (simp; omega))
 refine GX.take (v:= .pointer (some ⟨ab n,ao n+c *6,none⟩)) (rs:= []) 6 rfl (by kernel_rfl) (fun _ ⟨_,x⟩=>zn (qD) rfl rfl ((x.ro z).addr (i:=c) (by omega)) (by omega)) (GX.take (v:= .agg (aW.cells b).toArray) (rs:= []) 7 rfl (by kernel_rfl) (fun _ ⟨_,x⟩=>zi rfl (zD (cs:=(aW.cells b)) Tryz.isAgg74 Tryz.sizeOf74 ((x.ro z).elem aW.len l (by decide)))) (GX.take (v:= .bool (decide (¬ ((a.aV=b.aV)∧(a.aX=b.aX)∧(a.aB=b.aB)∧(a.aJ=b.aJ)∧(a.aN=b.aN)∧(a.bF=b.bF))))) (rs:= []) 8 rfl (by kernel_rfl) (fun _ _=>zF (e:= !(decide ((a.aV=b.aV)∧(a.aX=b.aX)∧(a.aB=b.aB)∧(a.aJ=b.aJ)∧(a.aN=b.aN)∧(a.bF=b.bF)))) (Ac rfl rfl (by kernel_rfl) rfl (eY.struct Tryz.underlying74 (by kernel_rfl) (Ab (dP.cons (u:= .int .i64 a.aV) (v:= .int .i64 b.aV) (by decide) (fun _=>by kernel_rfl) (fun _=>by kernel_rfl) (eY.int Tryz.underlying3) (dP.cons (u:= .string ⟨List.toArray a.aX⟩) (v:= .string ⟨List.toArray b.aX⟩) (by decide) (fun _=>by kernel_rfl) (fun _=>by kernel_rfl) (eY.string Tryz.underlying9) (dP.cons (u:= .string ⟨List.toArray a.aB⟩) (v:= .string ⟨List.toArray b.aB⟩) (by decide) (fun _=>by kernel_rfl) (fun _=>by kernel_rfl) (eY.string Tryz.underlying9) (dP.cons (u:= .string ⟨List.toArray a.aJ⟩) (v:= .string ⟨List.toArray b.aJ⟩) (by decide) (fun _=>by kernel_rfl) (fun _=>by kernel_rfl) (eY.string Tryz.underlying9) (dP.cons (u:= .string ⟨List.toArray a.aN⟩) (v:= .string ⟨List.toArray b.aN⟩) (by decide) (fun _=>by kernel_rfl) (fun _=>by kernel_rfl) (eY.string Tryz.underlying9) (dP.cons (u:= .int .i64 a.bF) (v:= .int .i64 b.bF) (by decide) (fun _=>by kernel_rfl) (fun _=>by kernel_rfl) (eY.int Tryz.underlying3) (dP.nil.up (Cc _)))))))) ((congrArg (decide (a.aV=b.aV) && ·) ((congrArg (decide (a.aX=b.aX) && ·) ((congrArg (decide (a.aB=b.aB) && ·) ((congrArg (decide (a.aJ=b.aJ) && ·) ((congrArg (decide (a.aN=b.aN) && ·) jg).trans dM)).trans dM)).trans dM)).trans dM)).trans dM)))) decide_not.symm) (zT (by kernel_rfl) (zu ?_))))
 by_cases o:(a.aV=b.aV)∧(a.aX=b.aX)∧(a.aB=b.aB)∧(a.aJ=b.aJ)∧(a.aN=b.aN)∧(a.bF=b.bF)
 refine jF (dF (Ce o)) (zS (bN (zu (zb (fw (.int .i64 ((c+1:Nat):Int)) (zy (e:=IntKind.i64.wrap (((c:Nat):Int)+1)) yk (by rw [Cb _ (by omega)]; omega)) (Mz rfl (zq ?_)))))))
 have N:=k.pk []
 exact zH (c+1) ⟨rfl,rfl,rfl,rfl,rfl,trivial⟩ (h.2 ⟨N,by omega,et (j) (et (congrArg (fun q=>gM f q c) r) (et (ae (bJ l)) (ip o)))⟩) (by show d.length - (c+1) < d.length - c; omega)
 refine jT (dT o) (sr (An rfl (rt (bR (tR (tR (bR (tR (rs ?_)))))))))
 have O:=k.pk []
 obtain rfl:_=false:=hr.symm.trans (et (ip g) (fE (et (j) (et (congrArg (fun q=>gM f q c) r) (et (ae (bJ l)) (iN o))))))
 exact⟨rfl,O⟩
 refine jF (dF E) (Wp.exit (zk ?_))
 have F:gM f d 0=Sum.inl ():=et (j) (et (congrArg (fun q=>gM f q c) (eF (ls:=d) (i:=c) (by omega))) rfl)
 refine zk (zA (zu (sr (An rfl (rt (rs ?_))))))
 have P:=t.pk []
 obtain rfl:_=true:=hr.symm.trans (et (ip g) (gL F))
 exact⟨rfl,P⟩
 refine jT (dT g) (sr (An rfl (rt (tR (rs ?_)))))
 have Q:Own w D w []:=H.pk []
 obtain rfl:_=false:=hr.symm.trans (iN g)
 exact⟨rfl,Q⟩
def gP (e:List bu):List bu→Nat→Unit ⊕ Bool
  | [],b=>Sum.inl ()
  | c::d,b=>bnd (List.getD e b default) fun a=>if(c.aX=a.aX)∧(c.aB=a.aB) then gP e d (b+1) else Sum.inr (false)
def kW (a:List bu) (b:List bu):Bool:=
 if((a.length:Nat):Int)=((b.length:Nat):Int) then lp (gP b a 0) fun _=>true else false
theorem qQ (w:World) (D:Nat→Prop) (m:Option Addr) (G y:Nat) (b:List bu) (n:Option Addr) (I c1:Nat) (f:List bu) (R:Bool) (H:Own w D w []) (s:Ro w D fun w'=>bn w' 2 m G (List.flatMap bu.cells b)) (J:G=b.length) (T:b.length≤9223372036854775807) (z:Ro w D fun w'=>bn w' 2 n I (List.flatMap bu.cells f)) (K:I=f.length) (U:f.length≤9223372036854775807) (hr:kW b f=R):
    Calls Tryz.prog 105 #[.slice m G y, .slice n I c1] w (dE fun v w'=>v= .bool R∧Own w D w' []):=by
 subst J K
 refine zg (args:= [.slice m b.length y, .slice n f.length c1]) Tryz.func105 rfl rfl rfl ?_
 show Wp _ _ _ [(0, .slice m b.length y),(1, .slice n f.length c1)] _ _
 refine sr (An rfl (ze (sr (Mz rfl (Kz (.int .i64 ((b.length:Nat):Int)) (Mz rfl (Kz (.int .i64 ((f.length:Nat):Int)) (fw (.bool (decide (¬ (((b.length:Nat):Int)=((f.length:Nat):Int))))) (zF (e:= !(decide (((b.length:Nat):Int)=((f.length:Nat):Int)))) yk decide_not.symm) (nt ?_)))))))))
 by_cases g:((b.length:Nat):Int)=((f.length:Nat):Int)
 refine jF (dF (Ce g)) (sk (ze (sr (Mz rfl (Kz (.int .i64 ((b.length:Nat):Int)) (Mn rfl (bo ?_)))))))
 have L:Own w D w []:=H.pk []
 obtain⟨A,B⟩:∃ q:Nat→World→Prop,q=fun(i:Nat) w'=>Own w D w' []∧(i≤b.length∧gP f b 0=gP f (List.drop i b) i):=⟨_,rfl⟩
 have h:∀ {a:Nat} {w':World},A a w'↔Own w D w' []∧a≤b.length∧gP f b 0=gP f (List.drop a b) a:=by intros; subst B; exact Iff.rfl
 refine Wp.loop (fun i:Nat=> [(4, .bool false),(13, .int .i64 ((i:Nat):Int)),(12, .int .i64 ((b.length:Nat):Int)),(0, .slice m b.length y),(1, .slice n f.length c1)]) A (fun i=>b.length - i) 0 ⟨rfl,rfl,rfl,rfl,rfl,trivial⟩ (h.2 ⟨L,by omega,rfl⟩) ?_
 rintro a M C
 show Wp _ _ _ [(4, .bool false),(13, .int .i64 ((a:Nat):Int)),(12, .int .i64 ((b.length:Nat):Int)),(0, .slice m b.length y),(1, .slice n f.length c1)] _ _
 obtain⟨t,S,j⟩:=h.1 C
 refine sr (Kz (.bool (decide (((a:Nat):Int) < ((b.length:Nat):Int)))) (nt (ze ?_)))
 by_cases E:((a:Nat):Int) < ((b.length:Nat):Int)
 obtain⟨c,p⟩:=eH (ls:=b) (i:=a) bu.len (by decide) (t.ro s) (by first | omega | (simp; done) | (simp; omega))
 have r:=drop_at p
 refine jT (dT E) (sk (ze (bo (sr (Mz rfl (An rfl (ze ?_)))))))
 have k:=t.drew
 refine zX [] (fun W=> ∃ L',Own w D W ([]++L')) (by kernel_rfl) (by kernel_rfl) (zG (cK.block (zG (zG (cK.block (zG z8)))))) ⟨_,k⟩ ?_
 revert k
 generalize World.drew M=V
 intro k
 refine GX.take (v:= .slice m b.length y) (rs:= []) 0 rfl (by kernel_rfl) (fun _ _=>zo rfl) (GX.take (v:= .int .i64 ((a:Nat):Int)) (rs:= []) 1 rfl (by kernel_rfl) (fun _ _=>zo rfl) (GX.take (v:= .pointer (some ⟨ab m,ao m+a *2,none⟩)) (rs:= []) 2 rfl (by kernel_rfl) (fun _ ⟨_,x⟩=>zn (oU) rfl rfl ((x.ro s).addr (i:=a) (by omega)) (by omega)) (GX.take (v:= .agg (bu.cells c).toArray) (rs:= []) 3 rfl (by kernel_rfl) (fun _ ⟨_,x⟩=>zi rfl (zD (cs:=(bu.cells c)) Tryz.isAgg133 Tryz.sizeOf133 ((x.ro s).elem bu.len p (by decide)))) (GX.take (v:= .slice n f.length c1) (rs:= []) 4 rfl (by kernel_rfl) (fun _ _=>zo rfl) (GX.take (v:= .int .i64 ((a:Nat):Int)) (rs:= []) 5 rfl (by kernel_rfl) (fun _ _=>zo rfl) ?_)))))
 obtain⟨d,l⟩:=lC (ls:=f) (i:=a) (by first | omega | (simp; done) | (simp; omega))
 refine GX.take (v:= .pointer (some ⟨ab n,ao n+a *2,none⟩)) (rs:= []) 6 rfl (by kernel_rfl) (fun _ ⟨_,x⟩=>zn (oU) rfl rfl ((x.ro z).addr (i:=a) (by omega)) (by omega)) (GX.take (v:= .agg (bu.cells d).toArray) (rs:= []) 7 rfl (by kernel_rfl) (fun _ ⟨_,x⟩=>zi rfl (zD (cs:=(bu.cells d)) Tryz.isAgg133 Tryz.sizeOf133 ((x.ro z).elem bu.len l (by decide)))) (GX.take (v:= .bool (decide (¬ ((c.aX=d.aX)∧(c.aB=d.aB))))) (rs:= []) 8 rfl (by kernel_rfl) (fun _ _=>zF (e:= !(decide ((c.aX=d.aX)∧(c.aB=d.aB)))) (Ac rfl rfl (by kernel_rfl) rfl (eY.struct Tryz.underlying133 (by kernel_rfl) (Ab (dP.cons (u:= .string ⟨List.toArray c.aX⟩) (v:= .string ⟨List.toArray d.aX⟩) (by decide) (fun _=>by kernel_rfl) (fun _=>by kernel_rfl) (eY.string Tryz.underlying9) (dP.cons (u:= .string ⟨List.toArray c.aB⟩) (v:= .string ⟨List.toArray d.aB⟩) (by decide) (fun _=>by kernel_rfl) (fun _=>by kernel_rfl) (eY.string Tryz.underlying9) (dP.nil.up (Cc _)))) ((congrArg (decide (c.aX=d.aX) && ·) jg).trans dM)))) decide_not.symm) (zT (by kernel_rfl) (zu ?_))))
 by_cases o:(c.aX=d.aX)∧(c.aB=d.aB)
 refine jF (dF (Ce o)) (zS (bN (zu (zb (fw (.int .i64 ((a+1:Nat):Int)) (zy (e:=IntKind.i64.wrap (((a:Nat):Int)+1)) yk (by rw [Cb _ (by omega)]; omega)) (Mz rfl (zq ?_)))))))
 have N:=k.pk []
 exact zH (a+1) ⟨rfl,rfl,rfl,rfl,rfl,trivial⟩ (h.2 ⟨N,by omega,et (j) (et (congrArg (fun q=>gP f q a) r) (et (ae (bJ l)) (ip o)))⟩) (by show b.length - (a+1) < b.length - a; omega)
 refine jT (dT o) (sr (An rfl (rt (bR (tR (tR (bR (tR (rs ?_)))))))))
 have O:=k.pk []
 obtain rfl:_=false:=hr.symm.trans (et (ip g) (fE (et (j) (et (congrArg (fun q=>gP f q a) r) (et (ae (bJ l)) (iN o))))))
 exact⟨rfl,O⟩
 refine jF (dF E) (Wp.exit (zk ?_))
 have F:gP f b 0=Sum.inl ():=et (j) (et (congrArg (fun q=>gP f q a) (eF (ls:=b) (i:=a) (by omega))) rfl)
 refine zk (zA (zu (sr (An rfl (rt (rs ?_))))))
 have P:=t.pk []
 obtain rfl:_=true:=hr.symm.trans (et (ip g) (gL F))
 exact⟨rfl,P⟩
 refine jT (dT g) (sr (An rfl (rt (tR (rs ?_)))))
 have Q:Own w D w []:=H.pk []
 obtain rfl:_=false:=hr.symm.trans (iN g)
 exact⟨rfl,Q⟩
def eO (f:List bX):List bX→Nat→Unit ⊕ Bool
  | [],b=>Sum.inl ()
  | c::e,b=>bnd (List.getD f b default) fun a=>if c.dm=a.dm then if c.aB≠a.aB then Sum.inr (false) else bnd (kW c.ax.ls a.ax.ls) fun d=>if d=true then eO f e (b+1) else Sum.inr (false) else Sum.inr (false)
def jX (a:List bX) (b:List bX):Bool:=
 if((a.length:Nat):Int)=((b.length:Nat):Int) then lp (eO b a 0) fun _=>true else false
theorem oN (w:World) (D:Nat→Prop) (m:Option Addr) (n0 I:Nat) (d0:List az) (h:List bX) (n:Option Addr) (n1 c1:Nat) (d1:List az) (j:List bX) (r0:Bool) (H:Own w D w []) (M:List.map zm d0=h) (s:Ro w D fun w'=>bn w' 3 m n0 (List.flatMap az.cells d0)) (N:∀ x ∈ d0,Ro w D (fun w'=>bn w' 2 x.ax.A x.ax.ls.length (List.flatMap bu.cells x.ax.ls))∧(x.ax.ls.length≤x.ax.c∧x.ax.ls.length≤9223372036854775807)) (ai:n0=h.length) (aJ:h.length≤9223372036854775807) (O:List.map zm d1=j) (z:Ro w D fun w'=>bn w' 3 n n1 (List.flatMap az.cells d1)) (P:∀ x ∈ d1,Ro w D (fun w'=>bn w' 2 x.ax.A x.ax.ls.length (List.flatMap bu.cells x.ax.ls))∧(x.ax.ls.length≤x.ax.c∧x.ax.ls.length≤9223372036854775807)) (aj:n1=j.length) (aK:j.length≤9223372036854775807) (hr:jX h j=r0):
    Calls Tryz.prog 67 #[.slice m n0 I, .slice n n1 c1] w (dE fun v w'=>v= .bool r0∧Own w D w' []):=by
 subst ai aj
 have hdl0:=bS M
 have hdl1:=bS O
 refine zg (args:= [.slice m h.length I, .slice n j.length c1]) Tryz.func67 rfl rfl rfl ?_
 show Wp _ _ _ [(0, .slice m h.length I),(1, .slice n j.length c1)] _ _
 refine sr (An rfl (ze (sr (Mz rfl (Kz (.int .i64 ((h.length:Nat):Int)) (Mz rfl (Kz (.int .i64 ((j.length:Nat):Int)) (fw (.bool (decide (¬ (((h.length:Nat):Int)=((j.length:Nat):Int))))) (zF (e:= !(decide (((h.length:Nat):Int)=((j.length:Nat):Int)))) yk decide_not.symm) (nt ?_)))))))))
 by_cases t:((h.length:Nat):Int)=((j.length:Nat):Int)
 refine jF (dF (Ce t)) (sk (ze (sr (Mz rfl (Kz (.int .i64 ((h.length:Nat):Int)) (Mn rfl (bo ?_)))))))
 have ak:Own w D w []:=H.pk []
 obtain⟨Q,R⟩:∃ q:Nat→World→Prop,q=fun(i:Nat) w'=>Own w D w' []∧(i≤h.length∧eO j h 0=eO j (List.drop i h) i):=⟨_,rfl⟩
 have C:∀ {a:Nat} {w':World},Q a w'↔Own w D w' []∧a≤h.length∧eO j h 0=eO j (List.drop a h) a:=by intros; subst R; exact Iff.rfl
 refine Wp.loop (fun i:Nat=> [(4, .bool false),(13, .int .i64 ((i:Nat):Int)),(12, .int .i64 ((h.length:Nat):Int)),(0, .slice m h.length I),(1, .slice n j.length c1)]) Q (fun i=>h.length - i) 0 ⟨rfl,rfl,rfl,rfl,rfl,trivial⟩ (C.2 ⟨ak,by omega,rfl⟩) ?_
 rintro a au S
 show Wp _ _ _ [(4, .bool false),(13, .int .i64 ((a:Nat):Int)),(12, .int .i64 ((h.length:Nat):Int)),(0, .slice m h.length I),(1, .slice n j.length c1)] _ _
 obtain⟨K,aF,r⟩:=C.1 S
 refine sr (Kz (.bool (decide (((a:Nat):Int) < ((h.length:Nat):Int)))) (nt (ze ?_)))
 by_cases T:((a:Nat):Int) < ((h.length:Nat):Int)
 obtain⟨f,o⟩:=eH (ls:=d0) (i:=a) az.len (by decide) (K.ro s) (by first | omega | (simp; done) | (simp; omega))
 have U:=iY M o
 have aG:=(N _ (List.mem_of_getElem? o)).2
 have u:=drop_at U
 refine jT (dT T) (sk (ze (bo (sr (Mz rfl (An rfl (ze ?_)))))))
 have B:=K.drew
 refine zX [] (fun W=> ∃ L',Own w D W ([]++L')) (by kernel_rfl) (by kernel_rfl) (zG (cK.block (zG (zG (cK.block (zG z8)))))) ⟨_,B⟩ ?_
 revert B
 generalize World.drew au=aL
 intro B
 refine GX.take (v:= .slice m h.length I) (rs:= []) 0 rfl (by kernel_rfl) (fun _ _=>zo rfl) (GX.take (v:= .int .i64 ((a:Nat):Int)) (rs:= []) 1 rfl (by kernel_rfl) (fun _ _=>zo rfl) (GX.take (v:= .pointer (some ⟨ab m,ao m+a *3,none⟩)) (rs:= []) 2 rfl (by kernel_rfl) (fun _ ⟨_,l⟩=>zn (nk) rfl rfl ((l.ro s).addr (i:=a) (by omega)) (by omega)) (GX.take (v:= .pointer (some ⟨ab m,ao m+a *3,none⟩)) (rs:= []) 3 rfl (by kernel_rfl) (fun _ _=>yk) (GX.take (v:= .bool f.dm) (rs:= []) 4 rfl (by kernel_rfl) (fun _ ⟨_,l⟩=>zi rfl (bf.one Tryz.isAgg4 (((l.ro s).elem az.len o (by decide)).at_ (k:=0) rfl))) (GX.take (v:= .slice n j.length c1) (rs:= []) 5 rfl (by kernel_rfl) (fun _ _=>zo rfl) (GX.take (v:= .int .i64 ((a:Nat):Int)) (rs:= []) 6 rfl (by kernel_rfl) (fun _ _=>zo rfl) ?_))))))
 obtain⟨g,p⟩:=lC (ls:=d1) (i:=a) (by first | omega | (simp; done) | (simp; omega))
 have y:=iY O p
 have aH:=(P _ (List.mem_of_getElem? p)).2
 refine GX.take (v:= .pointer (some ⟨ab n,ao n+a *3,none⟩)) (rs:= []) 7 rfl (by kernel_rfl) (fun _ ⟨_,l⟩=>zn (nk) rfl rfl ((l.ro z).addr (i:=a) (by omega)) (by omega)) (GX.take (v:= .pointer (some ⟨ab n,ao n+a *3,none⟩)) (rs:= []) 8 rfl (by kernel_rfl) (fun _ _=>yk) (GX.take (v:= .bool g.dm) (rs:= []) 9 rfl (by kernel_rfl) (fun _ ⟨_,l⟩=>zi rfl (bf.one Tryz.isAgg4 (((l.ro z).elem az.len p (by decide)).at_ (k:=0) rfl))) (GX.take (v:= .bool (decide (¬ (f.dm=g.dm)))) (rs:= []) 10 rfl (by kernel_rfl) (fun _ _=>zF (e:= !(f.dm==g.dm)) yk (by first | (rw [Bool.beq_eq_decide_eq]; exact decide_not.symm) | (by_cases q:f.dm=g.dm <;> simp [q]))) (GX.take (v:= .bool (decide (¬ (f.dm=g.dm)))) (rs:= []) 11 rfl (by kernel_rfl) (fun _ _=>zo rfl) ?_))))
 by_cases d:f.dm=g.dm
 refine zl (v:= .slice m h.length I) (rs:= []) 12 rfl rfl rfl (dF (Ce d)) (by kernel_rfl) (fun _ _=>zo rfl) (zl (v:= .int .i64 ((a:Nat):Int)) (rs:= []) 13 rfl rfl rfl (dF (Ce d)) (by kernel_rfl) (fun _ _=>zo rfl) (zl (v:= .pointer (some ⟨ab m,ao m+a *3,none⟩)) (rs:= []) 14 rfl rfl rfl (dF (Ce d)) (by kernel_rfl) (fun _ ⟨_,l⟩=>zn (nk) rfl rfl ((l.ro s).addr (i:=a) (by omega)) (by omega)) (zl (v:= .pointer (some ⟨ab m,ao m+a *3+1,none⟩)) (rs:= []) 15 rfl rfl rfl (dF (Ce d)) (by kernel_rfl) (fun _ _=>yk) (zl (v:= .string ⟨List.toArray f.aB⟩) (rs:= []) 16 rfl rfl rfl (dF (Ce d)) (by kernel_rfl) (fun _ ⟨_,l⟩=>zi rfl (bf.one Tryz.isAgg9 (((l.ro s).elem az.len o (by decide)).at_ (k:=1) rfl))) (zl (v:= .slice n j.length c1) (rs:= []) 17 rfl rfl rfl (dF (Ce d)) (by kernel_rfl) (fun _ _=>zo rfl) (zl (v:= .int .i64 ((a:Nat):Int)) (rs:= []) 18 rfl rfl rfl (dF (Ce d)) (by kernel_rfl) (fun _ _=>zo rfl) (zl (v:= .pointer (some ⟨ab n,ao n+a *3,none⟩)) (rs:= []) 19 rfl rfl rfl (dF (Ce d)) (by kernel_rfl) (fun _ ⟨_,l⟩=>zn (nk) rfl rfl ((l.ro z).addr (i:=a) (by omega)) (by omega)) (zl (v:= .pointer (some ⟨ab n,ao n+a *3+1,none⟩)) (rs:= []) 20 rfl rfl rfl (dF (Ce d)) (by kernel_rfl) (fun _ _=>yk) (zl (v:= .string ⟨List.toArray g.aB⟩) (rs:= []) 21 rfl rfl rfl (dF (Ce d)) (by kernel_rfl) (fun _ ⟨_,l⟩=>zi rfl (bf.one Tryz.isAgg9 (((l.ro z).elem az.len p (by decide)).at_ (k:=1) rfl))) (zl (v:= .bool (decide (f.aB≠g.aB))) (rs:= []) 22 rfl rfl rfl (dF (Ce d)) (by kernel_rfl) (fun _ _=>Ao rfl rfl) (GX.take (v:= .bool (decide (f.aB≠g.aB))) (rs:= []) 23 rfl (by kernel_rfl) (fun _ _=>zh rfl (dF (Ce d)) rfl) (GX.take (v:= .bool (decide (f.aB≠g.aB))) (rs:= []) 24 rfl (by kernel_rfl) (fun _ _=>zo rfl) ?_))))))))))))
 by_cases b:f.aB≠g.aB
 refine zw (rs:= []) 25 rfl rfl rfl (dT b) (by kernel_rfl) (zw (rs:= []) 26 rfl rfl rfl (dT b) (by kernel_rfl) (zw (rs:= []) 27 rfl rfl rfl (dT b) (by kernel_rfl) (zw (rs:= []) 28 rfl rfl rfl (dT b) (by kernel_rfl) (zw (rs:= []) 29 rfl rfl rfl (dT b) (by kernel_rfl) (zw (rs:= []) 30 rfl rfl rfl (dT b) (by kernel_rfl) (zw (rs:= []) 31 rfl rfl rfl (dT b) (by kernel_rfl) (zw (rs:= []) 32 rfl rfl rfl (dT b) (by kernel_rfl) (zw (rs:= []) 33 rfl rfl rfl (dT b) (by kernel_rfl) (zw (rs:= []) 34 rfl rfl rfl (dT b) (by kernel_rfl) (zw (rs:= []) 35 rfl rfl rfl (dT b) (by kernel_rfl) (zw (rs:= []) 36 rfl rfl rfl (dT b) (by kernel_rfl) (GX.take (v:= .bool true) (rs:= []) 37 rfl (by kernel_rfl) (fun _ _=>zf rfl (dT b) rfl) (zT (by kernel_rfl) (zu (jt (sr (An rfl (rt (bR (tR (tR (bR (tR (rs ?_))))))))))))))))))))))))
 have av:=B.pk []
 obtain rfl:_=false:=hr.symm.trans (et (ip t) (fE (et (r) (et (congrArg (fun q=>eO j q a) u) (et (ae (bJ y)) (et (ip d) (ip b)))))))
 exact⟨rfl,av⟩
 refine zl (v:= .slice m h.length I) (rs:= []) 25 rfl rfl rfl (dF b) (by kernel_rfl) (fun _ _=>zo rfl) (zl (v:= .int .i64 ((a:Nat):Int)) (rs:= []) 26 rfl rfl rfl (dF b) (by kernel_rfl) (fun _ _=>zo rfl) (zl (v:= .pointer (some ⟨ab m,ao m+a *3,none⟩)) (rs:= []) 27 rfl rfl rfl (dF b) (by kernel_rfl) (fun _ ⟨_,l⟩=>zn (nk) rfl rfl ((l.ro s).addr (i:=a) (by omega)) (by omega)) (zl (v:= .pointer (some ⟨ab m,ao m+a *3+2,none⟩)) (rs:= []) 28 rfl rfl rfl (dF b) (by kernel_rfl) (fun _ _=>yk) (zl (v:= .slice f.ax.A f.ax.ls.length f.ax.c) (rs:= []) 29 rfl rfl rfl (dF b) (by kernel_rfl) (fun _ ⟨_,l⟩=>zi rfl (bf.one Tryz.isAgg127 (((l.ro s).elem az.len o (by decide)).at_ (k:=2) rfl))) (zl (v:= .slice n j.length c1) (rs:= []) 30 rfl rfl rfl (dF b) (by kernel_rfl) (fun _ _=>zo rfl) (zl (v:= .int .i64 ((a:Nat):Int)) (rs:= []) 31 rfl rfl rfl (dF b) (by kernel_rfl) (fun _ _=>zo rfl) (zl (v:= .pointer (some ⟨ab n,ao n+a *3,none⟩)) (rs:= []) 32 rfl rfl rfl (dF b) (by kernel_rfl) (fun _ ⟨_,l⟩=>zn (nk) rfl rfl ((l.ro z).addr (i:=a) (by omega)) (by omega)) (zl (v:= .pointer (some ⟨ab n,ao n+a *3+2,none⟩)) (rs:= []) 33 rfl rfl rfl (dF b) (by kernel_rfl) (fun _ _=>yk) (zl (v:= .slice g.ax.A g.ax.ls.length g.ax.c) (rs:= []) 34 rfl rfl rfl (dF b) (by kernel_rfl) (fun _ ⟨_,l⟩=>zi rfl (bf.one Tryz.isAgg127 (((l.ro z).elem az.len p (by decide)).at_ (k:=2) rfl))) ?_)))))))))
 obtain⟨G,E⟩:∃ q,kW f.ax.ls g.ax.ls=q:=⟨_,rfl⟩
 obtain⟨aM,V,J,X,aI⟩:=zt B
 refine Aj 35 rfl rfl rfl (dF b) (by kernel_rfl) (zI Tryz.call105 rfl (qQ _ _ f.ax.A f.ax.ls.length f.ax.c f.ax.ls g.ax.A g.ax.ls.length g.ax.c g.ax.ls G V (J _ (N _ (List.mem_of_getElem? o)).1) rfl (by omega) (J _ (P _ (List.mem_of_getElem? p)).1) rfl (by omega) E) ?_)
 rintro _ aN ⟨rfl,Y⟩
 have L:=X _ _ Y
 refine⟨.inr ⟨_,L⟩, ?_⟩
 refine zl (v:= .bool (!G)) (rs:= []) 36 rfl rfl rfl (dF b) (by kernel_rfl) (fun _ _=>yk) (GX.take (v:= .bool (!G)) (rs:= []) 37 rfl (by kernel_rfl) (fun _ _=>zh rfl (dF b) rfl) (zT (by kernel_rfl) (zu ?_)))
 rcases Cf (G) with F | F
 refine jF (cn F) (zS (bN (zu (zb (fw (.int .i64 ((a+1:Nat):Int)) (zy (e:=IntKind.i64.wrap (((a:Nat):Int)+1)) yk (by rw [Cb _ (by omega)]; omega)) (Mz rfl (zq ?_)))))))
 have ax:=L.pk []
 exact zH (a+1) ⟨rfl,rfl,rfl,rfl,rfl,trivial⟩ (C.2 ⟨ax,by omega,et (r) (et (congrArg (fun q=>eO j q a) u) (et (ae (bJ y)) (et (ip d) (et (iN b) (et (ae E) (ip F))))))⟩) (by show h.length - (a+1) < h.length - a; omega)
 refine jT (cn F) (sr (An rfl (rt (bR (tR (tR (bR (tR (rs ?_)))))))))
 have ay:=L.pk []
 obtain rfl:_=false:=hr.symm.trans (et (ip t) (fE (et (r) (et (congrArg (fun q=>eO j q a) u) (et (ae (bJ y)) (et (ip d) (et (iN b) (et (ae E) (jV F)))))))))
 exact⟨rfl,ay⟩
 refine zw (rs:= []) 12 rfl rfl rfl (dT d) (by kernel_rfl) (zw (rs:= []) 13 rfl rfl rfl (dT d) (by kernel_rfl) (zw (rs:= []) 14 rfl rfl rfl (dT d) (by kernel_rfl) (zw (rs:= []) 15 rfl rfl rfl (dT d) (by kernel_rfl) (zw (rs:= []) 16 rfl rfl rfl (dT d) (by kernel_rfl) (zw (rs:= []) 17 rfl rfl rfl (dT d) (by kernel_rfl) (zw (rs:= []) 18 rfl rfl rfl (dT d) (by kernel_rfl) (zw (rs:= []) 19 rfl rfl rfl (dT d) (by kernel_rfl) (zw (rs:= []) 20 rfl rfl rfl (dT d) (by kernel_rfl) (zw (rs:= []) 21 rfl rfl rfl (dT d) (by kernel_rfl) (zw (rs:= []) 22 rfl rfl rfl (dT d) (by kernel_rfl) (GX.take (v:= .bool true) (rs:= []) 23 rfl (by kernel_rfl) (fun _ _=>zf rfl (dT d) rfl) (GX.take (v:= .bool true) (rs:= []) 24 rfl (by kernel_rfl) (fun _ _=>zo rfl) (zw (rs:= []) 25 rfl rfl rfl rfl (by kernel_rfl) (zw (rs:= []) 26 rfl rfl rfl rfl (by kernel_rfl) (zw (rs:= []) 27 rfl rfl rfl rfl (by kernel_rfl) (zw (rs:= []) 28 rfl rfl rfl rfl (by kernel_rfl) (zw (rs:= []) 29 rfl rfl rfl rfl (by kernel_rfl) (zw (rs:= []) 30 rfl rfl rfl rfl (by kernel_rfl) (zw (rs:= []) 31 rfl rfl rfl rfl (by kernel_rfl) (zw (rs:= []) 32 rfl rfl rfl rfl (by kernel_rfl) (zw (rs:= []) 33 rfl rfl rfl rfl (by kernel_rfl) (zw (rs:= []) 34 rfl rfl rfl rfl (by kernel_rfl) (zw (rs:= []) 35 rfl rfl rfl rfl (by kernel_rfl) (zw (rs:= []) 36 rfl rfl rfl rfl (by kernel_rfl) (GX.take (v:= .bool true) (rs:= []) 37 rfl (by kernel_rfl) (fun _ _=>zf rfl rfl rfl) (zT (by kernel_rfl) (zu (jt (sr (An rfl (rt (bR (tR (tR (bR (tR ?_))))))))))))))))))))))))))))))))))))
 refine rs ?_
 have aA:=B.pk []
 obtain rfl:_=false:=hr.symm.trans (et (ip t) (fE (et (r) (et (congrArg (fun q=>eO j q a) u) (et (ae (bJ y)) (iN d))))))
 exact⟨rfl,aA⟩
 refine jF (dF T) (Wp.exit (zk ?_))
 have Z:eO j h 0=Sum.inl ():=et (r) (et (congrArg (fun q=>eO j q a) (eF (ls:=h) (i:=a) (by omega))) rfl)
 refine zk (zA (zu (sr (An rfl (rt (rs ?_))))))
 have aB:=K.pk []
 obtain rfl:_=true:=hr.symm.trans (et (ip t) (gL Z))
 exact⟨rfl,aB⟩
 refine jT (dT t) (sr (An rfl (rt (tR (rs ?_)))))
 have aC:Own w D w []:=H.pk []
 obtain rfl:_=false:=hr.symm.trans (iN t)
 exact⟨rfl,aC⟩
def iL (e:List aH):List aH→Nat→Unit ⊕ Bool
  | [],b=>Sum.inl ()
  | c::d,b=>bnd (List.getD e b default) fun a=>if(c.aJ=a.aJ)∧(c.fI=a.fI) then iL e d (b+1) else Sum.inr (false)
def kZ (a:List aH) (b:List aH):Bool:=
 if((a.length:Nat):Int)=((b.length:Nat):Int) then lp (iL b a 0) fun _=>true else false
theorem pJ (w:World) (D:Nat→Prop) (m:Option Addr) (G y:Nat) (b:List aH) (n:Option Addr) (I c1:Nat) (f:List aH) (R:Bool) (H:Own w D w []) (s:Ro w D fun w'=>bn w' 2 m G (List.flatMap aH.cells b)) (J:G=b.length) (T:b.length≤9223372036854775807) (z:Ro w D fun w'=>bn w' 2 n I (List.flatMap aH.cells f)) (K:I=f.length) (U:f.length≤9223372036854775807) (hr:kZ b f=R):
    Calls Tryz.prog 61 #[.slice m G y, .slice n I c1] w (dE fun v w'=>v= .bool R∧Own w D w' []):=by
 subst J K
 refine zg (args:= [.slice m b.length y, .slice n f.length c1]) Tryz.func61 rfl rfl rfl ?_
 show Wp _ _ _ [(0, .slice m b.length y),(1, .slice n f.length c1)] _ _
 refine sr (An rfl (ze (sr (Mz rfl (Kz (.int .i64 ((b.length:Nat):Int)) (Mz rfl (Kz (.int .i64 ((f.length:Nat):Int)) (fw (.bool (decide (¬ (((b.length:Nat):Int)=((f.length:Nat):Int))))) (zF (e:= !(decide (((b.length:Nat):Int)=((f.length:Nat):Int)))) yk decide_not.symm) (nt ?_)))))))))
 by_cases g:((b.length:Nat):Int)=((f.length:Nat):Int)
 refine jF (dF (Ce g)) (sk (ze (sr (Mz rfl (Kz (.int .i64 ((b.length:Nat):Int)) (Mn rfl (bo ?_)))))))
 have L:Own w D w []:=H.pk []
 obtain⟨A,B⟩:∃ q:Nat→World→Prop,q=fun(i:Nat) w'=>Own w D w' []∧(i≤b.length∧iL f b 0=iL f (List.drop i b) i):=⟨_,rfl⟩
 have h:∀ {a:Nat} {w':World},A a w'↔Own w D w' []∧a≤b.length∧iL f b 0=iL f (List.drop a b) a:=by intros; subst B; exact Iff.rfl
 refine Wp.loop (fun i:Nat=> [(4, .bool false),(13, .int .i64 ((i:Nat):Int)),(12, .int .i64 ((b.length:Nat):Int)),(0, .slice m b.length y),(1, .slice n f.length c1)]) A (fun i=>b.length - i) 0 ⟨rfl,rfl,rfl,rfl,rfl,trivial⟩ (h.2 ⟨L,by omega,rfl⟩) ?_
 rintro a M C
 show Wp _ _ _ [(4, .bool false),(13, .int .i64 ((a:Nat):Int)),(12, .int .i64 ((b.length:Nat):Int)),(0, .slice m b.length y),(1, .slice n f.length c1)] _ _
 obtain⟨t,S,j⟩:=h.1 C
 refine sr (Kz (.bool (decide (((a:Nat):Int) < ((b.length:Nat):Int)))) (nt (ze ?_)))
 by_cases E:((a:Nat):Int) < ((b.length:Nat):Int)
 obtain⟨c,p⟩:=eH (ls:=b) (i:=a) aH.len (by decide) (t.ro s) (by first | omega | (simp; done) | (simp; omega))
 have r:=drop_at p
 refine jT (dT E) (sk (ze (bo (sr (Mz rfl (An rfl (ze ?_)))))))
 have k:=t.drew
 refine zX [] (fun W=> ∃ L',Own w D W ([]++L')) (by kernel_rfl) (by kernel_rfl) (zG (cK.block (zG (zG (cK.block (zG z8)))))) ⟨_,k⟩ ?_
 revert k
 generalize World.drew M=V
 intro k
 refine GX.take (v:= .slice m b.length y) (rs:= []) 0 rfl (by kernel_rfl) (fun _ _=>zo rfl) (GX.take (v:= .int .i64 ((a:Nat):Int)) (rs:= []) 1 rfl (by kernel_rfl) (fun _ _=>zo rfl) (GX.take (v:= .pointer (some ⟨ab m,ao m+a *2,none⟩)) (rs:= []) 2 rfl (by kernel_rfl) (fun _ ⟨_,x⟩=>zn (mF) rfl rfl ((x.ro s).addr (i:=a) (by omega)) (by omega)) (GX.take (v:= .agg (aH.cells c).toArray) (rs:= []) 3 rfl (by kernel_rfl) (fun _ ⟨_,x⟩=>zi rfl (zD (cs:=(aH.cells c)) Tryz.isAgg54 Tryz.sizeOf54 ((x.ro s).elem aH.len p (by decide)))) (GX.take (v:= .slice n f.length c1) (rs:= []) 4 rfl (by kernel_rfl) (fun _ _=>zo rfl) (GX.take (v:= .int .i64 ((a:Nat):Int)) (rs:= []) 5 rfl (by kernel_rfl) (fun _ _=>zo rfl) ?_)))))
 obtain⟨d,l⟩:=lC (ls:=f) (i:=a) (by first | omega | (simp; done) | (simp; omega))
 refine GX.take (v:= .pointer (some ⟨ab n,ao n+a *2,none⟩)) (rs:= []) 6 rfl (by kernel_rfl) (fun _ ⟨_,x⟩=>zn (mF) rfl rfl ((x.ro z).addr (i:=a) (by omega)) (by omega)) (GX.take (v:= .agg (aH.cells d).toArray) (rs:= []) 7 rfl (by kernel_rfl) (fun _ ⟨_,x⟩=>zi rfl (zD (cs:=(aH.cells d)) Tryz.isAgg54 Tryz.sizeOf54 ((x.ro z).elem aH.len l (by decide)))) (GX.take (v:= .bool (decide (¬ ((c.aJ=d.aJ)∧(c.fI=d.fI))))) (rs:= []) 8 rfl (by kernel_rfl) (fun _ _=>zF (e:= !(decide ((c.aJ=d.aJ)∧(c.fI=d.fI)))) (Ac rfl rfl (by kernel_rfl) rfl (eY.struct Tryz.underlying54 (by kernel_rfl) (Ab (dP.cons (u:= .string ⟨List.toArray c.aJ⟩) (v:= .string ⟨List.toArray d.aJ⟩) (by decide) (fun _=>by kernel_rfl) (fun _=>by kernel_rfl) (eY.string Tryz.underlying9) (dP.cons (u:= .int .i64 c.fI) (v:= .int .i64 d.fI) (by decide) (fun _=>by kernel_rfl) (fun _=>by kernel_rfl) (eY.int Tryz.underlying3) (dP.nil.up (Cc _)))) ((congrArg (decide (c.aJ=d.aJ) && ·) jg).trans dM)))) decide_not.symm) (zT (by kernel_rfl) (zu ?_))))
 by_cases o:(c.aJ=d.aJ)∧(c.fI=d.fI)
 refine jF (dF (Ce o)) (zS (bN (zu (zb (fw (.int .i64 ((a+1:Nat):Int)) (zy (e:=IntKind.i64.wrap (((a:Nat):Int)+1)) yk (by rw [Cb _ (by omega)]; omega)) (Mz rfl (zq ?_)))))))
 have N:=k.pk []
 exact zH (a+1) ⟨rfl,rfl,rfl,rfl,rfl,trivial⟩ (h.2 ⟨N,by omega,et (j) (et (congrArg (fun q=>iL f q a) r) (et (ae (bJ l)) (ip o)))⟩) (by show b.length - (a+1) < b.length - a; omega)
 refine jT (dT o) (sr (An rfl (rt (bR (tR (tR (bR (tR (rs ?_)))))))))
 have O:=k.pk []
 obtain rfl:_=false:=hr.symm.trans (et (ip g) (fE (et (j) (et (congrArg (fun q=>iL f q a) r) (et (ae (bJ l)) (iN o))))))
 exact⟨rfl,O⟩
 refine jF (dF E) (Wp.exit (zk ?_))
 have F:iL f b 0=Sum.inl ():=et (j) (et (congrArg (fun q=>iL f q a) (eF (ls:=b) (i:=a) (by omega))) rfl)
 refine zk (zA (zu (sr (An rfl (rt (rs ?_))))))
 have P:=t.pk []
 obtain rfl:_=true:=hr.symm.trans (et (ip g) (gL F))
 exact⟨rfl,P⟩
 refine jT (dT g) (sr (An rfl (rt (tR (rs ?_)))))
 have Q:Own w D w []:=H.pk []
 obtain rfl:_=false:=hr.symm.trans (iN g)
 exact⟨rfl,Q⟩
def fM (f:bP) (p1:bP):List fK→Nat→Unit ⊕ Bool
  | [],b=>Sum.inl ()
  | c::e,b=>bnd (List.getD p1.aD.ls b default) fun a=>if((c.aS:Nat):Int)=((a.aS:Nat):Int) then bnd (kV c.aL.ls a.aL.ls) fun d=>if d=true then fM f p1 e (b+1) else Sum.inr (false) else Sum.inr (false)
def gz (p1:bP):List Nat→Nat→Unit ⊕ Bool
  | [],a=>Sum.inl ()
  | c::d,a=>bnd (List.getD p1.aj.ls a default) fun b=>if((c:Nat):Int)=((b:Nat):Int) then gz p1 d (a+1) else Sum.inr (false)
def jd (a:bP) (p1:bP):Bool:=
 if a.iw=p1.iw then if((a.au:Nat):Int)=((p1.au:Nat):Int) then if((a.aY:Nat):Int)=((p1.aY:Nat):Int) then if((a.aK:Nat):Int)=((p1.aK:Nat):Int) then if((a.bg:Nat):Int)=((p1.bg:Nat):Int) then bnd (kZ a.ag.ls p1.ag.ls) fun b=>if b=true then if((a.aD.ls.length:Nat):Int)=((p1.aD.ls.length:Nat):Int) then if((a.aj.ls.length:Nat):Int)=((p1.aj.ls.length:Nat):Int) then if((a.gU:Nat):Int)=((p1.gU:Nat):Int) then if((a.cu:Nat):Int)=((p1.cu:Nat):Int) then if(a.aZ.aJ=p1.aZ.aJ)∧(a.aZ.aN=p1.aZ.aN) then if(((a.aT.bg:Nat):Int)=((p1.aT.bg:Nat):Int))∧(((a.aT.bv:Nat):Int)=((p1.aT.bv:Nat):Int))∧(((a.aT.cz:Nat):Int)=((p1.aT.cz:Nat):Int))∧((a.aT.aO.aJ=p1.aT.aO.aJ)∧(a.aT.aO.aN=p1.aT.aO.aN)) then lp (fM a p1 a.aD.ls 0) fun _=>lp (gz p1 a.aj.ls 0) fun _=>true else false else false else false else false else false else false else false else false else false else false else false else false
set_option maxHeartbeats 4000000 in
theorem pW (w:World) (D:Nat→Prop) (a:bP) (J:Option Addr) (aU K:Nat) (d:Option Addr) (aV B:Nat) (aj:List aP) (z:Option Addr) (aX E:Nat) (p1:bP) (L:Option Addr) (aY M:Nat) (f:Option Addr) (aZ F:Nat) (ak:List aP) (C:Option Addr) (bg N:Nat) (r0:Bool) (H:Own w D w []) (bv:aU=a.ag.ls.length) (bz:Ro w D fun w'=>bn w' 2 J a.ag.ls.length (List.flatMap aH.cells a.ag.ls)) (dN:a.ag.ls.length≤K∧a.ag.ls.length≤9223372036854775807) (az:List.map zV aj=a.aD.ls) (bA:aV=a.aD.ls.length) (X:Ro w D fun w'=>bn w' 2 d a.aD.ls.length (List.flatMap aP.cells aj)) (dO:a.aD.ls.length≤B∧a.aD.ls.length≤9223372036854775807) (aA:∀ x ∈ aj,Ro w D (fun w'=>bn w' 6 x.aL.A x.aL.ls.length (List.flatMap aW.cells x.aL.ls))∧(x.aL.ls.length≤x.aL.c∧x.aL.ls.length≤9223372036854775807)) (bB:aX=a.aj.ls.length) (ag:Ro w D fun w'=>bn w' 1 z a.aj.ls.length (List.flatMap (eN .u64) a.aj.ls)) (dQ:a.aj.ls.length≤E∧a.aj.ls.length≤9223372036854775807) (bC:aY=p1.ag.ls.length) (bD:Ro w D fun w'=>bn w' 2 L p1.ag.ls.length (List.flatMap aH.cells p1.ag.ls)) (dR:p1.ag.ls.length≤M∧p1.ag.ls.length≤9223372036854775807) (aB:List.map zV ak=p1.aD.ls) (bE:aZ=p1.aD.ls.length) (Y:Ro w D fun w'=>bn w' 2 f p1.aD.ls.length (List.flatMap aP.cells ak)) (dS:p1.aD.ls.length≤F∧p1.aD.ls.length≤9223372036854775807) (aC:∀ x ∈ ak,Ro w D (fun w'=>bn w' 6 x.aL.A x.aL.ls.length (List.flatMap aW.cells x.aL.ls))∧(x.aL.ls.length≤x.aL.c∧x.aL.ls.length≤9223372036854775807)) (bF:bg=p1.aj.ls.length) (aD:Ro w D fun w'=>bn w' 1 C p1.aj.ls.length (List.flatMap (eN .u64) p1.aj.ls)) (dU:p1.aj.ls.length≤N∧p1.aj.ls.length≤9223372036854775807) (hr:jd a p1=r0):
    Calls Tryz.prog 16 #[.agg (bM a.iw a.au a.aY a.aK a.bg J aU K d aV B z aX E a.gU a.cu a.aZ.aJ a.aZ.aN a.aT.bg a.aT.bv a.aT.cz a.aT.aO.aJ a.aT.aO.aN).toArray, .agg (bM p1.iw p1.au p1.aY p1.aK p1.bg L aY M f aZ F C bg N p1.gU p1.cu p1.aZ.aJ p1.aZ.aN p1.aT.bg p1.aT.bv p1.aT.cz p1.aT.aO.aJ p1.aT.aO.aN).toArray] w (dE fun v w'=>v= .bool r0∧Own w D w' []):=by
 subst bv bA bB bC bE bF
 have hdl0x1:=bS az
 have hdl1x1:=bS aB
 refine zg (args:= [.agg (bQ a J K d B z E).toArray, .agg (bQ p1 L M f F C N).toArray]) Tryz.func16 rfl rfl rfl ?_
 show Wp _ _ _ [(0, .agg (bQ a J K d B z E).toArray),(1, .agg (bQ p1 L M f F C N).toArray)] _ _
 refine sr ?_
 refine dC (bQ a J K d B z E) 31 H ?_
 intro l eX dV
 refine dC (bQ p1 L M f F C N) 31 dV ?_
 intro s eZ R
 refine An rfl (ze (sr (Kz (.pointer (some ⟨l,0,none⟩)) (Lz (.int .i64 a.iw) R 1 Tryz.isAgg3 (Kz (.pointer (some ⟨s,0,none⟩)) (Lz (.int .i64 p1.iw) R 0 Tryz.isAgg3 (fw (.bool (decide (¬ (a.iw=p1.iw)))) (zF (e:= !(decide (a.iw=p1.iw))) yk decide_not.symm) (Mz rfl ?_))))))))
 by_cases h:a.iw=p1.iw
 refine gw (.pointer (some ⟨l,1,none⟩)) (dF (Ce h)) yk (gw (.int .u64 ((a.au:Nat):Int)) (dF (Ce h)) (zi rfl (bf.one Tryz.isAgg22 (zJ (R.cls (i:=1) rfl) rfl))) (gw (.pointer (some ⟨s,1,none⟩)) (dF (Ce h)) yk (gw (.int .u64 ((p1.au:Nat):Int)) (dF (Ce h)) (zi rfl (bf.one Tryz.isAgg22 (zJ (R.cls (i:=0) rfl) rfl))) (gw (.bool (decide (¬ (((a.au:Nat):Int)=((p1.au:Nat):Int))))) (dF (Ce h)) (zF (e:= !(decide (((a.au:Nat):Int)=((p1.au:Nat):Int)))) yk decide_not.symm) (fw (.bool (decide (¬ (((a.au:Nat):Int)=((p1.au:Nat):Int))))) (zh rfl (dF (Ce h)) rfl) (Mz rfl ?_))))))
 by_cases n:((a.au:Nat):Int)=((p1.au:Nat):Int)
 refine gw (.pointer (some ⟨l,2,none⟩)) (dF (Ce n)) yk (gw (.int .u64 ((a.aY:Nat):Int)) (dF (Ce n)) (zi rfl (bf.one Tryz.isAgg22 (zJ (R.cls (i:=1) rfl) rfl))) (gw (.pointer (some ⟨s,2,none⟩)) (dF (Ce n)) yk (gw (.int .u64 ((p1.aY:Nat):Int)) (dF (Ce n)) (zi rfl (bf.one Tryz.isAgg22 (zJ (R.cls (i:=0) rfl) rfl))) (gw (.bool (decide (¬ (((a.aY:Nat):Int)=((p1.aY:Nat):Int))))) (dF (Ce n)) (zF (e:= !(decide (((a.aY:Nat):Int)=((p1.aY:Nat):Int)))) yk decide_not.symm) (fw (.bool (decide (¬ (((a.aY:Nat):Int)=((p1.aY:Nat):Int))))) (zh rfl (dF (Ce n)) rfl) (Mz rfl ?_))))))
 by_cases o:((a.aY:Nat):Int)=((p1.aY:Nat):Int)
 refine gw (.pointer (some ⟨l,3,none⟩)) (dF (Ce o)) yk (gw (.int .u64 ((a.aK:Nat):Int)) (dF (Ce o)) (zi rfl (bf.one Tryz.isAgg22 (zJ (R.cls (i:=1) rfl) rfl))) (gw (.pointer (some ⟨s,3,none⟩)) (dF (Ce o)) yk (gw (.int .u64 ((p1.aK:Nat):Int)) (dF (Ce o)) (zi rfl (bf.one Tryz.isAgg22 (zJ (R.cls (i:=0) rfl) rfl))) (gw (.bool (decide (¬ (((a.aK:Nat):Int)=((p1.aK:Nat):Int))))) (dF (Ce o)) (zF (e:= !(decide (((a.aK:Nat):Int)=((p1.aK:Nat):Int)))) yk decide_not.symm) (fw (.bool (decide (¬ (((a.aK:Nat):Int)=((p1.aK:Nat):Int))))) (zh rfl (dF (Ce o)) rfl) (Mz rfl ?_))))))
 by_cases t:((a.aK:Nat):Int)=((p1.aK:Nat):Int)
 refine gw (.pointer (some ⟨l,4,none⟩)) (dF (Ce t)) yk (gw (.int .u64 ((a.bg:Nat):Int)) (dF (Ce t)) (zi rfl (bf.one Tryz.isAgg22 (zJ (R.cls (i:=1) rfl) rfl))) (gw (.pointer (some ⟨s,4,none⟩)) (dF (Ce t)) yk (gw (.int .u64 ((p1.bg:Nat):Int)) (dF (Ce t)) (zi rfl (bf.one Tryz.isAgg22 (zJ (R.cls (i:=0) rfl) rfl))) (gw (.bool (decide (¬ (((a.bg:Nat):Int)=((p1.bg:Nat):Int))))) (dF (Ce t)) (zF (e:= !(decide (((a.bg:Nat):Int)=((p1.bg:Nat):Int)))) yk decide_not.symm) (fw (.bool (decide (¬ (((a.bg:Nat):Int)=((p1.bg:Nat):Int))))) (zh rfl (dF (Ce t)) rfl) (Mz rfl ?_))))))
 by_cases p:((a.bg:Nat):Int)=((p1.bg:Nat):Int)
 refine gw (.pointer (some ⟨l,5,none⟩)) (dF (Ce p)) yk (gw (.slice J a.ag.ls.length K) (dF (Ce p)) (zi rfl (bf.one Tryz.isAgg23 (zJ (R.cls (i:=1) rfl) rfl))) (gw (.pointer (some ⟨s,5,none⟩)) (dF (Ce p)) yk (gw (.slice L p1.ag.ls.length M) (dF (Ce p)) (zi rfl (bf.one Tryz.isAgg23 (zJ (R.cls (i:=0) rfl) rfl))) ?_)))
 obtain⟨aR,Q⟩:∃ q,kZ a.ag.ls p1.ag.ls=q:=⟨_,rfl⟩
 obtain⟨fe,bL,bi,bO,eB⟩:=zt R
 refine mg (dF (Ce p)) Tryz.call61 (pJ _ _ J a.ag.ls.length K a.ag.ls L p1.ag.ls.length M p1.ag.ls aR bL (bi _ bz) rfl (by omega) (bi _ bD) rfl (by omega) Q) ?_
 rintro _ fo ⟨rfl,bT⟩
 have G:=bO _ _ bT
 refine gw (.bool (!aR)) (dF (Ce p)) yk (fw (.bool (!aR)) (zh rfl (dF (Ce p)) rfl) (Mz rfl ?_))
 rcases Cf (aR) with j | j
 refine Gz (.pointer (some ⟨l,6,none⟩)) (cn j) (Gl (.slice d a.aD.ls.length B) (cn j) G 1 Tryz.isAgg24 (Gz (.int .i64 ((a.aD.ls.length:Nat):Int)) (cn j) (Gz (.pointer (some ⟨s,6,none⟩)) (cn j) (Gl (.slice f p1.aD.ls.length F) (cn j) G 0 Tryz.isAgg24 (Gz (.int .i64 ((p1.aD.ls.length:Nat):Int)) (cn j) (gw (.bool (decide (¬ (((a.aD.ls.length:Nat):Int)=((p1.aD.ls.length:Nat):Int))))) (cn j) (zF (e:= !(decide (((a.aD.ls.length:Nat):Int)=((p1.aD.ls.length:Nat):Int)))) yk decide_not.symm) (fw (.bool (decide (¬ (((a.aD.ls.length:Nat):Int)=((p1.aD.ls.length:Nat):Int))))) (zh rfl (cn j) rfl) (Mz rfl ?_))))))))
 by_cases r:((a.aD.ls.length:Nat):Int)=((p1.aD.ls.length:Nat):Int)
 refine gw (.pointer (some ⟨l,7,none⟩)) (dF (Ce r)) yk (gw (.slice z a.aj.ls.length E) (dF (Ce r)) (zi rfl (bf.one Tryz.isAgg25 (zJ (G.cls (i:=1) rfl) rfl))) (gw (.int .i64 ((a.aj.ls.length:Nat):Int)) (dF (Ce r)) yk (gw (.pointer (some ⟨s,7,none⟩)) (dF (Ce r)) yk (gw (.slice C p1.aj.ls.length N) (dF (Ce r)) (zi rfl (bf.one Tryz.isAgg25 (zJ (G.cls (i:=0) rfl) rfl))) (gw (.int .i64 ((p1.aj.ls.length:Nat):Int)) (dF (Ce r)) yk (gw (.bool (decide (¬ (((a.aj.ls.length:Nat):Int)=((p1.aj.ls.length:Nat):Int))))) (dF (Ce r)) (zF (e:= !(decide (((a.aj.ls.length:Nat):Int)=((p1.aj.ls.length:Nat):Int)))) yk decide_not.symm) (fw (.bool (decide (¬ (((a.aj.ls.length:Nat):Int)=((p1.aj.ls.length:Nat):Int))))) (zh rfl (dF (Ce r)) rfl) (Mz rfl ?_))))))))
 by_cases I:((a.aj.ls.length:Nat):Int)=((p1.aj.ls.length:Nat):Int)
 refine gw (.pointer (some ⟨l,8,none⟩)) (dF (Ce I)) yk (gw (.int .u64 ((a.gU:Nat):Int)) (dF (Ce I)) (zi rfl (bf.one Tryz.isAgg22 (zJ (G.cls (i:=1) rfl) rfl))) (gw (.pointer (some ⟨s,8,none⟩)) (dF (Ce I)) yk (gw (.int .u64 ((p1.gU:Nat):Int)) (dF (Ce I)) (zi rfl (bf.one Tryz.isAgg22 (zJ (G.cls (i:=0) rfl) rfl))) (gw (.bool (decide (¬ (((a.gU:Nat):Int)=((p1.gU:Nat):Int))))) (dF (Ce I)) (zF (e:= !(decide (((a.gU:Nat):Int)=((p1.gU:Nat):Int)))) yk decide_not.symm) (fw (.bool (decide (¬ (((a.gU:Nat):Int)=((p1.gU:Nat):Int))))) (zh rfl (dF (Ce I)) rfl) (Mz rfl ?_))))))
 by_cases O:((a.gU:Nat):Int)=((p1.gU:Nat):Int)
 refine gw (.pointer (some ⟨l,9,none⟩)) (dF (Ce O)) yk (gw (.int .u64 ((a.cu:Nat):Int)) (dF (Ce O)) (zi rfl (bf.one Tryz.isAgg22 (zJ (G.cls (i:=1) rfl) rfl))) (gw (.pointer (some ⟨s,9,none⟩)) (dF (Ce O)) yk (gw (.int .u64 ((p1.cu:Nat):Int)) (dF (Ce O)) (zi rfl (bf.one Tryz.isAgg22 (zJ (G.cls (i:=0) rfl) rfl))) (gw (.bool (decide (¬ (((a.cu:Nat):Int)=((p1.cu:Nat):Int))))) (dF (Ce O)) (zF (e:= !(decide (((a.cu:Nat):Int)=((p1.cu:Nat):Int)))) yk decide_not.symm) (fw (.bool (decide (¬ (((a.cu:Nat):Int)=((p1.cu:Nat):Int))))) (zh rfl (dF (Ce O)) rfl) (Mz rfl ?_))))))
 by_cases P:((a.cu:Nat):Int)=((p1.cu:Nat):Int)
 refine gw (.pointer (some ⟨l,10,none⟩)) (dF (Ce P)) yk (gw (.agg (bI.cells a.aZ).toArray) (dF (Ce P)) (zi rfl (zD (cs:=(bI.cells a.aZ)) Tryz.isAgg27 Tryz.sizeOf27 ((G.cls (i:=1) rfl).lit (k:=10) (m:=2) rfl))) (gw (.pointer (some ⟨s,10,none⟩)) (dF (Ce P)) yk (gw (.agg (bI.cells p1.aZ).toArray) (dF (Ce P)) (zi rfl (zD (cs:=(bI.cells p1.aZ)) Tryz.isAgg27 Tryz.sizeOf27 ((G.cls (i:=0) rfl).lit (k:=10) (m:=2) rfl))) (gw (.bool (decide (¬ ((a.aZ.aJ=p1.aZ.aJ)∧(a.aZ.aN=p1.aZ.aN))))) (dF (Ce P)) (zF (e:= !(decide ((a.aZ.aJ=p1.aZ.aJ)∧(a.aZ.aN=p1.aZ.aN)))) (Ac rfl rfl (by kernel_rfl) rfl (eY.struct Tryz.underlying27 (by kernel_rfl) (Ab (dP.cons (u:= .string ⟨List.toArray a.aZ.aJ⟩) (v:= .string ⟨List.toArray p1.aZ.aJ⟩) (by decide) (fun _=>by kernel_rfl) (fun _=>by kernel_rfl) (eY.string Tryz.underlying9) (dP.cons (u:= .string ⟨List.toArray a.aZ.aN⟩) (v:= .string ⟨List.toArray p1.aZ.aN⟩) (by decide) (fun _=>by kernel_rfl) (fun _=>by kernel_rfl) (eY.string Tryz.underlying9) (dP.nil.up (Cc _)))) ((congrArg (decide (a.aZ.aJ=p1.aZ.aJ) && ·) jg).trans dM)))) decide_not.symm) (fw (.bool (decide (¬ ((a.aZ.aJ=p1.aZ.aJ)∧(a.aZ.aN=p1.aZ.aN))))) (zh rfl (dF (Ce P)) rfl) (Mz rfl ?_))))))
 by_cases S:(a.aZ.aJ=p1.aZ.aJ)∧(a.aZ.aN=p1.aZ.aN)
 refine gw (.pointer (some ⟨l,12,none⟩)) (dF (Ce S)) yk (gw (.agg (eU.cells a.aT).toArray) (dF (Ce S)) (zi rfl (zD (cs:=(eU.cells a.aT)) Tryz.isAgg29 Tryz.sizeOf29 ((G.cls (i:=1) rfl).lit (k:=12) (m:=5) rfl))) (gw (.pointer (some ⟨s,12,none⟩)) (dF (Ce S)) yk (gw (.agg (eU.cells p1.aT).toArray) (dF (Ce S)) (zi rfl (zD (cs:=(eU.cells p1.aT)) Tryz.isAgg29 Tryz.sizeOf29 ((G.cls (i:=0) rfl).lit (k:=12) (m:=5) rfl))) (gw (.bool (decide (¬ ((((a.aT.bg:Nat):Int)=((p1.aT.bg:Nat):Int))∧(((a.aT.bv:Nat):Int)=((p1.aT.bv:Nat):Int))∧(((a.aT.cz:Nat):Int)=((p1.aT.cz:Nat):Int))∧((a.aT.aO.aJ=p1.aT.aO.aJ)∧(a.aT.aO.aN=p1.aT.aO.aN)))))) (dF (Ce S)) (zF (e:= !(decide ((((a.aT.bg:Nat):Int)=((p1.aT.bg:Nat):Int))∧(((a.aT.bv:Nat):Int)=((p1.aT.bv:Nat):Int))∧(((a.aT.cz:Nat):Int)=((p1.aT.cz:Nat):Int))∧((a.aT.aO.aJ=p1.aT.aO.aJ)∧(a.aT.aO.aN=p1.aT.aO.aN))))) (Ac rfl rfl (by kernel_rfl) rfl (eY.struct Tryz.underlying29 (by kernel_rfl) (Ab (dP.cons (u:= .int .u64 ((a.aT.bg:Nat):Int)) (v:= .int .u64 ((p1.aT.bg:Nat):Int)) (by decide) (fun _=>by kernel_rfl) (fun _=>by kernel_rfl) ((eY.int Tryz.underlying22).up (by decide)) (dP.cons (u:= .int .u64 ((a.aT.bv:Nat):Int)) (v:= .int .u64 ((p1.aT.bv:Nat):Int)) (by decide) (fun _=>by kernel_rfl) (fun _=>by kernel_rfl) ((eY.int Tryz.underlying22).up (by decide)) (dP.cons (u:= .int .u64 ((a.aT.cz:Nat):Int)) (v:= .int .u64 ((p1.aT.cz:Nat):Int)) (by decide) (fun _=>by kernel_rfl) (fun _=>by kernel_rfl) ((eY.int Tryz.underlying22).up (by decide)) (dP.cons (u:= .agg (bI.cells a.aT.aO).toArray) (v:= .agg (bI.cells p1.aT.aO).toArray) (by decide) (fun _=>by kernel_rfl) (fun _=>by kernel_rfl) (eY.struct Tryz.underlying27 (by kernel_rfl) (Ab (dP.cons (u:= .string ⟨List.toArray a.aT.aO.aJ⟩) (v:= .string ⟨List.toArray p1.aT.aO.aJ⟩) (by decide) (fun _=>by kernel_rfl) (fun _=>by kernel_rfl) (eY.string Tryz.underlying9) (dP.cons (u:= .string ⟨List.toArray a.aT.aO.aN⟩) (v:= .string ⟨List.toArray p1.aT.aO.aN⟩) (by decide) (fun _=>by kernel_rfl) (fun _=>by kernel_rfl) (eY.string Tryz.underlying9) (dP.nil.up (Cc _)))) ((congrArg (decide (a.aT.aO.aJ=p1.aT.aO.aJ) && ·) jg).trans dM))) (dP.nil.up (Cc _)))))) ((congrArg (decide (((a.aT.bg:Nat):Int)=((p1.aT.bg:Nat):Int)) && ·) ((congrArg (decide (((a.aT.bv:Nat):Int)=((p1.aT.bv:Nat):Int)) && ·) ((congrArg (decide (((a.aT.cz:Nat):Int)=((p1.aT.cz:Nat):Int)) && ·) jg).trans dM)).trans dM)).trans dM)))) decide_not.symm) (fw (.bool (decide (¬ ((((a.aT.bg:Nat):Int)=((p1.aT.bg:Nat):Int))∧(((a.aT.bv:Nat):Int)=((p1.aT.bv:Nat):Int))∧(((a.aT.cz:Nat):Int)=((p1.aT.cz:Nat):Int))∧((a.aT.aO.aJ=p1.aT.aO.aJ)∧(a.aT.aO.aN=p1.aT.aO.aN)))))) (zh rfl (dF (Ce S)) rfl) (nt ?_))))))
 by_cases ah:(((a.aT.bg:Nat):Int)=((p1.aT.bg:Nat):Int))∧(((a.aT.bv:Nat):Int)=((p1.aT.bv:Nat):Int))∧(((a.aT.cz:Nat):Int)=((p1.aT.cz:Nat):Int))∧((a.aT.aO.aJ=p1.aT.aO.aJ)∧(a.aT.aO.aN=p1.aT.aO.aN))
 refine jF (dF (Ce ah)) (sk (ze (sr (Kz (.pointer (some ⟨l,6,none⟩)) (Lz (.slice d a.aD.ls.length B) G 1 Tryz.isAgg24 (Kz (.int .i64 ((a.aD.ls.length:Nat):Int)) (Mn rfl (bo ?_))))))))
 have dW:=G.pk [0,1]
 obtain⟨bU,bV⟩:∃ q:Nat→World→Prop,q=fun(i:Nat) w'=>Own w D w' [blk s (bQ p1 L M f F C N) 31,blk l (bQ a J K d B z E) 31]∧(i≤a.aD.ls.length∧fM a p1 a.aD.ls 0=fM a p1 (List.drop i a.aD.ls) i):=⟨_,rfl⟩
 have aF:∀ {b:Nat} {w':World},bU b w'↔Own w D w' [blk s (bQ p1 L M f F C N) 31,blk l (bQ a J K d B z E) 31]∧b≤a.aD.ls.length∧fM a p1 a.aD.ls 0=fM a p1 (List.drop b a.aD.ls) b:=by intros; subst bV; exact Iff.rfl
 refine Wp.loop (fun i:Nat=> [(4, .bool false),(97, .int .i64 ((i:Nat):Int)),(96, .int .i64 ((a.aD.ls.length:Nat):Int)),(3, .pointer (some ⟨s,0,none⟩)),(2, .pointer (some ⟨l,0,none⟩))]) bU (fun i=>a.aD.ls.length - i) 0 ⟨rfl,rfl,rfl,rfl,rfl,trivial⟩ (aF.2 ⟨dW,by omega,rfl⟩) ?_
 rintro b dX bW
 show Wp _ _ _ [(4, .bool false),(97, .int .i64 ((b:Nat):Int)),(96, .int .i64 ((a.aD.ls.length:Nat):Int)),(3, .pointer (some ⟨s,0,none⟩)),(2, .pointer (some ⟨l,0,none⟩))] _ _
 obtain⟨aS,eD,au⟩:=aF.1 bW
 refine sr (Kz (.bool (decide (((b:Nat):Int) < ((a.aD.ls.length:Nat):Int)))) (nt (ze ?_)))
 by_cases bX:((b:Nat):Int) < ((a.aD.ls.length:Nat):Int)
 obtain⟨U,Z⟩:=eH (ls:=aj) (i:=b) aP.len (by decide) (aS.ro X) (by first | omega | (simp; done) | (simp; omega))
 have bY:=iY az Z
 have eG:=(aA _ (List.mem_of_getElem? Z)).2
 have aG:=drop_at bY
 refine jT (dT bX) (sk (ze (bo (sr (Mz rfl (An rfl (ze ?_)))))))
 have aI:=aS.drew
 refine zX [] (fun W=> ∃ L',Own w D W ([blk s (bQ p1 L M f F C N) 31,blk l (bQ a J K d B z E) 31]++L')) (by kernel_rfl) (by kernel_rfl) (zG (cK.block (zG (zG (cK.block (zG z8)))))) ⟨_,aI⟩ ?_
 revert aI
 generalize World.drew dX=fq
 intro aI
 refine GX.take (v:= .pointer (some ⟨l,6,none⟩)) (rs:= []) 0 rfl (by kernel_rfl) (fun _ _=>yk) (GX.take (v:= .slice d a.aD.ls.length B) (rs:= []) 1 rfl (by kernel_rfl) (fun _ ⟨_,T⟩=>zi rfl (bf.one Tryz.isAgg24 (zJ (T.cls (i:=1) rfl) rfl))) (GX.take (v:= .int .i64 ((b:Nat):Int)) (rs:= []) 2 rfl (by kernel_rfl) (fun _ _=>zo rfl) (GX.take (v:= .pointer (some ⟨ab d,ao d+b *2,none⟩)) (rs:= []) 3 rfl (by kernel_rfl) (fun _ ⟨_,T⟩=>zn (nR) rfl rfl ((T.ro X).addr (i:=b) (by omega)) (by omega)) (GX.take (v:= .pointer (some ⟨ab d,ao d+b *2,none⟩)) (rs:= []) 4 rfl (by kernel_rfl) (fun _ _=>yk) (GX.take (v:= .int .u64 ((U.aS:Nat):Int)) (rs:= []) 5 rfl (by kernel_rfl) (fun _ ⟨_,T⟩=>zi rfl (bf.one Tryz.isAgg22 (((T.ro X).elem aP.len Z (by decide)).at_ (k:=0) rfl))) (GX.take (v:= .pointer (some ⟨s,6,none⟩)) (rs:= []) 6 rfl (by kernel_rfl) (fun _ _=>yk) (GX.take (v:= .slice f p1.aD.ls.length F) (rs:= []) 7 rfl (by kernel_rfl) (fun _ ⟨_,T⟩=>zi rfl (bf.one Tryz.isAgg24 (zJ (T.cls (i:=0) rfl) rfl))) (GX.take (v:= .int .i64 ((b:Nat):Int)) (rs:= []) 8 rfl (by kernel_rfl) (fun _ _=>zo rfl) ?_))))))))
 obtain⟨V,aa⟩:=lC (ls:=ak) (i:=b) (by first | omega | (simp; done) | (simp; omega))
 have aJ:=iY aB aa
 have eO:=(aC _ (List.mem_of_getElem? aa)).2
 refine GX.take (v:= .pointer (some ⟨ab f,ao f+b *2,none⟩)) (rs:= []) 9 rfl (by kernel_rfl) (fun _ ⟨_,T⟩=>zn (nR) rfl rfl ((T.ro Y).addr (i:=b) (by omega)) (by omega)) (GX.take (v:= .pointer (some ⟨ab f,ao f+b *2,none⟩)) (rs:= []) 10 rfl (by kernel_rfl) (fun _ _=>yk) (GX.take (v:= .int .u64 ((V.aS:Nat):Int)) (rs:= []) 11 rfl (by kernel_rfl) (fun _ ⟨_,T⟩=>zi rfl (bf.one Tryz.isAgg22 (((T.ro Y).elem aP.len aa (by decide)).at_ (k:=0) rfl))) (GX.take (v:= .bool (decide (¬ (((U.aS:Nat):Int)=((V.aS:Nat):Int))))) (rs:= []) 12 rfl (by kernel_rfl) (fun _ _=>zF (e:= !(decide (((U.aS:Nat):Int)=((V.aS:Nat):Int)))) yk decide_not.symm) (GX.take (v:= .bool (decide (¬ (((U.aS:Nat):Int)=((V.aS:Nat):Int))))) (rs:= []) 13 rfl (by kernel_rfl) (fun _ _=>zo rfl) ?_))))
 by_cases g:((U.aS:Nat):Int)=((V.aS:Nat):Int)
 refine zl (v:= .pointer (some ⟨l,6,none⟩)) (rs:= []) 14 rfl rfl rfl (dF (Ce g)) (by kernel_rfl) (fun _ _=>yk) (zl (v:= .slice d a.aD.ls.length B) (rs:= []) 15 rfl rfl rfl (dF (Ce g)) (by kernel_rfl) (fun _ ⟨_,T⟩=>zi rfl (bf.one Tryz.isAgg24 (zJ (T.cls (i:=1) rfl) rfl))) (zl (v:= .int .i64 ((b:Nat):Int)) (rs:= []) 16 rfl rfl rfl (dF (Ce g)) (by kernel_rfl) (fun _ _=>zo rfl) (zl (v:= .pointer (some ⟨ab d,ao d+b *2,none⟩)) (rs:= []) 17 rfl rfl rfl (dF (Ce g)) (by kernel_rfl) (fun _ ⟨_,T⟩=>zn (nR) rfl rfl ((T.ro X).addr (i:=b) (by omega)) (by omega)) (zl (v:= .pointer (some ⟨ab d,ao d+b *2+1,none⟩)) (rs:= []) 18 rfl rfl rfl (dF (Ce g)) (by kernel_rfl) (fun _ _=>yk) (zl (v:= .slice U.aL.A U.aL.ls.length U.aL.c) (rs:= []) 19 rfl rfl rfl (dF (Ce g)) (by kernel_rfl) (fun _ ⟨_,T⟩=>zi rfl (bf.one Tryz.isAgg64 (((T.ro X).elem aP.len Z (by decide)).at_ (k:=1) rfl))) (zl (v:= .pointer (some ⟨s,6,none⟩)) (rs:= []) 20 rfl rfl rfl (dF (Ce g)) (by kernel_rfl) (fun _ _=>yk) (zl (v:= .slice f p1.aD.ls.length F) (rs:= []) 21 rfl rfl rfl (dF (Ce g)) (by kernel_rfl) (fun _ ⟨_,T⟩=>zi rfl (bf.one Tryz.isAgg24 (zJ (T.cls (i:=0) rfl) rfl))) (zl (v:= .int .i64 ((b:Nat):Int)) (rs:= []) 22 rfl rfl rfl (dF (Ce g)) (by kernel_rfl) (fun _ _=>zo rfl) (zl (v:= .pointer (some ⟨ab f,ao f+b *2,none⟩)) (rs:= []) 23 rfl rfl rfl (dF (Ce g)) (by kernel_rfl) (fun _ ⟨_,T⟩=>zn (nR) rfl rfl ((T.ro Y).addr (i:=b) (by omega)) (by omega)) (zl (v:= .pointer (some ⟨ab f,ao f+b *2+1,none⟩)) (rs:= []) 24 rfl rfl rfl (dF (Ce g)) (by kernel_rfl) (fun _ _=>yk) (zl (v:= .slice V.aL.A V.aL.ls.length V.aL.c) (rs:= []) 25 rfl rfl rfl (dF (Ce g)) (by kernel_rfl) (fun _ ⟨_,T⟩=>zi rfl (bf.one Tryz.isAgg64 (((T.ro Y).elem aP.len aa (by decide)).at_ (k:=1) rfl))) ?_)))))))))))
 obtain⟨aT,aK⟩:∃ q,kV U.aL.ls V.aL.ls=q:=⟨_,rfl⟩
 obtain⟨fu,bZ,bq,cu,eP⟩:=zt aI
 refine Aj 26 rfl rfl rfl (dF (Ce g)) (by kernel_rfl) (zI Tryz.call62 rfl (qP _ _ U.aL.A U.aL.ls.length U.aL.c U.aL.ls V.aL.A V.aL.ls.length V.aL.c V.aL.ls aT bZ (bq _ (aA _ (List.mem_of_getElem? Z)).1) rfl (by omega) (bq _ (aC _ (List.mem_of_getElem? aa)).1) rfl (by omega) aK) ?_)
 rintro _ fA ⟨rfl,cz⟩
 have bG:=cu _ _ cz
 refine⟨.inr ⟨_,bG⟩, ?_⟩
 refine zl (v:= .bool (!aT)) (rs:= []) 27 rfl rfl rfl (dF (Ce g)) (by kernel_rfl) (fun _ _=>yk) (GX.take (v:= .bool (!aT)) (rs:= []) 28 rfl (by kernel_rfl) (fun _ _=>zh rfl (dF (Ce g)) rfl) (zT (by kernel_rfl) (zu ?_)))
 rcases Cf (aT) with aL | aL
 refine jF (cn aL) (zS (bN (zu (zb (fw (.int .i64 ((b+1:Nat):Int)) (zy (e:=IntKind.i64.wrap (((b:Nat):Int)+1)) yk (by rw [Cb _ (by omega)]; omega)) (Mz rfl (zq ?_)))))))
 have dY:=bG.pk [0,1]
 exact zH (b+1) ⟨rfl,rfl,rfl,rfl,rfl,trivial⟩ (aF.2 ⟨dY,by omega,et (au) (et (congrArg (fun q=>fM a p1 q b) aG) (et (ae (bJ aJ)) (et (ip g) (et (ae aK) (ip aL)))))⟩) (by show a.aD.ls.length - (b+1) < a.aD.ls.length - b; omega)
 refine jT (cn aL) (sr (An rfl (rt (bR (tR (tR (bR (tR (rs ?_)))))))))
 have dZ:=bG.pk []
 obtain rfl:_=false:=hr.symm.trans (et (ip h) (et (ip n) (et (ip o) (et (ip t) (et (ip p) (et (ae Q) (et (ip j) (et (ip r) (et (ip I) (et (ip O) (et (ip P) (et (ip S) (et (ip ah) (fE (et (au) (et (congrArg (fun q=>fM a p1 q b) aG) (et (ae (bJ aJ)) (et (ip g) (et (ae aK) (jV aL))))))))))))))))))))
 exact⟨rfl,dZ⟩
 refine zw (rs:= []) 14 rfl rfl rfl (dT g) (by kernel_rfl) (zw (rs:= []) 15 rfl rfl rfl (dT g) (by kernel_rfl) (zw (rs:= []) 16 rfl rfl rfl (dT g) (by kernel_rfl) (zw (rs:= []) 17 rfl rfl rfl (dT g) (by kernel_rfl) (zw (rs:= []) 18 rfl rfl rfl (dT g) (by kernel_rfl) (zw (rs:= []) 19 rfl rfl rfl (dT g) (by kernel_rfl) (zw (rs:= []) 20 rfl rfl rfl (dT g) (by kernel_rfl) (zw (rs:= []) 21 rfl rfl rfl (dT g) (by kernel_rfl) (zw (rs:= []) 22 rfl rfl rfl (dT g) (by kernel_rfl) (zw (rs:= []) 23 rfl rfl rfl (dT g) (by kernel_rfl) (zw (rs:= []) 24 rfl rfl rfl (dT g) (by kernel_rfl) (zw (rs:= []) 25 rfl rfl rfl (dT g) (by kernel_rfl) (zw (rs:= []) 26 rfl rfl rfl (dT g) (by kernel_rfl) (zw (rs:= []) 27 rfl rfl rfl (dT g) (by kernel_rfl) (GX.take (v:= .bool true) (rs:= []) 28 rfl (by kernel_rfl) (fun _ _=>zf rfl (dT g) rfl) (zT (by kernel_rfl) (zu (jt (sr (An rfl (rt (bR (tR (tR (bR (tR (rs ?_))))))))))))))))))))))))))
 have d9:=aI.pk []
 obtain rfl:_=false:=hr.symm.trans (et (ip h) (et (ip n) (et (ip o) (et (ip t) (et (ip p) (et (ae Q) (et (ip j) (et (ip r) (et (ip I) (et (ip O) (et (ip P) (et (ip S) (et (ip ah) (fE (et (au) (et (congrArg (fun q=>fM a p1 q b) aG) (et (ae (bJ aJ)) (iN g))))))))))))))))))
 exact⟨rfl,d9⟩
 refine jF (dF bX) (Wp.exit (zk ?_))
 have bu:fM a p1 a.aD.ls 0=Sum.inl ():=et (au) (et (congrArg (fun q=>fM a p1 q b) (eF (ls:=a.aD.ls) (i:=b) (by omega))) rfl)
 refine zk (zA (zu (ze (sr (Kz (.pointer (some ⟨l,7,none⟩)) (Lz (.slice z a.aj.ls.length E) aS 1 Tryz.isAgg25 (Kz (.int .i64 ((a.aj.ls.length:Nat):Int)) (Mn rfl (bo ?_)))))))))
 have ed:=aS.pk [0,1]
 obtain⟨cB,cO⟩:∃ q:Nat→World→Prop,q=fun(i:Nat) w'=>Own w D w' [blk s (bQ p1 L M f F C N) 31,blk l (bQ a J K d B z E) 31]∧(i≤a.aj.ls.length∧gz p1 a.aj.ls 0=gz p1 (List.drop i a.aj.ls) i):=⟨_,rfl⟩
 have aM:∀ {y:Nat} {w':World},cB y w'↔Own w D w' [blk s (bQ p1 L M f F C N) 31,blk l (bQ a J K d B z E) 31]∧y≤a.aj.ls.length∧gz p1 a.aj.ls 0=gz p1 (List.drop y a.aj.ls) y:=by intros; subst cO; exact Iff.rfl
 refine Wp.loop (fun i:Nat=> [(4, .bool false),(133, .int .i64 ((i:Nat):Int)),(132, .int .i64 ((a.aj.ls.length:Nat):Int)),(3, .pointer (some ⟨s,0,none⟩)),(2, .pointer (some ⟨l,0,none⟩))]) cB (fun i=>a.aj.ls.length - i) 0 ⟨rfl,rfl,rfl,rfl,rfl,trivial⟩ (aM.2 ⟨ed,by omega,rfl⟩) ?_
 rintro y ek cZ
 show Wp _ _ _ [(4, .bool false),(133, .int .i64 ((y:Nat):Int)),(132, .int .i64 ((a.aj.ls.length:Nat):Int)),(3, .pointer (some ⟨s,0,none⟩)),(2, .pointer (some ⟨l,0,none⟩))] _ _
 obtain⟨bH,eQ,aN⟩:=aM.1 cZ
 refine sr (Kz (.bool (decide (((y:Nat):Int) < ((a.aj.ls.length:Nat):Int)))) (nt (ze ?_)))
 by_cases df:((y:Nat):Int) < ((a.aj.ls.length:Nat):Int)
 obtain⟨av,aO⟩:=eH (ls:=a.aj.ls) (i:=y) ib (by decide) (bH.ro ag) (by first | omega | (simp; done) | (simp; omega))
 have aQ:=drop_at aO
 refine jT (dT df) (sk (ze (bo (sr (Mz rfl (An rfl (ze ?_)))))))
 have af:=bH.drew
 refine zX [] (fun W=> ∃ L',Own w D W ([blk s (bQ p1 L M f F C N) 31,blk l (bQ a J K d B z E) 31]++L')) (by kernel_rfl) (by kernel_rfl) (zG (cK.block (zG (zG (cK.block (zG z8)))))) ⟨_,af⟩ ?_
 revert af
 generalize World.drew ek=eT
 intro af
 refine GX.take (v:= .pointer (some ⟨l,7,none⟩)) (rs:= []) 0 rfl (by kernel_rfl) (fun _ _=>yk) (GX.take (v:= .slice z a.aj.ls.length E) (rs:= []) 1 rfl (by kernel_rfl) (fun _ ⟨_,T⟩=>zi rfl (bf.one Tryz.isAgg25 (zJ (T.cls (i:=1) rfl) rfl))) (GX.take (v:= .int .i64 ((y:Nat):Int)) (rs:= []) 2 rfl (by kernel_rfl) (fun _ _=>zo rfl) (GX.take (v:= .pointer (some ⟨ab z,ao z+y *1,none⟩)) (rs:= []) 3 rfl (by kernel_rfl) (fun _ ⟨_,T⟩=>zn (jR) rfl rfl ((T.ro ag).addr (i:=y) (by omega)) (by omega)) (GX.take (v:= .int .u64 ((av:Nat):Int)) (rs:= []) 4 rfl (by kernel_rfl) (fun _ ⟨_,T⟩=>zi rfl (bf.one Tryz.isAgg22 (((T.ro ag).elem ib aO (by decide)).at_ (k:=0) rfl))) (GX.take (v:= .pointer (some ⟨s,7,none⟩)) (rs:= []) 5 rfl (by kernel_rfl) (fun _ _=>yk) (GX.take (v:= .slice C p1.aj.ls.length N) (rs:= []) 6 rfl (by kernel_rfl) (fun _ ⟨_,T⟩=>zi rfl (bf.one Tryz.isAgg25 (zJ (T.cls (i:=0) rfl) rfl))) (GX.take (v:= .int .i64 ((y:Nat):Int)) (rs:= []) 7 rfl (by kernel_rfl) (fun _ _=>zo rfl) ?_)))))))
 obtain⟨ax,ai⟩:=lC (ls:=p1.aj.ls) (i:=y) (by first | omega | (simp; done) | (simp; omega))
 refine GX.take (v:= .pointer (some ⟨ab C,ao C+y *1,none⟩)) (rs:= []) 8 rfl (by kernel_rfl) (fun _ ⟨_,T⟩=>zn (jR) rfl rfl ((T.ro aD).addr (i:=y) (by omega)) (by omega)) (GX.take (v:= .int .u64 ((ax:Nat):Int)) (rs:= []) 9 rfl (by kernel_rfl) (fun _ ⟨_,T⟩=>zi rfl (bf.one Tryz.isAgg22 (((T.ro aD).elem ib ai (by decide)).at_ (k:=0) rfl))) (GX.take (v:= .bool (decide (¬ (((av:Nat):Int)=((ax:Nat):Int))))) (rs:= []) 10 rfl (by kernel_rfl) (fun _ _=>zF (e:= !(decide (((av:Nat):Int)=((ax:Nat):Int)))) yk decide_not.symm) (zT (by kernel_rfl) (zu ?_))))
 by_cases ay:((av:Nat):Int)=((ax:Nat):Int)
 refine jF (dF (Ce ay)) (zS (bN (zu (zb (fw (.int .i64 ((y+1:Nat):Int)) (zy (e:=IntKind.i64.wrap (((y:Nat):Int)+1)) yk (by rw [Cb _ (by omega)]; omega)) (Mz rfl (zq ?_)))))))
 have dh:=af.pk [0,1]
 exact zH (y+1) ⟨rfl,rfl,rfl,rfl,rfl,trivial⟩ (aM.2 ⟨dh,by omega,et (aN) (et (congrArg (fun q=>gz p1 q y) aQ) (et (ae (bJ ai)) (ip ay)))⟩) (by show a.aj.ls.length - (y+1) < a.aj.ls.length - y; omega)
 refine jT (dT ay) (sr (An rfl (rt (bR (tR (tR (bR (tR (rs ?_)))))))))
 have di:=af.pk []
 obtain rfl:_=false:=hr.symm.trans (et (ip h) (et (ip n) (et (ip o) (et (ip t) (et (ip p) (et (ae Q) (et (ip j) (et (ip r) (et (ip I) (et (ip O) (et (ip P) (et (ip S) (et (ip ah) (et (gL bu) (fE (et (aN) (et (congrArg (fun q=>gz p1 q y) aQ) (et (ae (bJ ai)) (iN ay)))))))))))))))))))
 exact⟨rfl,di⟩
 refine jF (dF df) (Wp.exit (zk ?_))
 have bK:gz p1 a.aj.ls 0=Sum.inl ():=et (aN) (et (congrArg (fun q=>gz p1 q y) (eF (ls:=a.aj.ls) (i:=y) (by omega))) rfl)
 refine zk (zA (zu (ze ?_)))
 have dm:=bH.pk []
 refine zb (An rfl (rt (rs ?_)))
 have dn:=dm.pk []
 obtain rfl:_=true:=hr.symm.trans (et (ip h) (et (ip n) (et (ip o) (et (ip t) (et (ip p) (et (ae Q) (et (ip j) (et (ip r) (et (ip I) (et (ip O) (et (ip P) (et (ip S) (et (ip ah) (et (gL bu) (gL bK)))))))))))))))
 exact⟨rfl,dn⟩
 refine jT (dT ah) (sr (An rfl (rt (tR (rs ?_)))))
 have dw:=G.pk []
 obtain rfl:_=false:=hr.symm.trans (et (ip h) (et (ip n) (et (ip o) (et (ip t) (et (ip p) (et (ae Q) (et (ip j) (et (ip r) (et (ip I) (et (ip O) (et (ip P) (et (ip S) (iN ah)))))))))))))
 exact⟨rfl,dw⟩
 refine Sz (dT S) (Sz (dT S) (Sz (dT S) (Sz (dT S) (Sz (dT S) (fw (.bool true) (zf rfl (dT S) rfl) (nt (jt (sr (An rfl (rt (tR (rs ?_))))))))))))
 have dx:=G.pk []
 obtain rfl:_=false:=hr.symm.trans (et (ip h) (et (ip n) (et (ip o) (et (ip t) (et (ip p) (et (ae Q) (et (ip j) (et (ip r) (et (ip I) (et (ip O) (et (ip P) (iN S))))))))))))
 exact⟨rfl,dx⟩
 refine Sz (dT P) (Sz (dT P) (Sz (dT P) (Sz (dT P) (Sz (dT P) (fw (.bool true) (zf rfl (dT P) rfl) (Mz rfl (Sz rfl (Sz rfl (Sz rfl (Sz rfl (Sz rfl (fw (.bool true) (zf rfl rfl rfl) (nt (jt (sr (An rfl (rt (tR (rs ?_)))))))))))))))))))
 have dz:=G.pk []
 obtain rfl:_=false:=hr.symm.trans (et (ip h) (et (ip n) (et (ip o) (et (ip t) (et (ip p) (et (ae Q) (et (ip j) (et (ip r) (et (ip I) (et (ip O) (iN P)))))))))))
 exact⟨rfl,dz⟩
 refine Sz (dT O) (Sz (dT O) (Sz (dT O) (Sz (dT O) (Sz (dT O) (fw (.bool true) (zf rfl (dT O) rfl) (Mz rfl (Sz rfl (Sz rfl (Sz rfl (Sz rfl (Sz rfl (fw (.bool true) (zf rfl rfl rfl) (Mz rfl (Sz rfl (Sz rfl (Sz rfl (Sz rfl (Sz rfl (fw (.bool true) (zf rfl rfl rfl) (nt (jt (sr (An rfl (rt (tR (rs ?_))))))))))))))))))))))))))
 have dA:=G.pk []
 obtain rfl:_=false:=hr.symm.trans (et (ip h) (et (ip n) (et (ip o) (et (ip t) (et (ip p) (et (ae Q) (et (ip j) (et (ip r) (et (ip I) (iN O))))))))))
 exact⟨rfl,dA⟩
 refine Sz (dT I) (Sz (dT I) (Sz (dT I) (Sz (dT I) (Sz (dT I) (fw (.bool true) (zf rfl (dT I) rfl) (Mz rfl (Sz rfl (Sz rfl (Sz rfl (Sz rfl (Sz rfl (fw (.bool true) (zf rfl rfl rfl) (Mz rfl (Sz rfl (Sz rfl (Sz rfl (Sz rfl (Sz rfl (fw (.bool true) (zf rfl rfl rfl) (Mz rfl (Sz rfl (Sz rfl (Sz rfl (Sz rfl (Sz rfl (fw (.bool true) (zf rfl rfl rfl) (nt (jt (sr (An rfl (rt (tR (rs ?_)))))))))))))))))))))))))))))))))
 have dB:=G.pk []
 obtain rfl:_=false:=hr.symm.trans (et (ip h) (et (ip n) (et (ip o) (et (ip t) (et (ip p) (et (ae Q) (et (ip j) (et (ip r) (iN I)))))))))
 exact⟨rfl,dB⟩
 refine Sz (dT r) (Sz (dT r) (Sz (dT r) (Sz (dT r) (Sz (dT r) (Sz (dT r) (Sz (dT r) (fw (.bool true) (zf rfl (dT r) rfl) (Mz rfl (Sz rfl (Sz rfl (Sz rfl (Sz rfl (Sz rfl (fw (.bool true) (zf rfl rfl rfl) (Mz rfl (Sz rfl (Sz rfl (Sz rfl (Sz rfl (Sz rfl (fw (.bool true) (zf rfl rfl rfl) (Mz rfl (Sz rfl (Sz rfl (Sz rfl (Sz rfl (Sz rfl (fw (.bool true) (zf rfl rfl rfl) (Mz rfl (Sz rfl (Sz rfl (Sz rfl (Sz rfl (Sz rfl (fw (.bool true) (zf rfl rfl rfl) (nt (jt (ze ?_))))))))))))))))))))))))))))))))))))))
 refine zb (An rfl (rt (tR (rs ?_))))
 have dD:=G.pk []
 obtain rfl:_=false:=hr.symm.trans (et (ip h) (et (ip n) (et (ip o) (et (ip t) (et (ip p) (et (ae Q) (et (ip j) (iN r))))))))
 exact⟨rfl,dD⟩
 refine Sz (cn j) (Sz (cn j) (Sz (cn j) (Sz (cn j) (Sz (cn j) (Sz (cn j) (Sz (cn j) (fw (.bool true) (zf rfl (cn j) rfl) (Mz rfl (Sz rfl (Sz rfl (Sz rfl (Sz rfl (Sz rfl (Sz rfl (Sz rfl (fw (.bool true) (zf rfl rfl rfl) (Mz rfl (Sz rfl (Sz rfl (Sz rfl (Sz rfl (Sz rfl (fw (.bool true) (zf rfl rfl rfl) (Mz rfl (Sz rfl (Sz rfl (Sz rfl (Sz rfl (Sz rfl (fw (.bool true) (zf rfl rfl rfl) (Mz rfl (Sz rfl (Sz rfl (Sz rfl (Sz rfl (Sz rfl (fw (.bool true) (zf rfl rfl rfl) (Mz rfl (Sz rfl ?_)))))))))))))))))))))))))))))))))))))))
 refine Sz rfl (Sz rfl (Sz rfl (Sz rfl (fw (.bool true) (zf rfl rfl rfl) (nt (jt (sr (An rfl (rt (tR (rs ?_)))))))))))
 have dG:=G.pk []
 obtain rfl:_=false:=hr.symm.trans (et (ip h) (et (ip n) (et (ip o) (et (ip t) (et (ip p) (et (ae Q) (jV j)))))))
 exact⟨rfl,dG⟩
 refine Sz (dT p) (Sz (dT p) (Sz (dT p) (Sz (dT p) (Sz (dT p) (Sz (dT p) (fw (.bool true) (zf rfl (dT p) rfl) (Mz rfl (Sz rfl (Sz rfl (Sz rfl (Sz rfl (Sz rfl (Sz rfl (Sz rfl (fw (.bool true) (zf rfl rfl rfl) (Mz rfl (Sz rfl (Sz rfl (Sz rfl (Sz rfl (Sz rfl (Sz rfl (Sz rfl (fw (.bool true) (zf rfl rfl rfl) (Mz rfl (Sz rfl (Sz rfl (Sz rfl (Sz rfl (Sz rfl (fw (.bool true) (zf rfl rfl rfl) (Mz rfl (Sz rfl (Sz rfl (Sz rfl (Sz rfl (Sz rfl (fw (.bool true) (zf rfl rfl rfl) (Mz rfl ?_)))))))))))))))))))))))))))))))))))))))
 refine Sz rfl (Sz rfl (Sz rfl (Sz rfl (Sz rfl (fw (.bool true) (zf rfl rfl rfl) (Mz rfl (Sz rfl (Sz rfl (Sz rfl (Sz rfl (Sz rfl (fw (.bool true) (zf rfl rfl rfl) (nt (jt (sr (An rfl (rt (tR (rs ?_)))))))))))))))))))
 have dH:=R.pk []
 obtain rfl:_=false:=hr.symm.trans (et (ip h) (et (ip n) (et (ip o) (et (ip t) (iN p)))))
 exact⟨rfl,dH⟩
 refine Sz (dT t) (Sz (dT t) (Sz (dT t) (Sz (dT t) (Sz (dT t) (fw (.bool true) (zf rfl (dT t) rfl) (Mz rfl (Sz rfl (Sz rfl (Sz rfl (Sz rfl (Sz rfl (Sz rfl (fw (.bool true) (zf rfl rfl rfl) (Mz rfl (Sz rfl (Sz rfl (Sz rfl (Sz rfl (Sz rfl (Sz rfl (Sz rfl (fw (.bool true) (zf rfl rfl rfl) (Mz rfl (Sz rfl (Sz rfl (Sz rfl (Sz rfl (Sz rfl (Sz rfl (Sz rfl (fw (.bool true) (zf rfl rfl rfl) (Mz rfl (Sz rfl (Sz rfl (Sz rfl (Sz rfl (Sz rfl (fw (.bool true) (zf rfl rfl rfl) (Mz rfl ?_)))))))))))))))))))))))))))))))))))))))
 refine Sz rfl (Sz rfl (Sz rfl (Sz rfl (Sz rfl (fw (.bool true) (zf rfl rfl rfl) (Mz rfl (Sz rfl (Sz rfl (Sz rfl (Sz rfl (Sz rfl (fw (.bool true) (zf rfl rfl rfl) (Mz rfl (Sz rfl (Sz rfl (Sz rfl (Sz rfl (Sz rfl (fw (.bool true) (zf rfl rfl rfl) (nt (jt (sr (An rfl (rt (tR (rs ?_))))))))))))))))))))))))))
 have dI:=R.pk []
 obtain rfl:_=false:=hr.symm.trans (et (ip h) (et (ip n) (et (ip o) (iN t))))
 exact⟨rfl,dI⟩
 refine Sz (dT o) (Sz (dT o) (Sz (dT o) (Sz (dT o) (Sz (dT o) (fw (.bool true) (zf rfl (dT o) rfl) (Mz rfl (Sz rfl (Sz rfl (Sz rfl (Sz rfl (Sz rfl (fw (.bool true) (zf rfl rfl rfl) (Mz rfl (Sz rfl (Sz rfl (Sz rfl (Sz rfl (Sz rfl (Sz rfl (fw (.bool true) (zf rfl rfl rfl) (Mz rfl (Sz rfl (Sz rfl (Sz rfl (Sz rfl (Sz rfl (Sz rfl (Sz rfl (fw (.bool true) (zf rfl rfl rfl) (Mz rfl (Sz rfl (Sz rfl (Sz rfl (Sz rfl (Sz rfl (Sz rfl (Sz rfl (fw (.bool true) (zf rfl rfl rfl) (Mz rfl ?_)))))))))))))))))))))))))))))))))))))))
 refine Sz rfl (Sz rfl (Sz rfl (Sz rfl (Sz rfl (fw (.bool true) (zf rfl rfl rfl) (Mz rfl (Sz rfl (Sz rfl (Sz rfl (Sz rfl (Sz rfl (fw (.bool true) (zf rfl rfl rfl) (Mz rfl (Sz rfl (Sz rfl (Sz rfl (Sz rfl (Sz rfl (fw (.bool true) (zf rfl rfl rfl) (Mz rfl (Sz rfl (Sz rfl (Sz rfl (Sz rfl (Sz rfl (fw (.bool true) (zf rfl rfl rfl) (nt (jt (sr (An rfl (rt (tR (rs ?_)))))))))))))))))))))))))))))))))
 have dJ:=R.pk []
 obtain rfl:_=false:=hr.symm.trans (et (ip h) (et (ip n) (iN o)))
 exact⟨rfl,dJ⟩
 refine Sz (dT n) (Sz (dT n) (Sz (dT n) (Sz (dT n) (Sz (dT n) (fw (.bool true) (zf rfl (dT n) rfl) (Mz rfl (Sz rfl (Sz rfl (Sz rfl (Sz rfl (Sz rfl (fw (.bool true) (zf rfl rfl rfl) (Mz rfl (Sz rfl (Sz rfl (Sz rfl (Sz rfl (Sz rfl (fw (.bool true) (zf rfl rfl rfl) (Mz rfl (Sz rfl (Sz rfl (Sz rfl (Sz rfl (Sz rfl (Sz rfl (fw (.bool true) (zf rfl rfl rfl) (Mz rfl (Sz rfl (Sz rfl (Sz rfl (Sz rfl (Sz rfl (Sz rfl (Sz rfl (fw (.bool true) (zf rfl rfl rfl) (Mz rfl (Sz rfl (Sz rfl ?_)))))))))))))))))))))))))))))))))))))))
 refine Sz rfl (Sz rfl (Sz rfl (Sz rfl (Sz rfl (fw (.bool true) (zf rfl rfl rfl) (Mz rfl (Sz rfl (Sz rfl (Sz rfl (Sz rfl (Sz rfl (fw (.bool true) (zf rfl rfl rfl) (Mz rfl (Sz rfl (Sz rfl (Sz rfl (Sz rfl (Sz rfl (fw (.bool true) (zf rfl rfl rfl) (Mz rfl (Sz rfl (Sz rfl (Sz rfl (Sz rfl (Sz rfl (fw (.bool true) (zf rfl rfl rfl) (Mz rfl (Sz rfl (Sz rfl (Sz rfl (Sz rfl (Sz rfl (fw (.bool true) (zf rfl rfl rfl) (nt (jt (sr (Az rfl ?_)))))))))))))))))))))))))))))))))))))
 refine nt (rt (tR (rs ?_)))
 have dK:=R.pk []
 obtain rfl:_=false:=hr.symm.trans (et (ip h) (iN n))
 exact⟨rfl,dK⟩
 refine Sz (dT h) (Sz (dT h) (Sz (dT h) (Sz (dT h) (Sz (dT h) (fw (.bool true) (zf rfl (dT h) rfl) (Mz rfl (Sz rfl (Sz rfl (Sz rfl (Sz rfl (Sz rfl (fw (.bool true) (zf rfl rfl rfl) (Mz rfl (Sz rfl (Sz rfl (Sz rfl (Sz rfl (Sz rfl (fw (.bool true) (zf rfl rfl rfl) (Mz rfl (Sz rfl (Sz rfl (Sz rfl (Sz rfl (Sz rfl (fw (.bool true) (zf rfl rfl rfl) (Mz rfl (Sz rfl (Sz rfl (Sz rfl (Sz rfl (Sz rfl (Sz rfl (fw (.bool true) (zf rfl rfl rfl) (Mz rfl (Sz rfl (Sz rfl (Sz rfl (Sz rfl ?_)))))))))))))))))))))))))))))))))))))))
 refine Sz rfl (Sz rfl (Sz rfl (fw (.bool true) (zf rfl rfl rfl) (Mz rfl (Sz rfl (Sz rfl (Sz rfl (Sz rfl (Sz rfl (Sz rfl (Sz rfl (fw (.bool true) (zf rfl rfl rfl) (Mz rfl (Sz rfl (Sz rfl (Sz rfl (Sz rfl (Sz rfl (fw (.bool true) (zf rfl rfl rfl) (Mz rfl (Sz rfl (Sz rfl (Sz rfl (Sz rfl (Sz rfl (fw (.bool true) (zf rfl rfl rfl) (Mz rfl (Sz rfl (Sz rfl (Sz rfl (Sz rfl (Sz rfl (fw (.bool true) (zf rfl rfl rfl) (Mz rfl (Sz rfl (Sz rfl (Sz rfl (Sz rfl (Sz rfl ?_)))))))))))))))))))))))))))))))))))))))
 refine fw (.bool true) (zf rfl rfl rfl) (nt (jt (sr (An rfl (rt (tR (rs ?_)))))))
 have dL:=R.pk []
 obtain rfl:_=false:=hr.symm.trans (iN h)
 exact⟨rfl,dL⟩
def gB (d:Nat) (b:bO):List Int→Nat→Unit ⊕ Bool
  | [],a=>Sum.inl ()
  | e::f,a=>bnd (List.getD b.af.ls a default) fun c=>if e=c then gB d b f (a+1) else Sum.inr (false)
def dW (e:bK) (p1:bK):List bO→Nat→Unit ⊕ Bool
  | [],c=>Sum.inl ()
  | b::d,c=>bnd (List.getD p1.ai.ls c default) fun a=>if((b.aS:Nat):Int)=((a.aS:Nat):Int) then if b.aC=a.aC then if((b.au:Nat):Int)=((a.au:Nat):Int) then if((b.bB:Nat):Int)=((a.bB:Nat):Int) then if((b.af.ls.length:Nat):Int)=((a.af.ls.length:Nat):Int) then kQ (gB c a b.af.ls 0) fun _=>dW e p1 d (c+1) else Sum.inr (false) else Sum.inr (false) else Sum.inr (false) else Sum.inr (false) else Sum.inr (false)
def eX (p1:bK):List eD→Nat→Unit ⊕ Bool
  | [],c=>Sum.inl ()
  | b::e,c=>bnd (List.getD p1.aG.ls c default) fun a=>if b.aC=a.aC then if((b.au:Nat):Int)=((a.au:Nat):Int) then if((b.bB:Nat):Int)=((a.bB:Nat):Int) then bnd (jX b.ah.ls a.ah.ls) fun d=>if d=true then eX p1 e (c+1) else Sum.inr (false) else Sum.inr (false) else Sum.inr (false) else Sum.inr (false)
def je (a:bK) (p1:bK):Bool:=
 if a.af=p1.af then if((a.au:Nat):Int)=((p1.au:Nat):Int) then if((a.aY:Nat):Int)=((p1.aY:Nat):Int) then if((a.aK:Nat):Int)=((p1.aK:Nat):Int) then bnd (kZ a.ag.ls p1.ag.ls) fun b=>if b=true then if((a.ai.ls.length:Nat):Int)=((p1.ai.ls.length:Nat):Int) then if((a.aG.ls.length:Nat):Int)=((p1.aG.ls.length:Nat):Int) then lp (dW a p1 a.ai.ls 0) fun _=>lp (eX p1 a.aG.ls 0) fun _=>true else false else false else false else false else false else false else false
set_option maxHeartbeats 4000000 in
theorem pX (w:World) (D:Nat→Prop) (d:bK) (S:Option Addr) (bU T:Nat) (l:Option Addr) (bV B:Nat) (aV:List ak) (C:Option Addr) (bW L:Nat) (aW:List aM) (p1:bK) (M:Option Addr) (bX N:Nat) (m:Option Addr) (bY E:Nat) (aX:List ak) (F:Option Addr) (bZ O:Nat) (aY:List aM) (r0:Bool) (H:Own w D w []) (di:bU=d.ag.ls.length) (dm:Ro w D fun w'=>bn w' 2 S d.ag.ls.length (List.flatMap aH.cells d.ag.ls)) (fM:d.ag.ls.length≤T∧d.ag.ls.length≤9223372036854775807) (bz:List.map zz aV=d.ai.ls) (dn:bV=d.ai.ls.length) (aO:Ro w D fun w'=>bn w' 5 l d.ai.ls.length (List.flatMap ak.cells aV)) (fO:d.ai.ls.length≤B∧d.ai.ls.length≤9223372036854775807) (aC:∀ x ∈ aV,Ro w D (fun w'=>bn w' 1 x.af.A x.af.ls.length (List.flatMap (eI .i64) x.af.ls))∧(x.af.ls.length≤x.af.c∧x.af.ls.length≤9223372036854775807)) (bA:List.map zM aW=d.aG.ls) (dw:bW=d.aG.ls.length) (aP:Ro w D fun w'=>bn w' 4 C d.aG.ls.length (List.flatMap aM.cells aW)) (fP:d.aG.ls.length≤L∧d.aG.ls.length≤9223372036854775807) (aD:∀ x ∈ aW,Ro w D (fun w'=>bn w' 3 x.ah.A x.ah.ls.length (List.flatMap az.cells x.ah.ls))∧(x.ah.ls.length≤x.ah.c∧x.ah.ls.length≤9223372036854775807)∧(∀ y1 ∈ x.ah.ls,Ro w D (fun w'=>bn w' 2 y1.ax.A y1.ax.ls.length (List.flatMap bu.cells y1.ax.ls))∧(y1.ax.ls.length≤y1.ax.c∧y1.ax.ls.length≤9223372036854775807))) (dx:bX=p1.ag.ls.length) (dz:Ro w D fun w'=>bn w' 2 M p1.ag.ls.length (List.flatMap aH.cells p1.ag.ls)) (fQ:p1.ag.ls.length≤N∧p1.ag.ls.length≤9223372036854775807) (bB:List.map zz aX=p1.ai.ls) (dA:bY=p1.ai.ls.length) (aQ:Ro w D fun w'=>bn w' 5 m p1.ai.ls.length (List.flatMap ak.cells aX)) (fT:p1.ai.ls.length≤E∧p1.ai.ls.length≤9223372036854775807) (aR:∀ x ∈ aX,Ro w D (fun w'=>bn w' 1 x.af.A x.af.ls.length (List.flatMap (eI .i64) x.af.ls))∧(x.af.ls.length≤x.af.c∧x.af.ls.length≤9223372036854775807)) (bC:List.map zM aY=p1.aG.ls) (dB:bZ=p1.aG.ls.length) (aS:Ro w D fun w'=>bn w' 4 F p1.aG.ls.length (List.flatMap aM.cells aY)) (fU:p1.aG.ls.length≤O∧p1.aG.ls.length≤9223372036854775807) (aF:∀ x ∈ aY,Ro w D (fun w'=>bn w' 3 x.ah.A x.ah.ls.length (List.flatMap az.cells x.ah.ls))∧(x.ah.ls.length≤x.ah.c∧x.ah.ls.length≤9223372036854775807)∧(∀ y1 ∈ x.ah.ls,Ro w D (fun w'=>bn w' 2 y1.ax.A y1.ax.ls.length (List.flatMap bu.cells y1.ax.ls))∧(y1.ax.ls.length≤y1.ax.c∧y1.ax.ls.length≤9223372036854775807))) (hr:je d p1=r0):
    Calls Tryz.prog 18 #[.agg #[.int .i64 d.af, .int .u64 ((d.au:Nat):Int), .int .u64 ((d.aY:Nat):Int), .int .u64 ((d.aK:Nat):Int), .slice S bU T, .slice l bV B, .slice C bW L], .agg #[.int .i64 p1.af, .int .u64 ((p1.au:Nat):Int), .int .u64 ((p1.aY:Nat):Int), .int .u64 ((p1.aK:Nat):Int), .slice M bX N, .slice m bY E, .slice F bZ O]] w (dE fun v w'=>v= .bool r0∧Own w D w' []):=by
 subst di dn dw dx dA dB
 have hdl0x1:=bS bz
 have hdl0x2:=bS bA
 have hdl1x1:=bS bB
 have hdl1x2:=bS bC
 refine zg (args:= [.agg #[.int .i64 d.af, .int .u64 ((d.au:Nat):Int), .int .u64 ((d.aY:Nat):Int), .int .u64 ((d.aK:Nat):Int), .slice S d.ag.ls.length T, .slice l d.ai.ls.length B, .slice C d.aG.ls.length L], .agg #[.int .i64 p1.af, .int .u64 ((p1.au:Nat):Int), .int .u64 ((p1.aY:Nat):Int), .int .u64 ((p1.aK:Nat):Int), .slice M p1.ag.ls.length N, .slice m p1.ai.ls.length E, .slice F p1.aG.ls.length O]]) Tryz.func18 rfl rfl rfl ?_
 show Wp _ _ _ [(0, .agg #[.int .i64 d.af, .int .u64 ((d.au:Nat):Int), .int .u64 ((d.aY:Nat):Int), .int .u64 ((d.aK:Nat):Int), .slice S d.ag.ls.length T, .slice l d.ai.ls.length B, .slice C d.aG.ls.length L]),(1, .agg #[.int .i64 p1.af, .int .u64 ((p1.au:Nat):Int), .int .u64 ((p1.aY:Nat):Int), .int .u64 ((p1.aK:Nat):Int), .slice M p1.ag.ls.length N, .slice m p1.ai.ls.length E, .slice F p1.aG.ls.length O])] _ _
 refine sr ?_
 refine dC [.int .i64 d.af, .int .u64 ((d.au:Nat):Int), .int .u64 ((d.aY:Nat):Int), .int .u64 ((d.aK:Nat):Int), .slice S d.ag.ls.length T, .slice l d.ai.ls.length B, .slice C d.aG.ls.length L] 35 H ?_
 intro V ic fV
 refine dC [.int .i64 p1.af, .int .u64 ((p1.au:Nat):Int), .int .u64 ((p1.aY:Nat):Int), .int .u64 ((p1.aK:Nat):Int), .slice M p1.ag.ls.length N, .slice m p1.ai.ls.length E, .slice F p1.aG.ls.length O] 35 fV ?_
 intro I ig aa
 refine An rfl (ze (sr (Kz (.pointer (some ⟨V,0,none⟩)) (Lz (.int .i64 d.af) aa 1 Tryz.isAgg3 (Kz (.pointer (some ⟨I,0,none⟩)) (Lz (.int .i64 p1.af) aa 0 Tryz.isAgg3 (fw (.bool (decide (¬ (d.af=p1.af)))) (zF (e:= !(decide (d.af=p1.af))) yk decide_not.symm) (Mz rfl ?_))))))))
 by_cases o:d.af=p1.af
 refine gw (.pointer (some ⟨V,1,none⟩)) (dF (Ce o)) yk (gw (.int .u64 ((d.au:Nat):Int)) (dF (Ce o)) (zi rfl (bf.one Tryz.isAgg22 (zJ (aa.cls (i:=1) rfl) rfl))) (gw (.pointer (some ⟨I,1,none⟩)) (dF (Ce o)) yk (gw (.int .u64 ((p1.au:Nat):Int)) (dF (Ce o)) (zi rfl (bf.one Tryz.isAgg22 (zJ (aa.cls (i:=0) rfl) rfl))) (gw (.bool (decide (¬ (((d.au:Nat):Int)=((p1.au:Nat):Int))))) (dF (Ce o)) (zF (e:= !(decide (((d.au:Nat):Int)=((p1.au:Nat):Int)))) yk decide_not.symm) (fw (.bool (decide (¬ (((d.au:Nat):Int)=((p1.au:Nat):Int))))) (zh rfl (dF (Ce o)) rfl) (Mz rfl ?_))))))
 by_cases p:((d.au:Nat):Int)=((p1.au:Nat):Int)
 refine gw (.pointer (some ⟨V,2,none⟩)) (dF (Ce p)) yk (gw (.int .u64 ((d.aY:Nat):Int)) (dF (Ce p)) (zi rfl (bf.one Tryz.isAgg22 (zJ (aa.cls (i:=1) rfl) rfl))) (gw (.pointer (some ⟨I,2,none⟩)) (dF (Ce p)) yk (gw (.int .u64 ((p1.aY:Nat):Int)) (dF (Ce p)) (zi rfl (bf.one Tryz.isAgg22 (zJ (aa.cls (i:=0) rfl) rfl))) (gw (.bool (decide (¬ (((d.aY:Nat):Int)=((p1.aY:Nat):Int))))) (dF (Ce p)) (zF (e:= !(decide (((d.aY:Nat):Int)=((p1.aY:Nat):Int)))) yk decide_not.symm) (fw (.bool (decide (¬ (((d.aY:Nat):Int)=((p1.aY:Nat):Int))))) (zh rfl (dF (Ce p)) rfl) (Mz rfl ?_))))))
 by_cases t:((d.aY:Nat):Int)=((p1.aY:Nat):Int)
 refine gw (.pointer (some ⟨V,3,none⟩)) (dF (Ce t)) yk (gw (.int .u64 ((d.aK:Nat):Int)) (dF (Ce t)) (zi rfl (bf.one Tryz.isAgg22 (zJ (aa.cls (i:=1) rfl) rfl))) (gw (.pointer (some ⟨I,3,none⟩)) (dF (Ce t)) yk (gw (.int .u64 ((p1.aK:Nat):Int)) (dF (Ce t)) (zi rfl (bf.one Tryz.isAgg22 (zJ (aa.cls (i:=0) rfl) rfl))) (gw (.bool (decide (¬ (((d.aK:Nat):Int)=((p1.aK:Nat):Int))))) (dF (Ce t)) (zF (e:= !(decide (((d.aK:Nat):Int)=((p1.aK:Nat):Int)))) yk decide_not.symm) (fw (.bool (decide (¬ (((d.aK:Nat):Int)=((p1.aK:Nat):Int))))) (zh rfl (dF (Ce t)) rfl) (Mz rfl ?_))))))
 by_cases r:((d.aK:Nat):Int)=((p1.aK:Nat):Int)
 refine gw (.pointer (some ⟨V,4,none⟩)) (dF (Ce r)) yk (gw (.slice S d.ag.ls.length T) (dF (Ce r)) (zi rfl (bf.one Tryz.isAgg23 (zJ (aa.cls (i:=1) rfl) rfl))) (gw (.pointer (some ⟨I,4,none⟩)) (dF (Ce r)) yk (gw (.slice M p1.ag.ls.length N) (dF (Ce r)) (zi rfl (bf.one Tryz.isAgg23 (zJ (aa.cls (i:=0) rfl) rfl))) ?_)))
 obtain⟨bO,K⟩:∃ q,kZ d.ag.ls p1.ag.ls=q:=⟨_,rfl⟩
 obtain⟨ik,dO,cu,dP,gM⟩:=zt aa
 refine mg (dF (Ce r)) Tryz.call61 (pJ _ _ S d.ag.ls.length T d.ag.ls M p1.ag.ls.length N p1.ag.ls bO dO (cu _ dm) rfl (by omega) (cu _ dz) rfl (by omega) K) ?_
 rintro _ il ⟨rfl,dQ⟩
 have aG:=dP _ _ dQ
 refine gw (.bool (!bO)) (dF (Ce r)) yk (fw (.bool (!bO)) (zh rfl (dF (Ce r)) rfl) (Mz rfl ?_))
 rcases Cf (bO) with n | n
 refine Gz (.pointer (some ⟨V,5,none⟩)) (cn n) (Gl (.slice l d.ai.ls.length B) (cn n) aG 1 Tryz.isAgg32 (Gz (.int .i64 ((d.ai.ls.length:Nat):Int)) (cn n) (Gz (.pointer (some ⟨I,5,none⟩)) (cn n) (Gl (.slice m p1.ai.ls.length E) (cn n) aG 0 Tryz.isAgg32 (Gz (.int .i64 ((p1.ai.ls.length:Nat):Int)) (cn n) (gw (.bool (decide (¬ (((d.ai.ls.length:Nat):Int)=((p1.ai.ls.length:Nat):Int))))) (cn n) (zF (e:= !(decide (((d.ai.ls.length:Nat):Int)=((p1.ai.ls.length:Nat):Int)))) yk decide_not.symm) (fw (.bool (decide (¬ (((d.ai.ls.length:Nat):Int)=((p1.ai.ls.length:Nat):Int))))) (zh rfl (cn n) rfl) (Mz rfl ?_))))))))
 by_cases s:((d.ai.ls.length:Nat):Int)=((p1.ai.ls.length:Nat):Int)
 refine gw (.pointer (some ⟨V,6,none⟩)) (dF (Ce s)) yk (gw (.slice C d.aG.ls.length L) (dF (Ce s)) (zi rfl (bf.one Tryz.isAgg33 (zJ (aG.cls (i:=1) rfl) rfl))) (gw (.int .i64 ((d.aG.ls.length:Nat):Int)) (dF (Ce s)) yk (gw (.pointer (some ⟨I,6,none⟩)) (dF (Ce s)) yk (gw (.slice F p1.aG.ls.length O) (dF (Ce s)) (zi rfl (bf.one Tryz.isAgg33 (zJ (aG.cls (i:=0) rfl) rfl))) (gw (.int .i64 ((p1.aG.ls.length:Nat):Int)) (dF (Ce s)) yk (gw (.bool (decide (¬ (((d.aG.ls.length:Nat):Int)=((p1.aG.ls.length:Nat):Int))))) (dF (Ce s)) (zF (e:= !(decide (((d.aG.ls.length:Nat):Int)=((p1.aG.ls.length:Nat):Int)))) yk decide_not.symm) (fw (.bool (decide (¬ (((d.aG.ls.length:Nat):Int)=((p1.aG.ls.length:Nat):Int))))) (zh rfl (dF (Ce s)) rfl) (nt ?_))))))))
 by_cases af:((d.aG.ls.length:Nat):Int)=((p1.aG.ls.length:Nat):Int)
 refine jF (dF (Ce af)) (sk (ze (sr (Kz (.pointer (some ⟨V,5,none⟩)) (Lz (.slice l d.ai.ls.length B) aG 1 Tryz.isAgg32 (Kz (.int .i64 ((d.ai.ls.length:Nat):Int)) (Mn rfl (bo ?_))))))))
 have fZ:=aG.pk [0,1]
 obtain⟨dR,dS⟩:∃ q:Nat→World→Prop,q=fun(i:Nat) w'=>Own w D w' [blk I [.int .i64 p1.af, .int .u64 ((p1.au:Nat):Int), .int .u64 ((p1.aY:Nat):Int), .int .u64 ((p1.aK:Nat):Int), .slice M p1.ag.ls.length N, .slice m p1.ai.ls.length E, .slice F p1.aG.ls.length O] 35,blk V [.int .i64 d.af, .int .u64 ((d.au:Nat):Int), .int .u64 ((d.aY:Nat):Int), .int .u64 ((d.aK:Nat):Int), .slice S d.ag.ls.length T, .slice l d.ai.ls.length B, .slice C d.aG.ls.length L] 35]∧(i≤d.ai.ls.length∧dW d p1 d.ai.ls 0=dW d p1 (List.drop i d.ai.ls) i):=⟨_,rfl⟩
 have bD:∀ {f:Nat} {w':World},dR f w'↔Own w D w' [blk I [.int .i64 p1.af, .int .u64 ((p1.au:Nat):Int), .int .u64 ((p1.aY:Nat):Int), .int .u64 ((p1.aK:Nat):Int), .slice M p1.ag.ls.length N, .slice m p1.ai.ls.length E, .slice F p1.aG.ls.length O] 35,blk V [.int .i64 d.af, .int .u64 ((d.au:Nat):Int), .int .u64 ((d.aY:Nat):Int), .int .u64 ((d.aK:Nat):Int), .slice S d.ag.ls.length T, .slice l d.ai.ls.length B, .slice C d.aG.ls.length L] 35]∧f≤d.ai.ls.length∧dW d p1 d.ai.ls 0=dW d p1 (List.drop f d.ai.ls) f:=by intros; subst dS; exact Iff.rfl
 refine Wp.loop (fun i:Nat=> [(4, .bool false),(67, .int .i64 ((i:Nat):Int)),(66, .int .i64 ((d.ai.ls.length:Nat):Int)),(65, .slice l d.ai.ls.length B),(3, .pointer (some ⟨I,0,none⟩)),(2, .pointer (some ⟨V,0,none⟩))]) dR (fun i=>d.ai.ls.length - i) 0 ⟨rfl,rfl,rfl,rfl,rfl,rfl,trivial⟩ (bD.2 ⟨fZ,by omega,rfl⟩) ?_
 rintro f iq dU
 show Wp _ _ _ [(4, .bool false),(67, .int .i64 ((f:Nat):Int)),(66, .int .i64 ((d.ai.ls.length:Nat):Int)),(65, .slice l d.ai.ls.length B),(3, .pointer (some ⟨I,0,none⟩)),(2, .pointer (some ⟨V,0,none⟩))] _ _
 obtain⟨bv,gN,aj⟩:=bD.1 dU
 refine sr (Kz (.bool (decide (((f:Nat):Int) < ((d.ai.ls.length:Nat):Int)))) (nt (ze ?_)))
 by_cases dV:((f:Nat):Int) < ((d.ai.ls.length:Nat):Int)
 obtain⟨a,aB⟩:=eH (ls:=aV) (i:=f) ak.len (by decide) (bv.ro aO) (by first | omega | (simp; done) | (simp; omega))
 have dX:=iY bz aB
 have gP:=(aC _ (List.mem_of_getElem? aB)).2
 have au:=drop_at dX
 refine jT (dT dV) (sk (ze (bo (sr (Mz rfl (fw (.pointer (some ⟨ab l,ao l+f *5,none⟩)) (zn (qE) rfl rfl ((bv.ro aO).addr (i:=f) (by omega)) (by omega)) (fw (.agg (ak.cells a).toArray) (zi rfl (zD (cs:=(ak.cells a)) Tryz.isAgg79 Tryz.sizeOf79 ((bv.ro aO).elem ak.len aB (by decide)))) ?_)))))))
 refine dC [.int .u64 0, .int .i64 0, .int .u64 0, .int .u64 0, .slice none 0 0] 79 bv ?_
 intro J iw gm
 refine Az rfl ?_
 refine df (ak.cells a) 0 gm Tryz.sizeOf79 ?_
 intro iy bE
 refine ns (Kz (.pointer (some ⟨I,5,none⟩)) (Lz (.slice m p1.ai.ls.length E) bE 1 Tryz.isAgg32 (Mz rfl ?_)))
 obtain⟨b,aJ⟩:=eH (ls:=aX) (i:=f) ak.len (by decide) (bE.ro aQ) (by first | omega | (simp; done) | (simp; omega))
 have av:=iY bB aJ
 have gQ:=(aR _ (List.mem_of_getElem? aJ)).2
 refine fw (.pointer (some ⟨ab m,ao m+f *5,none⟩)) (zn (qE) rfl rfl ((bE.ro aQ).addr (i:=f) (by omega)) (by omega)) (fw (.agg (ak.cells b).toArray) (zi rfl (zD (cs:=(ak.cells b)) Tryz.isAgg79 Tryz.sizeOf79 ((bE.ro aQ).elem ak.len aJ (by decide)))) ?_)
 refine dC [.int .u64 0, .int .i64 0, .int .u64 0, .int .u64 0, .slice none 0 0] 79 bE ?_
 intro P iA gp
 refine df (ak.cells b) 0 gp Tryz.sizeOf79 ?_
 intro iB Y
 refine nt (ze (sr (Kz (.pointer (some ⟨J,0,none⟩)) (Lz (.int .u64 ((a.aS:Nat):Int)) Y 1 Tryz.isAgg22 (Kz (.pointer (some ⟨P,0,none⟩)) (Lz (.int .u64 ((b.aS:Nat):Int)) Y 0 Tryz.isAgg22 (fw (.bool (decide (¬ (((a.aS:Nat):Int)=((b.aS:Nat):Int))))) (zF (e:= !(decide (((a.aS:Nat):Int)=((b.aS:Nat):Int)))) yk decide_not.symm) (Mz rfl ?_))))))))
 by_cases R:((a.aS:Nat):Int)=((b.aS:Nat):Int)
 refine gw (.pointer (some ⟨J,1,none⟩)) (dF (Ce R)) yk (gw (.int .i64 a.aC) (dF (Ce R)) (zi rfl (bf.one Tryz.isAgg3 (zJ (Y.cls (i:=1) rfl) rfl))) (gw (.pointer (some ⟨P,1,none⟩)) (dF (Ce R)) yk (gw (.int .i64 b.aC) (dF (Ce R)) (zi rfl (bf.one Tryz.isAgg3 (zJ (Y.cls (i:=0) rfl) rfl))) (gw (.bool (decide (¬ (a.aC=b.aC)))) (dF (Ce R)) (zF (e:= !(decide (a.aC=b.aC))) yk decide_not.symm) (fw (.bool (decide (¬ (a.aC=b.aC)))) (zh rfl (dF (Ce R)) rfl) (Mz rfl ?_))))))
 by_cases X:a.aC=b.aC
 refine gw (.pointer (some ⟨J,2,none⟩)) (dF (Ce X)) yk (gw (.int .u64 ((a.au:Nat):Int)) (dF (Ce X)) (zi rfl (bf.one Tryz.isAgg22 (zJ (Y.cls (i:=1) rfl) rfl))) (gw (.pointer (some ⟨P,2,none⟩)) (dF (Ce X)) yk (gw (.int .u64 ((b.au:Nat):Int)) (dF (Ce X)) (zi rfl (bf.one Tryz.isAgg22 (zJ (Y.cls (i:=0) rfl) rfl))) (gw (.bool (decide (¬ (((a.au:Nat):Int)=((b.au:Nat):Int))))) (dF (Ce X)) (zF (e:= !(decide (((a.au:Nat):Int)=((b.au:Nat):Int)))) yk decide_not.symm) (fw (.bool (decide (¬ (((a.au:Nat):Int)=((b.au:Nat):Int))))) (zh rfl (dF (Ce X)) rfl) (Mz rfl ?_))))))
 by_cases Z:((a.au:Nat):Int)=((b.au:Nat):Int)
 refine gw (.pointer (some ⟨J,3,none⟩)) (dF (Ce Z)) yk (gw (.int .u64 ((a.bB:Nat):Int)) (dF (Ce Z)) (zi rfl (bf.one Tryz.isAgg22 (zJ (Y.cls (i:=1) rfl) rfl))) (gw (.pointer (some ⟨P,3,none⟩)) (dF (Ce Z)) yk (gw (.int .u64 ((b.bB:Nat):Int)) (dF (Ce Z)) (zi rfl (bf.one Tryz.isAgg22 (zJ (Y.cls (i:=0) rfl) rfl))) (gw (.bool (decide (¬ (((a.bB:Nat):Int)=((b.bB:Nat):Int))))) (dF (Ce Z)) (zF (e:= !(decide (((a.bB:Nat):Int)=((b.bB:Nat):Int)))) yk decide_not.symm) (fw (.bool (decide (¬ (((a.bB:Nat):Int)=((b.bB:Nat):Int))))) (zh rfl (dF (Ce Z)) rfl) (Mz rfl ?_))))))
 by_cases Q:((a.bB:Nat):Int)=((b.bB:Nat):Int)
 refine gw (.pointer (some ⟨J,4,none⟩)) (dF (Ce Q)) yk (gw (.slice a.af.A a.af.ls.length a.af.c) (dF (Ce Q)) (zi rfl (bf.one Tryz.isAgg77 (zJ (Y.cls (i:=1) rfl) rfl))) (gw (.int .i64 ((a.af.ls.length:Nat):Int)) (dF (Ce Q)) yk (gw (.pointer (some ⟨P,4,none⟩)) (dF (Ce Q)) yk (gw (.slice b.af.A b.af.ls.length b.af.c) (dF (Ce Q)) (zi rfl (bf.one Tryz.isAgg77 (zJ (Y.cls (i:=0) rfl) rfl))) (gw (.int .i64 ((b.af.ls.length:Nat):Int)) (dF (Ce Q)) yk (gw (.bool (decide (¬ (((a.af.ls.length:Nat):Int)=((b.af.ls.length:Nat):Int))))) (dF (Ce Q)) (zF (e:= !(decide (((a.af.ls.length:Nat):Int)=((b.af.ls.length:Nat):Int)))) yk decide_not.symm) (fw (.bool (decide (¬ (((a.af.ls.length:Nat):Int)=((b.af.ls.length:Nat):Int))))) (zh rfl (dF (Ce Q)) rfl) (nt ?_))))))))
 by_cases bF:((a.af.ls.length:Nat):Int)=((b.af.ls.length:Nat):Int)
 refine jF (dF (Ce bF)) (sk (sr (Kz (.pointer (some ⟨J,4,none⟩)) (Lz (.slice a.af.A a.af.ls.length a.af.c) Y 1 Tryz.isAgg77 (Kz (.int .i64 ((a.af.ls.length:Nat):Int)) (Mn rfl (bo ?_)))))))
 have gq:=Y.pk [0,1,2,3]
 obtain⟨dY,dZ⟩:∃ q:Nat→World→Prop,q=fun(i:Nat) w'=>Own w D w' [blk P (ak.cells b) 79,blk J (ak.cells a) 79,blk I [.int .i64 p1.af, .int .u64 ((p1.au:Nat):Int), .int .u64 ((p1.aY:Nat):Int), .int .u64 ((p1.aK:Nat):Int), .slice M p1.ag.ls.length N, .slice m p1.ai.ls.length E, .slice F p1.aG.ls.length O] 35,blk V [.int .i64 d.af, .int .u64 ((d.au:Nat):Int), .int .u64 ((d.aY:Nat):Int), .int .u64 ((d.aK:Nat):Int), .slice S d.ag.ls.length T, .slice l d.ai.ls.length B, .slice C d.aG.ls.length L] 35]∧(i≤a.af.ls.length∧gB f (zz b) a.af.ls 0=gB f (zz b) (List.drop i a.af.ls) i):=⟨_,rfl⟩
 have bG:∀ {z:Nat} {w':World},dY z w'↔Own w D w' [blk P (ak.cells b) 79,blk J (ak.cells a) 79,blk I [.int .i64 p1.af, .int .u64 ((p1.au:Nat):Int), .int .u64 ((p1.aY:Nat):Int), .int .u64 ((p1.aK:Nat):Int), .slice M p1.ag.ls.length N, .slice m p1.ai.ls.length E, .slice F p1.aG.ls.length O] 35,blk V [.int .i64 d.af, .int .u64 ((d.au:Nat):Int), .int .u64 ((d.aY:Nat):Int), .int .u64 ((d.aK:Nat):Int), .slice S d.ag.ls.length T, .slice l d.ai.ls.length B, .slice C d.aG.ls.length L] 35]∧z≤a.af.ls.length∧gB f (zz b) a.af.ls 0=gB f (zz b) (List.drop z a.af.ls) z:=by intros; subst dZ; exact Iff.rfl
 refine Wp.loop (fun i:Nat=> [(4, .bool false),(115, .int .i64 ((i:Nat):Int)),(114, .int .i64 ((a.af.ls.length:Nat):Int)),(113, .slice a.af.A a.af.ls.length a.af.c),(112, .pointer (some ⟨J,4,none⟩)),(111, .bool (decide (¬ (((a.af.ls.length:Nat):Int)=((b.af.ls.length:Nat):Int))))),(110, .bool (decide (¬ (((a.af.ls.length:Nat):Int)=((b.af.ls.length:Nat):Int))))),(109, .int .i64 ((b.af.ls.length:Nat):Int)),(108, .slice b.af.A b.af.ls.length b.af.c),(107, .pointer (some ⟨P,4,none⟩)),(106, .int .i64 ((a.af.ls.length:Nat):Int)),(105, .slice a.af.A a.af.ls.length a.af.c),(104, .pointer (some ⟨J,4,none⟩)),(103, .bool (decide (¬ (((a.bB:Nat):Int)=((b.bB:Nat):Int))))),(102, .bool (decide (¬ (((a.bB:Nat):Int)=((b.bB:Nat):Int))))),(101, .bool (decide (¬ (((a.bB:Nat):Int)=((b.bB:Nat):Int))))),(100, .int .u64 ((b.bB:Nat):Int)),(99, .pointer (some ⟨P,3,none⟩)),(98, .int .u64 ((a.bB:Nat):Int)),(97, .pointer (some ⟨J,3,none⟩)),(96, .bool (decide (¬ (((a.au:Nat):Int)=((b.au:Nat):Int))))),(95, .bool (decide (¬ (((a.au:Nat):Int)=((b.au:Nat):Int))))),(94, .bool (decide (¬ (((a.au:Nat):Int)=((b.au:Nat):Int))))),(93, .int .u64 ((b.au:Nat):Int)),(92, .pointer (some ⟨P,2,none⟩)),(91, .int .u64 ((a.au:Nat):Int)),(90, .pointer (some ⟨J,2,none⟩)),(89, .bool (decide (¬ (a.aC=b.aC)))),(88, .bool (decide (¬ (a.aC=b.aC)))),(87, .bool (decide (¬ (a.aC=b.aC)))),(86, .int .i64 b.aC),(85, .pointer (some ⟨P,1,none⟩)),(84, .int .i64 a.aC),(83, .pointer (some ⟨J,1,none⟩)),(82, .bool (decide (¬ (((a.aS:Nat):Int)=((b.aS:Nat):Int))))),(81, .bool (decide (¬ (((a.aS:Nat):Int)=((b.aS:Nat):Int))))),(80, .int .u64 ((b.aS:Nat):Int)),(79, .pointer (some ⟨P,0,none⟩)),(78, .int .u64 ((a.aS:Nat):Int)),(77, .pointer (some ⟨J,0,none⟩)),(7, .pointer (some ⟨P,0,none⟩)),(76, .agg (ak.cells b).toArray),(75, .pointer (some ⟨ab m,ao m+f *5,none⟩)),(74, .int .i64 ((f:Nat):Int)),(73, .slice m p1.ai.ls.length E),(72, .pointer (some ⟨I,5,none⟩)),(5, .int .i64 ((f:Nat):Int)),(6, .pointer (some ⟨J,0,none⟩)),(71, .agg (ak.cells a).toArray),(70, .pointer (some ⟨ab l,ao l+f *5,none⟩)),(69, .int .i64 ((f:Nat):Int)),(68, .bool (decide (((f:Nat):Int) < ((d.ai.ls.length:Nat):Int)))),(67, .int .i64 ((f:Nat):Int)),(66, .int .i64 ((d.ai.ls.length:Nat):Int)),(65, .slice l d.ai.ls.length B),(3, .pointer (some ⟨I,0,none⟩)),(2, .pointer (some ⟨V,0,none⟩))]) dY (fun i=>a.af.ls.length - i) 0 ⟨rfl,rfl,rfl,rfl,rfl,rfl,rfl,rfl,rfl,rfl,rfl,rfl,rfl,rfl,rfl,rfl,rfl,rfl,rfl,rfl,rfl,rfl,rfl,rfl,rfl,rfl,rfl,rfl,rfl,rfl,rfl,rfl,rfl,rfl,rfl,rfl,rfl,rfl,rfl,rfl,rfl,rfl,rfl,rfl,rfl,rfl,rfl,rfl,rfl,rfl,rfl,rfl,rfl,rfl,rfl,rfl,rfl,trivial⟩ (bG.2 ⟨gq,by omega,rfl⟩) ?_
 rintro z gu d9
 show Wp _ _ _ [(4, .bool false),(115, .int .i64 ((z:Nat):Int)),(114, .int .i64 ((a.af.ls.length:Nat):Int)),(113, .slice a.af.A a.af.ls.length a.af.c),(112, .pointer (some ⟨J,4,none⟩)),(111, .bool (decide (¬ (((a.af.ls.length:Nat):Int)=((b.af.ls.length:Nat):Int))))),(110, .bool (decide (¬ (((a.af.ls.length:Nat):Int)=((b.af.ls.length:Nat):Int))))),(109, .int .i64 ((b.af.ls.length:Nat):Int)),(108, .slice b.af.A b.af.ls.length b.af.c),(107, .pointer (some ⟨P,4,none⟩)),(106, .int .i64 ((a.af.ls.length:Nat):Int)),(105, .slice a.af.A a.af.ls.length a.af.c),(104, .pointer (some ⟨J,4,none⟩)),(103, .bool (decide (¬ (((a.bB:Nat):Int)=((b.bB:Nat):Int))))),(102, .bool (decide (¬ (((a.bB:Nat):Int)=((b.bB:Nat):Int))))),(101, .bool (decide (¬ (((a.bB:Nat):Int)=((b.bB:Nat):Int))))),(100, .int .u64 ((b.bB:Nat):Int)),(99, .pointer (some ⟨P,3,none⟩)),(98, .int .u64 ((a.bB:Nat):Int)),(97, .pointer (some ⟨J,3,none⟩)),(96, .bool (decide (¬ (((a.au:Nat):Int)=((b.au:Nat):Int))))),(95, .bool (decide (¬ (((a.au:Nat):Int)=((b.au:Nat):Int))))),(94, .bool (decide (¬ (((a.au:Nat):Int)=((b.au:Nat):Int))))),(93, .int .u64 ((b.au:Nat):Int)),(92, .pointer (some ⟨P,2,none⟩)),(91, .int .u64 ((a.au:Nat):Int)),(90, .pointer (some ⟨J,2,none⟩)),(89, .bool (decide (¬ (a.aC=b.aC)))),(88, .bool (decide (¬ (a.aC=b.aC)))),(87, .bool (decide (¬ (a.aC=b.aC)))),(86, .int .i64 b.aC),(85, .pointer (some ⟨P,1,none⟩)),(84, .int .i64 a.aC),(83, .pointer (some ⟨J,1,none⟩)),(82, .bool (decide (¬ (((a.aS:Nat):Int)=((b.aS:Nat):Int))))),(81, .bool (decide (¬ (((a.aS:Nat):Int)=((b.aS:Nat):Int))))),(80, .int .u64 ((b.aS:Nat):Int)),(79, .pointer (some ⟨P,0,none⟩)),(78, .int .u64 ((a.aS:Nat):Int)),(77, .pointer (some ⟨J,0,none⟩)),(7, .pointer (some ⟨P,0,none⟩)),(76, .agg (ak.cells b).toArray),(75, .pointer (some ⟨ab m,ao m+f *5,none⟩)),(74, .int .i64 ((f:Nat):Int)),(73, .slice m p1.ai.ls.length E),(72, .pointer (some ⟨I,5,none⟩)),(5, .int .i64 ((f:Nat):Int)),(6, .pointer (some ⟨J,0,none⟩)),(71, .agg (ak.cells a).toArray),(70, .pointer (some ⟨ab l,ao l+f *5,none⟩)),(69, .int .i64 ((f:Nat):Int)),(68, .bool (decide (((f:Nat):Int) < ((d.ai.ls.length:Nat):Int)))),(67, .int .i64 ((f:Nat):Int)),(66, .int .i64 ((d.ai.ls.length:Nat):Int)),(65, .slice l d.ai.ls.length B),(3, .pointer (some ⟨I,0,none⟩)),(2, .pointer (some ⟨V,0,none⟩))] _ _
 obtain⟨dD,gT,bH⟩:=bG.1 d9
 refine sr (Kz (.bool (decide (((z:Nat):Int) < ((a.af.ls.length:Nat):Int)))) (nt (ze ?_)))
 by_cases ed:((z:Nat):Int) < ((a.af.ls.length:Nat):Int)
 obtain⟨bP,cz⟩:=eH (ls:=a.af.ls) (i:=z) jU (by decide) (dD.ro (aC _ (List.mem_of_getElem? aB)).1) (by first | omega | (simp; done) | (simp; omega))
 have cB:=drop_at cz
 refine jT (dT ed) (sk (ze (bo (sr (Mz rfl (An rfl (ze ?_)))))))
 have bI:=dD.drew
 refine zX [] (fun W=> ∃ L',Own w D W ([blk P (ak.cells b) 79,blk J (ak.cells a) 79,blk I [.int .i64 p1.af, .int .u64 ((p1.au:Nat):Int), .int .u64 ((p1.aY:Nat):Int), .int .u64 ((p1.aK:Nat):Int), .slice M p1.ag.ls.length N, .slice m p1.ai.ls.length E, .slice F p1.aG.ls.length O] 35,blk V [.int .i64 d.af, .int .u64 ((d.au:Nat):Int), .int .u64 ((d.aY:Nat):Int), .int .u64 ((d.aK:Nat):Int), .slice S d.ag.ls.length T, .slice l d.ai.ls.length B, .slice C d.aG.ls.length L] 35]++L')) (by kernel_rfl) (by kernel_rfl) (zG (cK.block (zG (zG (cK.block (cK.block (zG (zG (cK.block (zG z8)))))))))) ⟨_,bI⟩ ?_
 revert bI
 generalize World.drew gu=iC
 intro bI
 refine GX.take (v:= .pointer (some ⟨J,4,none⟩)) (rs:= []) 0 rfl (by kernel_rfl) (fun _ _=>yk) (GX.take (v:= .slice a.af.A a.af.ls.length a.af.c) (rs:= []) 1 rfl (by kernel_rfl) (fun _ ⟨_,H9⟩=>zi rfl (bf.one Tryz.isAgg77 (zJ (H9.cls (i:=1) rfl) rfl))) (GX.take (v:= .int .i64 ((z:Nat):Int)) (rs:= []) 2 rfl (by kernel_rfl) (fun _ _=>zo rfl) (GX.take (v:= .pointer (some ⟨ab a.af.A,ao a.af.A+z *1,none⟩)) (rs:= []) 3 rfl (by kernel_rfl) (fun _ ⟨_,H9⟩=>zn (oF) rfl rfl ((H9.ro (aC _ (List.mem_of_getElem? aB)).1).addr (i:=z) (by omega)) (by omega)) (GX.take (v:= .int .i64 bP) (rs:= []) 4 rfl (by kernel_rfl) (fun _ ⟨_,H9⟩=>zi rfl (bf.one Tryz.isAgg3 (((H9.ro (aC _ (List.mem_of_getElem? aB)).1).elem jU cz (by decide)).at_ (k:=0) rfl))) (GX.take (v:= .pointer (some ⟨P,4,none⟩)) (rs:= []) 5 rfl (by kernel_rfl) (fun _ _=>yk) (GX.take (v:= .slice b.af.A b.af.ls.length b.af.c) (rs:= []) 6 rfl (by kernel_rfl) (fun _ ⟨_,H9⟩=>zi rfl (bf.one Tryz.isAgg77 (zJ (H9.cls (i:=0) rfl) rfl))) (GX.take (v:= .int .i64 ((z:Nat):Int)) (rs:= []) 7 rfl (by kernel_rfl) (fun _ _=>zo rfl) ?_)))))))
 obtain⟨bQ,bM⟩:=lC (ls:=b.af.ls) (i:=z) (by first | omega | (simp; done) | (simp; omega))
 refine GX.take (v:= .pointer (some ⟨ab b.af.A,ao b.af.A+z *1,none⟩)) (rs:= []) 8 rfl (by kernel_rfl) (fun _ ⟨_,H9⟩=>zn (oF) rfl rfl ((H9.ro (aR _ (List.mem_of_getElem? aJ)).1).addr (i:=z) (by omega)) (by omega)) (GX.take (v:= .int .i64 bQ) (rs:= []) 9 rfl (by kernel_rfl) (fun _ ⟨_,H9⟩=>zi rfl (bf.one Tryz.isAgg3 (((H9.ro (aR _ (List.mem_of_getElem? aJ)).1).elem jU bM (by decide)).at_ (k:=0) rfl))) (GX.take (v:= .bool (decide (¬ (bP=bQ)))) (rs:= []) 10 rfl (by kernel_rfl) (fun _ _=>zF (e:= !(decide (bP=bQ))) yk decide_not.symm) (zT (by kernel_rfl) (zu ?_))))
 by_cases bT:bP=bQ
 refine jF (dF (Ce bT)) (zS (bN (zu (zb (fw (.int .i64 ((z+1:Nat):Int)) (zy (e:=IntKind.i64.wrap (((z:Nat):Int)+1)) yk (by rw [Cb _ (by omega)]; omega)) (Mz rfl (zq ?_)))))))
 have ek:=bI.pk [0,1,2,3]
 exact zH (z+1) ⟨rfl,rfl,rfl,rfl,rfl,rfl,rfl,rfl,rfl,rfl,rfl,rfl,rfl,rfl,rfl,rfl,rfl,rfl,rfl,rfl,rfl,rfl,rfl,rfl,rfl,rfl,rfl,rfl,rfl,rfl,rfl,rfl,rfl,rfl,rfl,rfl,rfl,rfl,rfl,rfl,rfl,rfl,rfl,rfl,rfl,rfl,rfl,rfl,rfl,rfl,rfl,rfl,rfl,rfl,rfl,rfl,rfl,trivial⟩ (bG.2 ⟨ek,by omega,et (bH) (et (congrArg (fun q=>gB f (zz b) q z) cB) (et (ae (bJ bM)) (ip bT)))⟩) (by show a.af.ls.length - (z+1) < a.af.ls.length - z; omega)
 refine jT (dT bT) (sr (An rfl (rt (bR (tR (tR (bR (bR (tR (tR (bR (tR (rs ?_)))))))))))))
 have eu:=bI.pk []
 obtain rfl:_=false:=hr.symm.trans (et (ip o) (et (ip p) (et (ip t) (et (ip r) (et (ae K) (et (ip n) (et (ip s) (et (ip af) (fE (et (aj) (et (congrArg (fun q=>dW d p1 q f) au) (et (ae (bJ av)) (et (ip R) (et (ip X) (et (ip Z) (et (ip Q) (et (ip bF) (mi (et (bH) (et (congrArg (fun q=>gB f (zz b) q z) cB) (et (ae (bJ bM)) (iN bT))))))))))))))))))))))
 exact⟨rfl,eu⟩
 refine jF (dF ed) (Wp.exit (zk ?_))
 have dG:gB f (zz b) a.af.ls 0=Sum.inl ():=et (bH) (et (congrArg (fun q=>gB f (zz b) q z) (eF (ls:=a.af.ls) (i:=z) (by omega))) rfl)
 refine zk (zA (bN (zu (zb (fw (.int .i64 ((f+1:Nat):Int)) (zy (e:=IntKind.i64.wrap (((f:Nat):Int)+1)) yk (by rw [Cb _ (by omega)]; omega)) (Mz rfl (zq ?_)))))))
 have eB:=dD.pk [2,3]
 exact zH (f+1) ⟨rfl,rfl,rfl,rfl,rfl,rfl,trivial⟩ (bD.2 ⟨eB,by omega,et (aj) (et (congrArg (fun q=>dW d p1 q f) au) (et (ae (bJ av)) (et (ip R) (et (ip X) (et (ip Z) (et (ip Q) (et (ip bF) (nQ dG))))))))⟩) (by show d.ai.ls.length - (f+1) < d.ai.ls.length - f; omega)
 refine jT (dT bF) (sr (An rfl (rt (tR (bR (tR (tR (bR (tR (rs ?_))))))))))
 have eD:=Y.pk []
 obtain rfl:_=false:=hr.symm.trans (et (ip o) (et (ip p) (et (ip t) (et (ip r) (et (ae K) (et (ip n) (et (ip s) (et (ip af) (fE (et (aj) (et (congrArg (fun q=>dW d p1 q f) au) (et (ae (bJ av)) (et (ip R) (et (ip X) (et (ip Z) (et (ip Q) (iN bF)))))))))))))))))
 exact⟨rfl,eD⟩
 refine Sz (dT Q) (Sz (dT Q) (Sz (dT Q) (Sz (dT Q) (Sz (dT Q) (Sz (dT Q) (Sz (dT Q) (fw (.bool true) (zf rfl (dT Q) rfl) (nt (jt (sr (An rfl (rt (tR (bR (tR (tR (bR (tR (rs ?_)))))))))))))))))))
 have eG:=Y.pk []
 obtain rfl:_=false:=hr.symm.trans (et (ip o) (et (ip p) (et (ip t) (et (ip r) (et (ae K) (et (ip n) (et (ip s) (et (ip af) (fE (et (aj) (et (congrArg (fun q=>dW d p1 q f) au) (et (ae (bJ av)) (et (ip R) (et (ip X) (et (ip Z) (iN Q))))))))))))))))
 exact⟨rfl,eG⟩
 refine Sz (dT Z) (Sz (dT Z) (Sz (dT Z) (Sz (dT Z) (Sz (dT Z) (fw (.bool true) (zf rfl (dT Z) rfl) (Mz rfl (Sz rfl (Sz rfl (Sz rfl (Sz rfl (Sz rfl (Sz rfl (Sz rfl (fw (.bool true) (zf rfl rfl rfl) (nt (jt (sr (An rfl (rt (tR (bR (tR (tR (bR (tR (rs ?_))))))))))))))))))))))))))
 have eO:=Y.pk []
 obtain rfl:_=false:=hr.symm.trans (et (ip o) (et (ip p) (et (ip t) (et (ip r) (et (ae K) (et (ip n) (et (ip s) (et (ip af) (fE (et (aj) (et (congrArg (fun q=>dW d p1 q f) au) (et (ae (bJ av)) (et (ip R) (et (ip X) (iN Z)))))))))))))))
 exact⟨rfl,eO⟩
 refine Sz (dT X) (Sz (dT X) (Sz (dT X) (Sz (dT X) (Sz (dT X) (fw (.bool true) (zf rfl (dT X) rfl) (Mz rfl (Sz rfl (Sz rfl (Sz rfl (Sz rfl (Sz rfl (fw (.bool true) (zf rfl rfl rfl) (Mz rfl (Sz rfl (Sz rfl (Sz rfl (Sz rfl (Sz rfl (Sz rfl (Sz rfl (fw (.bool true) (zf rfl rfl rfl) (nt (jt (sr (An rfl (rt (tR (bR (tR (tR (bR (tR (rs ?_)))))))))))))))))))))))))))))))))
 have eP:=Y.pk []
 obtain rfl:_=false:=hr.symm.trans (et (ip o) (et (ip p) (et (ip t) (et (ip r) (et (ae K) (et (ip n) (et (ip s) (et (ip af) (fE (et (aj) (et (congrArg (fun q=>dW d p1 q f) au) (et (ae (bJ av)) (et (ip R) (iN X))))))))))))))
 exact⟨rfl,eP⟩
 refine Sz (dT R) (Sz (dT R) (Sz (dT R) (Sz (dT R) (Sz (dT R) (fw (.bool true) (zf rfl (dT R) rfl) (Mz rfl (Sz rfl (Sz rfl (Sz rfl (Sz rfl (Sz rfl (fw (.bool true) (zf rfl rfl rfl) (Mz rfl (Sz rfl (Sz rfl (Sz rfl (Sz rfl (Sz rfl (fw (.bool true) (zf rfl rfl rfl) (Mz rfl (Sz rfl (Sz rfl (Sz rfl (Sz rfl (Sz rfl (Sz rfl (Sz rfl (fw (.bool true) (zf rfl rfl rfl) (nt (jt (sr (An rfl (rt (tR (bR ?_)))))))))))))))))))))))))))))))))))
 refine tR (tR (bR (tR (rs ?_))))
 have eQ:=Y.pk []
 obtain rfl:_=false:=hr.symm.trans (et (ip o) (et (ip p) (et (ip t) (et (ip r) (et (ae K) (et (ip n) (et (ip s) (et (ip af) (fE (et (aj) (et (congrArg (fun q=>dW d p1 q f) au) (et (ae (bJ av)) (iN R)))))))))))))
 exact⟨rfl,eQ⟩
 refine jF (dF dV) (Wp.exit (zk ?_))
 have ax:dW d p1 d.ai.ls 0=Sum.inl ():=et (aj) (et (congrArg (fun q=>dW d p1 q f) (eF (ls:=d.ai.ls) (i:=f) (by omega))) rfl)
 refine zk (zA (zu (ze (sr (Kz (.pointer (some ⟨V,6,none⟩)) (Lz (.slice C d.aG.ls.length L) bv 1 Tryz.isAgg33 (Kz (.int .i64 ((d.aG.ls.length:Nat):Int)) (Mn rfl (bo ?_)))))))))
 have eT:=bv.pk [0]
 obtain⟨cO,dH⟩:∃ q:Nat→World→Prop,q=fun(i:Nat) w'=>Own w D w' [blk I [.int .i64 p1.af, .int .u64 ((p1.au:Nat):Int), .int .u64 ((p1.aY:Nat):Int), .int .u64 ((p1.aK:Nat):Int), .slice M p1.ag.ls.length N, .slice m p1.ai.ls.length E, .slice F p1.aG.ls.length O] 35]∧(i≤d.aG.ls.length∧eX p1 d.aG.ls 0=eX p1 (List.drop i d.aG.ls) i):=⟨_,rfl⟩
 have aT:∀ {j:Nat} {w':World},cO j w'↔Own w D w' [blk I [.int .i64 p1.af, .int .u64 ((p1.au:Nat):Int), .int .u64 ((p1.aY:Nat):Int), .int .u64 ((p1.aK:Nat):Int), .slice M p1.ag.ls.length N, .slice m p1.ai.ls.length E, .slice F p1.aG.ls.length O] 35]∧j≤d.aG.ls.length∧eX p1 d.aG.ls 0=eX p1 (List.drop j d.aG.ls) j:=by intros; subst dH; exact Iff.rfl
 refine Wp.loop (fun i:Nat=> [(4, .bool false),(134, .int .i64 ((i:Nat):Int)),(133, .int .i64 ((d.aG.ls.length:Nat):Int)),(132, .slice C d.aG.ls.length L),(3, .pointer (some ⟨I,0,none⟩))]) cO (fun i=>d.aG.ls.length - i) 0 ⟨rfl,rfl,rfl,rfl,rfl,trivial⟩ (aT.2 ⟨eT,by omega,rfl⟩) ?_
 rintro j gU dI
 show Wp _ _ _ [(4, .bool false),(134, .int .i64 ((j:Nat):Int)),(133, .int .i64 ((d.aG.ls.length:Nat):Int)),(132, .slice C d.aG.ls.length L),(3, .pointer (some ⟨I,0,none⟩))] _ _
 obtain⟨aK,gy,ag⟩:=aT.1 dI
 refine sr (Kz (.bool (decide (((j:Nat):Int) < ((d.aG.ls.length:Nat):Int)))) (nt (ze ?_)))
 by_cases cZ:((j:Nat):Int) < ((d.aG.ls.length:Nat):Int)
 obtain⟨g,ah⟩:=eH (ls:=aW) (i:=j) aM.len (by decide) (aK.ro aP) (by first | omega | (simp; done) | (simp; omega))
 have dJ:=iY bA ah
 have gz:=(aD _ (List.mem_of_getElem? ah)).2.1
 have gD:List.length (List.map zm g.ah.ls)=g.ah.ls.length:=List.length_map ..
 have ay:=drop_at dJ
 refine jT (dT cZ) (sk (ze (bo (sr (Mz rfl (fw (.pointer (some ⟨ab C,ao C+j *4,none⟩)) (zn (qF) rfl rfl ((aK.ro aP).addr (i:=j) (by omega)) (by omega)) (fw (.agg (aM.cells g).toArray) (zi rfl (zD (cs:=(aM.cells g)) Tryz.isAgg84 Tryz.sizeOf84 ((aK.ro aP).elem aM.len ah (by decide)))) ?_)))))))
 refine dC [.int .i64 0, .int .u64 0, .int .u64 0, .slice none 0 0] 84 aK ?_
 intro aZ gV eU
 refine Az rfl ?_
 refine df (aM.cells g) 0 eU Tryz.sizeOf84 ?_
 intro gW aL
 refine ns (Kz (.pointer (some ⟨I,6,none⟩)) (Lz (.slice F p1.aG.ls.length O) aL 1 Tryz.isAgg33 (Mz rfl ?_)))
 obtain⟨h,ai⟩:=eH (ls:=aY) (i:=j) aM.len (by decide) (aL.ro aS) (by first | omega | (simp; done) | (simp; omega))
 have aA:=iY bC ai
 have gF:=(aF _ (List.mem_of_getElem? ai)).2.1
 have gG:List.length (List.map zm h.ah.ls)=h.ah.ls.length:=List.length_map ..
 refine fw (.pointer (some ⟨ab F,ao F+j *4,none⟩)) (zn (qF) rfl rfl ((aL.ro aS).addr (i:=j) (by omega)) (by omega)) (fw (.agg (aM.cells h).toArray) (zi rfl (zD (cs:=(aM.cells h)) Tryz.isAgg84 Tryz.sizeOf84 ((aL.ro aS).elem aM.len ai (by decide)))) ?_)
 refine dC [.int .i64 0, .int .u64 0, .int .u64 0, .slice none 0 0] 84 aL ?_
 intro bg gX eY
 refine df (aM.cells h) 0 eY Tryz.sizeOf84 ?_
 intro gY U
 refine ns (Kz (.pointer (some ⟨aZ,0,none⟩)) (Lz (.int .i64 g.aC) U 1 Tryz.isAgg3 (Kz (.pointer (some ⟨bg,0,none⟩)) (Lz (.int .i64 h.aC) U 0 Tryz.isAgg3 (fw (.bool (decide (¬ (g.aC=h.aC)))) (zF (e:= !(decide (g.aC=h.aC))) yk decide_not.symm) (Mz rfl ?_))))))
 by_cases u:g.aC=h.aC
 refine gw (.pointer (some ⟨aZ,1,none⟩)) (dF (Ce u)) yk (gw (.int .u64 ((g.au:Nat):Int)) (dF (Ce u)) (zi rfl (bf.one Tryz.isAgg22 (zJ (U.cls (i:=1) rfl) rfl))) (gw (.pointer (some ⟨bg,1,none⟩)) (dF (Ce u)) yk (gw (.int .u64 ((h.au:Nat):Int)) (dF (Ce u)) (zi rfl (bf.one Tryz.isAgg22 (zJ (U.cls (i:=0) rfl) rfl))) (gw (.bool (decide (¬ (((g.au:Nat):Int)=((h.au:Nat):Int))))) (dF (Ce u)) (zF (e:= !(decide (((g.au:Nat):Int)=((h.au:Nat):Int)))) yk decide_not.symm) (fw (.bool (decide (¬ (((g.au:Nat):Int)=((h.au:Nat):Int))))) (zh rfl (dF (Ce u)) rfl) (Mz rfl ?_))))))
 by_cases G:((g.au:Nat):Int)=((h.au:Nat):Int)
 refine gw (.pointer (some ⟨aZ,2,none⟩)) (dF (Ce G)) yk (gw (.int .u64 ((g.bB:Nat):Int)) (dF (Ce G)) (zi rfl (bf.one Tryz.isAgg22 (zJ (U.cls (i:=1) rfl) rfl))) (gw (.pointer (some ⟨bg,2,none⟩)) (dF (Ce G)) yk (gw (.int .u64 ((h.bB:Nat):Int)) (dF (Ce G)) (zi rfl (bf.one Tryz.isAgg22 (zJ (U.cls (i:=0) rfl) rfl))) (gw (.bool (decide (¬ (((g.bB:Nat):Int)=((h.bB:Nat):Int))))) (dF (Ce G)) (zF (e:= !(decide (((g.bB:Nat):Int)=((h.bB:Nat):Int)))) yk decide_not.symm) (fw (.bool (decide (¬ (((g.bB:Nat):Int)=((h.bB:Nat):Int))))) (zh rfl (dF (Ce G)) rfl) (Mz rfl ?_))))))
 by_cases y:((g.bB:Nat):Int)=((h.bB:Nat):Int)
 refine gw (.pointer (some ⟨aZ,3,none⟩)) (dF (Ce y)) yk (gw (.slice g.ah.A g.ah.ls.length g.ah.c) (dF (Ce y)) (zi rfl (bf.one Tryz.isAgg82 (zJ (U.cls (i:=1) rfl) rfl))) (gw (.pointer (some ⟨bg,3,none⟩)) (dF (Ce y)) yk (gw (.slice h.ah.A h.ah.ls.length h.ah.c) (dF (Ce y)) (zi rfl (bf.one Tryz.isAgg82 (zJ (U.cls (i:=0) rfl) rfl))) ?_)))
 have gH:g.ah.ls.length=List.length (List.map zm g.ah.ls):=(by first | rfl | omega | (simp only [List.length_append,List.length_cons,List.length_nil,List.length_take,List.length_drop,List.length_set,List.length_replicate,List.length_map] <;> omega))
 have gI:h.ah.ls.length=List.length (List.map zm h.ah.ls):=(by first | rfl | omega | (simp only [List.length_append,List.length_cons,List.length_nil,List.length_take,List.length_drop,List.length_set,List.length_replicate,List.length_map] <;> omega))
 obtain⟨bi,aU⟩:∃ q,jX (List.map zm g.ah.ls) (List.map zm h.ah.ls)=q:=⟨_,rfl⟩
 obtain⟨gZ,dK,aI,dL,gJ⟩:=zt U
 refine mg (decide_eq_false (Ce y)) Tryz.call67 (oN _ _ g.ah.A g.ah.ls.length g.ah.c g.ah.ls (List.map zm g.ah.ls) h.ah.A h.ah.ls.length h.ah.c h.ah.ls (List.map zm h.ah.ls) bi dK (rfl:List.map zm g.ah.ls=List.map zm g.ah.ls) (aI _ (aD _ (List.mem_of_getElem? ah)).1) (fun x9 h9=>⟨aI _ ((aD _ (List.mem_of_getElem? ah)).2.2 x9 h9).1,((aD _ (List.mem_of_getElem? ah)).2.2 x9 h9).2⟩) (by first | rfl | omega | (simp only [List.length_append,List.length_cons,List.length_nil,List.length_take,List.length_drop,List.length_set,List.length_replicate,List.length_map] <;> omega)) (by first | omega | (simp only [List.length_append,List.length_cons,List.length_nil,List.length_take,List.length_drop,List.length_set]; omega)) (rfl:List.map zm h.ah.ls=List.map zm h.ah.ls) (aI _ (aF _ (List.mem_of_getElem? ai)).1) (fun x9 h9=>⟨aI _ ((aF _ (List.mem_of_getElem? ai)).2.2 x9 h9).1,((aF _ (List.mem_of_getElem? ai)).2.2 x9 h9).2⟩) (by first | rfl | omega | (simp only [List.length_append,List.length_cons,List.length_nil,List.length_take,List.length_drop,List.length_set,List.length_replicate,List.length_map] <;> omega)) (by first | omega | (simp only [List.length_append,List.length_cons,List.length_nil,List.length_take,List.length_drop,List.length_set]; omega)) aU) ?_
 rintro _ ib ⟨rfl,dM⟩
 have dh:=dL _ _ dM
 refine gw (.bool (!bi)) (dF (Ce y)) yk (fw (.bool (!bi)) (zh rfl (dF (Ce y)) rfl) (nt ?_))
 rcases Cf (bi) with aN | aN
 refine jF (cn aN) (zS (bN (zu (zb (fw (.int .i64 ((j+1:Nat):Int)) (zy (e:=IntKind.i64.wrap (((j:Nat):Int)+1)) yk (by rw [Cb _ (by omega)]; omega)) (Mz rfl (zq ?_)))))))
 have fo:=dh.pk [2]
 exact zH (j+1) ⟨rfl,rfl,rfl,rfl,rfl,trivial⟩ (aT.2 ⟨fo,by omega,et (ag) (et (congrArg (fun q=>eX p1 q j) ay) (et (ae (bJ aA)) (et (ip u) (et (ip G) (et (ip y) (et (ae aU) (ip aN)))))))⟩) (by show d.aG.ls.length - (j+1) < d.aG.ls.length - j; omega)
 refine jT (cn aN) (sr (An rfl (rt (bR (tR (tR (bR (tR (rs ?_)))))))))
 have fq:=dh.pk []
 obtain rfl:_=false:=hr.symm.trans (et (ip o) (et (ip p) (et (ip t) (et (ip r) (et (ae K) (et (ip n) (et (ip s) (et (ip af) (et (gL ax) (fE (et (ag) (et (congrArg (fun q=>eX p1 q j) ay) (et (ae (bJ aA)) (et (ip u) (et (ip G) (et (ip y) (et (ae aU) (jV aN))))))))))))))))))
 exact⟨rfl,fq⟩
 refine Sz (dT y) (Sz (dT y) (Sz (dT y) (Sz (dT y) (Sz (dT y) (Sz (dT y) (fw (.bool true) (zf rfl (dT y) rfl) (nt (jt (sr (An rfl (rt (bR (tR (tR (bR (tR (rs ?_)))))))))))))))))
 have fu:=U.pk []
 obtain rfl:_=false:=hr.symm.trans (et (ip o) (et (ip p) (et (ip t) (et (ip r) (et (ae K) (et (ip n) (et (ip s) (et (ip af) (et (gL ax) (fE (et (ag) (et (congrArg (fun q=>eX p1 q j) ay) (et (ae (bJ aA)) (et (ip u) (et (ip G) (iN y))))))))))))))))
 exact⟨rfl,fu⟩
 refine Sz (dT G) (Sz (dT G) (Sz (dT G) (Sz (dT G) (Sz (dT G) (fw (.bool true) (zf rfl (dT G) rfl) (Mz rfl (Sz rfl (Sz rfl (Sz rfl (Sz rfl (Sz rfl (Sz rfl (fw (.bool true) (zf rfl rfl rfl) (nt (jt (sr (An rfl (rt (bR (tR (tR (bR (tR (rs ?_))))))))))))))))))))))))
 have fA:=U.pk []
 obtain rfl:_=false:=hr.symm.trans (et (ip o) (et (ip p) (et (ip t) (et (ip r) (et (ae K) (et (ip n) (et (ip s) (et (ip af) (et (gL ax) (fE (et (ag) (et (congrArg (fun q=>eX p1 q j) ay) (et (ae (bJ aA)) (et (ip u) (iN G)))))))))))))))
 exact⟨rfl,fA⟩
 refine Sz (dT u) (Sz (dT u) (Sz (dT u) (Sz (dT u) (Sz (dT u) (fw (.bool true) (zf rfl (dT u) rfl) (Mz rfl (Sz rfl (Sz rfl (Sz rfl (Sz rfl (Sz rfl (fw (.bool true) (zf rfl rfl rfl) (Mz rfl (Sz rfl (Sz rfl (Sz rfl (Sz rfl (Sz rfl (Sz rfl (fw (.bool true) (zf rfl rfl rfl) (nt (jt (sr (An rfl (rt (bR (tR (tR (bR (tR (rs ?_)))))))))))))))))))))))))))))))
 have fB:=U.pk []
 obtain rfl:_=false:=hr.symm.trans (et (ip o) (et (ip p) (et (ip t) (et (ip r) (et (ae K) (et (ip n) (et (ip s) (et (ip af) (et (gL ax) (fE (et (ag) (et (congrArg (fun q=>eX p1 q j) ay) (et (ae (bJ aA)) (iN u))))))))))))))
 exact⟨rfl,fB⟩
 refine jF (dF cZ) (Wp.exit (zk ?_))
 have dN:eX p1 d.aG.ls 0=Sum.inl ():=et (ag) (et (congrArg (fun q=>eX p1 q j) (eF (ls:=d.aG.ls) (i:=j) (by omega))) rfl)
 refine zk (zA (zu (sr (An rfl (rt (rs ?_))))))
 have fC:=aK.pk []
 obtain rfl:_=true:=hr.symm.trans (et (ip o) (et (ip p) (et (ip t) (et (ip r) (et (ae K) (et (ip n) (et (ip s) (et (ip af) (et (gL ax) (gL dN))))))))))
 exact⟨rfl,fC⟩
 refine jT (dT af) (sr (An rfl (rt (tR (rs ?_)))))
 have fD:=aG.pk []
 obtain rfl:_=false:=hr.symm.trans (et (ip o) (et (ip p) (et (ip t) (et (ip r) (et (ae K) (et (ip n) (et (ip s) (iN af))))))))
 exact⟨rfl,fD⟩
 refine Sz (dT s) (Sz (dT s) (Sz (dT s) (Sz (dT s) (Sz (dT s) (Sz (dT s) (Sz (dT s) (fw (.bool true) (zf rfl (dT s) rfl) (nt (jt (sr (An rfl (rt (tR (rs ?_))))))))))))))
 have fF:=aG.pk []
 obtain rfl:_=false:=hr.symm.trans (et (ip o) (et (ip p) (et (ip t) (et (ip r) (et (ae K) (et (ip n) (iN s)))))))
 exact⟨rfl,fF⟩
 refine Sz (cn n) (Sz (cn n) (Sz (cn n) (Sz (cn n) (Sz (cn n) (Sz (cn n) (Sz (cn n) (fw (.bool true) (zf rfl (cn n) rfl) (Mz rfl (Sz rfl (Sz rfl (Sz rfl (Sz rfl (Sz rfl (Sz rfl (Sz rfl (fw (.bool true) (zf rfl rfl rfl) (nt (jt (sr (An rfl (rt (tR (rs ?_)))))))))))))))))))))))
 have fG:=aG.pk []
 obtain rfl:_=false:=hr.symm.trans (et (ip o) (et (ip p) (et (ip t) (et (ip r) (et (ae K) (jV n))))))
 exact⟨rfl,fG⟩
 refine Sz (dT r) (Sz (dT r) (Sz (dT r) (Sz (dT r) (Sz (dT r) (Sz (dT r) (fw (.bool true) (zf rfl (dT r) rfl) (Mz rfl (Sz rfl (Sz rfl (Sz rfl (Sz rfl (Sz rfl (Sz rfl (Sz rfl (fw (.bool true) (zf rfl rfl rfl) (Mz rfl (Sz rfl (Sz rfl (Sz rfl (Sz rfl (Sz rfl (Sz rfl (Sz rfl (fw (.bool true) (zf rfl rfl rfl) (nt (jt (sr (An rfl (rt (tR (rs ?_)))))))))))))))))))))))))))))))
 have fH:=aa.pk []
 obtain rfl:_=false:=hr.symm.trans (et (ip o) (et (ip p) (et (ip t) (iN r))))
 exact⟨rfl,fH⟩
 refine Sz (dT t) (Sz (dT t) (Sz (dT t) (Sz (dT t) (Sz (dT t) (fw (.bool true) (zf rfl (dT t) rfl) (Mz rfl (Sz rfl (Sz rfl (Sz rfl (Sz rfl (Sz rfl (Sz rfl (fw (.bool true) (zf rfl rfl rfl) (Mz rfl (Sz rfl (Sz rfl (Sz rfl (Sz rfl (Sz rfl (Sz rfl (Sz rfl (fw (.bool true) (zf rfl rfl rfl) (Mz rfl (Sz rfl (Sz rfl (Sz rfl (Sz rfl (Sz rfl (Sz rfl (Sz rfl (fw (.bool true) (zf rfl rfl rfl) (nt (jt (sr (An rfl ?_)))))))))))))))))))))))))))))))))))
 refine rt (tR (rs ?_))
 have fI:=aa.pk []
 obtain rfl:_=false:=hr.symm.trans (et (ip o) (et (ip p) (iN t)))
 exact⟨rfl,fI⟩
 refine Sz (dT p) (Sz (dT p) (Sz (dT p) (Sz (dT p) (Sz (dT p) (fw (.bool true) (zf rfl (dT p) rfl) (Mz rfl (Sz rfl (Sz rfl (Sz rfl (Sz rfl (Sz rfl (fw (.bool true) (zf rfl rfl rfl) (Mz rfl (Sz rfl (Sz rfl (Sz rfl (Sz rfl (Sz rfl (Sz rfl (fw (.bool true) (zf rfl rfl rfl) (Mz rfl (Sz rfl (Sz rfl (Sz rfl (Sz rfl (Sz rfl (Sz rfl (Sz rfl (fw (.bool true) (zf rfl rfl rfl) (Mz rfl (Sz rfl (Sz rfl (Sz rfl (Sz rfl (Sz rfl (Sz rfl (Sz rfl (fw (.bool true) (zf rfl rfl rfl) (zq ?_)))))))))))))))))))))))))))))))))))))))
 refine zu (jt (sr (An rfl (rt (tR (rs ?_))))))
 have fJ:=aa.pk []
 obtain rfl:_=false:=hr.symm.trans (et (ip o) (iN p))
 exact⟨rfl,fJ⟩
 refine Sz (dT o) (Sz (dT o) (Sz (dT o) (Sz (dT o) (Sz (dT o) (fw (.bool true) (zf rfl (dT o) rfl) (Mz rfl (Sz rfl (Sz rfl (Sz rfl (Sz rfl (Sz rfl (fw (.bool true) (zf rfl rfl rfl) (Mz rfl (Sz rfl (Sz rfl (Sz rfl (Sz rfl (Sz rfl (fw (.bool true) (zf rfl rfl rfl) (Mz rfl (Sz rfl (Sz rfl (Sz rfl (Sz rfl (Sz rfl (Sz rfl (fw (.bool true) (zf rfl rfl rfl) (Mz rfl (Sz rfl (Sz rfl (Sz rfl (Sz rfl (Sz rfl (Sz rfl (Sz rfl (fw (.bool true) (zf rfl rfl rfl) (Mz rfl (Sz rfl (Sz rfl ?_)))))))))))))))))))))))))))))))))))))))
 refine Sz rfl (Sz rfl (Sz rfl (Sz rfl (Sz rfl (fw (.bool true) (zf rfl rfl rfl) (nt (jt (sr (An rfl (rt (tR (rs ?_))))))))))))
 have fK:=aa.pk []
 obtain rfl:_=false:=hr.symm.trans (iN o)
 exact⟨rfl,fK⟩
end Go.Proofs.YtcnkpjheifkgnaaGreat
