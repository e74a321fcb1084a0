/-
 wire: bytes of a message's fields.
-/
import Derived.Test.YtccjclalngabhaaGreatWiC
namespace Go.Proofs.YtccjclalngabhaaGreat
set_option maxRecDepth 100000
open Go.RowKit
set_option linter.unusedVariables false
set_option linter.unusedSectionVars false
set_option linter.unusedSimpArgs false
def nY (b:List UInt8):(List UInt8):=
 bnd (dO b.length) fun a=>(a++b)
theorem qY (w:World) (D:Nat→Prop) (a:List UInt8) (g:List UInt8) (H:Own w D w []) (C:a.length≤140737488351232) (hr:nY a=g):
    Calls Tryz.prog 99 #[.string ⟨List.toArray a⟩] w (cK fun v w'=> ∃ (u:Option Addr) (x:Nat),v= .slice u g.length x∧Own w D w' [row u g.length x (List.flatMap eB g) 5 1]∧(g.length≤a.length+10)∧(a.length ≥ 128∨g.length=a.length+1)):=by
 refine Calls.body (args:= [.string ⟨List.toArray a⟩]) Tryz.func99 rfl rfl rfl ?_
 show Wp _ _ _ [(0, .string ⟨List.toArray a⟩)] _ _
 refine sr (Ar rfl (Mz rfl (Kz (.int .i64 ((a.length:Nat):Int)) (fw (.int .u64 ((a.length:Nat):Int)) (Yl.int (e:=IntKind.u64.wrap ((a.length:Nat):Int)) yk (IntWalk.u64_in _ (by omega))) ?_))))
 obtain⟨b,c⟩:∃ q,dO a.length=q:=⟨_,rfl⟩
 obtain⟨E,h,y,j,z⟩:=Own.enter0 H
 refine cl Tryz.call51 (fZ _ _ a.length b h (by omega) c) ?_
 rintro _ F ⟨G,I,rfl,l,d,f⟩
 have n:=j _ _ l
 have A:=n.rowC (i:=0) rfl
 replace d:1≤b.length∧b.length≤10:=d
 replace f:a.length ≥ 128∨b.length=1:=f
 refine Mz rfl ?_
 refine WL.do rfl (Do.appendW (k:=b.length) (m:=a.length) (bW) n rfl rfl (vH Tryz.underlying9 rfl) rfl (by omega) (s:=List.length (b++a)) (by first | omega | (simp only [List.length_append,List.length_cons,List.length_nil] <;> omega)) (List.flatMap_append).symm ?_)
 intro o p J r
 have B:List.length (b++a)=b.length+a.length:=by simp only [List.length_append,List.length_cons,List.length_nil]
 refine An rfl (rt (rs ?_))
 have t:=r.pk [0]
 obtain rfl:_=(b++a):=hr.symm.trans (aa c)
 exact⟨o,p,rfl,t,(by first | omega | (simp only [List.length_cons,List.length_nil,List.length_append]; omega)),(by first | omega | (simp only [List.length_cons,List.length_nil,List.length_append]; omega))⟩
def kP (a:Bool):UInt8:=
 if a=true then(1:UInt8) else(0:UInt8)
theorem mh (w:World) (D:Nat→Prop) (b:Bool) (e:UInt8) (H:Own w D w []) (hr:kP b=e):
    Calls Tryz.prog 55 #[.bool b] w (cK fun v w'=>v= .int .u8 ((e.toNat:Nat):Int)∧Own w D w' []):=by
 refine Calls.body (args:= [.bool b]) Tryz.func55 rfl rfl rfl ?_
 show Wp _ _ _ [(0, .bool b)] _ _
 refine sr (An rfl (Wp.seq (sr (Mn rfl ?_))))
 rcases Bool.eq_false_or_eq_true (b) with a | a
 refine jT a (sr (An rfl (rt (tR (rs ?_)))))
 have c:Own w D w []:=H.pk []
 obtain rfl:_=(1:UInt8):=hr.symm.trans (ip a)
 exact⟨rfl,c⟩
 refine jF a (sk (sr (An rfl (rt (rs ?_)))))
 have d:Own w D w []:=H.pk []
 obtain rfl:_=(0:UInt8):=hr.symm.trans (dn a)
 exact⟨rfl,d⟩
def iG:List (List UInt8)→List UInt8→(List UInt8)
  | [],a=>a
  | c::d,a=>bnd (nY c) fun b=>iG d (a++b)
def dI (a:List UInt8) (b:List (List UInt8)):(List UInt8):=
 bnd (iG b a) fun sLrL=>sLrL
theorem dE (w:World) (D:Nat→Prop) (A:Option Addr) (n0 B:Nat) (f:List UInt8) (p:Option Addr) (S C:Nat) (c:List (List UInt8)) (E:List UInt8) (H:Own w D w [row A n0 B (List.flatMap eB f) 5 1]) (T:n0=f.length) (ay:f.length *1≤211106232532992) (z:Ro w D fun w'=>bD w' 1 p S (List.flatMap eS c)) (U:S=c.length) (az:c.length *16≤211106232532992) (aA:f.length≤5000000000) (F:(c.length≤4∧∀ x ∈ c,x.length≤16)) (hr:dI f c=E):
    Calls Tryz.prog 56 #[.slice A n0 B, .slice p S C] w (cK fun v w'=> ∃ (B0:Option Addr) (b0:Nat),v= .slice B0 E.length b0∧Own w D w' [row B0 E.length b0 (List.flatMap eB E) 5 1]∧(E.length≤f.length+26 *c.length)):=by
 subst T U
 have aB:=H.rowC (i:=0) rfl
 have hh1a:=F.1
 refine Calls.body (args:= [.slice A f.length B, .slice p c.length C]) Tryz.func56 rfl rfl rfl ?_
 show Wp _ _ _ [(0, .slice A f.length B),(1, .slice p c.length C)] _ _
 refine sr (An rfl (Wp.seq (sr (Mz rfl (Kz (.int .i64 ((c.length:Nat):Int)) (Mn rfl (bo ?_)))))))
 have V:Own w D w [row A f.length B (List.flatMap eB f) 5 1]:=H.pk [0]
 obtain⟨G,I⟩:∃ q:((Option Addr) × Nat × (List UInt8) × Nat)→World→Prop,q=fun(i:(Option Addr) × Nat × (List UInt8) × Nat) w'=>Own w D w' [row i.1 i.2.2.1.length i.2.1 (List.flatMap eB i.2.2.1) 5 1]∧(i.2.2.2≤c.length∧((i.2.2.1.length:Nat):Int)≤((f.length:Nat):Int)+26 *((i.2.2.2:Nat):Int)∧iG c f=iG (List.drop i.2.2.2 c) i.2.2.1):=⟨_,rfl⟩
 have h:∀ {j:Option Addr} {l:Nat} {b:List UInt8} {a:Nat} {w':World},G (j,l,b,a) w'↔Own w D w' [row j b.length l (List.flatMap eB b) 5 1]∧a≤c.length∧((b.length:Nat):Int)≤((f.length:Nat):Int)+26 *((a:Nat):Int)∧iG c f=iG (List.drop a c) b:=by intros; subst I; exact Iff.rfl
 refine Wp.loop (fun i:(Option Addr) × Nat × (List UInt8) × Nat=> [(0, .slice i.1 i.2.2.1.length i.2.1),(9, .int .i64 ((i.2.2.2:Nat):Int)),(8, .int .i64 ((c.length:Nat):Int)),(7, .slice p c.length C),(4, .slice none 0 0)]) G (fun i=>c.length - i.2.2.2) (A,B,f,0) ⟨rfl,rfl,rfl,rfl,rfl,trivial⟩ (h.2 ⟨V,by omega,by omega,rfl⟩) ?_
 rintro ⟨j,l,b,a⟩ aC J
 show Wp _ _ _ [(0, .slice j b.length l),(9, .int .i64 ((a:Nat):Int)),(8, .int .i64 ((c.length:Nat):Int)),(7, .slice p c.length C),(4, .slice none 0 0)] _ _
 obtain⟨n,ah,ai,r⟩:=h.1 J
 refine sr (Kz (.bool (decide (((a:Nat):Int) < ((c.length:Nat):Int)))) (nt (Wp.seq ?_)))
 by_cases K:((a:Nat):Int) < ((c.length:Nat):Int)
 obtain⟨g,o⟩:=eG (ls:=c) (i:=a) tT (by decide) (n.ro z) (by first | omega | (simp; done) | (simp; omega))
 have aj:g.length≤16:=F.2 _ (List.mem_of_getElem? o)
 have L:=drop_at o
 refine jT (dT K) (sk (Wp.seq (bo (sr (fw (.pointer (some ⟨ab p,ao p+a *1,none⟩)) (Yl.indexAddr (wP) rfl rfl ((n.ro z).addr (i:=a) (by omega)) (by omega)) (fw (.string ⟨List.toArray g⟩) (Yl.load rfl (bu.one Tryz.isAgg9 (((n.ro z).elem tT o (by decide)).at_ (k:=0) rfl))) (An rfl (Wp.region (Mz rfl (Mz rfl ?_))))))))))
 obtain⟨d,t⟩:∃ q,nY g=q:=⟨_,rfl⟩
 obtain⟨aD,M,ak,N,au⟩:=Own.enter0 n
 refine cl Tryz.call99 (qY _ _ g d M (by omega) t) ?_
 rintro _ aF ⟨aG,aH,rfl,O,u,y⟩
 have P:=N _ _ O
 have av:=P.rowC (i:=0) rfl
 replace u:d.length≤g.length+10:=u
 replace y:g.length ≥ 128∨d.length=g.length+1:=y
 have Q:=P.pk [1,0]
 refine WL.do rfl (Do.appendW (k:=b.length) (m:=d.length) (bW) Q rfl rfl (cz Tryz.underlying31 (Q.rds (i:=1) rfl) (bK dB d)) rfl (by omega) (s:=List.length (b++d)) (by first | omega | (simp only [List.length_append,List.length_cons,List.length_nil] <;> omega)) (List.flatMap_append).symm ?_)
 intro W X aI Y
 have ax:List.length (b++d)=b.length+d.length:=by simp only [List.length_append,List.length_cons,List.length_nil]
 refine Az rfl (WL.nil (bN (Fin.then (Wp.region (fw (.int .i64 ((a+1:Nat):Int)) (Yl.int (e:=IntKind.i64.wrap (((a:Nat):Int)+1)) yk (by rw [IntWalk.i64_in _ (by omega)]; omega)) (Mz rfl (WL.nil ?_)))))))
 have Z:=Y.pk [0]
 exact Fin.round (W,X,(b++d),a+1) ⟨rfl,rfl,rfl,rfl,rfl,trivial⟩ (h.2 ⟨Z,by omega,by omega,et (r) (et (congrArg (fun q=>iG q b) L) (aa t))⟩) (by show c.length - (a+1) < c.length - a; omega)
 refine jF (dF K) (Wp.exit (Fin.thenX ?_))
 have R:iG c f=b:=et (r) (et (congrArg (fun q=>iG q b) (dY (ls:=c) (i:=a) (by omega))) rfl)
 refine Fin.thenX (Fin.blockX (Fin.then (sr (Mz rfl (An rfl (rt (rs ?_)))))))
 have ae:=n.pk [0]
 obtain rfl:_=b:=hr.symm.trans (aa R)
 exact⟨j,l,rfl,ae,(by first | omega | (simp only [List.length_cons,List.length_nil,List.length_append]; omega))⟩
def lW (c:List UInt8) (b:aW):(List UInt8):=
 bnd (dI c ([b.aL,b.au])) fun a=>a
theorem pG (w:World) (D:Nat→Prop) (h:Option Addr) (n0 j:Nat) (b:List UInt8) (a:aW) (k:List UInt8) (H:Own w D w [row h n0 j (List.flatMap eB b) 5 1]) (t:n0=b.length) (G:b.length *1≤211106232532992) (I:b.length≤4000000000∧a.aL.length≤12∧a.au.length≤16) (hr:lW b a=k):
    Calls Tryz.prog 101 #[.slice h n0 j, .agg (aW.cells a).toArray] w (cK fun v w'=> ∃ (B:Option Addr) (C:Nat),v= .slice B k.length C∧Own w D w' [row B k.length C (List.flatMap eB k) 5 1]∧(k.length≤b.length+52)):=by
 subst t
 have J:=H.rowC (i:=0) rfl
 refine Calls.body (args:= [.slice h b.length j, .agg (aW.cells a).toArray]) Tryz.func101 rfl rfl rfl ?_
 show Wp _ _ _ [(0, .slice h b.length j),(1, .agg (aW.cells a).toArray)] _ _
 refine sr ?_
 refine dD (aW.cells a) 86 H ?_
 intro l K e
 refine Ar rfl (Mz rfl (Kz (.pointer (some ⟨l,0,none⟩)) (Lz (.string ⟨List.toArray a.aL⟩) e 0 Tryz.isAgg9 (Kz (.pointer (some ⟨l,1,none⟩)) (Lz (.string ⟨List.toArray a.au⟩) e 0 Tryz.isAgg9 ?_)))))
 refine iP [.string ⟨List.toArray a.aL⟩, .string ⟨List.toArray a.au⟩] 9 1 2 e ?_
 intro m L f
 replace f:=Own.reh (y:=row m 2 2 (List.flatMap eS ([a.aL,a.au])) 9 1) rfl f
 have u:=f.pk [2,0,1]
 obtain⟨g,c⟩:∃ q,dI b ([a.aL,a.au])=q:=⟨_,rfl⟩
 obtain⟨M,n,E,o,p⟩:=Own.enter1 u
 refine WL.do rfl (Do.call Tryz.call56 rfl (dE _ _ h b.length j b m 2 2 ([a.aL,a.au]) g n rfl (by omega) (p _ 0 _ rfl bJ) rfl (by simp) (by first | omega | (simp only [List.length_cons,List.length_nil,List.length_append]; omega)) (by refine⟨Nat.le_of_ble_eq_true rfl, ?_⟩; simp only [List.mem_cons,List.not_mem_nil,or_false,forall_eq_or_imp,forall_eq]; omega) c) ?_)
 rintro _ N ⟨x,z,rfl,r,d⟩
 have s:=o _ _ r
 have F:=s.rowC (i:=0) rfl
 replace d:g.length≤b.length+26 *2:=d
 refine An rfl (rt (rs ?_))
 have A:=s.pk [0]
 obtain rfl:_=g:=hr.symm.trans (aa c)
 exact⟨x,z,rfl,A,(by first | omega | (simp only [List.length_cons,List.length_nil,List.length_append]; omega))⟩
def fI:List aW→List UInt8→(List UInt8)
  | [],a=>a
  | c::d,a=>bnd (lW a c) fun b=>fI d b
def iK (c:List UInt8) (b:List aW):(List UInt8):=
 bnd (dO b.length) fun a=>bnd (fI b (c++a)) fun sLrbL=>sLrbL
theorem jm (w:World) (D:Nat→Prop) (Y:Option Addr) (n0 Z:Nat) (f:List UInt8) (p:Option Addr) (n1 E:Nat) (b:List aW) (F:List UInt8) (H:Own w D w [row Y n0 Z (List.flatMap eB f) 5 1]) (af:n0=f.length) (aP:f.length *1≤211106232532992) (B:Ro w D fun w'=>bD w' 2 p n1 (List.flatMap aW.cells b)) (ag:n1=b.length) (aQ:b.length *32≤211106232532992) (aR:f.length≤3000000000) (G:(b.length≤4∧∀ x ∈ b,x.aL.length≤12∧x.au.length≤16)) (hr:iK f b=F):
    Calls Tryz.prog 100 #[.slice Y n0 Z, .slice p n1 E, .func (.func 101) #[] #[]] w (cK fun v w'=> ∃ (B0:Option Addr) (b0:Nat),v= .slice B0 F.length b0∧Own w D w' [row B0 F.length b0 (List.flatMap eB F) 5 1]∧(F.length≤f.length+10+52 *b.length)):=by
 subst af ag
 have aS:=H.rowC (i:=0) rfl
 have hh1a:=G.1
 refine Calls.body (args:= [.slice Y f.length Z, .slice p b.length E, .func (.func 101) #[] #[]]) Tryz.func100 rfl rfl rfl ?_
 show Wp _ _ _ [(0, .slice Y f.length Z),(1, .slice p b.length E),(2, .func (.func 101) #[] #[])] _ _
 refine sr (Ar rfl (Mz rfl (Mz rfl (Kz (.int .i64 ((b.length:Nat):Int)) (fw (.int .u64 ((b.length:Nat):Int)) (Yl.int (e:=IntKind.u64.wrap ((b.length:Nat):Int)) yk (IntWalk.u64_in _ (by omega))) ?_)))))
 obtain⟨d,r⟩:∃ q,dO b.length=q:=⟨_,rfl⟩
 obtain⟨aT,I,aF,J,aG⟩:=Own.enter0 H
 refine cl Tryz.call51 (fZ _ _ b.length d I (by omega) r) ?_
 rintro _ aU ⟨aV,aX,rfl,K,t,u⟩
 have L:=J _ _ K
 have aH:=L.rowC (i:=0) rfl
 replace t:1≤d.length∧d.length≤10:=t
 replace u:b.length ≥ 128∨d.length=1:=u
 have M:=L.pk [1,0]
 refine WL.do rfl (Do.appendW (k:=f.length) (m:=d.length) (bW) M rfl rfl (cz Tryz.underlying31 (M.rds (i:=1) rfl) (bK dB d)) rfl (by omega) (s:=List.length (f++d)) (by first | omega | (simp only [List.length_append,List.length_cons,List.length_nil] <;> omega)) (List.flatMap_append).symm ?_)
 intro ah ai aY aj
 have aI:List.length (f++d)=f.length+d.length:=by simp only [List.length_append,List.length_cons,List.length_nil]
 refine An rfl (Wp.seq (Wp.seq ?_))
 have ak:=aj.pk [0]
 refine Wp.region (Mz rfl (Kz (.int .i64 ((b.length:Nat):Int)) (Mn rfl (bo ?_))))
 have au:=ak.pk [0]
 obtain⟨N,O⟩:∃ q:((Option Addr) × Nat × (List UInt8) × Nat)→World→Prop,q=fun(i:(Option Addr) × Nat × (List UInt8) × Nat) w'=>Own w D w' [row i.1 i.2.2.1.length i.2.1 (List.flatMap eB i.2.2.1) 5 1]∧(i.2.2.2≤b.length∧((i.2.2.1.length:Nat):Int)≤((f.length:Nat):Int)+10+52 *((i.2.2.2:Nat):Int)∧fI b (f++d)=fI (List.drop i.2.2.2 b) i.2.2.1):=⟨_,rfl⟩
 have l:∀ {h:Option Addr} {j:Nat} {c:List UInt8} {a:Nat} {w':World},N (h,j,c,a) w'↔Own w D w' [row h c.length j (List.flatMap eB c) 5 1]∧a≤b.length∧((c.length:Nat):Int)≤((f.length:Nat):Int)+10+52 *((a:Nat):Int)∧fI b (f++d)=fI (List.drop a b) c:=by intros; subst O; exact Iff.rfl
 refine Wp.loop (fun i:(Option Addr) × Nat × (List UInt8) × Nat=> [(0, .slice i.1 i.2.2.1.length i.2.1),(17, .int .i64 ((i.2.2.2:Nat):Int)),(16, .int .i64 ((b.length:Nat):Int)),(15, .slice p b.length E),(6, .slice none 0 0),(2, .func (.func 101) #[] #[])]) N (fun i=>b.length - i.2.2.2) (ah,ai,(f++d),0) ⟨rfl,rfl,rfl,rfl,rfl,rfl,trivial⟩ (l.2 ⟨au,by omega,by omega,rfl⟩) ?_
 rintro ⟨h,j,c,a⟩ aZ P
 show Wp _ _ _ [(0, .slice h c.length j),(17, .int .i64 ((a:Nat):Int)),(16, .int .i64 ((b.length:Nat):Int)),(15, .slice p b.length E),(6, .slice none 0 0),(2, .func (.func 101) #[] #[])] _ _
 obtain⟨n,aJ,aK,y⟩:=l.1 P
 refine sr (Kz (.bool (decide (((a:Nat):Int) < ((b.length:Nat):Int)))) (nt (Wp.seq ?_)))
 by_cases Q:((a:Nat):Int) < ((b.length:Nat):Int)
 obtain⟨g,o⟩:=eG (ls:=b) (i:=a) aW.len (by decide) (n.ro B) (by first | omega | (simp; done) | (simp; omega))
 have aL:g.aL.length≤12∧g.au.length≤16:=G.2 _ (List.mem_of_getElem? o)
 have R:=drop_at o
 refine jT (dT Q) (sk (Wp.seq (bo (sr (fw (.pointer (some ⟨ab p,ao p+a *2,none⟩)) (Yl.indexAddr (pX) rfl rfl ((n.ro B).addr (i:=a) (by omega)) (by omega)) (fw (.agg (aW.cells g).toArray) (Yl.load rfl (bu.agg (cs:=(aW.cells g)) Tryz.isAgg86 Tryz.sizeOf86 ((n.ro B).elem aW.len o (by decide)))) ?_))))))
 refine dD [.string ⟨List.toArray ([])⟩, .string ⟨List.toArray ([])⟩] 86 n ?_
 intro bf bg av
 refine bz (aW.cells g) 0 av Tryz.sizeOf86 ?_
 intro bi S
 refine nt (Wp.region (Mz rfl (Mz rfl (La (aW.cells g) S 0 Tryz.isAgg86 Tryz.sizeOf86 ?_))))
 have ax:=S.pk [1,0]
 obtain⟨C,z⟩:∃ q,lW c g=q:=⟨_,rfl⟩
 obtain⟨bn,T,aM,U,aN⟩:=Own.enter1 ax
 refine WL.do rfl (Do.callV Tryz.call101 rfl rfl (pG _ _ h c.length j c g C T rfl (by omega) (by omega) z) ?_)
 rintro _ bq ⟨ay,az,rfl,V,A⟩
 have W:=U _ _ V
 have aO:=W.rowC (i:=0) rfl
 replace A:C.length≤c.length+52:=A
 refine Az rfl (WL.nil (bN (Fin.then (Wp.region (fw (.int .i64 ((a+1:Nat):Int)) (Yl.int (e:=IntKind.i64.wrap (((a:Nat):Int)+1)) yk (by rw [IntWalk.i64_in _ (by omega)]; omega)) (Mz rfl (WL.nil ?_)))))))
 have aA:=W.pk [0]
 exact Fin.round (ay,az,C,a+1) ⟨rfl,rfl,rfl,rfl,rfl,rfl,trivial⟩ (l.2 ⟨aA,by omega,by omega,et (y) (et (congrArg (fun q=>fI q c) R) (aa z))⟩) (by show b.length - (a+1) < b.length - a; omega)
 refine jF (dF Q) (Wp.exit (Fin.thenX ?_))
 have X:fI b (f++d)=c:=et (y) (et (congrArg (fun q=>fI q c) (dY (ls:=b) (i:=a) (by omega))) rfl)
 refine Fin.thenX (Fin.blockX (Fin.then (sr (Mz rfl (An rfl (rt (rs ?_)))))))
 have aB:=n.pk [0]
 obtain rfl:_=c:=hr.symm.trans (et (aa r) (aa X))
 exact⟨h,j,rfl,aB,(by first | omega | (simp only [List.length_cons,List.length_nil,List.length_append]; omega))⟩
def mM (c:List UInt8) (b:aB):(List UInt8):=
 bnd (dI (c++ [(aR b.ae)]) ([b.aL,b.au,b.aD,b.aI])) fun a=>(a++ [(aR b.aF)])
theorem qo (w:World) (D:Nat→Prop) (A0:Option Addr) (n0 c0:Nat) (b:List UInt8) (a:aB) (r0:List UInt8) (H:Own w D w [row A0 n0 c0 (List.flatMap eB b) 5 1]) (mY:n0=b.length) (sQ:b.length *1≤211106232532992) (sS:b.length≤4000000000∧a.aL.length≤12∧a.au.length≤16∧a.aD.length≤12∧a.aI.length≤12) (hr:mM b a=r0):
    Calls Tryz.prog 58 #[.slice A0 n0 c0, .agg (aB.cells a).toArray] w (cK fun v w'=> ∃ (B0:Option Addr) (b0:Nat),v= .slice B0 r0.length b0∧Own w D w' [row B0 r0.length b0 (List.flatMap eB r0) 5 1]∧(r0.length≤b.length+106)):=by
 subst mY
 have sU:=H.rowC (i:=0) rfl
 refine Calls.body (args:= [.slice A0 b.length c0, .agg (aB.cells a).toArray]) Tryz.func58 rfl rfl rfl ?_
 show Wp _ _ _ [(0, .slice A0 b.length c0),(1, .agg (aB.cells a).toArray)] _ _
 refine sr ?_
 refine dD (aB.cells a) 64 H ?_
 intro C mZ ng
 refine An rfl (Wp.seq ?_)
 have F:=ng.drew
 refine Wp.drawnX [] (fun W=> ∃ L',Own w D W ([blk C (aB.cells a) 64]++L')) (by kernel_rfl) (by kernel_rfl) (bO.then bO.base) ⟨_,F⟩ ?_
 revert F
 generalize World.drew mZ=sV
 intro F
 refine GX.take (v:= .slice A0 b.length c0) (rs:= []) 0 rfl (by kernel_rfl) (fun _ _=>Yl.move rfl) (GX.take (v:= .pointer (some ⟨C,0,none⟩)) (rs:= []) 1 rfl (by kernel_rfl) (fun _ _=>yk) (GX.take (v:= .int .i64 a.ae) (rs:= []) 2 rfl (by kernel_rfl) (fun _ ⟨_,G⟩=>Yl.load rfl (bu.one Tryz.isAgg3 (fG.of (G.cls (i:=0) rfl) rfl))) (GX.take (v:= .int .u8 (((aR a.ae).toNat:Nat):Int)) (rs:= []) 3 rfl (by kernel_rfl) (fun _ _=>Yl.int (e:=IntKind.u8.wrap a.ae) yk (kH _)) (GX.take (v:= .pointer (some ⟨C,1,none⟩)) (rs:= []) 6 rfl (by kernel_rfl) (fun _ _=>yk) (GX.take (v:= .string ⟨List.toArray a.aL⟩) (rs:= []) 7 rfl (by kernel_rfl) (fun _ ⟨_,G⟩=>Yl.load rfl (bu.one Tryz.isAgg9 (fG.of (G.cls (i:=0) rfl) rfl))) (GX.take (v:= .pointer (some ⟨C,2,none⟩)) (rs:= []) 8 rfl (by kernel_rfl) (fun _ _=>yk) (GX.take (v:= .string ⟨List.toArray a.au⟩) (rs:= []) 9 rfl (by kernel_rfl) (fun _ ⟨_,G⟩=>Yl.load rfl (bu.one Tryz.isAgg9 (fG.of (G.cls (i:=0) rfl) rfl))) (GX.take (v:= .pointer (some ⟨C,3,none⟩)) (rs:= []) 10 rfl (by kernel_rfl) (fun _ _=>yk) (GX.take (v:= .string ⟨List.toArray a.aD⟩) (rs:= []) 11 rfl (by kernel_rfl) (fun _ ⟨_,G⟩=>Yl.load rfl (bu.one Tryz.isAgg9 (fG.of (G.cls (i:=0) rfl) rfl))) (GX.take (v:= .pointer (some ⟨C,4,none⟩)) (rs:= []) 12 rfl (by kernel_rfl) (fun _ _=>yk) (GX.take (v:= .string ⟨List.toArray a.aI⟩) (rs:= []) 13 rfl (by kernel_rfl) (fun _ ⟨_,G⟩=>Yl.load rfl (bu.one Tryz.isAgg9 (fG.of (G.cls (i:=0) rfl) rfl))) (GX.take (v:= .pointer (some ⟨C,5,none⟩)) (rs:= []) 16 rfl (by kernel_rfl) (fun _ _=>yk) (GX.take (v:= .int .i64 a.aF) (rs:= []) 17 rfl (by kernel_rfl) (fun _ ⟨_,G⟩=>Yl.load rfl (bu.one Tryz.isAgg3 (fG.of (G.cls (i:=0) rfl) rfl))) (GX.take (v:= .int .u8 (((aR a.aF).toNat:Nat):Int)) (rs:= []) 18 rfl (by kernel_rfl) (fun _ _=>Yl.int (e:=IntKind.u8.wrap a.aF) yk (kH _)) ?_))))))))))))))
 refine GX.any3 4 14 19 (by kernel_rfl) ?_ ?_ ?_
 refine GY.do 4 rfl (by kernel_rfl) (Do.newRow (cs:= [.int .u8 (((aR a.ae).toNat:Nat):Int)]) (t:=5) (sz:=1) (m:=1) F rfl rfl (fun _=>by kernel_rfl) rfl (by decide) ?_)
 intro ni sW ik
 replace ik:=Own.reh (y:=row ni 1 1 (List.flatMap eB ([(aR a.ae)])) 5 1) rfl ik
 have bn:=ik.pk [1,0,2]
 refine⟨.inr ⟨_,bn⟩, ?_⟩
 refine GX.any3 5 14 19 (by kernel_rfl) ?_ ?_ ?_
 have jR:=bn.pk [2,0,1]
 refine GY.do 5 rfl (by kernel_rfl) (Do.appendW (k:=b.length) (m:=1) (bW) jR rfl rfl (cz Tryz.underlying31 (jR.rds (i:=2) rfl) (bK dB ([(aR a.ae)]))) rfl (by omega) (s:=List.length (b++ [(aR a.ae)])) (by first | omega | (simp only [List.length_append,List.length_cons,List.length_nil] <;> omega)) (List.flatMap_append).symm ?_)
 intro il iq sZ nk
 have pq:List.length (b++ [(aR a.ae)])=b.length+1:=by simp only [List.length_append,List.length_cons,List.length_nil]
 have iw:=nk.pk [1,0,2]
 refine⟨.inr ⟨_,iw⟩, ?_⟩
 refine GX.any2 14 19 (by kernel_rfl) ?_ ?_
 refine GY.do 14 rfl (by kernel_rfl) (Do.newRow (cs:= [.string ⟨List.toArray a.aL⟩, .string ⟨List.toArray a.au⟩, .string ⟨List.toArray a.aD⟩, .string ⟨List.toArray a.aI⟩]) (t:=9) (sz:=1) (m:=4) iw rfl rfl (fun _=>by kernel_rfl) rfl (by decide) ?_)
 intro iy tq iA
 replace iA:=Own.reh (y:=row iy 4 4 (List.flatMap eS ([a.aL,a.au,a.aD,a.aI])) 9 1) rfl iA
 have iB:=iA.pk [1,0,2,3]
 refine⟨.inr ⟨_,iB⟩, ?_⟩
 refine GX.any2 15 19 (by kernel_rfl) ?_ ?_
 have nu:=iB.pk [2,0,1,3]
 obtain⟨z,bq⟩:∃ q,dI (b++ [(aR a.ae)]) ([a.aL,a.au,a.aD,a.aI])=q:=⟨_,rfl⟩
 obtain⟨tu,jS,pu,jT,jU⟩:=Own.enter1 nu
 refine GY.do 15 rfl (by kernel_rfl) (Do.call Tryz.call56 rfl (dE _ _ il (List.length (b++ [(aR a.ae)])) iq (b++ [(aR a.ae)]) iy 4 4 ([a.aL,a.au,a.aD,a.aI]) z jS rfl (by first | omega | (simp only [List.length_append,List.length_cons,List.length_nil,List.length_take,List.length_drop,List.length_set]; omega)) (jU _ 1 _ rfl bJ) rfl (by simp) (by first | omega | (simp only [List.length_cons,List.length_nil,List.length_append]; omega)) (by refine⟨Nat.le_of_ble_eq_true rfl, ?_⟩; simp only [List.mem_cons,List.not_mem_nil,or_false,forall_eq_or_imp,forall_eq]; omega) bq) ?_)
 rintro _ tC ⟨tF,tH,rfl,jV,bv⟩
 have jW:=jT _ _ jV
 have pz:=jW.rowC (i:=0) rfl
 replace bv:z.length≤List.length (b++ [(aR a.ae)])+26 *4:=bv
 have jX:=jW.pk [1,0,2,3]
 refine⟨.inr ⟨_,jX⟩, ?_⟩
 refine GX.do 19 rfl (by kernel_rfl) (Do.newRow (cs:= [.int .u8 (((aR a.aF).toNat:Nat):Int)]) (t:=5) (sz:=1) (m:=1) jX rfl rfl (fun _=>by kernel_rfl) rfl (by decide) ?_)
 intro ny tJ iC
 replace iC:=Own.reh (y:=row ny 1 1 (List.flatMap eB ([(aR a.aF)])) 5 1) rfl iC
 have jY:=iC.pk [1,0,2,3,4]
 refine⟨.inr ⟨_,jY⟩, ?_⟩
 have jZ:=jY.pk [2,0,1,3,4]
 refine GX.do 20 rfl (by kernel_rfl) (Do.appendW (k:=z.length) (m:=1) (bW) jZ rfl rfl (cz Tryz.underlying31 (jZ.rds (i:=2) rfl) (bK dB ([(aR a.aF)]))) rfl (by omega) (s:=List.length (z++ [(aR a.aF)])) (by first | omega | (simp only [List.length_append,List.length_cons,List.length_nil] <;> omega)) (List.flatMap_append).symm ?_)
 intro j3 j4 tK nz
 have pE:List.length (z++ [(aR a.aF)])=z.length+1:=by simp only [List.length_append,List.length_cons,List.length_nil]
 have j5:=nz.pk [1,0,2,3,4]
 refine⟨.inr ⟨_,j5⟩, ?_⟩
 refine GX.take (v:= .slice j3 (List.length (z++ [(aR a.aF)])) j4) (rs:= []) 21 rfl (by kernel_rfl) (fun _ _=>Yl.assign rfl) (GX.done (by kernel_rfl) (Fin.then (rt (rs ?_))))
 have nA:=j5.pk [1]
 obtain rfl:_=(z++ [(aR a.aF)]):=hr.symm.trans (aa bq)
 exact⟨j3,j4,rfl,nA,(by first | omega | (simp only [List.length_cons,List.length_nil,List.length_append]; omega))⟩
 refine GY.do 19 rfl (by kernel_rfl) (Do.newRow (cs:= [.int .u8 (((aR a.aF).toNat:Nat):Int)]) (t:=5) (sz:=1) (m:=1) iB rfl rfl (fun _=>by kernel_rfl) rfl (by decide) ?_)
 intro nC tL iD
 replace iD:=Own.reh (y:=row nC 1 1 (List.flatMap eB ([(aR a.aF)])) 5 1) rfl iD
 have j6:=iD.pk [1,0,2,3,4]
 refine⟨.inr ⟨_,j6⟩, ?_⟩
 have nD:=j6.pk [3,0,1,2,4]
 obtain⟨A,bz⟩:∃ q,dI (b++ [(aR a.ae)]) ([a.aL,a.au,a.aD,a.aI])=q:=⟨_,rfl⟩
 obtain⟨tN,kg,pF,ko,kr⟩:=Own.enter1 nD
 refine GX.do 15 rfl (by kernel_rfl) (Do.call Tryz.call56 rfl (dE _ _ il (List.length (b++ [(aR a.ae)])) iq (b++ [(aR a.ae)]) iy 4 4 ([a.aL,a.au,a.aD,a.aI]) A kg rfl (by first | omega | (simp only [List.length_append,List.length_cons,List.length_nil,List.length_take,List.length_drop,List.length_set]; omega)) (kr _ 2 _ rfl bJ) rfl (by simp) (by first | omega | (simp only [List.length_cons,List.length_nil,List.length_append]; omega)) (by refine⟨Nat.le_of_ble_eq_true rfl, ?_⟩; simp only [List.mem_cons,List.not_mem_nil,or_false,forall_eq_or_imp,forall_eq]; omega) bz) ?_)
 rintro _ tO ⟨tQ,tT,rfl,ku,bA⟩
 have kv:=ko _ _ ku
 have pG:=kv.rowC (i:=0) rfl
 replace bA:A.length≤List.length (b++ [(aR a.ae)])+26 *4:=bA
 have kw:=kv.pk [1,0,2,3,4]
 refine⟨.inr ⟨_,kw⟩, ?_⟩
 have ky:=kw.pk [1,0,2,3,4]
 refine GX.do 20 rfl (by kernel_rfl) (Do.appendW (k:=A.length) (m:=1) (bW) ky rfl rfl (cz Tryz.underlying31 (ky.rds (i:=2) rfl) (bK dB ([(aR a.aF)]))) rfl (by omega) (s:=List.length (A++ [(aR a.aF)])) (by first | omega | (simp only [List.length_append,List.length_cons,List.length_nil] <;> omega)) (List.flatMap_append).symm ?_)
 intro kz kC tV nE
 have pI:List.length (A++ [(aR a.aF)])=A.length+1:=by simp only [List.length_append,List.length_cons,List.length_nil]
 have kD:=nE.pk [1,0,2,3,4]
 refine⟨.inr ⟨_,kD⟩, ?_⟩
 refine GX.take (v:= .slice kz (List.length (A++ [(aR a.aF)])) kC) (rs:= []) 21 rfl (by kernel_rfl) (fun _ _=>Yl.assign rfl) (GX.done (by kernel_rfl) (Fin.then (rt (rs ?_))))
 have nG:=kD.pk [1]
 obtain rfl:_=(A++ [(aR a.aF)]):=hr.symm.trans (aa bz)
 exact⟨kz,kC,rfl,nG,(by first | omega | (simp only [List.length_cons,List.length_nil,List.length_append]; omega))⟩
 refine GY.do 19 rfl (by kernel_rfl) (Do.newRow (cs:= [.int .u8 (((aR a.aF).toNat:Nat):Int)]) (t:=5) (sz:=1) (m:=1) iw rfl rfl (fun _=>by kernel_rfl) rfl (by decide) ?_)
 intro nH tX iE
 replace iE:=Own.reh (y:=row nH 1 1 (List.flatMap eB ([(aR a.aF)])) 5 1) rfl iE
 have bB:=iE.pk [1,0,2,3]
 refine⟨.inr ⟨_,bB⟩, ?_⟩
 refine GX.do 14 rfl (by kernel_rfl) (Do.newRow (cs:= [.string ⟨List.toArray a.aL⟩, .string ⟨List.toArray a.au⟩, .string ⟨List.toArray a.aD⟩, .string ⟨List.toArray a.aI⟩]) (t:=9) (sz:=1) (m:=4) bB rfl rfl (fun _=>by kernel_rfl) rfl (by decide) ?_)
 intro bC pJ I
 replace I:=Own.reh (y:=row bC 4 4 (List.flatMap eS ([a.aL,a.au,a.aD,a.aI])) 9 1) rfl I
 have bD:=I.pk [1,0,2,3,4]
 refine⟨.inr ⟨_,bD⟩, ?_⟩
 have kE:=bD.pk [3,0,1,2,4]
 obtain⟨c,J⟩:∃ q,dI (b++ [(aR a.ae)]) ([a.aL,a.au,a.aD,a.aI])=q:=⟨_,rfl⟩
 obtain⟨pK,iF,nI,iG,iH⟩:=Own.enter1 kE
 refine GX.do 15 rfl (by kernel_rfl) (Do.call Tryz.call56 rfl (dE _ _ il (List.length (b++ [(aR a.ae)])) iq (b++ [(aR a.ae)]) bC 4 4 ([a.aL,a.au,a.aD,a.aI]) c iF rfl (by first | omega | (simp only [List.length_append,List.length_cons,List.length_nil,List.length_take,List.length_drop,List.length_set]; omega)) (iH _ 1 _ rfl bJ) rfl (by simp) (by first | omega | (simp only [List.length_cons,List.length_nil,List.length_append]; omega)) (by refine⟨Nat.le_of_ble_eq_true rfl, ?_⟩; simp only [List.mem_cons,List.not_mem_nil,or_false,forall_eq_or_imp,forall_eq]; omega) J) ?_)
 rintro _ pM ⟨pO,pQ,rfl,iI,K⟩
 have bE:=iG _ _ iI
 have nJ:=bE.rowC (i:=0) rfl
 replace K:c.length≤List.length (b++ [(aR a.ae)])+26 *4:=K
 have bF:=bE.pk [1,0,2,3,4]
 refine⟨.inr ⟨_,bF⟩, ?_⟩
 have bG:=bF.pk [1,0,2,3,4]
 refine GX.do 20 rfl (by kernel_rfl) (Do.appendW (k:=c.length) (m:=1) (bW) bG rfl rfl (cz Tryz.underlying31 (bG.rds (i:=3) rfl) (bK dB ([(aR a.aF)]))) rfl (by omega) (s:=List.length (c++ [(aR a.aF)])) (by first | omega | (simp only [List.length_append,List.length_cons,List.length_nil] <;> omega)) (List.flatMap_append).symm ?_)
 intro bH bI pR kF
 have nK:List.length (c++ [(aR a.aF)])=c.length+1:=by simp only [List.length_append,List.length_cons,List.length_nil]
 have bL:=kF.pk [1,0,2,3,4]
 refine⟨.inr ⟨_,bL⟩, ?_⟩
 refine GX.take (v:= .slice bH (List.length (c++ [(aR a.aF)])) bI) (rs:= []) 21 rfl (by kernel_rfl) (fun _ _=>Yl.assign rfl) (GX.done (by kernel_rfl) (Fin.then (rt (rs ?_))))
 have kG:=bL.pk [1]
 obtain rfl:_=(c++ [(aR a.aF)]):=hr.symm.trans (aa J)
 exact⟨bH,bI,rfl,kG,(by first | omega | (simp only [List.length_cons,List.length_nil,List.length_append]; omega))⟩
 refine GY.do 14 rfl (by kernel_rfl) (Do.newRow (cs:= [.string ⟨List.toArray a.aL⟩, .string ⟨List.toArray a.au⟩, .string ⟨List.toArray a.aD⟩, .string ⟨List.toArray a.aI⟩]) (t:=9) (sz:=1) (m:=4) bn rfl rfl (fun _=>by kernel_rfl) rfl (by decide) ?_)
 intro E pU L
 replace L:=Own.reh (y:=row E 4 4 (List.flatMap eS ([a.aL,a.au,a.aD,a.aI])) 9 1) rfl L
 have M:=L.pk [1,0,2,3]
 refine⟨.inr ⟨_,M⟩, ?_⟩
 refine GX.any2 5 19 (by kernel_rfl) ?_ ?_
 have bM:=M.pk [3,0,1,2]
 refine GY.do 5 rfl (by kernel_rfl) (Do.appendW (k:=b.length) (m:=1) (bW) bM rfl rfl (cz Tryz.underlying31 (bM.rds (i:=3) rfl) (bK dB ([(aR a.ae)]))) rfl (by omega) (s:=List.length (b++ [(aR a.ae)])) (by first | omega | (simp only [List.length_append,List.length_cons,List.length_nil] <;> omega)) (List.flatMap_append).symm ?_)
 intro bN bP pV kI
 have nL:List.length (b++ [(aR a.ae)])=b.length+1:=by simp only [List.length_append,List.length_cons,List.length_nil]
 have N:=kI.pk [1,0,2,3]
 refine⟨.inr ⟨_,N⟩, ?_⟩
 refine GX.any2 15 19 (by kernel_rfl) ?_ ?_
 have kJ:=N.pk [1,0,2,3]
 obtain⟨d,O⟩:∃ q,dI (b++ [(aR a.ae)]) ([a.aL,a.au,a.aD,a.aI])=q:=⟨_,rfl⟩
 obtain⟨pW,iJ,nM,iK,iL⟩:=Own.enter1 kJ
 refine GY.do 15 rfl (by kernel_rfl) (Do.call Tryz.call56 rfl (dE _ _ bN (List.length (b++ [(aR a.ae)])) bP (b++ [(aR a.ae)]) E 4 4 ([a.aL,a.au,a.aD,a.aI]) d iJ rfl (by first | omega | (simp only [List.length_append,List.length_cons,List.length_nil,List.length_take,List.length_drop,List.length_set]; omega)) (iL _ 1 _ rfl bJ) rfl (by simp) (by first | omega | (simp only [List.length_cons,List.length_nil,List.length_append]; omega)) (by refine⟨Nat.le_of_ble_eq_true rfl, ?_⟩; simp only [List.mem_cons,List.not_mem_nil,or_false,forall_eq_or_imp,forall_eq]; omega) O) ?_)
 rintro _ pX ⟨pY,p8,rfl,iM,P⟩
 have bQ:=iK _ _ iM
 have nN:=bQ.rowC (i:=0) rfl
 replace P:d.length≤List.length (b++ [(aR a.ae)])+26 *4:=P
 have bR:=bQ.pk [1,0,2,3]
 refine⟨.inr ⟨_,bR⟩, ?_⟩
 refine GX.do 19 rfl (by kernel_rfl) (Do.newRow (cs:= [.int .u8 (((aR a.aF).toNat:Nat):Int)]) (t:=5) (sz:=1) (m:=1) bR rfl rfl (fun _=>by kernel_rfl) rfl (by decide) ?_)
 intro kK p9 Q
 replace Q:=Own.reh (y:=row kK 1 1 (List.flatMap eB ([(aR a.aF)])) 5 1) rfl Q
 have bS:=Q.pk [1,0,2,3,4]
 refine⟨.inr ⟨_,bS⟩, ?_⟩
 have bT:=bS.pk [2,0,1,3,4]
 refine GX.do 20 rfl (by kernel_rfl) (Do.appendW (k:=d.length) (m:=1) (bW) bT rfl rfl (cz Tryz.underlying31 (bT.rds (i:=2) rfl) (bK dB ([(aR a.aF)]))) rfl (by omega) (s:=List.length (d++ [(aR a.aF)])) (by first | omega | (simp only [List.length_append,List.length_cons,List.length_nil] <;> omega)) (List.flatMap_append).symm ?_)
 intro bU bV qa kL
 have nO:List.length (d++ [(aR a.aF)])=d.length+1:=by simp only [List.length_append,List.length_cons,List.length_nil]
 have bX:=kL.pk [1,0,2,3,4]
 refine⟨.inr ⟨_,bX⟩, ?_⟩
 refine GX.take (v:= .slice bU (List.length (d++ [(aR a.aF)])) bV) (rs:= []) 21 rfl (by kernel_rfl) (fun _ _=>Yl.assign rfl) (GX.done (by kernel_rfl) (Fin.then (rt (rs ?_))))
 have kM:=bX.pk [1]
 obtain rfl:_=(d++ [(aR a.aF)]):=hr.symm.trans (aa O)
 exact⟨bU,bV,rfl,kM,(by first | omega | (simp only [List.length_cons,List.length_nil,List.length_append]; omega))⟩
 refine GY.do 19 rfl (by kernel_rfl) (Do.newRow (cs:= [.int .u8 (((aR a.aF).toNat:Nat):Int)]) (t:=5) (sz:=1) (m:=1) N rfl rfl (fun _=>by kernel_rfl) rfl (by decide) ?_)
 intro kN qb R
 replace R:=Own.reh (y:=row kN 1 1 (List.flatMap eB ([(aR a.aF)])) 5 1) rfl R
 have bY:=R.pk [1,0,2,3,4]
 refine⟨.inr ⟨_,bY⟩, ?_⟩
 have kP:=bY.pk [2,0,1,3,4]
 obtain⟨f,S⟩:∃ q,dI (b++ [(aR a.ae)]) ([a.aL,a.au,a.aD,a.aI])=q:=⟨_,rfl⟩
 obtain⟨qc,iN,nP,iO,iP⟩:=Own.enter1 kP
 refine GX.do 15 rfl (by kernel_rfl) (Do.call Tryz.call56 rfl (dE _ _ bN (List.length (b++ [(aR a.ae)])) bP (b++ [(aR a.ae)]) E 4 4 ([a.aL,a.au,a.aD,a.aI]) f iN rfl (by first | omega | (simp only [List.length_append,List.length_cons,List.length_nil,List.length_take,List.length_drop,List.length_set]; omega)) (iP _ 2 _ rfl bJ) rfl (by simp) (by first | omega | (simp only [List.length_cons,List.length_nil,List.length_append]; omega)) (by refine⟨Nat.le_of_ble_eq_true rfl, ?_⟩; simp only [List.mem_cons,List.not_mem_nil,or_false,forall_eq_or_imp,forall_eq]; omega) S) ?_)
 rintro _ qd ⟨qf,qg,rfl,iQ,T⟩
 have bZ:=iO _ _ iQ
 have nQ:=bZ.rowC (i:=0) rfl
 replace T:f.length≤List.length (b++ [(aR a.ae)])+26 *4:=T
 have cu:=bZ.pk [1,0,2,3,4]
 refine⟨.inr ⟨_,cu⟩, ?_⟩
 have cB:=cu.pk [1,0,2,3,4]
 refine GX.do 20 rfl (by kernel_rfl) (Do.appendW (k:=f.length) (m:=1) (bW) cB rfl rfl (cz Tryz.underlying31 (cB.rds (i:=2) rfl) (bK dB ([(aR a.aF)]))) rfl (by omega) (s:=List.length (f++ [(aR a.aF)])) (by first | omega | (simp only [List.length_append,List.length_cons,List.length_nil] <;> omega)) (List.flatMap_append).symm ?_)
 intro cO cZ qh kQ
 have nR:List.length (f++ [(aR a.aF)])=f.length+1:=by simp only [List.length_append,List.length_cons,List.length_nil]
 have df:=kQ.pk [1,0,2,3,4]
 refine⟨.inr ⟨_,df⟩, ?_⟩
 refine GX.take (v:= .slice cO (List.length (f++ [(aR a.aF)])) cZ) (rs:= []) 21 rfl (by kernel_rfl) (fun _ _=>Yl.assign rfl) (GX.done (by kernel_rfl) (Fin.then (rt (rs ?_))))
 have kR:=df.pk [1]
 obtain rfl:_=(f++ [(aR a.aF)]):=hr.symm.trans (aa S)
 exact⟨cO,cZ,rfl,kR,(by first | omega | (simp only [List.length_cons,List.length_nil,List.length_append]; omega))⟩
 refine GY.do 19 rfl (by kernel_rfl) (Do.newRow (cs:= [.int .u8 (((aR a.aF).toNat:Nat):Int)]) (t:=5) (sz:=1) (m:=1) M rfl rfl (fun _=>by kernel_rfl) rfl (by decide) ?_)
 intro kS qi U
 replace U:=Own.reh (y:=row kS 1 1 (List.flatMap eB ([(aR a.aF)])) 5 1) rfl U
 have dh:=U.pk [1,0,2,3,4]
 refine⟨.inr ⟨_,dh⟩, ?_⟩
 have di:=dh.pk [4,0,1,2,3]
 refine GX.do 5 rfl (by kernel_rfl) (Do.appendW (k:=b.length) (m:=1) (bW) di rfl rfl (cz Tryz.underlying31 (di.rds (i:=4) rfl) (bK dB ([(aR a.ae)]))) rfl (by omega) (s:=List.length (b++ [(aR a.ae)])) (by first | omega | (simp only [List.length_append,List.length_cons,List.length_nil] <;> omega)) (List.flatMap_append).symm ?_)
 intro kT kU qj kV
 have nS:List.length (b++ [(aR a.ae)])=b.length+1:=by simp only [List.length_append,List.length_cons,List.length_nil]
 have dm:=kV.pk [1,0,2,3,4]
 refine⟨.inr ⟨_,dm⟩, ?_⟩
 have kW:=dm.pk [1,0,2,3,4]
 obtain⟨g,V⟩:∃ q,dI (b++ [(aR a.ae)]) ([a.aL,a.au,a.aD,a.aI])=q:=⟨_,rfl⟩
 obtain⟨ql,iR,nT,iT,iU⟩:=Own.enter1 kW
 refine GX.do 15 rfl (by kernel_rfl) (Do.call Tryz.call56 rfl (dE _ _ kT (List.length (b++ [(aR a.ae)])) kU (b++ [(aR a.ae)]) E 4 4 ([a.aL,a.au,a.aD,a.aI]) g iR rfl (by first | omega | (simp only [List.length_append,List.length_cons,List.length_nil,List.length_take,List.length_drop,List.length_set]; omega)) (iU _ 2 _ rfl bJ) rfl (by simp) (by first | omega | (simp only [List.length_cons,List.length_nil,List.length_append]; omega)) (by refine⟨Nat.le_of_ble_eq_true rfl, ?_⟩; simp only [List.mem_cons,List.not_mem_nil,or_false,forall_eq_or_imp,forall_eq]; omega) V) ?_)
 rintro _ qm ⟨qp,qw,rfl,iV,X⟩
 have dn:=iT _ _ iV
 have nU:=dn.rowC (i:=0) rfl
 replace X:g.length≤List.length (b++ [(aR a.ae)])+26 *4:=X
 have dw:=dn.pk [1,0,2,3,4]
 refine⟨.inr ⟨_,dw⟩, ?_⟩
 have dx:=dw.pk [1,0,2,3,4]
 refine GX.do 20 rfl (by kernel_rfl) (Do.appendW (k:=g.length) (m:=1) (bW) dx rfl rfl (cz Tryz.underlying31 (dx.rds (i:=2) rfl) (bK dB ([(aR a.aF)]))) rfl (by omega) (s:=List.length (g++ [(aR a.aF)])) (by first | omega | (simp only [List.length_append,List.length_cons,List.length_nil] <;> omega)) (List.flatMap_append).symm ?_)
 intro dz dA qx kX
 have nV:List.length (g++ [(aR a.aF)])=g.length+1:=by simp only [List.length_append,List.length_cons,List.length_nil]
 have dC:=kX.pk [1,0,2,3,4]
 refine⟨.inr ⟨_,dC⟩, ?_⟩
 refine GX.take (v:= .slice dz (List.length (g++ [(aR a.aF)])) dA) (rs:= []) 21 rfl (by kernel_rfl) (fun _ _=>Yl.assign rfl) (GX.done (by kernel_rfl) (Fin.then (rt (rs ?_))))
 have kY:=dC.pk [1]
 obtain rfl:_=(g++ [(aR a.aF)]):=hr.symm.trans (aa V)
 exact⟨dz,dA,rfl,kY,(by first | omega | (simp only [List.length_cons,List.length_nil,List.length_append]; omega))⟩
 refine GY.do 19 rfl (by kernel_rfl) (Do.newRow (cs:= [.int .u8 (((aR a.aF).toNat:Nat):Int)]) (t:=5) (sz:=1) (m:=1) bn rfl rfl (fun _=>by kernel_rfl) rfl (by decide) ?_)
 intro kZ qy Y
 replace Y:=Own.reh (y:=row kZ 1 1 (List.flatMap eB ([(aR a.aF)])) 5 1) rfl Y
 have Z:=Y.pk [1,0,2,3]
 refine⟨.inr ⟨_,Z⟩, ?_⟩
 refine GX.any2 5 14 (by kernel_rfl) ?_ ?_
 have dF:=Z.pk [3,0,1,2]
 refine GY.do 5 rfl (by kernel_rfl) (Do.appendW (k:=b.length) (m:=1) (bW) dF rfl rfl (cz Tryz.underlying31 (dF.rds (i:=3) rfl) (bK dB ([(aR a.ae)]))) rfl (by omega) (s:=List.length (b++ [(aR a.ae)])) (by first | omega | (simp only [List.length_append,List.length_cons,List.length_nil] <;> omega)) (List.flatMap_append).symm ?_)
 intro lc lg qz lh
 have nW:List.length (b++ [(aR a.ae)])=b.length+1:=by simp only [List.length_append,List.length_cons,List.length_nil]
 have dG:=lh.pk [1,0,2,3]
 refine⟨.inr ⟨_,dG⟩, ?_⟩
 refine GX.do 14 rfl (by kernel_rfl) (Do.newRow (cs:= [.string ⟨List.toArray a.aL⟩, .string ⟨List.toArray a.au⟩, .string ⟨List.toArray a.aD⟩, .string ⟨List.toArray a.aI⟩]) (t:=9) (sz:=1) (m:=4) dG rfl rfl (fun _=>by kernel_rfl) rfl (by decide) ?_)
 intro dH qA ae
 replace ae:=Own.reh (y:=row dH 4 4 (List.flatMap eS ([a.aL,a.au,a.aD,a.aI])) 9 1) rfl ae
 have dJ:=ae.pk [1,0,2,3,4]
 refine⟨.inr ⟨_,dJ⟩, ?_⟩
 have ll:=dJ.pk [2,0,1,3,4]
 obtain⟨h,af⟩:∃ q,dI (b++ [(aR a.ae)]) ([a.aL,a.au,a.aD,a.aI])=q:=⟨_,rfl⟩
 obtain⟨qB,iW,nX,iX,iY⟩:=Own.enter1 ll
 refine GX.do 15 rfl (by kernel_rfl) (Do.call Tryz.call56 rfl (dE _ _ lc (List.length (b++ [(aR a.ae)])) lg (b++ [(aR a.ae)]) dH 4 4 ([a.aL,a.au,a.aD,a.aI]) h iW rfl (by first | omega | (simp only [List.length_append,List.length_cons,List.length_nil,List.length_take,List.length_drop,List.length_set]; omega)) (iY _ 1 _ rfl bJ) rfl (by simp) (by first | omega | (simp only [List.length_cons,List.length_nil,List.length_append]; omega)) (by refine⟨Nat.le_of_ble_eq_true rfl, ?_⟩; simp only [List.mem_cons,List.not_mem_nil,or_false,forall_eq_or_imp,forall_eq]; omega) af) ?_)
 rintro _ qC ⟨qD,qE,rfl,iZ,ag⟩
 have dK:=iX _ _ iZ
 have nY:=dK.rowC (i:=0) rfl
 replace ag:h.length≤List.length (b++ [(aR a.ae)])+26 *4:=ag
 have dL:=dK.pk [1,0,2,3,4]
 refine⟨.inr ⟨_,dL⟩, ?_⟩
 have dM:=dL.pk [1,0,2,3,4]
 refine GX.do 20 rfl (by kernel_rfl) (Do.appendW (k:=h.length) (m:=1) (bW) dM rfl rfl (cz Tryz.underlying31 (dM.rds (i:=3) rfl) (bK dB ([(aR a.aF)]))) rfl (by omega) (s:=List.length (h++ [(aR a.aF)])) (by first | omega | (simp only [List.length_append,List.length_cons,List.length_nil] <;> omega)) (List.flatMap_append).symm ?_)
 intro dN dO qF lm
 have nZ:List.length (h++ [(aR a.aF)])=h.length+1:=by simp only [List.length_append,List.length_cons,List.length_nil]
 have dP:=lm.pk [1,0,2,3,4]
 refine⟨.inr ⟨_,dP⟩, ?_⟩
 refine GX.take (v:= .slice dN (List.length (h++ [(aR a.aF)])) dO) (rs:= []) 21 rfl (by kernel_rfl) (fun _ _=>Yl.assign rfl) (GX.done (by kernel_rfl) (Fin.then (rt (rs ?_))))
 have lq:=dP.pk [1]
 obtain rfl:_=(h++ [(aR a.aF)]):=hr.symm.trans (aa af)
 exact⟨dN,dO,rfl,lq,(by first | omega | (simp only [List.length_cons,List.length_nil,List.length_append]; omega))⟩
 refine GY.do 14 rfl (by kernel_rfl) (Do.newRow (cs:= [.string ⟨List.toArray a.aL⟩, .string ⟨List.toArray a.au⟩, .string ⟨List.toArray a.aD⟩, .string ⟨List.toArray a.aI⟩]) (t:=9) (sz:=1) (m:=4) Z rfl rfl (fun _=>by kernel_rfl) rfl (by decide) ?_)
 intro dQ qG ah
 replace ah:=Own.reh (y:=row dQ 4 4 (List.flatMap eS ([a.aL,a.au,a.aD,a.aI])) 9 1) rfl ah
 have dR:=ah.pk [1,0,2,3,4]
 refine⟨.inr ⟨_,dR⟩, ?_⟩
 have dS:=dR.pk [4,0,1,2,3]
 refine GX.do 5 rfl (by kernel_rfl) (Do.appendW (k:=b.length) (m:=1) (bW) dS rfl rfl (cz Tryz.underlying31 (dS.rds (i:=4) rfl) (bK dB ([(aR a.ae)]))) rfl (by omega) (s:=List.length (b++ [(aR a.ae)])) (by first | omega | (simp only [List.length_append,List.length_cons,List.length_nil] <;> omega)) (List.flatMap_append).symm ?_)
 intro lu lv qH lw
 have og:List.length (b++ [(aR a.ae)])=b.length+1:=by simp only [List.length_append,List.length_cons,List.length_nil]
 have dU:=lw.pk [1,0,2,3,4]
 refine⟨.inr ⟨_,dU⟩, ?_⟩
 have lC:=dU.pk [1,0,2,3,4]
 obtain⟨j,ai⟩:∃ q,dI (b++ [(aR a.ae)]) ([a.aL,a.au,a.aD,a.aI])=q:=⟨_,rfl⟩
 obtain⟨qI,ja,oh,jb,jc⟩:=Own.enter1 lC
 refine GX.do 15 rfl (by kernel_rfl) (Do.call Tryz.call56 rfl (dE _ _ lu (List.length (b++ [(aR a.ae)])) lv (b++ [(aR a.ae)]) dQ 4 4 ([a.aL,a.au,a.aD,a.aI]) j ja rfl (by first | omega | (simp only [List.length_append,List.length_cons,List.length_nil,List.length_take,List.length_drop,List.length_set]; omega)) (jc _ 1 _ rfl bJ) rfl (by simp) (by first | omega | (simp only [List.length_cons,List.length_nil,List.length_append]; omega)) (by refine⟨Nat.le_of_ble_eq_true rfl, ?_⟩; simp only [List.mem_cons,List.not_mem_nil,or_false,forall_eq_or_imp,forall_eq]; omega) ai) ?_)
 rintro _ qJ ⟨qK,qL,rfl,jd,aj⟩
 have dV:=jb _ _ jd
 have ol:=dV.rowC (i:=0) rfl
 replace aj:j.length≤List.length (b++ [(aR a.ae)])+26 *4:=aj
 have dW:=dV.pk [1,0,2,3,4]
 refine⟨.inr ⟨_,dW⟩, ?_⟩
 have dX:=dW.pk [1,0,2,3,4]
 refine GX.do 20 rfl (by kernel_rfl) (Do.appendW (k:=j.length) (m:=1) (bW) dX rfl rfl (cz Tryz.underlying31 (dX.rds (i:=3) rfl) (bK dB ([(aR a.aF)]))) rfl (by omega) (s:=List.length (j++ [(aR a.aF)])) (by first | omega | (simp only [List.length_append,List.length_cons,List.length_nil] <;> omega)) (List.flatMap_append).symm ?_)
 intro dY dZ qM lD
 have om:List.length (j++ [(aR a.aF)])=j.length+1:=by simp only [List.length_append,List.length_cons,List.length_nil]
 have d9:=lD.pk [1,0,2,3,4]
 refine⟨.inr ⟨_,d9⟩, ?_⟩
 refine GX.take (v:= .slice dY (List.length (j++ [(aR a.aF)])) dZ) (rs:= []) 21 rfl (by kernel_rfl) (fun _ _=>Yl.assign rfl) (GX.done (by kernel_rfl) (Fin.then (rt (rs ?_))))
 have lF:=d9.pk [1]
 obtain rfl:_=(j++ [(aR a.aF)]):=hr.symm.trans (aa ai)
 exact⟨dY,dZ,rfl,lF,(by first | omega | (simp only [List.length_cons,List.length_nil,List.length_append]; omega))⟩
 refine GY.do 14 rfl (by kernel_rfl) (Do.newRow (cs:= [.string ⟨List.toArray a.aL⟩, .string ⟨List.toArray a.au⟩, .string ⟨List.toArray a.aD⟩, .string ⟨List.toArray a.aI⟩]) (t:=9) (sz:=1) (m:=4) F rfl rfl (fun _=>by kernel_rfl) rfl (by decide) ?_)
 intro B qN ak
 replace ak:=Own.reh (y:=row B 4 4 (List.flatMap eS ([a.aL,a.au,a.aD,a.aI])) 9 1) rfl ak
 have au:=ak.pk [1,0,2]
 refine⟨.inr ⟨_,au⟩, ?_⟩
 refine GX.any2 4 19 (by kernel_rfl) ?_ ?_
 refine GY.do 4 rfl (by kernel_rfl) (Do.newRow (cs:= [.int .u8 (((aR a.ae).toNat:Nat):Int)]) (t:=5) (sz:=1) (m:=1) au rfl rfl (fun _=>by kernel_rfl) rfl (by decide) ?_)
 intro lG qO av
 replace av:=Own.reh (y:=row lG 1 1 (List.flatMap eB ([(aR a.ae)])) 5 1) rfl av
 have ax:=av.pk [1,0,2,3]
 refine⟨.inr ⟨_,ax⟩, ?_⟩
 refine GX.any2 5 19 (by kernel_rfl) ?_ ?_
 have ed:=ax.pk [3,0,1,2]
 refine GY.do 5 rfl (by kernel_rfl) (Do.appendW (k:=b.length) (m:=1) (bW) ed rfl rfl (cz Tryz.underlying31 (ed.rds (i:=2) rfl) (bK dB ([(aR a.ae)]))) rfl (by omega) (s:=List.length (b++ [(aR a.ae)])) (by first | omega | (simp only [List.length_append,List.length_cons,List.length_nil] <;> omega)) (List.flatMap_append).symm ?_)
 intro ek eu qP lH
 have oo:List.length (b++ [(aR a.ae)])=b.length+1:=by simp only [List.length_append,List.length_cons,List.length_nil]
 have ay:=lH.pk [1,0,2,3]
 refine⟨.inr ⟨_,ay⟩, ?_⟩
 refine GX.any2 15 19 (by kernel_rfl) ?_ ?_
 have lI:=ay.pk [1,0,2,3]
 obtain⟨l,az⟩:∃ q,dI (b++ [(aR a.ae)]) ([a.aL,a.au,a.aD,a.aI])=q:=⟨_,rfl⟩
 obtain⟨qQ,je,oq,jf,jg⟩:=Own.enter1 lI
 refine GY.do 15 rfl (by kernel_rfl) (Do.call Tryz.call56 rfl (dE _ _ ek (List.length (b++ [(aR a.ae)])) eu (b++ [(aR a.ae)]) B 4 4 ([a.aL,a.au,a.aD,a.aI]) l je rfl (by first | omega | (simp only [List.length_append,List.length_cons,List.length_nil,List.length_take,List.length_drop,List.length_set]; omega)) (jg _ 2 _ rfl bJ) rfl (by simp) (by first | omega | (simp only [List.length_cons,List.length_nil,List.length_append]; omega)) (by refine⟨Nat.le_of_ble_eq_true rfl, ?_⟩; simp only [List.mem_cons,List.not_mem_nil,or_false,forall_eq_or_imp,forall_eq]; omega) az) ?_)
 rintro _ qR ⟨qU,qV,rfl,jh,aA⟩
 have eD:=jf _ _ jh
 have ou:=eD.rowC (i:=0) rfl
 replace aA:l.length≤List.length (b++ [(aR a.ae)])+26 *4:=aA
 have eF:=eD.pk [1,0,2,3]
 refine⟨.inr ⟨_,eF⟩, ?_⟩
 refine GX.do 19 rfl (by kernel_rfl) (Do.newRow (cs:= [.int .u8 (((aR a.aF).toNat:Nat):Int)]) (t:=5) (sz:=1) (m:=1) eF rfl rfl (fun _=>by kernel_rfl) rfl (by decide) ?_)
 intro lJ qW aC
 replace aC:=Own.reh (y:=row lJ 1 1 (List.flatMap eB ([(aR a.aF)])) 5 1) rfl aC
 have eG:=aC.pk [1,0,2,3,4]
 refine⟨.inr ⟨_,eG⟩, ?_⟩
 have eH:=eG.pk [2,0,1,3,4]
 refine GX.do 20 rfl (by kernel_rfl) (Do.appendW (k:=l.length) (m:=1) (bW) eH rfl rfl (cz Tryz.underlying31 (eH.rds (i:=2) rfl) (bK dB ([(aR a.aF)]))) rfl (by omega) (s:=List.length (l++ [(aR a.aF)])) (by first | omega | (simp only [List.length_append,List.length_cons,List.length_nil] <;> omega)) (List.flatMap_append).symm ?_)
 intro eO eP qX lK
 have ow:List.length (l++ [(aR a.aF)])=l.length+1:=by simp only [List.length_append,List.length_cons,List.length_nil]
 have eQ:=lK.pk [1,0,2,3,4]
 refine⟨.inr ⟨_,eQ⟩, ?_⟩
 refine GX.take (v:= .slice eO (List.length (l++ [(aR a.aF)])) eP) (rs:= []) 21 rfl (by kernel_rfl) (fun _ _=>Yl.assign rfl) (GX.done (by kernel_rfl) (Fin.then (rt (rs ?_))))
 have lL:=eQ.pk [1]
 obtain rfl:_=(l++ [(aR a.aF)]):=hr.symm.trans (aa az)
 exact⟨eO,eP,rfl,lL,(by first | omega | (simp only [List.length_cons,List.length_nil,List.length_append]; omega))⟩
 refine GY.do 19 rfl (by kernel_rfl) (Do.newRow (cs:= [.int .u8 (((aR a.aF).toNat:Nat):Int)]) (t:=5) (sz:=1) (m:=1) ay rfl rfl (fun _=>by kernel_rfl) rfl (by decide) ?_)
 intro lM qY aD
 replace aD:=Own.reh (y:=row lM 1 1 (List.flatMap eB ([(aR a.aF)])) 5 1) rfl aD
 have eT:=aD.pk [1,0,2,3,4]
 refine⟨.inr ⟨_,eT⟩, ?_⟩
 have lN:=eT.pk [2,0,1,3,4]
 obtain⟨n,aF⟩:∃ q,dI (b++ [(aR a.ae)]) ([a.aL,a.au,a.aD,a.aI])=q:=⟨_,rfl⟩
 obtain⟨qZ,ji,oz,jk,jl⟩:=Own.enter1 lN
 refine GX.do 15 rfl (by kernel_rfl) (Do.call Tryz.call56 rfl (dE _ _ ek (List.length (b++ [(aR a.ae)])) eu (b++ [(aR a.ae)]) B 4 4 ([a.aL,a.au,a.aD,a.aI]) n ji rfl (by first | omega | (simp only [List.length_append,List.length_cons,List.length_nil,List.length_take,List.length_drop,List.length_set]; omega)) (jl _ 3 _ rfl bJ) rfl (by simp) (by first | omega | (simp only [List.length_cons,List.length_nil,List.length_append]; omega)) (by refine⟨Nat.le_of_ble_eq_true rfl, ?_⟩; simp only [List.mem_cons,List.not_mem_nil,or_false,forall_eq_or_imp,forall_eq]; omega) aF) ?_)
 rintro _ q8 ⟨q9,rf,rfl,jm,aG⟩
 have eU:=jk _ _ jm
 have oC:=eU.rowC (i:=0) rfl
 replace aG:n.length≤List.length (b++ [(aR a.ae)])+26 *4:=aG
 have eX:=eU.pk [1,0,2,3,4]
 refine⟨.inr ⟨_,eX⟩, ?_⟩
 have eY:=eX.pk [1,0,2,3,4]
 refine GX.do 20 rfl (by kernel_rfl) (Do.appendW (k:=n.length) (m:=1) (bW) eY rfl rfl (cz Tryz.underlying31 (eY.rds (i:=2) rfl) (bK dB ([(aR a.aF)]))) rfl (by omega) (s:=List.length (n++ [(aR a.aF)])) (by first | omega | (simp only [List.length_append,List.length_cons,List.length_nil] <;> omega)) (List.flatMap_append).symm ?_)
 intro eZ fe rq lQ
 have oD:List.length (n++ [(aR a.aF)])=n.length+1:=by simp only [List.length_append,List.length_cons,List.length_nil]
 have fo:=lQ.pk [1,0,2,3,4]
 refine⟨.inr ⟨_,fo⟩, ?_⟩
 refine GX.take (v:= .slice eZ (List.length (n++ [(aR a.aF)])) fe) (rs:= []) 21 rfl (by kernel_rfl) (fun _ _=>Yl.assign rfl) (GX.done (by kernel_rfl) (Fin.then (rt (rs ?_))))
 have lS:=fo.pk [1]
 obtain rfl:_=(n++ [(aR a.aF)]):=hr.symm.trans (aa aF)
 exact⟨eZ,fe,rfl,lS,(by first | omega | (simp only [List.length_cons,List.length_nil,List.length_append]; omega))⟩
 refine GY.do 19 rfl (by kernel_rfl) (Do.newRow (cs:= [.int .u8 (((aR a.aF).toNat:Nat):Int)]) (t:=5) (sz:=1) (m:=1) ax rfl rfl (fun _=>by kernel_rfl) rfl (by decide) ?_)
 intro lT ru aH
 replace aH:=Own.reh (y:=row lT 1 1 (List.flatMap eB ([(aR a.aF)])) 5 1) rfl aH
 have fq:=aH.pk [1,0,2,3,4]
 refine⟨.inr ⟨_,fq⟩, ?_⟩
 have fu:=fq.pk [4,0,1,2,3]
 refine GX.do 5 rfl (by kernel_rfl) (Do.appendW (k:=b.length) (m:=1) (bW) fu rfl rfl (cz Tryz.underlying31 (fu.rds (i:=3) rfl) (bK dB ([(aR a.ae)]))) rfl (by omega) (s:=List.length (b++ [(aR a.ae)])) (by first | omega | (simp only [List.length_append,List.length_cons,List.length_nil] <;> omega)) (List.flatMap_append).symm ?_)
 intro lU lV ry lW
 have oF:List.length (b++ [(aR a.ae)])=b.length+1:=by simp only [List.length_append,List.length_cons,List.length_nil]
 have fw:=lW.pk [1,0,2,3,4]
 refine⟨.inr ⟨_,fw⟩, ?_⟩
 have lX:=fw.pk [1,0,2,3,4]
 obtain⟨o,aI⟩:∃ q,dI (b++ [(aR a.ae)]) ([a.aL,a.au,a.aD,a.aI])=q:=⟨_,rfl⟩
 obtain⟨rz,jo,oG,jq,jr⟩:=Own.enter1 lX
 refine GX.do 15 rfl (by kernel_rfl) (Do.call Tryz.call56 rfl (dE _ _ lU (List.length (b++ [(aR a.ae)])) lV (b++ [(aR a.ae)]) B 4 4 ([a.aL,a.au,a.aD,a.aI]) o jo rfl (by first | omega | (simp only [List.length_append,List.length_cons,List.length_nil,List.length_take,List.length_drop,List.length_set]; omega)) (jr _ 3 _ rfl bJ) rfl (by simp) (by first | omega | (simp only [List.length_cons,List.length_nil,List.length_append]; omega)) (by refine⟨Nat.le_of_ble_eq_true rfl, ?_⟩; simp only [List.mem_cons,List.not_mem_nil,or_false,forall_eq_or_imp,forall_eq]; omega) aI) ?_)
 rintro _ rA ⟨rC,rD,rfl,jv,aJ⟩
 have fA:=jq _ _ jv
 have oH:=fA.rowC (i:=0) rfl
 replace aJ:o.length≤List.length (b++ [(aR a.ae)])+26 *4:=aJ
 have fB:=fA.pk [1,0,2,3,4]
 refine⟨.inr ⟨_,fB⟩, ?_⟩
 have fC:=fB.pk [1,0,2,3,4]
 refine GX.do 20 rfl (by kernel_rfl) (Do.appendW (k:=o.length) (m:=1) (bW) fC rfl rfl (cz Tryz.underlying31 (fC.rds (i:=2) rfl) (bK dB ([(aR a.aF)]))) rfl (by omega) (s:=List.length (o++ [(aR a.aF)])) (by first | omega | (simp only [List.length_append,List.length_cons,List.length_nil] <;> omega)) (List.flatMap_append).symm ?_)
 intro fD fE rE lY
 have oI:List.length (o++ [(aR a.aF)])=o.length+1:=by simp only [List.length_append,List.length_cons,List.length_nil]
 have fF:=lY.pk [1,0,2,3,4]
 refine⟨.inr ⟨_,fF⟩, ?_⟩
 refine GX.take (v:= .slice fD (List.length (o++ [(aR a.aF)])) fE) (rs:= []) 21 rfl (by kernel_rfl) (fun _ _=>Yl.assign rfl) (GX.done (by kernel_rfl) (Fin.then (rt (rs ?_))))
 have lZ:=fF.pk [1]
 obtain rfl:_=(o++ [(aR a.aF)]):=hr.symm.trans (aa aI)
 exact⟨fD,fE,rfl,lZ,(by first | omega | (simp only [List.length_cons,List.length_nil,List.length_append]; omega))⟩
 refine GY.do 19 rfl (by kernel_rfl) (Do.newRow (cs:= [.int .u8 (((aR a.aF).toNat:Nat):Int)]) (t:=5) (sz:=1) (m:=1) au rfl rfl (fun _=>by kernel_rfl) rfl (by decide) ?_)
 intro l5 rF aK
 replace aK:=Own.reh (y:=row l5 1 1 (List.flatMap eB ([(aR a.aF)])) 5 1) rfl aK
 have fH:=aK.pk [1,0,2,3]
 refine⟨.inr ⟨_,fH⟩, ?_⟩
 refine GX.do 4 rfl (by kernel_rfl) (Do.newRow (cs:= [.int .u8 (((aR a.ae).toNat:Nat):Int)]) (t:=5) (sz:=1) (m:=1) fH rfl rfl (fun _=>by kernel_rfl) rfl (by decide) ?_)
 intro l6 rG aL
 replace aL:=Own.reh (y:=row l6 1 1 (List.flatMap eB ([(aR a.ae)])) 5 1) rfl aL
 have fI:=aL.pk [1,0,2,3,4]
 refine⟨.inr ⟨_,fI⟩, ?_⟩
 have fJ:=fI.pk [4,0,1,2,3]
 refine GX.do 5 rfl (by kernel_rfl) (Do.appendW (k:=b.length) (m:=1) (bW) fJ rfl rfl (cz Tryz.underlying31 (fJ.rds (i:=2) rfl) (bK dB ([(aR a.ae)]))) rfl (by omega) (s:=List.length (b++ [(aR a.ae)])) (by first | omega | (simp only [List.length_append,List.length_cons,List.length_nil] <;> omega)) (List.flatMap_append).symm ?_)
 intro l7 l8 rH l9
 have oJ:List.length (b++ [(aR a.ae)])=b.length+1:=by simp only [List.length_append,List.length_cons,List.length_nil]
 have fK:=l9.pk [1,0,2,3,4]
 refine⟨.inr ⟨_,fK⟩, ?_⟩
 have ma:=fK.pk [1,0,2,3,4]
 obtain⟨p,aM⟩:∃ q,dI (b++ [(aR a.ae)]) ([a.aL,a.au,a.aD,a.aI])=q:=⟨_,rfl⟩
 obtain⟨rJ,jw,oK,jy,jA⟩:=Own.enter1 ma
 refine GX.do 15 rfl (by kernel_rfl) (Do.call Tryz.call56 rfl (dE _ _ l7 (List.length (b++ [(aR a.ae)])) l8 (b++ [(aR a.ae)]) B 4 4 ([a.aL,a.au,a.aD,a.aI]) p jw rfl (by first | omega | (simp only [List.length_append,List.length_cons,List.length_nil,List.length_take,List.length_drop,List.length_set]; omega)) (jA _ 3 _ rfl bJ) rfl (by simp) (by first | omega | (simp only [List.length_cons,List.length_nil,List.length_append]; omega)) (by refine⟨Nat.le_of_ble_eq_true rfl, ?_⟩; simp only [List.mem_cons,List.not_mem_nil,or_false,forall_eq_or_imp,forall_eq]; omega) aM) ?_)
 rintro _ rM ⟨rO,rP,rfl,jB,aN⟩
 have fM:=jy _ _ jB
 have oL:=fM.rowC (i:=0) rfl
 replace aN:p.length≤List.length (b++ [(aR a.ae)])+26 *4:=aN
 have fO:=fM.pk [1,0,2,3,4]
 refine⟨.inr ⟨_,fO⟩, ?_⟩
 have fP:=fO.pk [1,0,2,3,4]
 refine GX.do 20 rfl (by kernel_rfl) (Do.appendW (k:=p.length) (m:=1) (bW) fP rfl rfl (cz Tryz.underlying31 (fP.rds (i:=3) rfl) (bK dB ([(aR a.aF)]))) rfl (by omega) (s:=List.length (p++ [(aR a.aF)])) (by first | omega | (simp only [List.length_append,List.length_cons,List.length_nil] <;> omega)) (List.flatMap_append).symm ?_)
 intro fQ fT rQ mf
 have oM:List.length (p++ [(aR a.aF)])=p.length+1:=by simp only [List.length_append,List.length_cons,List.length_nil]
 have fU:=mf.pk [1,0,2,3,4]
 refine⟨.inr ⟨_,fU⟩, ?_⟩
 refine GX.take (v:= .slice fQ (List.length (p++ [(aR a.aF)])) fT) (rs:= []) 21 rfl (by kernel_rfl) (fun _ _=>Yl.assign rfl) (GX.done (by kernel_rfl) (Fin.then (rt (rs ?_))))
 have mg:=fU.pk [1]
 obtain rfl:_=(p++ [(aR a.aF)]):=hr.symm.trans (aa aM)
 exact⟨fQ,fT,rfl,mg,(by first | omega | (simp only [List.length_cons,List.length_nil,List.length_append]; omega))⟩
 refine GY.do 19 rfl (by kernel_rfl) (Do.newRow (cs:= [.int .u8 (((aR a.aF).toNat:Nat):Int)]) (t:=5) (sz:=1) (m:=1) F rfl rfl (fun _=>by kernel_rfl) rfl (by decide) ?_)
 intro mh rR aO
 replace aO:=Own.reh (y:=row mh 1 1 (List.flatMap eB ([(aR a.aF)])) 5 1) rfl aO
 have aP:=aO.pk [1,0,2]
 refine⟨.inr ⟨_,aP⟩, ?_⟩
 refine GX.any2 4 14 (by kernel_rfl) ?_ ?_
 refine GY.do 4 rfl (by kernel_rfl) (Do.newRow (cs:= [.int .u8 (((aR a.ae).toNat:Nat):Int)]) (t:=5) (sz:=1) (m:=1) aP rfl rfl (fun _=>by kernel_rfl) rfl (by decide) ?_)
 intro mi rT aQ
 replace aQ:=Own.reh (y:=row mi 1 1 (List.flatMap eB ([(aR a.ae)])) 5 1) rfl aQ
 have aS:=aQ.pk [1,0,2,3]
 refine⟨.inr ⟨_,aS⟩, ?_⟩
 refine GX.any2 5 14 (by kernel_rfl) ?_ ?_
 have fV:=aS.pk [3,0,1,2]
 refine GY.do 5 rfl (by kernel_rfl) (Do.appendW (k:=b.length) (m:=1) (bW) fV rfl rfl (cz Tryz.underlying31 (fV.rds (i:=2) rfl) (bK dB ([(aR a.ae)]))) rfl (by omega) (s:=List.length (b++ [(aR a.ae)])) (by first | omega | (simp only [List.length_append,List.length_cons,List.length_nil] <;> omega)) (List.flatMap_append).symm ?_)
 intro mo mq rU mr
 have oN:List.length (b++ [(aR a.ae)])=b.length+1:=by simp only [List.length_append,List.length_cons,List.length_nil]
 have fZ:=mr.pk [1,0,2,3]
 refine⟨.inr ⟨_,fZ⟩, ?_⟩
 refine GX.do 14 rfl (by kernel_rfl) (Do.newRow (cs:= [.string ⟨List.toArray a.aL⟩, .string ⟨List.toArray a.au⟩, .string ⟨List.toArray a.aD⟩, .string ⟨List.toArray a.aI⟩]) (t:=9) (sz:=1) (m:=4) fZ rfl rfl (fun _=>by kernel_rfl) rfl (by decide) ?_)
 intro gm rV aT
 replace aT:=Own.reh (y:=row gm 4 4 (List.flatMap eS ([a.aL,a.au,a.aD,a.aI])) 9 1) rfl aT
 have gp:=aT.pk [1,0,2,3,4]
 refine⟨.inr ⟨_,gp⟩, ?_⟩
 have mD:=gp.pk [2,0,1,3,4]
 obtain⟨r,aU⟩:∃ q,dI (b++ [(aR a.ae)]) ([a.aL,a.au,a.aD,a.aI])=q:=⟨_,rfl⟩
 obtain⟨rW,jC,oO,jD,jE⟩:=Own.enter1 mD
 refine GX.do 15 rfl (by kernel_rfl) (Do.call Tryz.call56 rfl (dE _ _ mo (List.length (b++ [(aR a.ae)])) mq (b++ [(aR a.ae)]) gm 4 4 ([a.aL,a.au,a.aD,a.aI]) r jC rfl (by first | omega | (simp only [List.length_append,List.length_cons,List.length_nil,List.length_take,List.length_drop,List.length_set]; omega)) (jE _ 1 _ rfl bJ) rfl (by simp) (by first | omega | (simp only [List.length_cons,List.length_nil,List.length_append]; omega)) (by refine⟨Nat.le_of_ble_eq_true rfl, ?_⟩; simp only [List.mem_cons,List.not_mem_nil,or_false,forall_eq_or_imp,forall_eq]; omega) aU) ?_)
 rintro _ rX ⟨rY,rZ,rfl,jF,aV⟩
 have gq:=jD _ _ jF
 have oP:=gq.rowC (i:=0) rfl
 replace aV:r.length≤List.length (b++ [(aR a.ae)])+26 *4:=aV
 have gu:=gq.pk [1,0,2,3,4]
 refine⟨.inr ⟨_,gu⟩, ?_⟩
 have gy:=gu.pk [1,0,2,3,4]
 refine GX.do 20 rfl (by kernel_rfl) (Do.appendW (k:=r.length) (m:=1) (bW) gy rfl rfl (cz Tryz.underlying31 (gy.rds (i:=4) rfl) (bK dB ([(aR a.aF)]))) rfl (by omega) (s:=List.length (r++ [(aR a.aF)])) (by first | omega | (simp only [List.length_append,List.length_cons,List.length_nil] <;> omega)) (List.flatMap_append).symm ?_)
 intro gz gB r9 mE
 have oQ:List.length (r++ [(aR a.aF)])=r.length+1:=by simp only [List.length_append,List.length_cons,List.length_nil]
 have gD:=mE.pk [1,0,2,3,4]
 refine⟨.inr ⟨_,gD⟩, ?_⟩
 refine GX.take (v:= .slice gz (List.length (r++ [(aR a.aF)])) gB) (rs:= []) 21 rfl (by kernel_rfl) (fun _ _=>Yl.assign rfl) (GX.done (by kernel_rfl) (Fin.then (rt (rs ?_))))
 have mF:=gD.pk [1]
 obtain rfl:_=(r++ [(aR a.aF)]):=hr.symm.trans (aa aU)
 exact⟨gz,gB,rfl,mF,(by first | omega | (simp only [List.length_cons,List.length_nil,List.length_append]; omega))⟩
 refine GY.do 14 rfl (by kernel_rfl) (Do.newRow (cs:= [.string ⟨List.toArray a.aL⟩, .string ⟨List.toArray a.au⟩, .string ⟨List.toArray a.aD⟩, .string ⟨List.toArray a.aI⟩]) (t:=9) (sz:=1) (m:=4) aS rfl rfl (fun _=>by kernel_rfl) rfl (by decide) ?_)
 intro gF si aW
 replace aW:=Own.reh (y:=row gF 4 4 (List.flatMap eS ([a.aL,a.au,a.aD,a.aI])) 9 1) rfl aW
 have gG:=aW.pk [1,0,2,3,4]
 refine⟨.inr ⟨_,gG⟩, ?_⟩
 have gH:=gG.pk [4,0,1,2,3]
 refine GX.do 5 rfl (by kernel_rfl) (Do.appendW (k:=b.length) (m:=1) (bW) gH rfl rfl (cz Tryz.underlying31 (gH.rds (i:=3) rfl) (bK dB ([(aR a.ae)]))) rfl (by omega) (s:=List.length (b++ [(aR a.ae)])) (by first | omega | (simp only [List.length_append,List.length_cons,List.length_nil] <;> omega)) (List.flatMap_append).symm ?_)
 intro mG mH sj mI
 have oU:List.length (b++ [(aR a.ae)])=b.length+1:=by simp only [List.length_append,List.length_cons,List.length_nil]
 have gI:=mI.pk [1,0,2,3,4]
 refine⟨.inr ⟨_,gI⟩, ?_⟩
 have mJ:=gI.pk [1,0,2,3,4]
 obtain⟨u,aX⟩:∃ q,dI (b++ [(aR a.ae)]) ([a.aL,a.au,a.aD,a.aI])=q:=⟨_,rfl⟩
 obtain⟨su,jG,oV,jH,jI⟩:=Own.enter1 mJ
 refine GX.do 15 rfl (by kernel_rfl) (Do.call Tryz.call56 rfl (dE _ _ mG (List.length (b++ [(aR a.ae)])) mH (b++ [(aR a.ae)]) gF 4 4 ([a.aL,a.au,a.aD,a.aI]) u jG rfl (by first | omega | (simp only [List.length_append,List.length_cons,List.length_nil,List.length_take,List.length_drop,List.length_set]; omega)) (jI _ 1 _ rfl bJ) rfl (by simp) (by first | omega | (simp only [List.length_cons,List.length_nil,List.length_append]; omega)) (by refine⟨Nat.le_of_ble_eq_true rfl, ?_⟩; simp only [List.mem_cons,List.not_mem_nil,or_false,forall_eq_or_imp,forall_eq]; omega) aX) ?_)
 rintro _ sw ⟨sD,sF,rfl,jJ,aY⟩
 have gJ:=jH _ _ jJ
 have oW:=gJ.rowC (i:=0) rfl
 replace aY:u.length≤List.length (b++ [(aR a.ae)])+26 *4:=aY
 have gK:=gJ.pk [1,0,2,3,4]
 refine⟨.inr ⟨_,gK⟩, ?_⟩
 have gL:=gK.pk [1,0,2,3,4]
 refine GX.do 20 rfl (by kernel_rfl) (Do.appendW (k:=u.length) (m:=1) (bW) gL rfl rfl (cz Tryz.underlying31 (gL.rds (i:=4) rfl) (bK dB ([(aR a.aF)]))) rfl (by omega) (s:=List.length (u++ [(aR a.aF)])) (by first | omega | (simp only [List.length_append,List.length_cons,List.length_nil] <;> omega)) (List.flatMap_append).symm ?_)
 intro gM gN sG mK
 have oZ:List.length (u++ [(aR a.aF)])=u.length+1:=by simp only [List.length_append,List.length_cons,List.length_nil]
 have gP:=mK.pk [1,0,2,3,4]
 refine⟨.inr ⟨_,gP⟩, ?_⟩
 refine GX.take (v:= .slice gM (List.length (u++ [(aR a.aF)])) gN) (rs:= []) 21 rfl (by kernel_rfl) (fun _ _=>Yl.assign rfl) (GX.done (by kernel_rfl) (Fin.then (rt (rs ?_))))
 have mO:=gP.pk [1]
 obtain rfl:_=(u++ [(aR a.aF)]):=hr.symm.trans (aa aX)
 exact⟨gM,gN,rfl,mO,(by first | omega | (simp only [List.length_cons,List.length_nil,List.length_append]; omega))⟩
 refine GY.do 14 rfl (by kernel_rfl) (Do.newRow (cs:= [.string ⟨List.toArray a.aL⟩, .string ⟨List.toArray a.au⟩, .string ⟨List.toArray a.aD⟩, .string ⟨List.toArray a.aI⟩]) (t:=9) (sz:=1) (m:=4) aP rfl rfl (fun _=>by kernel_rfl) rfl (by decide) ?_)
 intro gQ sH aZ
 replace aZ:=Own.reh (y:=row gQ 4 4 (List.flatMap eS ([a.aL,a.au,a.aD,a.aI])) 9 1) rfl aZ
 have gT:=aZ.pk [1,0,2,3]
 refine⟨.inr ⟨_,gT⟩, ?_⟩
 refine GX.do 4 rfl (by kernel_rfl) (Do.newRow (cs:= [.int .u8 (((aR a.ae).toNat:Nat):Int)]) (t:=5) (sz:=1) (m:=1) gT rfl rfl (fun _=>by kernel_rfl) rfl (by decide) ?_)
 intro mP sI bf
 replace bf:=Own.reh (y:=row mP 1 1 (List.flatMap eB ([(aR a.ae)])) 5 1) rfl bf
 have gU:=bf.pk [1,0,2,3,4]
 refine⟨.inr ⟨_,gU⟩, ?_⟩
 have gV:=gU.pk [4,0,1,2,3]
 refine GX.do 5 rfl (by kernel_rfl) (Do.appendW (k:=b.length) (m:=1) (bW) gV rfl rfl (cz Tryz.underlying31 (gV.rds (i:=2) rfl) (bK dB ([(aR a.ae)]))) rfl (by omega) (s:=List.length (b++ [(aR a.ae)])) (by first | omega | (simp only [List.length_append,List.length_cons,List.length_nil] <;> omega)) (List.flatMap_append).symm ?_)
 intro mQ mR sJ mU
 have o5:List.length (b++ [(aR a.ae)])=b.length+1:=by simp only [List.length_append,List.length_cons,List.length_nil]
 have gW:=mU.pk [1,0,2,3,4]
 refine⟨.inr ⟨_,gW⟩, ?_⟩
 have mV:=gW.pk [1,0,2,3,4]
 obtain⟨x,bg⟩:∃ q,dI (b++ [(aR a.ae)]) ([a.aL,a.au,a.aD,a.aI])=q:=⟨_,rfl⟩
 obtain⟨sK,jK,o6,jL,jM⟩:=Own.enter1 mV
 refine GX.do 15 rfl (by kernel_rfl) (Do.call Tryz.call56 rfl (dE _ _ mQ (List.length (b++ [(aR a.ae)])) mR (b++ [(aR a.ae)]) gQ 4 4 ([a.aL,a.au,a.aD,a.aI]) x jK rfl (by first | omega | (simp only [List.length_append,List.length_cons,List.length_nil,List.length_take,List.length_drop,List.length_set]; omega)) (jM _ 2 _ rfl bJ) rfl (by simp) (by first | omega | (simp only [List.length_cons,List.length_nil,List.length_append]; omega)) (by refine⟨Nat.le_of_ble_eq_true rfl, ?_⟩; simp only [List.mem_cons,List.not_mem_nil,or_false,forall_eq_or_imp,forall_eq]; omega) bg) ?_)
 rintro _ sM ⟨sN,sO,rfl,jN,bi⟩
 have gX:=jL _ _ jN
 have o7:=gX.rowC (i:=0) rfl
 replace bi:x.length≤List.length (b++ [(aR a.ae)])+26 *4:=bi
 have gY:=gX.pk [1,0,2,3,4]
 refine⟨.inr ⟨_,gY⟩, ?_⟩
 have gZ:=gY.pk [1,0,2,3,4]
 refine GX.do 20 rfl (by kernel_rfl) (Do.appendW (k:=x.length) (m:=1) (bW) gZ rfl rfl (cz Tryz.underlying31 (gZ.rds (i:=4) rfl) (bK dB ([(aR a.aF)]))) rfl (by omega) (s:=List.length (x++ [(aR a.aF)])) (by first | omega | (simp only [List.length_append,List.length_cons,List.length_nil] <;> omega)) (List.flatMap_append).symm ?_)
 intro ib ic sP mW
 have o8:List.length (x++ [(aR a.aF)])=x.length+1:=by simp only [List.length_append,List.length_cons,List.length_nil]
 have ig:=mW.pk [1,0,2,3,4]
 refine⟨.inr ⟨_,ig⟩, ?_⟩
 refine GX.take (v:= .slice ib (List.length (x++ [(aR a.aF)])) ic) (rs:= []) 21 rfl (by kernel_rfl) (fun _ _=>Yl.assign rfl) (GX.done (by kernel_rfl) (Fin.then (rt (rs ?_))))
 have mX:=ig.pk [1]
 obtain rfl:_=(x++ [(aR a.aF)]):=hr.symm.trans (aa bg)
 exact⟨ib,ic,rfl,mX,(by first | omega | (simp only [List.length_cons,List.length_nil,List.length_append]; omega))⟩
def gu:List aB→List UInt8→(List UInt8)
  | [],a=>a
  | c::d,a=>bnd (mM a c) fun b=>gu d b
def lm (c:List UInt8) (b:List aB):(List UInt8):=
 bnd (dO b.length) fun a=>bnd (gu b (c++a)) fun sLrbL=>sLrbL
theorem oz (w:World) (D:Nat→Prop) (Y:Option Addr) (n0 Z:Nat) (g:List UInt8) (p:Option Addr) (n1 E:Nat) (b:List aB) (F:List UInt8) (H:Own w D w [row Y n0 Z (List.flatMap eB g) 5 1]) (af:n0=g.length) (aQ:g.length *1≤211106232532992) (B:Ro w D fun w'=>bD w' 6 p n1 (List.flatMap aB.cells b)) (ag:n1=b.length) (aR:b.length *80≤211106232532992) (aS:g.length≤1000000000) (G:(b.length≤24∧∀ x ∈ b,x.aL.length≤12∧x.au.length≤16∧x.aD.length≤12∧x.aI.length≤12)) (hr:lm g b=F):
    Calls Tryz.prog 57 #[.slice Y n0 Z, .slice p n1 E, .func (.func 58) #[] #[]] w (cK fun v w'=> ∃ (B0:Option Addr) (b0:Nat),v= .slice B0 F.length b0∧Own w D w' [row B0 F.length b0 (List.flatMap eB F) 5 1]∧(F.length≤g.length+10+106 *b.length)):=by
 subst af ag
 have aT:=H.rowC (i:=0) rfl
 have hh1a:=G.1
 refine Calls.body (args:= [.slice Y g.length Z, .slice p b.length E, .func (.func 58) #[] #[]]) Tryz.func57 rfl rfl rfl ?_
 show Wp _ _ _ [(0, .slice Y g.length Z),(1, .slice p b.length E),(2, .func (.func 58) #[] #[])] _ _
 refine sr (Ar rfl (Mz rfl (Mz rfl (Kz (.int .i64 ((b.length:Nat):Int)) (fw (.int .u64 ((b.length:Nat):Int)) (Yl.int (e:=IntKind.u64.wrap ((b.length:Nat):Int)) yk (IntWalk.u64_in _ (by omega))) ?_)))))
 obtain⟨d,r⟩:∃ q,dO b.length=q:=⟨_,rfl⟩
 obtain⟨aU,I,aG,J,aH⟩:=Own.enter0 H
 refine cl Tryz.call51 (fZ _ _ b.length d I (by omega) r) ?_
 rintro _ aV ⟨aW,aX,rfl,K,t,u⟩
 have L:=J _ _ K
 have aI:=L.rowC (i:=0) rfl
 replace t:1≤d.length∧d.length≤10:=t
 replace u:b.length ≥ 128∨d.length=1:=u
 have M:=L.pk [1,0]
 refine WL.do rfl (Do.appendW (k:=g.length) (m:=d.length) (bW) M rfl rfl (cz Tryz.underlying31 (M.rds (i:=1) rfl) (bK dB d)) rfl (by omega) (s:=List.length (g++d)) (by first | omega | (simp only [List.length_append,List.length_cons,List.length_nil] <;> omega)) (List.flatMap_append).symm ?_)
 intro ah ai aY aj
 have aJ:List.length (g++d)=g.length+d.length:=by simp only [List.length_append,List.length_cons,List.length_nil]
 refine An rfl (Wp.seq (Wp.seq ?_))
 have ak:=aj.pk [0]
 refine Wp.region (Mz rfl (Kz (.int .i64 ((b.length:Nat):Int)) (Mn rfl (bo ?_))))
 have au:=ak.pk [0]
 obtain⟨N,O⟩:∃ q:((Option Addr) × Nat × (List UInt8) × Nat)→World→Prop,q=fun(i:(Option Addr) × Nat × (List UInt8) × Nat) w'=>Own w D w' [row i.1 i.2.2.1.length i.2.1 (List.flatMap eB i.2.2.1) 5 1]∧(i.2.2.2≤b.length∧((i.2.2.1.length:Nat):Int)≤((g.length:Nat):Int)+10+106 *((i.2.2.2:Nat):Int)∧gu b (g++d)=gu (List.drop i.2.2.2 b) i.2.2.1):=⟨_,rfl⟩
 have l:∀ {h:Option Addr} {j:Nat} {c:List UInt8} {a:Nat} {w':World},N (h,j,c,a) w'↔Own w D w' [row h c.length j (List.flatMap eB c) 5 1]∧a≤b.length∧((c.length:Nat):Int)≤((g.length:Nat):Int)+10+106 *((a:Nat):Int)∧gu b (g++d)=gu (List.drop a b) c:=by intros; subst O; exact Iff.rfl
 refine Wp.loop (fun i:(Option Addr) × Nat × (List UInt8) × Nat=> [(0, .slice i.1 i.2.2.1.length i.2.1),(17, .int .i64 ((i.2.2.2:Nat):Int)),(16, .int .i64 ((b.length:Nat):Int)),(15, .slice p b.length E),(6, .slice none 0 0),(2, .func (.func 58) #[] #[])]) N (fun i=>b.length - i.2.2.2) (ah,ai,(g++d),0) ⟨rfl,rfl,rfl,rfl,rfl,rfl,trivial⟩ (l.2 ⟨au,by omega,by omega,rfl⟩) ?_
 rintro ⟨h,j,c,a⟩ aZ P
 show Wp _ _ _ [(0, .slice h c.length j),(17, .int .i64 ((a:Nat):Int)),(16, .int .i64 ((b.length:Nat):Int)),(15, .slice p b.length E),(6, .slice none 0 0),(2, .func (.func 58) #[] #[])] _ _
 obtain⟨n,aK,aL,y⟩:=l.1 P
 refine sr (Kz (.bool (decide (((a:Nat):Int) < ((b.length:Nat):Int)))) (nt (Wp.seq ?_)))
 by_cases Q:((a:Nat):Int) < ((b.length:Nat):Int)
 obtain⟨f,o⟩:=eG (ls:=b) (i:=a) aB.len (by decide) (n.ro B) (by first | omega | (simp; done) | (simp; omega))
 have aM:f.aL.length≤12∧f.au.length≤16∧f.aD.length≤12∧f.aI.length≤12:=G.2 _ (List.mem_of_getElem? o)
 have R:=drop_at o
 refine jT (dT Q) (sk (Wp.seq (bo (sr (fw (.pointer (some ⟨ab p,ao p+a *6,none⟩)) (Yl.indexAddr (ma) rfl rfl ((n.ro B).addr (i:=a) (by omega)) (by omega)) (fw (.agg (aB.cells f).toArray) (Yl.load rfl (bu.agg (cs:=(aB.cells f)) Tryz.isAgg64 Tryz.sizeOf64 ((n.ro B).elem aB.len o (by decide)))) ?_))))))
 refine dD [.int .i64 0, .string ⟨List.toArray ([])⟩, .string ⟨List.toArray ([])⟩, .string ⟨List.toArray ([])⟩, .string ⟨List.toArray ([])⟩, .int .i64 0] 64 n ?_
 intro bf bg av
 refine bz (aB.cells f) 0 av Tryz.sizeOf64 ?_
 intro bi S
 refine nt (Wp.region (Mz rfl (Mz rfl (La (aB.cells f) S 0 Tryz.isAgg64 Tryz.sizeOf64 ?_))))
 have ax:=S.pk [1,0]
 obtain⟨C,z⟩:∃ q,mM c f=q:=⟨_,rfl⟩
 obtain⟨bn,T,aN,U,aO⟩:=Own.enter1 ax
 refine WL.do rfl (Do.callV Tryz.call58 rfl rfl (qo _ _ h c.length j c f C T rfl (by omega) (by omega) z) ?_)
 rintro _ bq ⟨ay,az,rfl,V,A⟩
 have W:=U _ _ V
 have aP:=W.rowC (i:=0) rfl
 replace A:C.length≤c.length+106:=A
 refine Az rfl (WL.nil (bN (Fin.then (Wp.region (fw (.int .i64 ((a+1:Nat):Int)) (Yl.int (e:=IntKind.i64.wrap (((a:Nat):Int)+1)) yk (by rw [IntWalk.i64_in _ (by omega)]; omega)) (Mz rfl (WL.nil ?_)))))))
 have aA:=W.pk [0]
 exact Fin.round (ay,az,C,a+1) ⟨rfl,rfl,rfl,rfl,rfl,rfl,trivial⟩ (l.2 ⟨aA,by omega,by omega,et (y) (et (congrArg (fun q=>gu q c) R) (aa z))⟩) (by show b.length - (a+1) < b.length - a; omega)
 refine jF (dF Q) (Wp.exit (Fin.thenX ?_))
 have X:gu b (g++d)=c:=et (y) (et (congrArg (fun q=>gu q c) (dY (ls:=b) (i:=a) (by omega))) rfl)
 refine Fin.thenX (Fin.blockX (Fin.then (sr (Mz rfl (An rfl (rt (rs ?_)))))))
 have aC:=n.pk [0]
 obtain rfl:_=c:=hr.symm.trans (et (aa r) (aa X))
 exact⟨h,j,rfl,aC,(by first | omega | (simp only [List.length_cons,List.length_nil,List.length_append]; omega))⟩
def lI (c:List UInt8) (b:aA):(List UInt8):=
 bnd (dI c ([b.aD])) fun a=>(a++ [(aR b.di)])
theorem oO (w:World) (D:Nat→Prop) (l:Option Addr) (n0 n:Nat) (c:List UInt8) (a:aA) (P:List UInt8) (H:Own w D w [row l n0 n (List.flatMap eB c) 5 1]) (aL:n0=c.length) (bI:c.length *1≤211106232532992) (bL:c.length≤4000000000∧a.aD.length≤12) (hr:lI c a=P):
    Calls Tryz.prog 62 #[.slice l n0 n, .agg (aA.cells a).toArray] w (cK fun v w'=> ∃ (B0:Option Addr) (b0:Nat),v= .slice B0 P.length b0∧Own w D w' [row B0 P.length b0 (List.flatMap eB P) 5 1]∧(P.length≤c.length+27)):=by
 subst aL
 have bM:=H.rowC (i:=0) rfl
 refine Calls.body (args:= [.slice l c.length n, .agg (aA.cells a).toArray]) Tryz.func62 rfl rfl rfl ?_
 show Wp _ _ _ [(0, .slice l c.length n),(1, .agg (aA.cells a).toArray)] _ _
 refine sr ?_
 refine dD (aA.cells a) 88 H ?_
 intro F aM aN
 refine An rfl (Wp.seq ?_)
 have g:=aN.drew
 refine Wp.drawnX [] (fun W=> ∃ L',Own w D W ([blk F (aA.cells a) 88]++L')) (by kernel_rfl) (by kernel_rfl) (bO.then bO.base) ⟨_,g⟩ ?_
 revert g
 generalize World.drew aM=bN
 intro g
 refine GX.take (v:= .slice l c.length n) (rs:= []) 0 rfl (by kernel_rfl) (fun _ _=>Yl.move rfl) (GX.take (v:= .pointer (some ⟨F,0,none⟩)) (rs:= []) 1 rfl (by kernel_rfl) (fun _ _=>yk) (GX.take (v:= .string ⟨List.toArray a.aD⟩) (rs:= []) 2 rfl (by kernel_rfl) (fun _ ⟨_,H9⟩=>Yl.load rfl (bu.one Tryz.isAgg9 (fG.of (H9.cls (i:=0) rfl) rfl))) (GX.take (v:= .pointer (some ⟨F,1,none⟩)) (rs:= []) 5 rfl (by kernel_rfl) (fun _ _=>yk) (GX.take (v:= .int .i64 a.di) (rs:= []) 6 rfl (by kernel_rfl) (fun _ ⟨_,H9⟩=>Yl.load rfl (bu.one Tryz.isAgg3 (fG.of (H9.cls (i:=0) rfl) rfl))) (GX.take (v:= .int .u8 (((aR a.di).toNat:Nat):Int)) (rs:= []) 7 rfl (by kernel_rfl) (fun _ _=>Yl.int (e:=IntKind.u8.wrap a.di) yk (kH _)) ?_)))))
 refine GX.any2 3 8 (by kernel_rfl) ?_ ?_
 refine GY.do 3 rfl (by kernel_rfl) (Do.newRow (cs:= [.string ⟨List.toArray a.aD⟩]) (t:=9) (sz:=1) (m:=1) g rfl rfl (fun _=>by kernel_rfl) rfl (by decide) ?_)
 intro G bP I
 replace I:=Own.reh (y:=row G 1 1 (List.flatMap eS ([a.aD])) 9 1) rfl I
 have J:=I.pk [1,0,2]
 refine⟨.inr ⟨_,J⟩, ?_⟩
 refine GX.any2 4 8 (by kernel_rfl) ?_ ?_
 have aP:=J.pk [2,0,1]
 obtain⟨d,o⟩:∃ q,dI c ([a.aD])=q:=⟨_,rfl⟩
 obtain⟨bQ,Q,bq,R,S⟩:=Own.enter1 aP
 refine GY.do 4 rfl (by kernel_rfl) (Do.call Tryz.call56 rfl (dE _ _ l c.length n c G 1 1 ([a.aD]) d Q rfl (by omega) (S _ 1 _ rfl bJ) rfl (by simp) (by first | omega | (simp only [List.length_cons,List.length_nil,List.length_append]; omega)) (by refine⟨Nat.le_of_ble_eq_true rfl, ?_⟩; simp only [List.mem_cons,List.not_mem_nil,or_false,forall_eq_or_imp,forall_eq]; omega) o) ?_)
 rintro _ bR ⟨bS,bT,rfl,T,p⟩
 have U:=R _ _ T
 have bv:=U.rowC (i:=0) rfl
 replace p:d.length≤c.length+26 *1:=p
 have V:=U.pk [1,0,2]
 refine⟨.inr ⟨_,V⟩, ?_⟩
 refine GX.do 8 rfl (by kernel_rfl) (Do.newRow (cs:= [.int .u8 (((aR a.di).toNat:Nat):Int)]) (t:=5) (sz:=1) (m:=1) V rfl rfl (fun _=>by kernel_rfl) rfl (by decide) ?_)
 intro aQ bU K
 replace K:=Own.reh (y:=row aQ 1 1 (List.flatMap eB ([(aR a.di)])) 5 1) rfl K
 have X:=K.pk [1,0,2,3]
 refine⟨.inr ⟨_,X⟩, ?_⟩
 have Y:=X.pk [2,0,1,3]
 refine GX.do 9 rfl (by kernel_rfl) (Do.appendW (k:=d.length) (m:=1) (bW) Y rfl rfl (cz Tryz.underlying31 (Y.rds (i:=2) rfl) (bK dB ([(aR a.di)]))) rfl (by omega) (s:=List.length (d++ [(aR a.di)])) (by first | omega | (simp only [List.length_append,List.length_cons,List.length_nil] <;> omega)) (List.flatMap_append).symm ?_)
 intro Z ae bV aS
 have bz:List.length (d++ [(aR a.di)])=d.length+1:=by simp only [List.length_append,List.length_cons,List.length_nil]
 have af:=aS.pk [1,0,2,3]
 refine⟨.inr ⟨_,af⟩, ?_⟩
 refine GX.take (v:= .slice Z (List.length (d++ [(aR a.di)])) ae) (rs:= []) 10 rfl (by kernel_rfl) (fun _ _=>Yl.assign rfl) (GX.done (by kernel_rfl) (Fin.then (rt (rs ?_))))
 have aT:=af.pk [1]
 obtain rfl:_=(d++ [(aR a.di)]):=hr.symm.trans (aa o)
 exact⟨Z,ae,rfl,aT,(by first | omega | (simp only [List.length_cons,List.length_nil,List.length_append]; omega))⟩
 refine GY.do 8 rfl (by kernel_rfl) (Do.newRow (cs:= [.int .u8 (((aR a.di).toNat:Nat):Int)]) (t:=5) (sz:=1) (m:=1) J rfl rfl (fun _=>by kernel_rfl) rfl (by decide) ?_)
 intro aU bX L
 replace L:=Own.reh (y:=row aU 1 1 (List.flatMap eB ([(aR a.di)])) 5 1) rfl L
 have ag:=L.pk [1,0,2,3]
 refine⟨.inr ⟨_,ag⟩, ?_⟩
 have aV:=ag.pk [3,0,1,2]
 obtain⟨f,r⟩:∃ q,dI c ([a.aD])=q:=⟨_,rfl⟩
 obtain⟨bY,ah,bA,ai,aj⟩:=Own.enter1 aV
 refine GX.do 4 rfl (by kernel_rfl) (Do.call Tryz.call56 rfl (dE _ _ l c.length n c G 1 1 ([a.aD]) f ah rfl (by omega) (aj _ 2 _ rfl bJ) rfl (by simp) (by first | omega | (simp only [List.length_cons,List.length_nil,List.length_append]; omega)) (by refine⟨Nat.le_of_ble_eq_true rfl, ?_⟩; simp only [List.mem_cons,List.not_mem_nil,or_false,forall_eq_or_imp,forall_eq]; omega) r) ?_)
 rintro _ bZ ⟨cu,cB,rfl,ak,u⟩
 have au:=ai _ _ ak
 have bB:=au.rowC (i:=0) rfl
 replace u:f.length≤c.length+26 *1:=u
 have av:=au.pk [1,0,2,3]
 refine⟨.inr ⟨_,av⟩, ?_⟩
 have ax:=av.pk [1,0,2,3]
 refine GX.do 9 rfl (by kernel_rfl) (Do.appendW (k:=f.length) (m:=1) (bW) ax rfl rfl (cz Tryz.underlying31 (ax.rds (i:=2) rfl) (bK dB ([(aR a.di)]))) rfl (by omega) (s:=List.length (f++ [(aR a.di)])) (by first | omega | (simp only [List.length_append,List.length_cons,List.length_nil] <;> omega)) (List.flatMap_append).symm ?_)
 intro ay az cO aW
 have bC:List.length (f++ [(aR a.di)])=f.length+1:=by simp only [List.length_append,List.length_cons,List.length_nil]
 have aB:=aW.pk [1,0,2,3]
 refine⟨.inr ⟨_,aB⟩, ?_⟩
 refine GX.take (v:= .slice ay (List.length (f++ [(aR a.di)])) az) (rs:= []) 10 rfl (by kernel_rfl) (fun _ _=>Yl.assign rfl) (GX.done (by kernel_rfl) (Fin.then (rt (rs ?_))))
 have aX:=aB.pk [1]
 obtain rfl:_=(f++ [(aR a.di)]):=hr.symm.trans (aa r)
 exact⟨ay,az,rfl,aX,(by first | omega | (simp only [List.length_cons,List.length_nil,List.length_append]; omega))⟩
 refine GY.do 8 rfl (by kernel_rfl) (Do.newRow (cs:= [.int .u8 (((aR a.di).toNat:Nat):Int)]) (t:=5) (sz:=1) (m:=1) g rfl rfl (fun _=>by kernel_rfl) rfl (by decide) ?_)
 intro aY cZ M
 replace M:=Own.reh (y:=row aY 1 1 (List.flatMap eB ([(aR a.di)])) 5 1) rfl M
 have aC:=M.pk [1,0,2]
 refine⟨.inr ⟨_,aC⟩, ?_⟩
 refine GX.do 3 rfl (by kernel_rfl) (Do.newRow (cs:= [.string ⟨List.toArray a.aD⟩]) (t:=9) (sz:=1) (m:=1) aC rfl rfl (fun _=>by kernel_rfl) rfl (by decide) ?_)
 intro aD df N
 replace N:=Own.reh (y:=row aD 1 1 (List.flatMap eS ([a.aD])) 9 1) rfl N
 have aF:=N.pk [1,0,2,3]
 refine⟨.inr ⟨_,aF⟩, ?_⟩
 have aZ:=aF.pk [3,0,1,2]
 obtain⟨b,h⟩:∃ q,dI c ([a.aD])=q:=⟨_,rfl⟩
 obtain⟨dh,aG,bD,aH,aI⟩:=Own.enter1 aZ
 refine GX.do 4 rfl (by kernel_rfl) (Do.call Tryz.call56 rfl (dE _ _ l c.length n c aD 1 1 ([a.aD]) b aG rfl (by omega) (aI _ 1 _ rfl bJ) rfl (by simp) (by first | omega | (simp only [List.length_cons,List.length_nil,List.length_append]; omega)) (by refine⟨Nat.le_of_ble_eq_true rfl, ?_⟩; simp only [List.mem_cons,List.not_mem_nil,or_false,forall_eq_or_imp,forall_eq]; omega) h) ?_)
 rintro _ bE ⟨bF,bG,rfl,O,j⟩
 have x:=aH _ _ O
 have bf:=x.rowC (i:=0) rfl
 replace j:b.length≤c.length+26 *1:=j
 have z:=x.pk [1,0,2,3]
 refine⟨.inr ⟨_,z⟩, ?_⟩
 have A:=z.pk [1,0,2,3]
 refine GX.do 9 rfl (by kernel_rfl) (Do.appendW (k:=b.length) (m:=1) (bW) A rfl rfl (cz Tryz.underlying31 (A.rds (i:=3) rfl) (bK dB ([(aR a.di)]))) rfl (by omega) (s:=List.length (b++ [(aR a.di)])) (by first | omega | (simp only [List.length_append,List.length_cons,List.length_nil] <;> omega)) (List.flatMap_append).symm ?_)
 intro B C bH aJ
 have bg:List.length (b++ [(aR a.di)])=b.length+1:=by simp only [List.length_append,List.length_cons,List.length_nil]
 have E:=aJ.pk [1,0,2,3]
 refine⟨.inr ⟨_,E⟩, ?_⟩
 refine GX.take (v:= .slice B (List.length (b++ [(aR a.di)])) C) (rs:= []) 10 rfl (by kernel_rfl) (fun _ _=>Yl.assign rfl) (GX.done (by kernel_rfl) (Fin.then (rt (rs ?_))))
 have aK:=E.pk [1]
 obtain rfl:_=(b++ [(aR a.di)]):=hr.symm.trans (aa h)
 exact⟨B,C,rfl,aK,(by first | omega | (simp only [List.length_cons,List.length_nil,List.length_append]; omega))⟩
def fu:List aA→List UInt8→(List UInt8)
  | [],a=>a
  | c::d,a=>bnd (lI a c) fun b=>fu d b
def kz (c:List UInt8) (b:List aA):(List UInt8):=
 bnd (dO b.length) fun a=>bnd (fu b (c++a)) fun sLrbL=>sLrbL
theorem nE (w:World) (D:Nat→Prop) (Y:Option Addr) (n0 Z:Nat) (f:List UInt8) (p:Option Addr) (n1 E:Nat) (b:List aA) (F:List UInt8) (H:Own w D w [row Y n0 Z (List.flatMap eB f) 5 1]) (af:n0=f.length) (aQ:f.length *1≤211106232532992) (B:Ro w D fun w'=>bD w' 2 p n1 (List.flatMap aA.cells b)) (ag:n1=b.length) (aR:b.length *24≤211106232532992) (aS:f.length≤1000000000) (G:(b.length≤6∧∀ x ∈ b,x.aD.length≤12)) (hr:kz f b=F):
    Calls Tryz.prog 61 #[.slice Y n0 Z, .slice p n1 E, .func (.func 62) #[] #[]] w (cK fun v w'=> ∃ (B0:Option Addr) (b0:Nat),v= .slice B0 F.length b0∧Own w D w' [row B0 F.length b0 (List.flatMap eB F) 5 1]∧(F.length≤f.length+10+27 *b.length)):=by
 subst af ag
 have aT:=H.rowC (i:=0) rfl
 have hh1a:=G.1
 refine Calls.body (args:= [.slice Y f.length Z, .slice p b.length E, .func (.func 62) #[] #[]]) Tryz.func61 rfl rfl rfl ?_
 show Wp _ _ _ [(0, .slice Y f.length Z),(1, .slice p b.length E),(2, .func (.func 62) #[] #[])] _ _
 refine sr (Ar rfl (Mz rfl (Mz rfl (Kz (.int .i64 ((b.length:Nat):Int)) (fw (.int .u64 ((b.length:Nat):Int)) (Yl.int (e:=IntKind.u64.wrap ((b.length:Nat):Int)) yk (IntWalk.u64_in _ (by omega))) ?_)))))
 obtain⟨d,r⟩:∃ q,dO b.length=q:=⟨_,rfl⟩
 obtain⟨aU,I,aG,J,aH⟩:=Own.enter0 H
 refine cl Tryz.call51 (fZ _ _ b.length d I (by omega) r) ?_
 rintro _ aV ⟨aW,aX,rfl,K,t,u⟩
 have L:=J _ _ K
 have aI:=L.rowC (i:=0) rfl
 replace t:1≤d.length∧d.length≤10:=t
 replace u:b.length ≥ 128∨d.length=1:=u
 have M:=L.pk [1,0]
 refine WL.do rfl (Do.appendW (k:=f.length) (m:=d.length) (bW) M rfl rfl (cz Tryz.underlying31 (M.rds (i:=1) rfl) (bK dB d)) rfl (by omega) (s:=List.length (f++d)) (by first | omega | (simp only [List.length_append,List.length_cons,List.length_nil] <;> omega)) (List.flatMap_append).symm ?_)
 intro ah ai aY aj
 have aJ:List.length (f++d)=f.length+d.length:=by simp only [List.length_append,List.length_cons,List.length_nil]
 refine An rfl (Wp.seq (Wp.seq ?_))
 have ak:=aj.pk [0]
 refine Wp.region (Mz rfl (Kz (.int .i64 ((b.length:Nat):Int)) (Mn rfl (bo ?_))))
 have au:=ak.pk [0]
 obtain⟨N,O⟩:∃ q:((Option Addr) × Nat × (List UInt8) × Nat)→World→Prop,q=fun(i:(Option Addr) × Nat × (List UInt8) × Nat) w'=>Own w D w' [row i.1 i.2.2.1.length i.2.1 (List.flatMap eB i.2.2.1) 5 1]∧(i.2.2.2≤b.length∧((i.2.2.1.length:Nat):Int)≤((f.length:Nat):Int)+10+27 *((i.2.2.2:Nat):Int)∧fu b (f++d)=fu (List.drop i.2.2.2 b) i.2.2.1):=⟨_,rfl⟩
 have l:∀ {h:Option Addr} {j:Nat} {c:List UInt8} {a:Nat} {w':World},N (h,j,c,a) w'↔Own w D w' [row h c.length j (List.flatMap eB c) 5 1]∧a≤b.length∧((c.length:Nat):Int)≤((f.length:Nat):Int)+10+27 *((a:Nat):Int)∧fu b (f++d)=fu (List.drop a b) c:=by intros; subst O; exact Iff.rfl
 refine Wp.loop (fun i:(Option Addr) × Nat × (List UInt8) × Nat=> [(0, .slice i.1 i.2.2.1.length i.2.1),(17, .int .i64 ((i.2.2.2:Nat):Int)),(16, .int .i64 ((b.length:Nat):Int)),(15, .slice p b.length E),(6, .slice none 0 0),(2, .func (.func 62) #[] #[])]) N (fun i=>b.length - i.2.2.2) (ah,ai,(f++d),0) ⟨rfl,rfl,rfl,rfl,rfl,rfl,trivial⟩ (l.2 ⟨au,by omega,by omega,rfl⟩) ?_
 rintro ⟨h,j,c,a⟩ aZ P
 show Wp _ _ _ [(0, .slice h c.length j),(17, .int .i64 ((a:Nat):Int)),(16, .int .i64 ((b.length:Nat):Int)),(15, .slice p b.length E),(6, .slice none 0 0),(2, .func (.func 62) #[] #[])] _ _
 obtain⟨n,aK,aL,y⟩:=l.1 P
 refine sr (Kz (.bool (decide (((a:Nat):Int) < ((b.length:Nat):Int)))) (nt (Wp.seq ?_)))
 by_cases Q:((a:Nat):Int) < ((b.length:Nat):Int)
 obtain⟨g,o⟩:=eG (ls:=b) (i:=a) aA.len (by decide) (n.ro B) (by first | omega | (simp; done) | (simp; omega))
 have aM:g.aD.length≤12:=G.2 _ (List.mem_of_getElem? o)
 have R:=drop_at o
 refine jT (dT Q) (sk (Wp.seq (bo (sr (fw (.pointer (some ⟨ab p,ao p+a *2,none⟩)) (Yl.indexAddr (lV) rfl rfl ((n.ro B).addr (i:=a) (by omega)) (by omega)) (fw (.agg (aA.cells g).toArray) (Yl.load rfl (bu.agg (cs:=(aA.cells g)) Tryz.isAgg88 Tryz.sizeOf88 ((n.ro B).elem aA.len o (by decide)))) ?_))))))
 refine dD [.string ⟨List.toArray ([])⟩, .int .i64 0] 88 n ?_
 intro bf bg av
 refine bz (aA.cells g) 0 av Tryz.sizeOf88 ?_
 intro bi S
 refine nt (Wp.region (Mz rfl (Mz rfl (La (aA.cells g) S 0 Tryz.isAgg88 Tryz.sizeOf88 ?_))))
 have ax:=S.pk [1,0]
 obtain⟨C,z⟩:∃ q,lI c g=q:=⟨_,rfl⟩
 obtain⟨bn,T,aN,U,aO⟩:=Own.enter1 ax
 refine WL.do rfl (Do.callV Tryz.call62 rfl rfl (oO _ _ h c.length j c g C T rfl (by omega) (by omega) z) ?_)
 rintro _ bq ⟨ay,az,rfl,V,A⟩
 have W:=U _ _ V
 have aP:=W.rowC (i:=0) rfl
 replace A:C.length≤c.length+27:=A
 refine Az rfl (WL.nil (bN (Fin.then (Wp.region (fw (.int .i64 ((a+1:Nat):Int)) (Yl.int (e:=IntKind.i64.wrap (((a:Nat):Int)+1)) yk (by rw [IntWalk.i64_in _ (by omega)]; omega)) (Mz rfl (WL.nil ?_)))))))
 have aB:=W.pk [0]
 exact Fin.round (ay,az,C,a+1) ⟨rfl,rfl,rfl,rfl,rfl,rfl,trivial⟩ (l.2 ⟨aB,by omega,by omega,et (y) (et (congrArg (fun q=>fu q c) R) (aa z))⟩) (by show b.length - (a+1) < b.length - a; omega)
 refine jF (dF Q) (Wp.exit (Fin.thenX ?_))
 have X:fu b (f++d)=c:=et (y) (et (congrArg (fun q=>fu q c) (dY (ls:=b) (i:=a) (by omega))) rfl)
 refine Fin.thenX (Fin.blockX (Fin.then (sr (Mz rfl (An rfl (rt (rs ?_)))))))
 have aC:=n.pk [0]
 obtain rfl:_=c:=hr.symm.trans (et (aa r) (aa X))
 exact⟨h,j,rfl,aC,(by first | omega | (simp only [List.length_cons,List.length_nil,List.length_append]; omega))⟩
def lq (e:List UInt8) (d:aX):(List UInt8):=
 bnd (kP d.dX) fun a=>bnd (dI (e++ [a]) ([d.au])) fun b=>bnd (iK b d.ay.ls) fun c=>c
theorem oC (w:World) (D:Nat→Prop) (A0:Option Addr) (n0 c0:Nat) (c:List UInt8) (a:aX) (d:Option Addr) (V e:Nat) (r0:List UInt8) (H:Own w D w [row A0 n0 c0 (List.flatMap eB c) 5 1]) (fq:n0=c.length) (iH:c.length *1≤211106232532992) (aT:V=a.ay.ls.length) (l:Ro w D fun w'=>bD w' 2 d a.ay.ls.length (List.flatMap aW.cells a.ay.ls)) (fu:a.ay.ls.length≤e∧a.ay.ls.length≤9223372036854775807) (iI:c.length≤2000000000) (u:(a.au.length≤16∧a.ay.ls.length≤4∧∀ q ∈ a.ay.ls,q.aL.length≤12∧q.au.length≤16)) (hr:lq c a=r0):
    Calls Tryz.prog 60 #[.slice A0 n0 c0, .agg #[.bool a.dX, .string ⟨List.toArray a.au⟩, .slice d V e]] w (cK fun v w'=> ∃ (B0:Option Addr) (b0:Nat),v= .slice B0 r0.length b0∧Own w D w' [row B0 r0.length b0 (List.flatMap eB r0) 5 1]∧(r0.length≤c.length+245)):=by
 subst fq aT
 have iJ:=H.rowC (i:=0) rfl
 have hh1a:=u.1
 have hh1b:=u.2.1
 refine Calls.body (args:= [.slice A0 c.length c0, .agg #[.bool a.dX, .string ⟨List.toArray a.au⟩, .slice d a.ay.ls.length e]]) Tryz.func60 rfl rfl rfl ?_
 show Wp _ _ _ [(0, .slice A0 c.length c0),(1, .agg #[.bool a.dX, .string ⟨List.toArray a.au⟩, .slice d a.ay.ls.length e])] _ _
 refine sr ?_
 refine dD [.bool a.dX, .string ⟨List.toArray a.au⟩, .slice d a.ay.ls.length e] 84 H ?_
 intro T fw fA
 refine An rfl (Wp.seq ?_)
 have z:=fA.drew
 refine Wp.drawnX [] (fun W=> ∃ L',Own w D W ([blk T [.bool a.dX, .string ⟨List.toArray a.au⟩, .slice d a.ay.ls.length e] 84]++L')) (by kernel_rfl) (by kernel_rfl) (bO.then bO.base) ⟨_,z⟩ ?_
 revert z
 generalize World.drew fw=iL
 intro z
 refine GX.take (v:= .slice A0 c.length c0) (rs:= []) 0 rfl (by kernel_rfl) (fun _ _=>Yl.move rfl) (GX.take (v:= .pointer (some ⟨T,0,none⟩)) (rs:= []) 1 rfl (by kernel_rfl) (fun _ _=>yk) (GX.take (v:= .bool a.dX) (rs:= []) 2 rfl (by kernel_rfl) (fun _ ⟨_,H9⟩=>Yl.load rfl (bu.one Tryz.isAgg4 (fG.of (H9.cls (i:=0) rfl) rfl))) (GX.take (v:= .pointer (some ⟨T,1,none⟩)) (rs:= []) 6 rfl (by kernel_rfl) (fun _ _=>yk) (GX.take (v:= .string ⟨List.toArray a.au⟩) (rs:= []) 7 rfl (by kernel_rfl) (fun _ ⟨_,H9⟩=>Yl.load rfl (bu.one Tryz.isAgg9 (fG.of (H9.cls (i:=0) rfl) rfl))) (GX.take (v:= .pointer (some ⟨T,2,none⟩)) (rs:= []) 10 rfl (by kernel_rfl) (fun _ _=>yk) (GX.take (v:= .slice d a.ay.ls.length e) (rs:= []) 11 rfl (by kernel_rfl) (fun _ ⟨_,H9⟩=>Yl.load rfl (bu.one Tryz.isAgg82 (fG.of (H9.cls (i:=0) rfl) rfl))) ?_))))))
 refine GX.any2 3 8 (by kernel_rfl) ?_ ?_
 obtain⟨b,n⟩:∃ q,kP a.dX=q:=⟨_,rfl⟩
 obtain⟨iM,cO,gK,cZ,gL⟩:=Own.enter0 z
 refine GY.do 3 rfl (by kernel_rfl) (Do.call Tryz.call55 rfl (mh _ _ a.dX b cO n) ?_)
 rintro _ iN ⟨rfl,df⟩
 have aU:=cZ _ _ df
 refine⟨.inr ⟨_,aU⟩, ?_⟩
 refine GX.any2 4 8 (by kernel_rfl) ?_ ?_
 refine GY.do 4 rfl (by kernel_rfl) (Do.newRow (cs:= [.int .u8 ((b.toNat:Nat):Int)]) (t:=5) (sz:=1) (m:=1) aU rfl rfl (fun _=>by kernel_rfl) rfl (by decide) ?_)
 intro fB iO aV
 replace aV:=Own.reh (y:=row fB 1 1 (List.flatMap eB ([b])) 5 1) rfl aV
 have aY:=aV.pk [1,0,2]
 refine⟨.inr ⟨_,aY⟩, ?_⟩
 refine GX.any2 5 8 (by kernel_rfl) ?_ ?_
 have dh:=aY.pk [2,0,1]
 refine GY.do 5 rfl (by kernel_rfl) (Do.appendW (k:=c.length) (m:=1) (bW) dh rfl rfl (cz Tryz.underlying31 (dh.rds (i:=2) rfl) (bK dB ([b]))) rfl (by omega) (s:=List.length (c++ [b])) (by first | omega | (simp only [List.length_append,List.length_cons,List.length_nil] <;> omega)) (List.flatMap_append).symm ?_)
 intro fC fD iP fE
 have gM:List.length (c++ [b])=c.length+1:=by simp only [List.length_append,List.length_cons,List.length_nil]
 have di:=fE.pk [1,0,2]
 refine⟨.inr ⟨_,di⟩, ?_⟩
 refine GX.do 8 rfl (by kernel_rfl) (Do.newRow (cs:= [.string ⟨List.toArray a.au⟩]) (t:=9) (sz:=1) (m:=1) di rfl rfl (fun _=>by kernel_rfl) rfl (by decide) ?_)
 intro dm iQ aZ
 replace aZ:=Own.reh (y:=row dm 1 1 (List.flatMap eS ([a.au])) 9 1) rfl aZ
 have dn:=aZ.pk [1,0,2,3]
 refine⟨.inr ⟨_,dn⟩, ?_⟩
 have fF:=dn.pk [2,0,1,3]
 obtain⟨x,X⟩:∃ q,dI (c++ [b]) ([a.au])=q:=⟨_,rfl⟩
 obtain⟨iR,dw,gN,dx,dz⟩:=Own.enter1 fF
 refine GX.do 9 rfl (by kernel_rfl) (Do.call Tryz.call56 rfl (dE _ _ fC (List.length (c++ [b])) fD (c++ [b]) dm 1 1 ([a.au]) x dw rfl (by first | omega | (simp only [List.length_append,List.length_cons,List.length_nil,List.length_take,List.length_drop,List.length_set]; omega)) (dz _ 1 _ rfl bJ) rfl (by simp) (by first | omega | (simp only [List.length_cons,List.length_nil,List.length_append]; omega)) (by refine⟨Nat.le_of_ble_eq_true rfl, ?_⟩; simp only [List.mem_cons,List.not_mem_nil,or_false,forall_eq_or_imp,forall_eq]; omega) X) ?_)
 rintro _ iT ⟨fH,fI,rfl,dA,Y⟩
 have dC:=dx _ _ dA
 have gP:=dC.rowC (i:=0) rfl
 replace Y:x.length≤List.length (c++ [b])+26 *1:=Y
 have dF:=dC.pk [1,0,2,3]
 refine⟨.inr ⟨_,dF⟩, ?_⟩
 have fJ:=dF.pk [1,0,2,3]
 obtain⟨U,Z⟩:∃ q,iK x a.ay.ls=q:=⟨_,rfl⟩
 obtain⟨iU,dG,dH,dJ,gQ⟩:=Own.enter1 fJ
 refine GX.do 12 rfl (by kernel_rfl) (Do.call Tryz.call100 rfl (jm _ _ fH x.length fI x d a.ay.ls.length e a.ay.ls U dG rfl (by omega) (dH _ l) rfl (by omega) (by first | omega | (simp only [List.length_cons,List.length_nil,List.length_append]; omega)) (by exact⟨hh1b,u.2.2⟩) Z) ?_)
 rintro _ iV ⟨dK,dL,rfl,dM,ae⟩
 have dN:=dJ _ _ dM
 have gT:=dN.rowC (i:=0) rfl
 replace ae:U.length≤x.length+10+52 *a.ay.ls.length:=ae
 have dO:=dN.pk [1,0,2,3]
 refine⟨.inr ⟨_,dO⟩, ?_⟩
 refine GX.take (v:= .slice dK U.length dL) (rs:= []) 13 rfl (by kernel_rfl) (fun _ _=>Yl.assign rfl) (GX.done (by kernel_rfl) (Fin.then (rt (rs ?_))))
 have fK:=dO.pk [1]
 obtain rfl:_=U:=hr.symm.trans (et (aa n) (et (aa X) (aa Z)))
 exact⟨dK,dL,rfl,fK,(by first | omega | (simp only [List.length_cons,List.length_nil,List.length_append]; omega))⟩
 refine GY.do 8 rfl (by kernel_rfl) (Do.newRow (cs:= [.string ⟨List.toArray a.au⟩]) (t:=9) (sz:=1) (m:=1) aY rfl rfl (fun _=>by kernel_rfl) rfl (by decide) ?_)
 intro dP iW bf
 replace bf:=Own.reh (y:=row dP 1 1 (List.flatMap eS ([a.au])) 9 1) rfl bf
 have dQ:=bf.pk [1,0,2,3]
 refine⟨.inr ⟨_,dQ⟩, ?_⟩
 have dR:=dQ.pk [3,0,1,2]
 refine GX.do 5 rfl (by kernel_rfl) (Do.appendW (k:=c.length) (m:=1) (bW) dR rfl rfl (cz Tryz.underlying31 (dR.rds (i:=3) rfl) (bK dB ([b]))) rfl (by omega) (s:=List.length (c++ [b])) (by first | omega | (simp only [List.length_append,List.length_cons,List.length_nil] <;> omega)) (List.flatMap_append).symm ?_)
 intro fM fO iX fP
 have gU:List.length (c++ [b])=c.length+1:=by simp only [List.length_append,List.length_cons,List.length_nil]
 have dS:=fP.pk [1,0,2,3]
 refine⟨.inr ⟨_,dS⟩, ?_⟩
 have fQ:=dS.pk [1,0,2,3]
 obtain⟨g,A⟩:∃ q,dI (c++ [b]) ([a.au])=q:=⟨_,rfl⟩
 obtain⟨iY,dU,gV,dV,bg⟩:=Own.enter1 fQ
 refine GX.do 9 rfl (by kernel_rfl) (Do.call Tryz.call56 rfl (dE _ _ fM (List.length (c++ [b])) fO (c++ [b]) dP 1 1 ([a.au]) g dU rfl (by first | omega | (simp only [List.length_append,List.length_cons,List.length_nil,List.length_take,List.length_drop,List.length_set]; omega)) (bg _ 1 _ rfl bJ) rfl (by simp) (by first | omega | (simp only [List.length_cons,List.length_nil,List.length_append]; omega)) (by refine⟨Nat.le_of_ble_eq_true rfl, ?_⟩; simp only [List.mem_cons,List.not_mem_nil,or_false,forall_eq_or_imp,forall_eq]; omega) A) ?_)
 rintro _ gW ⟨dW,dX,rfl,bi,B⟩
 have af:=dV _ _ bi
 have fT:=af.rowC (i:=0) rfl
 replace B:g.length≤List.length (c++ [b])+26 *1:=B
 have ag:=af.pk [1,0,2,3]
 refine⟨.inr ⟨_,ag⟩, ?_⟩
 have dY:=ag.pk [1,0,2,3]
 obtain⟨o,C⟩:∃ q,iK g a.ay.ls=q:=⟨_,rfl⟩
 obtain⟨gX,bn,bq,bv,fU⟩:=Own.enter1 dY
 refine GX.do 12 rfl (by kernel_rfl) (Do.call Tryz.call100 rfl (jm _ _ dW g.length dX g d a.ay.ls.length e a.ay.ls o bn rfl (by omega) (bq _ l) rfl (by omega) (by first | omega | (simp only [List.length_cons,List.length_nil,List.length_append]; omega)) (by exact⟨hh1b,u.2.2⟩) C) ?_)
 rintro _ gY ⟨ah,ai,rfl,bz,E⟩
 have aj:=bv _ _ bz
 have fV:=aj.rowC (i:=0) rfl
 replace E:o.length≤g.length+10+52 *a.ay.ls.length:=E
 have ak:=aj.pk [1,0,2,3]
 refine⟨.inr ⟨_,ak⟩, ?_⟩
 refine GX.take (v:= .slice ah o.length ai) (rs:= []) 13 rfl (by kernel_rfl) (fun _ _=>Yl.assign rfl) (GX.done (by kernel_rfl) (Fin.then (rt (rs ?_))))
 have dZ:=ak.pk [1]
 obtain rfl:_=o:=hr.symm.trans (et (aa n) (et (aa A) (aa C)))
 exact⟨ah,ai,rfl,dZ,(by first | omega | (simp only [List.length_cons,List.length_nil,List.length_append]; omega))⟩
 refine GY.do 8 rfl (by kernel_rfl) (Do.newRow (cs:= [.string ⟨List.toArray a.au⟩]) (t:=9) (sz:=1) (m:=1) aU rfl rfl (fun _=>by kernel_rfl) rfl (by decide) ?_)
 intro au gZ F
 replace F:=Own.reh (y:=row au 1 1 (List.flatMap eS ([a.au])) 9 1) rfl F
 have av:=F.pk [1,0,2]
 refine⟨.inr ⟨_,av⟩, ?_⟩
 refine GX.do 4 rfl (by kernel_rfl) (Do.newRow (cs:= [.int .u8 ((b.toNat:Nat):Int)]) (t:=5) (sz:=1) (m:=1) av rfl rfl (fun _=>by kernel_rfl) rfl (by decide) ?_)
 intro d9 ib G
 replace G:=Own.reh (y:=row d9 1 1 (List.flatMap eB ([b])) 5 1) rfl G
 have ax:=G.pk [1,0,2,3]
 refine⟨.inr ⟨_,ax⟩, ?_⟩
 have ay:=ax.pk [3,0,1,2]
 refine GX.do 5 rfl (by kernel_rfl) (Do.appendW (k:=c.length) (m:=1) (bW) ay rfl rfl (cz Tryz.underlying31 (ay.rds (i:=2) rfl) (bK dB ([b]))) rfl (by omega) (s:=List.length (c++ [b])) (by first | omega | (simp only [List.length_append,List.length_cons,List.length_nil] <;> omega)) (List.flatMap_append).symm ?_)
 intro ed ek ic eu
 have fZ:List.length (c++ [b])=c.length+1:=by simp only [List.length_append,List.length_cons,List.length_nil]
 have az:=eu.pk [1,0,2,3]
 refine⟨.inr ⟨_,az⟩, ?_⟩
 have eD:=az.pk [1,0,2,3]
 obtain⟨h,I⟩:∃ q,dI (c++ [b]) ([a.au])=q:=⟨_,rfl⟩
 obtain⟨ig,bA,gm,bB,bC⟩:=Own.enter1 eD
 refine GX.do 9 rfl (by kernel_rfl) (Do.call Tryz.call56 rfl (dE _ _ ed (List.length (c++ [b])) ek (c++ [b]) au 1 1 ([a.au]) h bA rfl (by first | omega | (simp only [List.length_append,List.length_cons,List.length_nil,List.length_take,List.length_drop,List.length_set]; omega)) (bC _ 2 _ rfl bJ) rfl (by simp) (by first | omega | (simp only [List.length_cons,List.length_nil,List.length_append]; omega)) (by refine⟨Nat.le_of_ble_eq_true rfl, ?_⟩; simp only [List.mem_cons,List.not_mem_nil,or_false,forall_eq_or_imp,forall_eq]; omega) I) ?_)
 rintro _ ik ⟨eF,eG,rfl,bE,J⟩
 have aA:=bB _ _ bE
 have gp:=aA.rowC (i:=0) rfl
 replace J:h.length≤List.length (c++ [b])+26 *1:=J
 have aB:=aA.pk [1,0,2,3]
 refine⟨.inr ⟨_,aB⟩, ?_⟩
 have eH:=aB.pk [1,0,2,3]
 obtain⟨p,K⟩:∃ q,iK h a.ay.ls=q:=⟨_,rfl⟩
 obtain⟨il,bF,bG,bH,gq⟩:=Own.enter1 eH
 refine GX.do 12 rfl (by kernel_rfl) (Do.call Tryz.call100 rfl (jm _ _ eF h.length eG h d a.ay.ls.length e a.ay.ls p bF rfl (by omega) (bG _ l) rfl (by omega) (by first | omega | (simp only [List.length_cons,List.length_nil,List.length_append]; omega)) (by exact⟨hh1b,u.2.2⟩) K) ?_)
 rintro _ iq ⟨aC,aD,rfl,bI,L⟩
 have aF:=bH _ _ bI
 have gu:=aF.rowC (i:=0) rfl
 replace L:p.length≤h.length+10+52 *a.ay.ls.length:=L
 have aG:=aF.pk [1,0,2,3]
 refine⟨.inr ⟨_,aG⟩, ?_⟩
 refine GX.take (v:= .slice aC p.length aD) (rs:= []) 13 rfl (by kernel_rfl) (fun _ _=>Yl.assign rfl) (GX.done (by kernel_rfl) (Fin.then (rt (rs ?_))))
 have eO:=aG.pk [1]
 obtain rfl:_=p:=hr.symm.trans (et (aa n) (et (aa I) (aa K)))
 exact⟨aC,aD,rfl,eO,(by first | omega | (simp only [List.length_cons,List.length_nil,List.length_append]; omega))⟩
 refine GY.do 8 rfl (by kernel_rfl) (Do.newRow (cs:= [.string ⟨List.toArray a.au⟩]) (t:=9) (sz:=1) (m:=1) z rfl rfl (fun _=>by kernel_rfl) rfl (by decide) ?_)
 intro aH iw M
 replace M:=Own.reh (y:=row aH 1 1 (List.flatMap eS ([a.au])) 9 1) rfl M
 have aI:=M.pk [1,0,2]
 refine⟨.inr ⟨_,aI⟩, ?_⟩
 obtain⟨f,N⟩:∃ q,kP a.dX=q:=⟨_,rfl⟩
 obtain⟨iy,bL,gy,bM,gz⟩:=Own.enter0 aI
 refine GX.do 3 rfl (by kernel_rfl) (Do.call Tryz.call55 rfl (mh _ _ a.dX f bL N) ?_)
 rintro _ iA ⟨rfl,bN⟩
 have aJ:=bM _ _ bN
 refine⟨.inr ⟨_,aJ⟩, ?_⟩
 refine GX.do 4 rfl (by kernel_rfl) (Do.newRow (cs:= [.int .u8 ((f.toNat:Nat):Int)]) (t:=5) (sz:=1) (m:=1) aJ rfl rfl (fun _=>by kernel_rfl) rfl (by decide) ?_)
 intro eP iB O
 replace O:=Own.reh (y:=row eP 1 1 (List.flatMap eB ([f])) 5 1) rfl O
 have aK:=O.pk [1,0,2,3]
 refine⟨.inr ⟨_,aK⟩, ?_⟩
 have aL:=aK.pk [3,0,1,2]
 refine GX.do 5 rfl (by kernel_rfl) (Do.appendW (k:=c.length) (m:=1) (bW) aL rfl rfl (cz Tryz.underlying31 (aL.rds (i:=2) rfl) (bK dB ([f]))) rfl (by omega) (s:=List.length (c++ [f])) (by first | omega | (simp only [List.length_append,List.length_cons,List.length_nil] <;> omega)) (List.flatMap_append).symm ?_)
 intro eQ eT iC eU
 have gB:List.length (c++ [f])=c.length+1:=by simp only [List.length_append,List.length_cons,List.length_nil]
 have aM:=eU.pk [1,0,2,3]
 refine⟨.inr ⟨_,aM⟩, ?_⟩
 have eX:=aM.pk [1,0,2,3]
 obtain⟨j,P⟩:∃ q,dI (c++ [f]) ([a.au])=q:=⟨_,rfl⟩
 obtain⟨iD,bP,gD,bQ,bR⟩:=Own.enter1 eX
 refine GX.do 9 rfl (by kernel_rfl) (Do.call Tryz.call56 rfl (dE _ _ eQ (List.length (c++ [f])) eT (c++ [f]) aH 1 1 ([a.au]) j bP rfl (by first | omega | (simp only [List.length_append,List.length_cons,List.length_nil,List.length_take,List.length_drop,List.length_set]; omega)) (bR _ 2 _ rfl bJ) rfl (by simp) (by first | omega | (simp only [List.length_cons,List.length_nil,List.length_append]; omega)) (by refine⟨Nat.le_of_ble_eq_true rfl, ?_⟩; simp only [List.mem_cons,List.not_mem_nil,or_false,forall_eq_or_imp,forall_eq]; omega) P) ?_)
 rintro _ iE ⟨eY,eZ,rfl,bS,Q⟩
 have aN:=bQ _ _ bS
 have gF:=aN.rowC (i:=0) rfl
 replace Q:j.length≤List.length (c++ [f])+26 *1:=Q
 have aO:=aN.pk [1,0,2,3]
 refine⟨.inr ⟨_,aO⟩, ?_⟩
 have fe:=aO.pk [1,0,2,3]
 obtain⟨r,R⟩:∃ q,iK j a.ay.ls=q:=⟨_,rfl⟩
 obtain⟨iF,bT,bU,bV,gG⟩:=Own.enter1 fe
 refine GX.do 12 rfl (by kernel_rfl) (Do.call Tryz.call100 rfl (jm _ _ eY j.length eZ j d a.ay.ls.length e a.ay.ls r bT rfl (by omega) (bU _ l) rfl (by omega) (by first | omega | (simp only [List.length_cons,List.length_nil,List.length_append]; omega)) (by exact⟨hh1b,u.2.2⟩) R) ?_)
 rintro _ iG ⟨aP,aQ,rfl,bX,S⟩
 have aR:=bV _ _ bX
 have gH:=aR.rowC (i:=0) rfl
 replace S:r.length≤j.length+10+52 *a.ay.ls.length:=S
 have aS:=aR.pk [1,0,2,3]
 refine⟨.inr ⟨_,aS⟩, ?_⟩
 refine GX.take (v:= .slice aP r.length aQ) (rs:= []) 13 rfl (by kernel_rfl) (fun _ _=>Yl.assign rfl) (GX.done (by kernel_rfl) (Fin.then (rt (rs ?_))))
 have fo:=aS.pk [1]
 obtain rfl:_=r:=hr.symm.trans (et (aa N) (et (aa P) (aa R)))
 exact⟨aP,aQ,rfl,fo,(by first | omega | (simp only [List.length_cons,List.length_nil,List.length_append]; omega))⟩
def fo:List aX→List UInt8→(List UInt8)
  | [],a=>a
  | b::d,a=>bnd (lq a (aX.mk b.dX b.au (Ll.mk b.ay.ls))) fun c=>fo d c
def ko (c:List UInt8) (b:List aX):(List UInt8):=
 bnd (dO b.length) fun a=>bnd (fo b (c++a)) fun sLrbL=>sLrbL
theorem mV (w:World) (D:Nat→Prop) (A0:Option Addr) (n0 c0:Nat) (h:List UInt8) (r:Option Addr) (n1 J:Nat) (d1:List ag) (d:List aX) (K:List UInt8) (H:Own w D w [row A0 n0 c0 (List.flatMap eB h) 5 1]) (ay:n0=h.length) (aZ:h.length *1≤211106232532992) (L:List.map ag.abs d1=d) (G:Ro w D fun w'=>bD w' 3 r n1 (List.flatMap ag.cells d1)) (M:∀ x ∈ d1,Ro w D (fun w'=>bD w' 2 x.ay.A x.ay.ls.length (List.flatMap aW.cells x.ay.ls))∧(x.ay.ls.length≤x.ay.c∧x.ay.ls.length≤9223372036854775807)) (az:n1=d.length) (bf:d.length *48≤211106232532992) (bg:h.length≤1000000000) (N:(d.length≤24∧∀ x ∈ d,x.au.length≤16∧x.ay.ls.length≤4∧∀ q ∈ x.ay.ls,q.aL.length≤12∧q.au.length≤16)) (hr:ko h d=K):
    Calls Tryz.prog 59 #[.slice A0 n0 c0, .slice r n1 J, .func (.func 60) #[] #[]] w (cK fun v w'=> ∃ (B0:Option Addr) (b0:Nat),v= .slice B0 K.length b0∧Own w D w' [row B0 K.length b0 (List.flatMap eB K) 5 1]∧(K.length≤h.length+10+245 *d.length)):=by
 subst ay az
 have hdl1:=dM L
 have bi:=H.rowC (i:=0) rfl
 have hh1a:=N.1
 refine Calls.body (args:= [.slice A0 h.length c0, .slice r d.length J, .func (.func 60) #[] #[]]) Tryz.func59 rfl rfl rfl ?_
 show Wp _ _ _ [(0, .slice A0 h.length c0),(1, .slice r d.length J),(2, .func (.func 60) #[] #[])] _ _
 refine sr (Ar rfl (Mz rfl (Mz rfl (Kz (.int .i64 ((d.length:Nat):Int)) (fw (.int .u64 ((d.length:Nat):Int)) (Yl.int (e:=IntKind.u64.wrap ((d.length:Nat):Int)) yk (IntWalk.u64_in _ (by omega))) ?_)))))
 obtain⟨g,t⟩:∃ q,dO d.length=q:=⟨_,rfl⟩
 obtain⟨bn,O,aO,P,aP⟩:=Own.enter0 H
 refine cl Tryz.call51 (fZ _ _ d.length g O (by omega) t) ?_
 rintro _ bq ⟨bv,bA,rfl,Q,u,y⟩
 have R:=P _ _ Q
 have aQ:=R.rowC (i:=0) rfl
 replace u:1≤g.length∧g.length≤10:=u
 replace y:d.length ≥ 128∨g.length=1:=y
 have S:=R.pk [1,0]
 refine WL.do rfl (Do.appendW (k:=h.length) (m:=g.length) (bW) S rfl rfl (cz Tryz.underlying31 (S.rds (i:=1) rfl) (bK dB g)) rfl (by omega) (s:=List.length (h++g)) (by first | omega | (simp only [List.length_append,List.length_cons,List.length_nil] <;> omega)) (List.flatMap_append).symm ?_)
 intro aA aB bB aC
 have aR:List.length (h++g)=h.length+g.length:=by simp only [List.length_append,List.length_cons,List.length_nil]
 refine An rfl (Wp.seq (Wp.seq ?_))
 have aD:=aC.pk [0]
 refine Wp.region (Mz rfl (Kz (.int .i64 ((d.length:Nat):Int)) (Mn rfl (bo ?_))))
 have aF:=aD.pk [0]
 obtain⟨T,U⟩:∃ q:((Option Addr) × Nat × (List UInt8) × Nat)→World→Prop,q=fun(i:(Option Addr) × Nat × (List UInt8) × Nat) w'=>Own w D w' [row i.1 i.2.2.1.length i.2.1 (List.flatMap eB i.2.2.1) 5 1]∧(i.2.2.2≤d.length∧((i.2.2.1.length:Nat):Int)≤((h.length:Nat):Int)+10+245 *((i.2.2.2:Nat):Int)∧fo d (h++g)=fo (List.drop i.2.2.2 d) i.2.2.1):=⟨_,rfl⟩
 have o:∀ {l:Option Addr} {n:Nat} {f:List UInt8} {b:Nat} {w':World},T (l,n,f,b) w'↔Own w D w' [row l f.length n (List.flatMap eB f) 5 1]∧b≤d.length∧((f.length:Nat):Int)≤((h.length:Nat):Int)+10+245 *((b:Nat):Int)∧fo d (h++g)=fo (List.drop b d) f:=by intros; subst U; exact Iff.rfl
 refine Wp.loop (fun i:(Option Addr) × Nat × (List UInt8) × Nat=> [(0, .slice i.1 i.2.2.1.length i.2.1),(17, .int .i64 ((i.2.2.2:Nat):Int)),(16, .int .i64 ((d.length:Nat):Int)),(15, .slice r d.length J),(6, .slice none 0 0),(2, .func (.func 60) #[] #[])]) T (fun i=>d.length - i.2.2.2) (aA,aB,(h++g),0) ⟨rfl,rfl,rfl,rfl,rfl,rfl,trivial⟩ (o.2 ⟨aF,by omega,by omega,rfl⟩) ?_
 rintro ⟨l,n,f,b⟩ bC V
 show Wp _ _ _ [(0, .slice l f.length n),(17, .int .i64 ((b:Nat):Int)),(16, .int .i64 ((d.length:Nat):Int)),(15, .slice r d.length J),(6, .slice none 0 0),(2, .func (.func 60) #[] #[])] _ _
 obtain⟨p,aS,aT,z⟩:=o.1 V
 refine sr (Kz (.bool (decide (((b:Nat):Int) < ((d.length:Nat):Int)))) (nt (Wp.seq ?_)))
 by_cases W:((b:Nat):Int) < ((d.length:Nat):Int)
 obtain⟨a,j⟩:=eG (ls:=d1) (i:=b) ag.len (by decide) (p.ro G) (by first | omega | (simp; done) | (simp; omega))
 have B:=oI L j
 have aU:=(M _ (List.mem_of_getElem? j)).2
 have C:a.au.length≤16∧a.ay.ls.length≤4∧∀ q ∈ a.ay.ls,q.aL.length≤12∧q.au.length≤16:=N.2 _ (List.mem_of_getElem? B)
 have hz63a:=C.1
 have hz63b:=C.2.1
 have X:=drop_at B
 refine jT (dT W) (sk (Wp.seq (bo (sr (fw (.pointer (some ⟨ab r,ao r+b *3,none⟩)) (Yl.indexAddr (mJ) rfl rfl ((p.ro G).addr (i:=b) (by omega)) (by omega)) (fw (.agg (ag.cells a).toArray) (Yl.load rfl (bu.agg (cs:=(ag.cells a)) Tryz.isAgg84 Tryz.sizeOf84 ((p.ro G).elem ag.len j (by decide)))) ?_))))))
 refine dD [.bool false, .string ⟨List.toArray ([])⟩, .slice none 0 0] 84 p ?_
 intro bE bF aG
 refine bz (ag.cells a) 0 aG Tryz.sizeOf84 ?_
 intro bG Y
 refine nt (Wp.region (Mz rfl (Mz rfl (La (ag.cells a) Y 0 Tryz.isAgg84 Tryz.sizeOf84 ?_))))
 have aH:=Y.pk [1,0]
 obtain⟨I,E⟩:∃ q,lq f (aX.mk a.dX a.au (Ll.mk a.ay.ls))=q:=⟨_,rfl⟩
 obtain⟨bH,Z,ae,af,aV⟩:=Own.enter1 aH
 refine WL.do rfl (Do.callV Tryz.call60 rfl rfl (oC _ _ l f.length n f (aX.mk a.dX a.au (Ll.mk a.ay.ls)) a.ay.A a.ay.ls.length a.ay.c I Z rfl (by omega) rfl (ae _ (M _ (List.mem_of_getElem? j)).1) (show a.ay.ls.length≤a.ay.c∧a.ay.ls.length≤9223372036854775807 from by omega) (by first | omega | (simp only [List.length_cons,List.length_nil,List.length_append]; omega)) (by assumption) E) ?_)
 rintro _ bI ⟨aI,aJ,rfl,ah,F⟩
 have ai:=af _ _ ah
 have aY:=ai.rowC (i:=0) rfl
 replace F:I.length≤f.length+245:=F
 refine Az rfl (WL.nil (bN (Fin.then (Wp.region (fw (.int .i64 ((b+1:Nat):Int)) (Yl.int (e:=IntKind.i64.wrap (((b:Nat):Int)+1)) yk (by rw [IntWalk.i64_in _ (by omega)]; omega)) (Mz rfl (WL.nil ?_)))))))
 have aK:=ai.pk [0]
 exact Fin.round (aI,aJ,I,b+1) ⟨rfl,rfl,rfl,rfl,rfl,rfl,trivial⟩ (o.2 ⟨aK,by omega,by omega,et (z) (et (congrArg (fun q=>fo q f) X) (aa E))⟩) (by show d.length - (b+1) < d.length - b; omega)
 refine jF (dF W) (Wp.exit (Fin.thenX ?_))
 have aj:fo d (h++g)=f:=et (z) (et (congrArg (fun q=>fo q f) (dY (ls:=d) (i:=b) (by omega))) rfl)
 refine Fin.thenX (Fin.blockX (Fin.then (sr (Mz rfl (An rfl (rt (rs ?_)))))))
 have aL:=p.pk [0]
 obtain rfl:_=f:=hr.symm.trans (et (aa t) (aa aj))
 exact⟨l,n,rfl,aL,(by first | omega | (simp only [List.length_cons,List.length_nil,List.length_append]; omega))⟩
end Go.Proofs.YtccjclalngabhaaGreat
