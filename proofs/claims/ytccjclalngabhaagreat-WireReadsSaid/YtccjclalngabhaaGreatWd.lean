/-
 wire: bytes of a message's fields.
-/
import Derived.Test.YtccjclalngabhaaGreatWiC
namespace Go.Proofs.YtccjclalngabhaaGreat
set_option maxRecDepth 100000
open Go.RowKit
set_option linter.unusedVariables false
set_option linter.unusedSectionVars false
set_option linter.unusedSimpArgs false
def oz (b:List UInt8):(List UInt8):=
 bnd (dP b.length) fun a=>(a++b)
theorem rD (w:World) (D:Nat→Prop) (a:List UInt8) (g:List UInt8) (H:Own w D w []) (C:a.length≤140737488351232) (hr:oz a=g):
    Calls Tryz.prog 99 #[.string ⟨List.toArray a⟩] w (cO fun v w'=> ∃ (u:Option Addr) (x:Nat),v= .slice u g.length x∧Own w D w' [row u g.length x (List.flatMap eB g) 5 1]∧(g.length≤a.length+10)∧(a.length ≥ 128∨g.length=a.length+1)):=by
 refine yR (args:= [.string ⟨List.toArray a⟩]) Tryz.func99 rfl rfl rfl ?_
 show Wp _ _ _ [(0, .string ⟨List.toArray a⟩)] _ _
 refine sr (Ar rfl (Mz rfl (Kz (.int .i64 ((a.length:Nat):Int)) (fw (.int .u64 ((a.length:Nat):Int)) (yS (e:=IntKind.u64.wrap ((a.length:Nat):Int)) yk (IntWalk.u64_in _ (by omega))) ?_))))
 obtain⟨b,c⟩:∃ q,dP a.length=q:=⟨_,rfl⟩
 obtain⟨E,h,y,j,z⟩:=yP H
 refine cl Tryz.call51 (gm _ _ a.length b h (by omega) c) ?_
 rintro _ F ⟨G,I,rfl,l,d,f⟩
 have n:=j _ _ l
 have A:=n.rowC (i:=0) rfl
 replace d:1≤b.length∧b.length≤10:=d
 replace f:a.length ≥ 128∨b.length=1:=f
 refine Mz rfl ?_
 refine WL.do rfl (ze (k:=b.length) (m:=a.length) (bW) n rfl rfl (vY Tryz.underlying9 rfl) rfl (by omega) (s:=List.length (b++a)) (by first | omega | (simp only [List.length_append,List.length_cons,List.length_nil] <;> omega)) (List.flatMap_append).symm ?_)
 intro o p J r
 have B:List.length (b++a)=b.length+a.length:=by simp only [List.length_append,List.length_cons,List.length_nil]
 refine An rfl (rt (rs ?_))
 have t:=r.pk [0]
 obtain rfl:_=(b++a):=hr.symm.trans (aa c)
 exact⟨o,p,rfl,t,(by first | omega | (simp only [List.length_cons,List.length_nil,List.length_append]; omega)),(by first | omega | (simp only [List.length_cons,List.length_nil,List.length_append]; omega))⟩
def kU (a:Bool):UInt8:=
 if a=true then(1:UInt8) else(0:UInt8)
theorem mG (w:World) (D:Nat→Prop) (b:Bool) (e:UInt8) (H:Own w D w []) (hr:kU b=e):
    Calls Tryz.prog 55 #[.bool b] w (cO fun v w'=>v= .int .u8 ((e.toNat:Nat):Int)∧Own w D w' []):=by
 refine yR (args:= [.bool b]) Tryz.func55 rfl rfl rfl ?_
 show Wp _ _ _ [(0, .bool b)] _ _
 refine sr (An rfl (yJ (sr (Mn rfl ?_))))
 rcases BL (b) with a | a
 refine jT a (sr (An rfl (rt (tR (rs ?_)))))
 have c:Own w D w []:=H.pk []
 obtain rfl:_=(1:UInt8):=hr.symm.trans (ip a)
 exact⟨rfl,c⟩
 refine jF a (sk (sr (An rfl (rt (rs ?_)))))
 have d:Own w D w []:=H.pk []
 obtain rfl:_=(0:UInt8):=hr.symm.trans (dz a)
 exact⟨rfl,d⟩
def iO:List (List UInt8)→List UInt8→(List UInt8)
  | [],a=>a
  | c::d,a=>bnd (oz c) fun b=>iO d (a++b)
def dK (a:List UInt8) (b:List (List UInt8)):(List UInt8):=
 bnd (iO b a) fun sLrL=>sLrL
theorem dH (w:World) (D:Nat→Prop) (A:Option Addr) (n0 B:Nat) (f:List UInt8) (p:Option Addr) (S C:Nat) (c:List (List UInt8)) (E:List UInt8) (H:Own w D w [row A n0 B (List.flatMap eB f) 5 1]) (T:n0=f.length) (ay:f.length *1≤211106232532992) (z:Ro w D fun w'=>bD w' 1 p S (List.flatMap eS c)) (U:S=c.length) (az:c.length *16≤211106232532992) (aA:f.length≤5000000000) (F:(c.length≤4∧∀ x ∈ c,x.length≤16)) (hr:dK f c=E):
    Calls Tryz.prog 56 #[.slice A n0 B, .slice p S C] w (cO fun v w'=> ∃ (B0:Option Addr) (b0:Nat),v= .slice B0 E.length b0∧Own w D w' [row B0 E.length b0 (List.flatMap eB E) 5 1]∧(E.length≤f.length+26 *c.length)):=by
 subst T U
 have aB:=H.rowC (i:=0) rfl
 have hh1a:=F.1
 refine yR (args:= [.slice A f.length B, .slice p c.length C]) Tryz.func56 rfl rfl rfl ?_
 show Wp _ _ _ [(0, .slice A f.length B),(1, .slice p c.length C)] _ _
 refine sr (An rfl (yJ (sr (Mz rfl (Kz (.int .i64 ((c.length:Nat):Int)) (Mn rfl (bo ?_)))))))
 have V:Own w D w [row A f.length B (List.flatMap eB f) 5 1]:=H.pk [0]
 obtain⟨G,I⟩:∃ q:((Option Addr) × Nat × (List UInt8) × Nat)→World→Prop,q=fun(i:(Option Addr) × Nat × (List UInt8) × Nat) w'=>Own w D w' [row i.1 i.2.2.1.length i.2.1 (List.flatMap eB i.2.2.1) 5 1]∧(i.2.2.2≤c.length∧((i.2.2.1.length:Nat):Int)≤((f.length:Nat):Int)+26 *((i.2.2.2:Nat):Int)∧iO c f=iO (List.drop i.2.2.2 c) i.2.2.1):=⟨_,rfl⟩
 have h:∀ {j:Option Addr} {l:Nat} {b:List UInt8} {a:Nat} {w':World},G (j,l,b,a) w'↔Own w D w' [row j b.length l (List.flatMap eB b) 5 1]∧a≤c.length∧((b.length:Nat):Int)≤((f.length:Nat):Int)+26 *((a:Nat):Int)∧iO c f=iO (List.drop a c) b:=by intros; subst I; exact Iff.rfl
 refine Wp.loop (fun i:(Option Addr) × Nat × (List UInt8) × Nat=> [(0, .slice i.1 i.2.2.1.length i.2.1),(9, .int .i64 ((i.2.2.2:Nat):Int)),(8, .int .i64 ((c.length:Nat):Int)),(7, .slice p c.length C),(4, .slice none 0 0)]) G (fun i=>c.length - i.2.2.2) (A,B,f,0) ⟨rfl,rfl,rfl,rfl,rfl,trivial⟩ (h.2 ⟨V,by omega,by omega,rfl⟩) ?_
 rintro ⟨j,l,b,a⟩ aC J
 show Wp _ _ _ [(0, .slice j b.length l),(9, .int .i64 ((a:Nat):Int)),(8, .int .i64 ((c.length:Nat):Int)),(7, .slice p c.length C),(4, .slice none 0 0)] _ _
 obtain⟨n,ah,ai,r⟩:=h.1 J
 refine sr (Kz (.bool (decide (((a:Nat):Int) < ((c.length:Nat):Int)))) (nt (yJ ?_)))
 by_cases K:((a:Nat):Int) < ((c.length:Nat):Int)
 obtain⟨g,o⟩:=dV (ls:=c) (i:=a) ut (by decide) (n.ro z) (by first | omega | (simp; done) | (simp; omega))
 have aj:g.length≤16:=F.2 _ (List.mem_of_getElem? o)
 have L:=drop_at o
 refine jT (dT K) (sk (yJ (bo (sr (fw (.pointer (some ⟨ab p,ao p+a *1,none⟩)) (yZ (xm) rfl rfl ((n.ro z).addr (i:=a) (by omega)) (by omega)) (fw (.string ⟨List.toArray g⟩) (y5 rfl (bn.one Tryz.isAgg9 (((n.ro z).elem ut o (by decide)).at_ (k:=0) rfl))) (An rfl (yK (Mz rfl (Mz rfl ?_))))))))))
 obtain⟨d,t⟩:∃ q,oz g=q:=⟨_,rfl⟩
 obtain⟨aD,M,ak,N,au⟩:=yP n
 refine cl Tryz.call99 (rD _ _ g d M (by omega) t) ?_
 rintro _ aF ⟨aG,aH,rfl,O,u,y⟩
 have P:=N _ _ O
 have av:=P.rowC (i:=0) rfl
 replace u:d.length≤g.length+10:=u
 replace y:g.length ≥ 128∨d.length=g.length+1:=y
 have Q:=P.pk [1,0]
 refine WL.do rfl (ze (k:=b.length) (m:=d.length) (bW) Q rfl rfl (cz Tryz.underlying31 (Q.rds (i:=1) rfl) (bK dA d)) rfl (by omega) (s:=List.length (b++d)) (by first | omega | (simp only [List.length_append,List.length_cons,List.length_nil] <;> omega)) (List.flatMap_append).symm ?_)
 intro W X aI Y
 have ax:List.length (b++d)=b.length+d.length:=by simp only [List.length_append,List.length_cons,List.length_nil]
 refine Az rfl (WL.nil (bN (yL (yK (fw (.int .i64 ((a+1:Nat):Int)) (yS (e:=IntKind.i64.wrap (((a:Nat):Int)+1)) yk (by rw [BI _ (by omega)]; omega)) (Mz rfl (WL.nil ?_)))))))
 have Z:=Y.pk [0]
 exact yY (W,X,(b++d),a+1) ⟨rfl,rfl,rfl,rfl,rfl,trivial⟩ (h.2 ⟨Z,by omega,by omega,et (r) (et (congrArg (fun q=>iO q b) L) (aa t))⟩) (by show c.length - (a+1) < c.length - a; omega)
 refine jF (dF K) (Wp.exit (yV ?_))
 have R:iO c f=b:=et (r) (et (congrArg (fun q=>iO q b) (dZ (ls:=c) (i:=a) (by omega))) rfl)
 refine yV (y8 (yL (sr (Mz rfl (An rfl (rt (rs ?_)))))))
 have ae:=n.pk [0]
 obtain rfl:_=b:=hr.symm.trans (aa R)
 exact⟨j,l,rfl,ae,(by first | omega | (simp only [List.length_cons,List.length_nil,List.length_append]; omega))⟩
def ma (c:List UInt8) (b:aR):(List UInt8):=
 bnd (dK c ([b.aL,b.au])) fun a=>a
theorem pX (w:World) (D:Nat→Prop) (h:Option Addr) (n0 j:Nat) (b:List UInt8) (a:aR) (k:List UInt8) (H:Own w D w [row h n0 j (List.flatMap eB b) 5 1]) (t:n0=b.length) (G:b.length *1≤211106232532992) (I:b.length≤4000000000∧a.aL.length≤12∧a.au.length≤16) (hr:ma b a=k):
    Calls Tryz.prog 101 #[.slice h n0 j, .agg (aR.cells a).toArray] w (cO fun v w'=> ∃ (B:Option Addr) (C:Nat),v= .slice B k.length C∧Own w D w' [row B k.length C (List.flatMap eB k) 5 1]∧(k.length≤b.length+52)):=by
 subst t
 have J:=H.rowC (i:=0) rfl
 refine yR (args:= [.slice h b.length j, .agg (aR.cells a).toArray]) Tryz.func101 rfl rfl rfl ?_
 show Wp _ _ _ [(0, .slice h b.length j),(1, .agg (aR.cells a).toArray)] _ _
 refine sr ?_
 refine dE (aR.cells a) 86 H ?_
 intro l K e
 refine Ar rfl (Mz rfl (Kz (.pointer (some ⟨l,0,none⟩)) (Lz (.string ⟨List.toArray a.aL⟩) e 0 Tryz.isAgg9 (Kz (.pointer (some ⟨l,1,none⟩)) (Lz (.string ⟨List.toArray a.au⟩) e 0 Tryz.isAgg9 ?_)))))
 refine iX [.string ⟨List.toArray a.aL⟩, .string ⟨List.toArray a.au⟩] 9 1 2 e ?_
 intro m L f
 replace f:=zi (y:=row m 2 2 (List.flatMap eS ([a.aL,a.au])) 9 1) rfl f
 have u:=f.pk [2,0,1]
 obtain⟨g,c⟩:∃ q,dK b ([a.aL,a.au])=q:=⟨_,rfl⟩
 obtain⟨M,n,E,o,p⟩:=yT u
 refine WL.do rfl (zf Tryz.call56 rfl (dH _ _ h b.length j b m 2 2 ([a.aL,a.au]) g n rfl (by omega) (p _ 0 _ rfl bI) rfl (by simp) (by first | omega | (simp only [List.length_cons,List.length_nil,List.length_append]; omega)) (by refine⟨BH rfl, ?_⟩; simp only [List.mem_cons,List.not_mem_nil,or_false,forall_eq_or_imp,forall_eq]; omega) c) ?_)
 rintro _ N ⟨x,z,rfl,r,d⟩
 have s:=o _ _ r
 have F:=s.rowC (i:=0) rfl
 replace d:g.length≤b.length+26 *2:=d
 refine An rfl (rt (rs ?_))
 have A:=s.pk [0]
 obtain rfl:_=g:=hr.symm.trans (aa c)
 exact⟨x,z,rfl,A,(by first | omega | (simp only [List.length_cons,List.length_nil,List.length_append]; omega))⟩
def fJ:List aR→List UInt8→(List UInt8)
  | [],a=>a
  | c::d,a=>bnd (ma a c) fun b=>fJ d b
def iR (c:List UInt8) (b:List aR):(List UInt8):=
 bnd (dP b.length) fun a=>bnd (fJ b (c++a)) fun sLrbL=>sLrbL
theorem jy (w:World) (D:Nat→Prop) (Y:Option Addr) (n0 Z:Nat) (f:List UInt8) (p:Option Addr) (n1 E:Nat) (b:List aR) (F:List UInt8) (H:Own w D w [row Y n0 Z (List.flatMap eB f) 5 1]) (af:n0=f.length) (aP:f.length *1≤211106232532992) (B:Ro w D fun w'=>bD w' 2 p n1 (List.flatMap aR.cells b)) (ag:n1=b.length) (aQ:b.length *32≤211106232532992) (aS:f.length≤3000000000) (G:(b.length≤4∧∀ x ∈ b,x.aL.length≤12∧x.au.length≤16)) (hr:iR f b=F):
    Calls Tryz.prog 100 #[.slice Y n0 Z, .slice p n1 E, .func (.func 101) #[] #[]] w (cO fun v w'=> ∃ (B0:Option Addr) (b0:Nat),v= .slice B0 F.length b0∧Own w D w' [row B0 F.length b0 (List.flatMap eB F) 5 1]∧(F.length≤f.length+10+52 *b.length)):=by
 subst af ag
 have aT:=H.rowC (i:=0) rfl
 have hh1a:=G.1
 refine yR (args:= [.slice Y f.length Z, .slice p b.length E, .func (.func 101) #[] #[]]) Tryz.func100 rfl rfl rfl ?_
 show Wp _ _ _ [(0, .slice Y f.length Z),(1, .slice p b.length E),(2, .func (.func 101) #[] #[])] _ _
 refine sr (Ar rfl (Mz rfl (Mz rfl (Kz (.int .i64 ((b.length:Nat):Int)) (fw (.int .u64 ((b.length:Nat):Int)) (yS (e:=IntKind.u64.wrap ((b.length:Nat):Int)) yk (IntWalk.u64_in _ (by omega))) ?_)))))
 obtain⟨d,r⟩:∃ q,dP b.length=q:=⟨_,rfl⟩
 obtain⟨aU,I,aF,J,aG⟩:=yP H
 refine cl Tryz.call51 (gm _ _ b.length d I (by omega) r) ?_
 rintro _ aV ⟨aW,aX,rfl,K,t,u⟩
 have L:=J _ _ K
 have aH:=L.rowC (i:=0) rfl
 replace t:1≤d.length∧d.length≤10:=t
 replace u:b.length ≥ 128∨d.length=1:=u
 have M:=L.pk [1,0]
 refine WL.do rfl (ze (k:=f.length) (m:=d.length) (bW) M rfl rfl (cz Tryz.underlying31 (M.rds (i:=1) rfl) (bK dA d)) rfl (by omega) (s:=List.length (f++d)) (by first | omega | (simp only [List.length_append,List.length_cons,List.length_nil] <;> omega)) (List.flatMap_append).symm ?_)
 intro ah ai aY aj
 have aI:List.length (f++d)=f.length+d.length:=by simp only [List.length_append,List.length_cons,List.length_nil]
 refine An rfl (yJ (yJ ?_))
 have ak:=aj.pk [0]
 refine yK (Mz rfl (Kz (.int .i64 ((b.length:Nat):Int)) (Mn rfl (bo ?_))))
 have au:=ak.pk [0]
 obtain⟨N,O⟩:∃ q:((Option Addr) × Nat × (List UInt8) × Nat)→World→Prop,q=fun(i:(Option Addr) × Nat × (List UInt8) × Nat) w'=>Own w D w' [row i.1 i.2.2.1.length i.2.1 (List.flatMap eB i.2.2.1) 5 1]∧(i.2.2.2≤b.length∧((i.2.2.1.length:Nat):Int)≤((f.length:Nat):Int)+10+52 *((i.2.2.2:Nat):Int)∧fJ b (f++d)=fJ (List.drop i.2.2.2 b) i.2.2.1):=⟨_,rfl⟩
 have l:∀ {h:Option Addr} {j:Nat} {c:List UInt8} {a:Nat} {w':World},N (h,j,c,a) w'↔Own w D w' [row h c.length j (List.flatMap eB c) 5 1]∧a≤b.length∧((c.length:Nat):Int)≤((f.length:Nat):Int)+10+52 *((a:Nat):Int)∧fJ b (f++d)=fJ (List.drop a b) c:=by intros; subst O; exact Iff.rfl
 refine Wp.loop (fun i:(Option Addr) × Nat × (List UInt8) × Nat=> [(0, .slice i.1 i.2.2.1.length i.2.1),(17, .int .i64 ((i.2.2.2:Nat):Int)),(16, .int .i64 ((b.length:Nat):Int)),(15, .slice p b.length E),(6, .slice none 0 0),(2, .func (.func 101) #[] #[])]) N (fun i=>b.length - i.2.2.2) (ah,ai,(f++d),0) ⟨rfl,rfl,rfl,rfl,rfl,rfl,trivial⟩ (l.2 ⟨au,by omega,by omega,rfl⟩) ?_
 rintro ⟨h,j,c,a⟩ aZ P
 show Wp _ _ _ [(0, .slice h c.length j),(17, .int .i64 ((a:Nat):Int)),(16, .int .i64 ((b.length:Nat):Int)),(15, .slice p b.length E),(6, .slice none 0 0),(2, .func (.func 101) #[] #[])] _ _
 obtain⟨n,aJ,aK,y⟩:=l.1 P
 refine sr (Kz (.bool (decide (((a:Nat):Int) < ((b.length:Nat):Int)))) (nt (yJ ?_)))
 by_cases Q:((a:Nat):Int) < ((b.length:Nat):Int)
 obtain⟨g,o⟩:=dV (ls:=b) (i:=a) aR.len (by decide) (n.ro B) (by first | omega | (simp; done) | (simp; omega))
 have aL:g.aL.length≤12∧g.au.length≤16:=G.2 _ (List.mem_of_getElem? o)
 have R:=drop_at o
 refine jT (dT Q) (sk (yJ (bo (sr (fw (.pointer (some ⟨ab p,ao p+a *2,none⟩)) (yZ (o5) rfl rfl ((n.ro B).addr (i:=a) (by omega)) (by omega)) (fw (.agg (aR.cells g).toArray) (y5 rfl (zg (cs:=(aR.cells g)) Tryz.isAgg86 Tryz.sizeOf86 ((n.ro B).elem aR.len o (by decide)))) ?_))))))
 refine dE [.string ⟨List.toArray ([])⟩, .string ⟨List.toArray ([])⟩] 86 n ?_
 intro bf bg av
 refine bz (aR.cells g) 0 av Tryz.sizeOf86 ?_
 intro bi S
 refine nt (yK (Mz rfl (Mz rfl (La (aR.cells g) S 0 Tryz.isAgg86 Tryz.sizeOf86 ?_))))
 have ax:=S.pk [1,0]
 obtain⟨C,z⟩:∃ q,ma c g=q:=⟨_,rfl⟩
 obtain⟨bn,T,aM,U,aN⟩:=yT ax
 refine WL.do rfl (zB Tryz.call101 rfl rfl (pX _ _ h c.length j c g C T rfl (by omega) (by omega) z) ?_)
 rintro _ bq ⟨ay,az,rfl,V,A⟩
 have W:=U _ _ V
 have aO:=W.rowC (i:=0) rfl
 replace A:C.length≤c.length+52:=A
 refine Az rfl (WL.nil (bN (yL (yK (fw (.int .i64 ((a+1:Nat):Int)) (yS (e:=IntKind.i64.wrap (((a:Nat):Int)+1)) yk (by rw [BI _ (by omega)]; omega)) (Mz rfl (WL.nil ?_)))))))
 have aA:=W.pk [0]
 exact yY (ay,az,C,a+1) ⟨rfl,rfl,rfl,rfl,rfl,rfl,trivial⟩ (l.2 ⟨aA,by omega,by omega,et (y) (et (congrArg (fun q=>fJ q c) R) (aa z))⟩) (by show b.length - (a+1) < b.length - a; omega)
 refine jF (dF Q) (Wp.exit (yV ?_))
 have X:fJ b (f++d)=c:=et (y) (et (congrArg (fun q=>fJ q c) (dZ (ls:=b) (i:=a) (by omega))) rfl)
 refine yV (y8 (yL (sr (Mz rfl (An rfl (rt (rs ?_)))))))
 have aB:=n.pk [0]
 obtain rfl:_=c:=hr.symm.trans (et (aa r) (aa X))
 exact⟨h,j,rfl,aB,(by first | omega | (simp only [List.length_cons,List.length_nil,List.length_append]; omega))⟩
def mZ (c:List UInt8) (b:aB):(List UInt8):=
 bnd (dK (c++ [(aU b.ae)]) ([b.aL,b.au,b.aD,b.aH])) fun a=>(a++ [(aU b.aF)])
theorem qE (w:World) (D:Nat→Prop) (A0:Option Addr) (n0 c0:Nat) (b:List UInt8) (a:aB) (r0:List UInt8) (H:Own w D w [row A0 n0 c0 (List.flatMap eB b) 5 1]) (mV:n0=b.length) (sO:b.length *1≤211106232532992) (sP:b.length≤4000000000∧a.aL.length≤12∧a.au.length≤16∧a.aD.length≤12∧a.aH.length≤12) (hr:mZ b a=r0):
    Calls Tryz.prog 58 #[.slice A0 n0 c0, .agg (aB.cells a).toArray] w (cO fun v w'=> ∃ (B0:Option Addr) (b0:Nat),v= .slice B0 r0.length b0∧Own w D w' [row B0 r0.length b0 (List.flatMap eB r0) 5 1]∧(r0.length≤b.length+106)):=by
 subst mV
 have sQ:=H.rowC (i:=0) rfl
 refine yR (args:= [.slice A0 b.length c0, .agg (aB.cells a).toArray]) Tryz.func58 rfl rfl rfl ?_
 show Wp _ _ _ [(0, .slice A0 b.length c0),(1, .agg (aB.cells a).toArray)] _ _
 refine sr ?_
 refine dE (aB.cells a) 64 H ?_
 intro C mW mX
 refine An rfl (yJ ?_)
 have F:=mX.drew
 refine zt [] (fun W=> ∃ L',Own w D W ([blk C (aB.cells a) 64]++L')) (by kernel_rfl) (by kernel_rfl) (zb zw) ⟨_,F⟩ ?_
 revert F
 generalize World.drew mW=sS
 intro F
 refine GX.take (v:= .slice A0 b.length c0) (rs:= []) 0 rfl (by kernel_rfl) (fun _ _=>yO rfl) (GX.take (v:= .pointer (some ⟨C,0,none⟩)) (rs:= []) 1 rfl (by kernel_rfl) (fun _ _=>yk) (GX.take (v:= .int .i64 a.ae) (rs:= []) 2 rfl (by kernel_rfl) (fun _ ⟨_,G⟩=>y5 rfl (bn.one Tryz.isAgg3 (zq (G.cls (i:=0) rfl) rfl))) (GX.take (v:= .int .u8 (((aU a.ae).toNat:Nat):Int)) (rs:= []) 3 rfl (by kernel_rfl) (fun _ _=>yS (e:=IntKind.u8.wrap a.ae) yk (kN _)) (GX.take (v:= .pointer (some ⟨C,1,none⟩)) (rs:= []) 6 rfl (by kernel_rfl) (fun _ _=>yk) (GX.take (v:= .string ⟨List.toArray a.aL⟩) (rs:= []) 7 rfl (by kernel_rfl) (fun _ ⟨_,G⟩=>y5 rfl (bn.one Tryz.isAgg9 (zq (G.cls (i:=0) rfl) rfl))) (GX.take (v:= .pointer (some ⟨C,2,none⟩)) (rs:= []) 8 rfl (by kernel_rfl) (fun _ _=>yk) (GX.take (v:= .string ⟨List.toArray a.au⟩) (rs:= []) 9 rfl (by kernel_rfl) (fun _ ⟨_,G⟩=>y5 rfl (bn.one Tryz.isAgg9 (zq (G.cls (i:=0) rfl) rfl))) (GX.take (v:= .pointer (some ⟨C,3,none⟩)) (rs:= []) 10 rfl (by kernel_rfl) (fun _ _=>yk) (GX.take (v:= .string ⟨List.toArray a.aD⟩) (rs:= []) 11 rfl (by kernel_rfl) (fun _ ⟨_,G⟩=>y5 rfl (bn.one Tryz.isAgg9 (zq (G.cls (i:=0) rfl) rfl))) (GX.take (v:= .pointer (some ⟨C,4,none⟩)) (rs:= []) 12 rfl (by kernel_rfl) (fun _ _=>yk) (GX.take (v:= .string ⟨List.toArray a.aH⟩) (rs:= []) 13 rfl (by kernel_rfl) (fun _ ⟨_,G⟩=>y5 rfl (bn.one Tryz.isAgg9 (zq (G.cls (i:=0) rfl) rfl))) (GX.take (v:= .pointer (some ⟨C,5,none⟩)) (rs:= []) 16 rfl (by kernel_rfl) (fun _ _=>yk) (GX.take (v:= .int .i64 a.aF) (rs:= []) 17 rfl (by kernel_rfl) (fun _ ⟨_,G⟩=>y5 rfl (bn.one Tryz.isAgg3 (zq (G.cls (i:=0) rfl) rfl))) (GX.take (v:= .int .u8 (((aU a.aF).toNat:Nat):Int)) (rs:= []) 18 rfl (by kernel_rfl) (fun _ _=>yS (e:=IntKind.u8.wrap a.aF) yk (kN _)) ?_))))))))))))))
 refine AA 4 14 19 (by kernel_rfl) ?_ ?_ ?_
 refine GY.do 4 rfl (by kernel_rfl) (zn (cs:= [.int .u8 (((aU a.ae).toNat:Nat):Int)]) (t:=5) (sz:=1) (m:=1) F rfl rfl (fun _=>by kernel_rfl) rfl (by decide) ?_)
 intro mY sU ic
 replace ic:=zi (y:=row mY 1 1 (List.flatMap eB ([(aU a.ae)])) 5 1) rfl ic
 have bq:=ic.pk [1,0,2]
 refine⟨.inr ⟨_,bq⟩, ?_⟩
 refine AA 5 14 19 (by kernel_rfl) ?_ ?_ ?_
 have jP:=bq.pk [2,0,1]
 refine GY.do 5 rfl (by kernel_rfl) (ze (k:=b.length) (m:=1) (bW) jP rfl rfl (cz Tryz.underlying31 (jP.rds (i:=2) rfl) (bK dA ([(aU a.ae)]))) rfl (by omega) (s:=List.length (b++ [(aU a.ae)])) (by first | omega | (simp only [List.length_append,List.length_cons,List.length_nil] <;> omega)) (List.flatMap_append).symm ?_)
 intro ig ik sV ng
 have o9:List.length (b++ [(aU a.ae)])=b.length+1:=by simp only [List.length_append,List.length_cons,List.length_nil]
 have il:=ng.pk [1,0,2]
 refine⟨.inr ⟨_,il⟩, ?_⟩
 refine zG 14 19 (by kernel_rfl) ?_ ?_
 refine GY.do 14 rfl (by kernel_rfl) (zn (cs:= [.string ⟨List.toArray a.aL⟩, .string ⟨List.toArray a.au⟩, .string ⟨List.toArray a.aD⟩, .string ⟨List.toArray a.aH⟩]) (t:=9) (sz:=1) (m:=4) il rfl rfl (fun _=>by kernel_rfl) rfl (by decide) ?_)
 intro iq sW iw
 replace iw:=zi (y:=row iq 4 4 (List.flatMap eS ([a.aL,a.au,a.aD,a.aH])) 9 1) rfl iw
 have iy:=iw.pk [1,0,2,3]
 refine⟨.inr ⟨_,iy⟩, ?_⟩
 refine zG 15 19 (by kernel_rfl) ?_ ?_
 have ni:=iy.pk [2,0,1,3]
 obtain⟨z,bu⟩:∃ q,dK (b++ [(aU a.ae)]) ([a.aL,a.au,a.aD,a.aH])=q:=⟨_,rfl⟩
 obtain⟨sZ,jQ,pg,jR,jS⟩:=yT ni
 refine GY.do 15 rfl (by kernel_rfl) (zf Tryz.call56 rfl (dH _ _ ig (List.length (b++ [(aU a.ae)])) ik (b++ [(aU a.ae)]) iq 4 4 ([a.aL,a.au,a.aD,a.aH]) z jQ rfl (by first | omega | (simp only [List.length_append,List.length_cons,List.length_nil,List.length_take,List.length_drop,List.length_set]; omega)) (jS _ 1 _ rfl bI) rfl (by simp) (by first | omega | (simp only [List.length_cons,List.length_nil,List.length_append]; omega)) (by refine⟨BH rfl, ?_⟩; simp only [List.mem_cons,List.not_mem_nil,or_false,forall_eq_or_imp,forall_eq]; omega) bu) ?_)
 rintro _ tq ⟨tu,tC,rfl,jT,bv⟩
 have jU:=jR _ _ jT
 have pq:=jU.rowC (i:=0) rfl
 replace bv:z.length≤List.length (b++ [(aU a.ae)])+26 *4:=bv
 have jV:=jU.pk [1,0,2,3]
 refine⟨.inr ⟨_,jV⟩, ?_⟩
 refine GX.do 19 rfl (by kernel_rfl) (zn (cs:= [.int .u8 (((aU a.aF).toNat:Nat):Int)]) (t:=5) (sz:=1) (m:=1) jV rfl rfl (fun _=>by kernel_rfl) rfl (by decide) ?_)
 intro nk tF iA
 replace iA:=zi (y:=row nk 1 1 (List.flatMap eB ([(aU a.aF)])) 5 1) rfl iA
 have jW:=iA.pk [1,0,2,3,4]
 refine⟨.inr ⟨_,jW⟩, ?_⟩
 have jX:=jW.pk [2,0,1,3,4]
 refine GX.do 20 rfl (by kernel_rfl) (ze (k:=z.length) (m:=1) (bW) jX rfl rfl (cz Tryz.underlying31 (jX.rds (i:=2) rfl) (bK dA ([(aU a.aF)]))) rfl (by omega) (s:=List.length (z++ [(aU a.aF)])) (by first | omega | (simp only [List.length_append,List.length_cons,List.length_nil] <;> omega)) (List.flatMap_append).symm ?_)
 intro jY jZ tH nu
 have pu:List.length (z++ [(aU a.aF)])=z.length+1:=by simp only [List.length_append,List.length_cons,List.length_nil]
 have j3:=nu.pk [1,0,2,3,4]
 refine⟨.inr ⟨_,j3⟩, ?_⟩
 refine GX.take (v:= .slice jY (List.length (z++ [(aU a.aF)])) jZ) (rs:= []) 21 rfl (by kernel_rfl) (fun _ _=>zo rfl) (zk (by kernel_rfl) (yL (rt (rs ?_))))
 have ny:=j3.pk [1]
 obtain rfl:_=(z++ [(aU a.aF)]):=hr.symm.trans (aa bu)
 exact⟨jY,jZ,rfl,ny,(by first | omega | (simp only [List.length_cons,List.length_nil,List.length_append]; omega))⟩
 refine GY.do 19 rfl (by kernel_rfl) (zn (cs:= [.int .u8 (((aU a.aF).toNat:Nat):Int)]) (t:=5) (sz:=1) (m:=1) iy rfl rfl (fun _=>by kernel_rfl) rfl (by decide) ?_)
 intro nz tJ iB
 replace iB:=zi (y:=row nz 1 1 (List.flatMap eB ([(aU a.aF)])) 5 1) rfl iB
 have j4:=iB.pk [1,0,2,3,4]
 refine⟨.inr ⟨_,j4⟩, ?_⟩
 have nA:=j4.pk [3,0,1,2,4]
 obtain⟨A,bz⟩:∃ q,dK (b++ [(aU a.ae)]) ([a.aL,a.au,a.aD,a.aH])=q:=⟨_,rfl⟩
 obtain⟨tK,j5,pz,j6,kg⟩:=yT nA
 refine GX.do 15 rfl (by kernel_rfl) (zf Tryz.call56 rfl (dH _ _ ig (List.length (b++ [(aU a.ae)])) ik (b++ [(aU a.ae)]) iq 4 4 ([a.aL,a.au,a.aD,a.aH]) A j5 rfl (by first | omega | (simp only [List.length_append,List.length_cons,List.length_nil,List.length_take,List.length_drop,List.length_set]; omega)) (kg _ 2 _ rfl bI) rfl (by simp) (by first | omega | (simp only [List.length_cons,List.length_nil,List.length_append]; omega)) (by refine⟨BH rfl, ?_⟩; simp only [List.mem_cons,List.not_mem_nil,or_false,forall_eq_or_imp,forall_eq]; omega) bz) ?_)
 rintro _ tL ⟨tN,tO,rfl,ko,bA⟩
 have kr:=j6 _ _ ko
 have pE:=kr.rowC (i:=0) rfl
 replace bA:A.length≤List.length (b++ [(aU a.ae)])+26 *4:=bA
 have ku:=kr.pk [1,0,2,3,4]
 refine⟨.inr ⟨_,ku⟩, ?_⟩
 have kv:=ku.pk [1,0,2,3,4]
 refine GX.do 20 rfl (by kernel_rfl) (ze (k:=A.length) (m:=1) (bW) kv rfl rfl (cz Tryz.underlying31 (kv.rds (i:=2) rfl) (bK dA ([(aU a.aF)]))) rfl (by omega) (s:=List.length (A++ [(aU a.aF)])) (by first | omega | (simp only [List.length_append,List.length_cons,List.length_nil] <;> omega)) (List.flatMap_append).symm ?_)
 intro kw ky tQ nC
 have pF:List.length (A++ [(aU a.aF)])=A.length+1:=by simp only [List.length_append,List.length_cons,List.length_nil]
 have kz:=nC.pk [1,0,2,3,4]
 refine⟨.inr ⟨_,kz⟩, ?_⟩
 refine GX.take (v:= .slice kw (List.length (A++ [(aU a.aF)])) ky) (rs:= []) 21 rfl (by kernel_rfl) (fun _ _=>zo rfl) (zk (by kernel_rfl) (yL (rt (rs ?_))))
 have nD:=kz.pk [1]
 obtain rfl:_=(A++ [(aU a.aF)]):=hr.symm.trans (aa bz)
 exact⟨kw,ky,rfl,nD,(by first | omega | (simp only [List.length_cons,List.length_nil,List.length_append]; omega))⟩
 refine GY.do 19 rfl (by kernel_rfl) (zn (cs:= [.int .u8 (((aU a.aF).toNat:Nat):Int)]) (t:=5) (sz:=1) (m:=1) il rfl rfl (fun _=>by kernel_rfl) rfl (by decide) ?_)
 intro nE tT iC
 replace iC:=zi (y:=row nE 1 1 (List.flatMap eB ([(aU a.aF)])) 5 1) rfl iC
 have bB:=iC.pk [1,0,2,3]
 refine⟨.inr ⟨_,bB⟩, ?_⟩
 refine GX.do 14 rfl (by kernel_rfl) (zn (cs:= [.string ⟨List.toArray a.aL⟩, .string ⟨List.toArray a.au⟩, .string ⟨List.toArray a.aD⟩, .string ⟨List.toArray a.aH⟩]) (t:=9) (sz:=1) (m:=4) bB rfl rfl (fun _=>by kernel_rfl) rfl (by decide) ?_)
 intro bC pG I
 replace I:=zi (y:=row bC 4 4 (List.flatMap eS ([a.aL,a.au,a.aD,a.aH])) 9 1) rfl I
 have bD:=I.pk [1,0,2,3,4]
 refine⟨.inr ⟨_,bD⟩, ?_⟩
 have kC:=bD.pk [3,0,1,2,4]
 obtain⟨c,J⟩:∃ q,dK (b++ [(aU a.ae)]) ([a.aL,a.au,a.aD,a.aH])=q:=⟨_,rfl⟩
 obtain⟨pI,iD,nG,iE,iF⟩:=yT kC
 refine GX.do 15 rfl (by kernel_rfl) (zf Tryz.call56 rfl (dH _ _ ig (List.length (b++ [(aU a.ae)])) ik (b++ [(aU a.ae)]) bC 4 4 ([a.aL,a.au,a.aD,a.aH]) c iD rfl (by first | omega | (simp only [List.length_append,List.length_cons,List.length_nil,List.length_take,List.length_drop,List.length_set]; omega)) (iF _ 1 _ rfl bI) rfl (by simp) (by first | omega | (simp only [List.length_cons,List.length_nil,List.length_append]; omega)) (by refine⟨BH rfl, ?_⟩; simp only [List.mem_cons,List.not_mem_nil,or_false,forall_eq_or_imp,forall_eq]; omega) J) ?_)
 rintro _ pJ ⟨pK,pM,rfl,iG,K⟩
 have bE:=iE _ _ iG
 have nH:=bE.rowC (i:=0) rfl
 replace K:c.length≤List.length (b++ [(aU a.ae)])+26 *4:=K
 have bF:=bE.pk [1,0,2,3,4]
 refine⟨.inr ⟨_,bF⟩, ?_⟩
 have bG:=bF.pk [1,0,2,3,4]
 refine GX.do 20 rfl (by kernel_rfl) (ze (k:=c.length) (m:=1) (bW) bG rfl rfl (cz Tryz.underlying31 (bG.rds (i:=3) rfl) (bK dA ([(aU a.aF)]))) rfl (by omega) (s:=List.length (c++ [(aU a.aF)])) (by first | omega | (simp only [List.length_append,List.length_cons,List.length_nil] <;> omega)) (List.flatMap_append).symm ?_)
 intro bH bJ pO kD
 have nI:List.length (c++ [(aU a.aF)])=c.length+1:=by simp only [List.length_append,List.length_cons,List.length_nil]
 have bL:=kD.pk [1,0,2,3,4]
 refine⟨.inr ⟨_,bL⟩, ?_⟩
 refine GX.take (v:= .slice bH (List.length (c++ [(aU a.aF)])) bJ) (rs:= []) 21 rfl (by kernel_rfl) (fun _ _=>zo rfl) (zk (by kernel_rfl) (yL (rt (rs ?_))))
 have kE:=bL.pk [1]
 obtain rfl:_=(c++ [(aU a.aF)]):=hr.symm.trans (aa J)
 exact⟨bH,bJ,rfl,kE,(by first | omega | (simp only [List.length_cons,List.length_nil,List.length_append]; omega))⟩
 refine GY.do 14 rfl (by kernel_rfl) (zn (cs:= [.string ⟨List.toArray a.aL⟩, .string ⟨List.toArray a.au⟩, .string ⟨List.toArray a.aD⟩, .string ⟨List.toArray a.aH⟩]) (t:=9) (sz:=1) (m:=4) bq rfl rfl (fun _=>by kernel_rfl) rfl (by decide) ?_)
 intro E pQ L
 replace L:=zi (y:=row E 4 4 (List.flatMap eS ([a.aL,a.au,a.aD,a.aH])) 9 1) rfl L
 have M:=L.pk [1,0,2,3]
 refine⟨.inr ⟨_,M⟩, ?_⟩
 refine zG 5 19 (by kernel_rfl) ?_ ?_
 have bM:=M.pk [3,0,1,2]
 refine GY.do 5 rfl (by kernel_rfl) (ze (k:=b.length) (m:=1) (bW) bM rfl rfl (cz Tryz.underlying31 (bM.rds (i:=3) rfl) (bK dA ([(aU a.ae)]))) rfl (by omega) (s:=List.length (b++ [(aU a.ae)])) (by first | omega | (simp only [List.length_append,List.length_cons,List.length_nil] <;> omega)) (List.flatMap_append).symm ?_)
 intro bN bO pR kF
 have nJ:List.length (b++ [(aU a.ae)])=b.length+1:=by simp only [List.length_append,List.length_cons,List.length_nil]
 have N:=kF.pk [1,0,2,3]
 refine⟨.inr ⟨_,N⟩, ?_⟩
 refine zG 15 19 (by kernel_rfl) ?_ ?_
 have kG:=N.pk [1,0,2,3]
 obtain⟨d,O⟩:∃ q,dK (b++ [(aU a.ae)]) ([a.aL,a.au,a.aD,a.aH])=q:=⟨_,rfl⟩
 obtain⟨pU,iH,nK,iI,iJ⟩:=yT kG
 refine GY.do 15 rfl (by kernel_rfl) (zf Tryz.call56 rfl (dH _ _ bN (List.length (b++ [(aU a.ae)])) bO (b++ [(aU a.ae)]) E 4 4 ([a.aL,a.au,a.aD,a.aH]) d iH rfl (by first | omega | (simp only [List.length_append,List.length_cons,List.length_nil,List.length_take,List.length_drop,List.length_set]; omega)) (iJ _ 1 _ rfl bI) rfl (by simp) (by first | omega | (simp only [List.length_cons,List.length_nil,List.length_append]; omega)) (by refine⟨BH rfl, ?_⟩; simp only [List.mem_cons,List.not_mem_nil,or_false,forall_eq_or_imp,forall_eq]; omega) O) ?_)
 rintro _ pV ⟨pW,pX,rfl,iK,P⟩
 have bP:=iI _ _ iK
 have nL:=bP.rowC (i:=0) rfl
 replace P:d.length≤List.length (b++ [(aU a.ae)])+26 *4:=P
 have bQ:=bP.pk [1,0,2,3]
 refine⟨.inr ⟨_,bQ⟩, ?_⟩
 refine GX.do 19 rfl (by kernel_rfl) (zn (cs:= [.int .u8 (((aU a.aF).toNat:Nat):Int)]) (t:=5) (sz:=1) (m:=1) bQ rfl rfl (fun _=>by kernel_rfl) rfl (by decide) ?_)
 intro kH pY Q
 replace Q:=zi (y:=row kH 1 1 (List.flatMap eB ([(aU a.aF)])) 5 1) rfl Q
 have bR:=Q.pk [1,0,2,3,4]
 refine⟨.inr ⟨_,bR⟩, ?_⟩
 have bS:=bR.pk [2,0,1,3,4]
 refine GX.do 20 rfl (by kernel_rfl) (ze (k:=d.length) (m:=1) (bW) bS rfl rfl (cz Tryz.underlying31 (bS.rds (i:=2) rfl) (bK dA ([(aU a.aF)]))) rfl (by omega) (s:=List.length (d++ [(aU a.aF)])) (by first | omega | (simp only [List.length_append,List.length_cons,List.length_nil] <;> omega)) (List.flatMap_append).symm ?_)
 intro bT bU p8 kI
 have nM:List.length (d++ [(aU a.aF)])=d.length+1:=by simp only [List.length_append,List.length_cons,List.length_nil]
 have bV:=kI.pk [1,0,2,3,4]
 refine⟨.inr ⟨_,bV⟩, ?_⟩
 refine GX.take (v:= .slice bT (List.length (d++ [(aU a.aF)])) bU) (rs:= []) 21 rfl (by kernel_rfl) (fun _ _=>zo rfl) (zk (by kernel_rfl) (yL (rt (rs ?_))))
 have kJ:=bV.pk [1]
 obtain rfl:_=(d++ [(aU a.aF)]):=hr.symm.trans (aa O)
 exact⟨bT,bU,rfl,kJ,(by first | omega | (simp only [List.length_cons,List.length_nil,List.length_append]; omega))⟩
 refine GY.do 19 rfl (by kernel_rfl) (zn (cs:= [.int .u8 (((aU a.aF).toNat:Nat):Int)]) (t:=5) (sz:=1) (m:=1) N rfl rfl (fun _=>by kernel_rfl) rfl (by decide) ?_)
 intro kK p9 R
 replace R:=zi (y:=row kK 1 1 (List.flatMap eB ([(aU a.aF)])) 5 1) rfl R
 have bX:=R.pk [1,0,2,3,4]
 refine⟨.inr ⟨_,bX⟩, ?_⟩
 have kL:=bX.pk [2,0,1,3,4]
 obtain⟨f,S⟩:∃ q,dK (b++ [(aU a.ae)]) ([a.aL,a.au,a.aD,a.aH])=q:=⟨_,rfl⟩
 obtain⟨qa,iL,nN,iM,iN⟩:=yT kL
 refine GX.do 15 rfl (by kernel_rfl) (zf Tryz.call56 rfl (dH _ _ bN (List.length (b++ [(aU a.ae)])) bO (b++ [(aU a.ae)]) E 4 4 ([a.aL,a.au,a.aD,a.aH]) f iL rfl (by first | omega | (simp only [List.length_append,List.length_cons,List.length_nil,List.length_take,List.length_drop,List.length_set]; omega)) (iN _ 2 _ rfl bI) rfl (by simp) (by first | omega | (simp only [List.length_cons,List.length_nil,List.length_append]; omega)) (by refine⟨BH rfl, ?_⟩; simp only [List.mem_cons,List.not_mem_nil,or_false,forall_eq_or_imp,forall_eq]; omega) S) ?_)
 rintro _ qb ⟨qc,qd,rfl,iO,T⟩
 have bY:=iM _ _ iO
 have nO:=bY.rowC (i:=0) rfl
 replace T:f.length≤List.length (b++ [(aU a.ae)])+26 *4:=T
 have bZ:=bY.pk [1,0,2,3,4]
 refine⟨.inr ⟨_,bZ⟩, ?_⟩
 have cu:=bZ.pk [1,0,2,3,4]
 refine GX.do 20 rfl (by kernel_rfl) (ze (k:=f.length) (m:=1) (bW) cu rfl rfl (cz Tryz.underlying31 (cu.rds (i:=2) rfl) (bK dA ([(aU a.aF)]))) rfl (by omega) (s:=List.length (f++ [(aU a.aF)])) (by first | omega | (simp only [List.length_append,List.length_cons,List.length_nil] <;> omega)) (List.flatMap_append).symm ?_)
 intro cB cK qf kM
 have nP:List.length (f++ [(aU a.aF)])=f.length+1:=by simp only [List.length_append,List.length_cons,List.length_nil]
 have cZ:=kM.pk [1,0,2,3,4]
 refine⟨.inr ⟨_,cZ⟩, ?_⟩
 refine GX.take (v:= .slice cB (List.length (f++ [(aU a.aF)])) cK) (rs:= []) 21 rfl (by kernel_rfl) (fun _ _=>zo rfl) (zk (by kernel_rfl) (yL (rt (rs ?_))))
 have kP:=cZ.pk [1]
 obtain rfl:_=(f++ [(aU a.aF)]):=hr.symm.trans (aa S)
 exact⟨cB,cK,rfl,kP,(by first | omega | (simp only [List.length_cons,List.length_nil,List.length_append]; omega))⟩
 refine GY.do 19 rfl (by kernel_rfl) (zn (cs:= [.int .u8 (((aU a.aF).toNat:Nat):Int)]) (t:=5) (sz:=1) (m:=1) M rfl rfl (fun _=>by kernel_rfl) rfl (by decide) ?_)
 intro kQ qg U
 replace U:=zi (y:=row kQ 1 1 (List.flatMap eB ([(aU a.aF)])) 5 1) rfl U
 have df:=U.pk [1,0,2,3,4]
 refine⟨.inr ⟨_,df⟩, ?_⟩
 have dh:=df.pk [4,0,1,2,3]
 refine GX.do 5 rfl (by kernel_rfl) (ze (k:=b.length) (m:=1) (bW) dh rfl rfl (cz Tryz.underlying31 (dh.rds (i:=4) rfl) (bK dA ([(aU a.ae)]))) rfl (by omega) (s:=List.length (b++ [(aU a.ae)])) (by first | omega | (simp only [List.length_append,List.length_cons,List.length_nil] <;> omega)) (List.flatMap_append).symm ?_)
 intro kR kS qh kT
 have nQ:List.length (b++ [(aU a.ae)])=b.length+1:=by simp only [List.length_append,List.length_cons,List.length_nil]
 have di:=kT.pk [1,0,2,3,4]
 refine⟨.inr ⟨_,di⟩, ?_⟩
 have kU:=di.pk [1,0,2,3,4]
 obtain⟨g,V⟩:∃ q,dK (b++ [(aU a.ae)]) ([a.aL,a.au,a.aD,a.aH])=q:=⟨_,rfl⟩
 obtain⟨qi,iP,nR,iQ,iR⟩:=yT kU
 refine GX.do 15 rfl (by kernel_rfl) (zf Tryz.call56 rfl (dH _ _ kR (List.length (b++ [(aU a.ae)])) kS (b++ [(aU a.ae)]) E 4 4 ([a.aL,a.au,a.aD,a.aH]) g iP rfl (by first | omega | (simp only [List.length_append,List.length_cons,List.length_nil,List.length_take,List.length_drop,List.length_set]; omega)) (iR _ 2 _ rfl bI) rfl (by simp) (by first | omega | (simp only [List.length_cons,List.length_nil,List.length_append]; omega)) (by refine⟨BH rfl, ?_⟩; simp only [List.mem_cons,List.not_mem_nil,or_false,forall_eq_or_imp,forall_eq]; omega) V) ?_)
 rintro _ qj ⟨ql,qm,rfl,iT,X⟩
 have dm:=iQ _ _ iT
 have nS:=dm.rowC (i:=0) rfl
 replace X:g.length≤List.length (b++ [(aU a.ae)])+26 *4:=X
 have dn:=dm.pk [1,0,2,3,4]
 refine⟨.inr ⟨_,dn⟩, ?_⟩
 have dw:=dn.pk [1,0,2,3,4]
 refine GX.do 20 rfl (by kernel_rfl) (ze (k:=g.length) (m:=1) (bW) dw rfl rfl (cz Tryz.underlying31 (dw.rds (i:=2) rfl) (bK dA ([(aU a.aF)]))) rfl (by omega) (s:=List.length (g++ [(aU a.aF)])) (by first | omega | (simp only [List.length_append,List.length_cons,List.length_nil] <;> omega)) (List.flatMap_append).symm ?_)
 intro dx dz qo kV
 have nT:List.length (g++ [(aU a.aF)])=g.length+1:=by simp only [List.length_append,List.length_cons,List.length_nil]
 have dB:=kV.pk [1,0,2,3,4]
 refine⟨.inr ⟨_,dB⟩, ?_⟩
 refine GX.take (v:= .slice dx (List.length (g++ [(aU a.aF)])) dz) (rs:= []) 21 rfl (by kernel_rfl) (fun _ _=>zo rfl) (zk (by kernel_rfl) (yL (rt (rs ?_))))
 have kW:=dB.pk [1]
 obtain rfl:_=(g++ [(aU a.aF)]):=hr.symm.trans (aa V)
 exact⟨dx,dz,rfl,kW,(by first | omega | (simp only [List.length_cons,List.length_nil,List.length_append]; omega))⟩
 refine GY.do 19 rfl (by kernel_rfl) (zn (cs:= [.int .u8 (((aU a.aF).toNat:Nat):Int)]) (t:=5) (sz:=1) (m:=1) bq rfl rfl (fun _=>by kernel_rfl) rfl (by decide) ?_)
 intro kX qp Y
 replace Y:=zi (y:=row kX 1 1 (List.flatMap eB ([(aU a.aF)])) 5 1) rfl Y
 have Z:=Y.pk [1,0,2,3]
 refine⟨.inr ⟨_,Z⟩, ?_⟩
 refine zG 5 14 (by kernel_rfl) ?_ ?_
 have dC:=Z.pk [3,0,1,2]
 refine GY.do 5 rfl (by kernel_rfl) (ze (k:=b.length) (m:=1) (bW) dC rfl rfl (cz Tryz.underlying31 (dC.rds (i:=3) rfl) (bK dA ([(aU a.ae)]))) rfl (by omega) (s:=List.length (b++ [(aU a.ae)])) (by first | omega | (simp only [List.length_append,List.length_cons,List.length_nil] <;> omega)) (List.flatMap_append).symm ?_)
 intro kY kZ qw lc
 have nU:List.length (b++ [(aU a.ae)])=b.length+1:=by simp only [List.length_append,List.length_cons,List.length_nil]
 have dD:=lc.pk [1,0,2,3]
 refine⟨.inr ⟨_,dD⟩, ?_⟩
 refine GX.do 14 rfl (by kernel_rfl) (zn (cs:= [.string ⟨List.toArray a.aL⟩, .string ⟨List.toArray a.au⟩, .string ⟨List.toArray a.aD⟩, .string ⟨List.toArray a.aH⟩]) (t:=9) (sz:=1) (m:=4) dD rfl rfl (fun _=>by kernel_rfl) rfl (by decide) ?_)
 intro dF qx ae
 replace ae:=zi (y:=row dF 4 4 (List.flatMap eS ([a.aL,a.au,a.aD,a.aH])) 9 1) rfl ae
 have dG:=ae.pk [1,0,2,3,4]
 refine⟨.inr ⟨_,dG⟩, ?_⟩
 have lg:=dG.pk [2,0,1,3,4]
 obtain⟨h,af⟩:∃ q,dK (b++ [(aU a.ae)]) ([a.aL,a.au,a.aD,a.aH])=q:=⟨_,rfl⟩
 obtain⟨qy,iU,nV,iV,iW⟩:=yT lg
 refine GX.do 15 rfl (by kernel_rfl) (zf Tryz.call56 rfl (dH _ _ kY (List.length (b++ [(aU a.ae)])) kZ (b++ [(aU a.ae)]) dF 4 4 ([a.aL,a.au,a.aD,a.aH]) h iU rfl (by first | omega | (simp only [List.length_append,List.length_cons,List.length_nil,List.length_take,List.length_drop,List.length_set]; omega)) (iW _ 1 _ rfl bI) rfl (by simp) (by first | omega | (simp only [List.length_cons,List.length_nil,List.length_append]; omega)) (by refine⟨BH rfl, ?_⟩; simp only [List.mem_cons,List.not_mem_nil,or_false,forall_eq_or_imp,forall_eq]; omega) af) ?_)
 rintro _ qz ⟨qA,qB,rfl,iX,ag⟩
 have dI:=iV _ _ iX
 have nW:=dI.rowC (i:=0) rfl
 replace ag:h.length≤List.length (b++ [(aU a.ae)])+26 *4:=ag
 have dJ:=dI.pk [1,0,2,3,4]
 refine⟨.inr ⟨_,dJ⟩, ?_⟩
 have dL:=dJ.pk [1,0,2,3,4]
 refine GX.do 20 rfl (by kernel_rfl) (ze (k:=h.length) (m:=1) (bW) dL rfl rfl (cz Tryz.underlying31 (dL.rds (i:=3) rfl) (bK dA ([(aU a.aF)]))) rfl (by omega) (s:=List.length (h++ [(aU a.aF)])) (by first | omega | (simp only [List.length_append,List.length_cons,List.length_nil] <;> omega)) (List.flatMap_append).symm ?_)
 intro dM dN qC lh
 have nX:List.length (h++ [(aU a.aF)])=h.length+1:=by simp only [List.length_append,List.length_cons,List.length_nil]
 have dO:=lh.pk [1,0,2,3,4]
 refine⟨.inr ⟨_,dO⟩, ?_⟩
 refine GX.take (v:= .slice dM (List.length (h++ [(aU a.aF)])) dN) (rs:= []) 21 rfl (by kernel_rfl) (fun _ _=>zo rfl) (zk (by kernel_rfl) (yL (rt (rs ?_))))
 have ll:=dO.pk [1]
 obtain rfl:_=(h++ [(aU a.aF)]):=hr.symm.trans (aa af)
 exact⟨dM,dN,rfl,ll,(by first | omega | (simp only [List.length_cons,List.length_nil,List.length_append]; omega))⟩
 refine GY.do 14 rfl (by kernel_rfl) (zn (cs:= [.string ⟨List.toArray a.aL⟩, .string ⟨List.toArray a.au⟩, .string ⟨List.toArray a.aD⟩, .string ⟨List.toArray a.aH⟩]) (t:=9) (sz:=1) (m:=4) Z rfl rfl (fun _=>by kernel_rfl) rfl (by decide) ?_)
 intro dP qD ah
 replace ah:=zi (y:=row dP 4 4 (List.flatMap eS ([a.aL,a.au,a.aD,a.aH])) 9 1) rfl ah
 have dQ:=ah.pk [1,0,2,3,4]
 refine⟨.inr ⟨_,dQ⟩, ?_⟩
 have dR:=dQ.pk [4,0,1,2,3]
 refine GX.do 5 rfl (by kernel_rfl) (ze (k:=b.length) (m:=1) (bW) dR rfl rfl (cz Tryz.underlying31 (dR.rds (i:=4) rfl) (bK dA ([(aU a.ae)]))) rfl (by omega) (s:=List.length (b++ [(aU a.ae)])) (by first | omega | (simp only [List.length_append,List.length_cons,List.length_nil] <;> omega)) (List.flatMap_append).symm ?_)
 intro lm lq qF lu
 have nY:List.length (b++ [(aU a.ae)])=b.length+1:=by simp only [List.length_append,List.length_cons,List.length_nil]
 have dS:=lu.pk [1,0,2,3,4]
 refine⟨.inr ⟨_,dS⟩, ?_⟩
 have lv:=dS.pk [1,0,2,3,4]
 obtain⟨j,ai⟩:∃ q,dK (b++ [(aU a.ae)]) ([a.aL,a.au,a.aD,a.aH])=q:=⟨_,rfl⟩
 obtain⟨qG,iY,nZ,iZ,ja⟩:=yT lv
 refine GX.do 15 rfl (by kernel_rfl) (zf Tryz.call56 rfl (dH _ _ lm (List.length (b++ [(aU a.ae)])) lq (b++ [(aU a.ae)]) dP 4 4 ([a.aL,a.au,a.aD,a.aH]) j iY rfl (by first | omega | (simp only [List.length_append,List.length_cons,List.length_nil,List.length_take,List.length_drop,List.length_set]; omega)) (ja _ 1 _ rfl bI) rfl (by simp) (by first | omega | (simp only [List.length_cons,List.length_nil,List.length_append]; omega)) (by refine⟨BH rfl, ?_⟩; simp only [List.mem_cons,List.not_mem_nil,or_false,forall_eq_or_imp,forall_eq]; omega) ai) ?_)
 rintro _ qH ⟨qI,qJ,rfl,jb,aj⟩
 have dU:=iZ _ _ jb
 have og:=dU.rowC (i:=0) rfl
 replace aj:j.length≤List.length (b++ [(aU a.ae)])+26 *4:=aj
 have dV:=dU.pk [1,0,2,3,4]
 refine⟨.inr ⟨_,dV⟩, ?_⟩
 have dW:=dV.pk [1,0,2,3,4]
 refine GX.do 20 rfl (by kernel_rfl) (ze (k:=j.length) (m:=1) (bW) dW rfl rfl (cz Tryz.underlying31 (dW.rds (i:=3) rfl) (bK dA ([(aU a.aF)]))) rfl (by omega) (s:=List.length (j++ [(aU a.aF)])) (by first | omega | (simp only [List.length_append,List.length_cons,List.length_nil] <;> omega)) (List.flatMap_append).symm ?_)
 intro dX dY qK lw
 have oh:List.length (j++ [(aU a.aF)])=j.length+1:=by simp only [List.length_append,List.length_cons,List.length_nil]
 have dZ:=lw.pk [1,0,2,3,4]
 refine⟨.inr ⟨_,dZ⟩, ?_⟩
 refine GX.take (v:= .slice dX (List.length (j++ [(aU a.aF)])) dY) (rs:= []) 21 rfl (by kernel_rfl) (fun _ _=>zo rfl) (zk (by kernel_rfl) (yL (rt (rs ?_))))
 have lC:=dZ.pk [1]
 obtain rfl:_=(j++ [(aU a.aF)]):=hr.symm.trans (aa ai)
 exact⟨dX,dY,rfl,lC,(by first | omega | (simp only [List.length_cons,List.length_nil,List.length_append]; omega))⟩
 refine GY.do 14 rfl (by kernel_rfl) (zn (cs:= [.string ⟨List.toArray a.aL⟩, .string ⟨List.toArray a.au⟩, .string ⟨List.toArray a.aD⟩, .string ⟨List.toArray a.aH⟩]) (t:=9) (sz:=1) (m:=4) F rfl rfl (fun _=>by kernel_rfl) rfl (by decide) ?_)
 intro B qL ak
 replace ak:=zi (y:=row B 4 4 (List.flatMap eS ([a.aL,a.au,a.aD,a.aH])) 9 1) rfl ak
 have au:=ak.pk [1,0,2]
 refine⟨.inr ⟨_,au⟩, ?_⟩
 refine zG 4 19 (by kernel_rfl) ?_ ?_
 refine GY.do 4 rfl (by kernel_rfl) (zn (cs:= [.int .u8 (((aU a.ae).toNat:Nat):Int)]) (t:=5) (sz:=1) (m:=1) au rfl rfl (fun _=>by kernel_rfl) rfl (by decide) ?_)
 intro lD qM av
 replace av:=zi (y:=row lD 1 1 (List.flatMap eB ([(aU a.ae)])) 5 1) rfl av
 have ax:=av.pk [1,0,2,3]
 refine⟨.inr ⟨_,ax⟩, ?_⟩
 refine zG 5 19 (by kernel_rfl) ?_ ?_
 have d9:=ax.pk [3,0,1,2]
 refine GY.do 5 rfl (by kernel_rfl) (ze (k:=b.length) (m:=1) (bW) d9 rfl rfl (cz Tryz.underlying31 (d9.rds (i:=2) rfl) (bK dA ([(aU a.ae)]))) rfl (by omega) (s:=List.length (b++ [(aU a.ae)])) (by first | omega | (simp only [List.length_append,List.length_cons,List.length_nil] <;> omega)) (List.flatMap_append).symm ?_)
 intro ed ek qN lF
 have ol:List.length (b++ [(aU a.ae)])=b.length+1:=by simp only [List.length_append,List.length_cons,List.length_nil]
 have ay:=lF.pk [1,0,2,3]
 refine⟨.inr ⟨_,ay⟩, ?_⟩
 refine zG 15 19 (by kernel_rfl) ?_ ?_
 have lG:=ay.pk [1,0,2,3]
 obtain⟨l,az⟩:∃ q,dK (b++ [(aU a.ae)]) ([a.aL,a.au,a.aD,a.aH])=q:=⟨_,rfl⟩
 obtain⟨qO,jc,om,jd,je⟩:=yT lG
 refine GY.do 15 rfl (by kernel_rfl) (zf Tryz.call56 rfl (dH _ _ ed (List.length (b++ [(aU a.ae)])) ek (b++ [(aU a.ae)]) B 4 4 ([a.aL,a.au,a.aD,a.aH]) l jc rfl (by first | omega | (simp only [List.length_append,List.length_cons,List.length_nil,List.length_take,List.length_drop,List.length_set]; omega)) (je _ 2 _ rfl bI) rfl (by simp) (by first | omega | (simp only [List.length_cons,List.length_nil,List.length_append]; omega)) (by refine⟨BH rfl, ?_⟩; simp only [List.mem_cons,List.not_mem_nil,or_false,forall_eq_or_imp,forall_eq]; omega) az) ?_)
 rintro _ qP ⟨qQ,qR,rfl,jf,aA⟩
 have eu:=jd _ _ jf
 have oo:=eu.rowC (i:=0) rfl
 replace aA:l.length≤List.length (b++ [(aU a.ae)])+26 *4:=aA
 have eD:=eu.pk [1,0,2,3]
 refine⟨.inr ⟨_,eD⟩, ?_⟩
 refine GX.do 19 rfl (by kernel_rfl) (zn (cs:= [.int .u8 (((aU a.aF).toNat:Nat):Int)]) (t:=5) (sz:=1) (m:=1) eD rfl rfl (fun _=>by kernel_rfl) rfl (by decide) ?_)
 intro lH qU aC
 replace aC:=zi (y:=row lH 1 1 (List.flatMap eB ([(aU a.aF)])) 5 1) rfl aC
 have eF:=aC.pk [1,0,2,3,4]
 refine⟨.inr ⟨_,eF⟩, ?_⟩
 have eG:=eF.pk [2,0,1,3,4]
 refine GX.do 20 rfl (by kernel_rfl) (ze (k:=l.length) (m:=1) (bW) eG rfl rfl (cz Tryz.underlying31 (eG.rds (i:=2) rfl) (bK dA ([(aU a.aF)]))) rfl (by omega) (s:=List.length (l++ [(aU a.aF)])) (by first | omega | (simp only [List.length_append,List.length_cons,List.length_nil] <;> omega)) (List.flatMap_append).symm ?_)
 intro eH eO qV lI
 have oq:List.length (l++ [(aU a.aF)])=l.length+1:=by simp only [List.length_append,List.length_cons,List.length_nil]
 have eP:=lI.pk [1,0,2,3,4]
 refine⟨.inr ⟨_,eP⟩, ?_⟩
 refine GX.take (v:= .slice eH (List.length (l++ [(aU a.aF)])) eO) (rs:= []) 21 rfl (by kernel_rfl) (fun _ _=>zo rfl) (zk (by kernel_rfl) (yL (rt (rs ?_))))
 have lJ:=eP.pk [1]
 obtain rfl:_=(l++ [(aU a.aF)]):=hr.symm.trans (aa az)
 exact⟨eH,eO,rfl,lJ,(by first | omega | (simp only [List.length_cons,List.length_nil,List.length_append]; omega))⟩
 refine GY.do 19 rfl (by kernel_rfl) (zn (cs:= [.int .u8 (((aU a.aF).toNat:Nat):Int)]) (t:=5) (sz:=1) (m:=1) ay rfl rfl (fun _=>by kernel_rfl) rfl (by decide) ?_)
 intro lK qW aD
 replace aD:=zi (y:=row lK 1 1 (List.flatMap eB ([(aU a.aF)])) 5 1) rfl aD
 have eQ:=aD.pk [1,0,2,3,4]
 refine⟨.inr ⟨_,eQ⟩, ?_⟩
 have lL:=eQ.pk [2,0,1,3,4]
 obtain⟨n,aF⟩:∃ q,dK (b++ [(aU a.ae)]) ([a.aL,a.au,a.aD,a.aH])=q:=⟨_,rfl⟩
 obtain⟨qX,jg,ou,jh,ji⟩:=yT lL
 refine GX.do 15 rfl (by kernel_rfl) (zf Tryz.call56 rfl (dH _ _ ed (List.length (b++ [(aU a.ae)])) ek (b++ [(aU a.ae)]) B 4 4 ([a.aL,a.au,a.aD,a.aH]) n jg rfl (by first | omega | (simp only [List.length_append,List.length_cons,List.length_nil,List.length_take,List.length_drop,List.length_set]; omega)) (ji _ 3 _ rfl bI) rfl (by simp) (by first | omega | (simp only [List.length_cons,List.length_nil,List.length_append]; omega)) (by refine⟨BH rfl, ?_⟩; simp only [List.mem_cons,List.not_mem_nil,or_false,forall_eq_or_imp,forall_eq]; omega) aF) ?_)
 rintro _ qY ⟨qZ,q8,rfl,jk,aG⟩
 have eT:=jh _ _ jk
 have ow:=eT.rowC (i:=0) rfl
 replace aG:n.length≤List.length (b++ [(aU a.ae)])+26 *4:=aG
 have eU:=eT.pk [1,0,2,3,4]
 refine⟨.inr ⟨_,eU⟩, ?_⟩
 have eX:=eU.pk [1,0,2,3,4]
 refine GX.do 20 rfl (by kernel_rfl) (ze (k:=n.length) (m:=1) (bW) eX rfl rfl (cz Tryz.underlying31 (eX.rds (i:=2) rfl) (bK dA ([(aU a.aF)]))) rfl (by omega) (s:=List.length (n++ [(aU a.aF)])) (by first | omega | (simp only [List.length_append,List.length_cons,List.length_nil] <;> omega)) (List.flatMap_append).symm ?_)
 intro eY eZ q9 lM
 have oz:List.length (n++ [(aU a.aF)])=n.length+1:=by simp only [List.length_append,List.length_cons,List.length_nil]
 have fe:=lM.pk [1,0,2,3,4]
 refine⟨.inr ⟨_,fe⟩, ?_⟩
 refine GX.take (v:= .slice eY (List.length (n++ [(aU a.aF)])) eZ) (rs:= []) 21 rfl (by kernel_rfl) (fun _ _=>zo rfl) (zk (by kernel_rfl) (yL (rt (rs ?_))))
 have lN:=fe.pk [1]
 obtain rfl:_=(n++ [(aU a.aF)]):=hr.symm.trans (aa aF)
 exact⟨eY,eZ,rfl,lN,(by first | omega | (simp only [List.length_cons,List.length_nil,List.length_append]; omega))⟩
 refine GY.do 19 rfl (by kernel_rfl) (zn (cs:= [.int .u8 (((aU a.aF).toNat:Nat):Int)]) (t:=5) (sz:=1) (m:=1) ax rfl rfl (fun _=>by kernel_rfl) rfl (by decide) ?_)
 intro lQ rf aH
 replace aH:=zi (y:=row lQ 1 1 (List.flatMap eB ([(aU a.aF)])) 5 1) rfl aH
 have fo:=aH.pk [1,0,2,3,4]
 refine⟨.inr ⟨_,fo⟩, ?_⟩
 have fq:=fo.pk [4,0,1,2,3]
 refine GX.do 5 rfl (by kernel_rfl) (ze (k:=b.length) (m:=1) (bW) fq rfl rfl (cz Tryz.underlying31 (fq.rds (i:=3) rfl) (bK dA ([(aU a.ae)]))) rfl (by omega) (s:=List.length (b++ [(aU a.ae)])) (by first | omega | (simp only [List.length_append,List.length_cons,List.length_nil] <;> omega)) (List.flatMap_append).symm ?_)
 intro lS lT rq lU
 have oC:List.length (b++ [(aU a.ae)])=b.length+1:=by simp only [List.length_append,List.length_cons,List.length_nil]
 have fu:=lU.pk [1,0,2,3,4]
 refine⟨.inr ⟨_,fu⟩, ?_⟩
 have lV:=fu.pk [1,0,2,3,4]
 obtain⟨o,aI⟩:∃ q,dK (b++ [(aU a.ae)]) ([a.aL,a.au,a.aD,a.aH])=q:=⟨_,rfl⟩
 obtain⟨ru,jl,oD,jm,jo⟩:=yT lV
 refine GX.do 15 rfl (by kernel_rfl) (zf Tryz.call56 rfl (dH _ _ lS (List.length (b++ [(aU a.ae)])) lT (b++ [(aU a.ae)]) B 4 4 ([a.aL,a.au,a.aD,a.aH]) o jl rfl (by first | omega | (simp only [List.length_append,List.length_cons,List.length_nil,List.length_take,List.length_drop,List.length_set]; omega)) (jo _ 3 _ rfl bI) rfl (by simp) (by first | omega | (simp only [List.length_cons,List.length_nil,List.length_append]; omega)) (by refine⟨BH rfl, ?_⟩; simp only [List.mem_cons,List.not_mem_nil,or_false,forall_eq_or_imp,forall_eq]; omega) aI) ?_)
 rintro _ ry ⟨rz,rA,rfl,jq,aJ⟩
 have fw:=jm _ _ jq
 have oF:=fw.rowC (i:=0) rfl
 replace aJ:o.length≤List.length (b++ [(aU a.ae)])+26 *4:=aJ
 have fA:=fw.pk [1,0,2,3,4]
 refine⟨.inr ⟨_,fA⟩, ?_⟩
 have fB:=fA.pk [1,0,2,3,4]
 refine GX.do 20 rfl (by kernel_rfl) (ze (k:=o.length) (m:=1) (bW) fB rfl rfl (cz Tryz.underlying31 (fB.rds (i:=2) rfl) (bK dA ([(aU a.aF)]))) rfl (by omega) (s:=List.length (o++ [(aU a.aF)])) (by first | omega | (simp only [List.length_append,List.length_cons,List.length_nil] <;> omega)) (List.flatMap_append).symm ?_)
 intro fC fD rC lW
 have oG:List.length (o++ [(aU a.aF)])=o.length+1:=by simp only [List.length_append,List.length_cons,List.length_nil]
 have fE:=lW.pk [1,0,2,3,4]
 refine⟨.inr ⟨_,fE⟩, ?_⟩
 refine GX.take (v:= .slice fC (List.length (o++ [(aU a.aF)])) fD) (rs:= []) 21 rfl (by kernel_rfl) (fun _ _=>zo rfl) (zk (by kernel_rfl) (yL (rt (rs ?_))))
 have lX:=fE.pk [1]
 obtain rfl:_=(o++ [(aU a.aF)]):=hr.symm.trans (aa aI)
 exact⟨fC,fD,rfl,lX,(by first | omega | (simp only [List.length_cons,List.length_nil,List.length_append]; omega))⟩
 refine GY.do 19 rfl (by kernel_rfl) (zn (cs:= [.int .u8 (((aU a.aF).toNat:Nat):Int)]) (t:=5) (sz:=1) (m:=1) au rfl rfl (fun _=>by kernel_rfl) rfl (by decide) ?_)
 intro lY rD aK
 replace aK:=zi (y:=row lY 1 1 (List.flatMap eB ([(aU a.aF)])) 5 1) rfl aK
 have fF:=aK.pk [1,0,2,3]
 refine⟨.inr ⟨_,fF⟩, ?_⟩
 refine GX.do 4 rfl (by kernel_rfl) (zn (cs:= [.int .u8 (((aU a.ae).toNat:Nat):Int)]) (t:=5) (sz:=1) (m:=1) fF rfl rfl (fun _=>by kernel_rfl) rfl (by decide) ?_)
 intro lZ rE aL
 replace aL:=zi (y:=row lZ 1 1 (List.flatMap eB ([(aU a.ae)])) 5 1) rfl aL
 have fG:=aL.pk [1,0,2,3,4]
 refine⟨.inr ⟨_,fG⟩, ?_⟩
 have fH:=fG.pk [4,0,1,2,3]
 refine GX.do 5 rfl (by kernel_rfl) (ze (k:=b.length) (m:=1) (bW) fH rfl rfl (cz Tryz.underlying31 (fH.rds (i:=2) rfl) (bK dA ([(aU a.ae)]))) rfl (by omega) (s:=List.length (b++ [(aU a.ae)])) (by first | omega | (simp only [List.length_append,List.length_cons,List.length_nil] <;> omega)) (List.flatMap_append).symm ?_)
 intro l5 l6 rF l7
 have oH:List.length (b++ [(aU a.ae)])=b.length+1:=by simp only [List.length_append,List.length_cons,List.length_nil]
 have fI:=l7.pk [1,0,2,3,4]
 refine⟨.inr ⟨_,fI⟩, ?_⟩
 have l8:=fI.pk [1,0,2,3,4]
 obtain⟨p,aM⟩:∃ q,dK (b++ [(aU a.ae)]) ([a.aL,a.au,a.aD,a.aH])=q:=⟨_,rfl⟩
 obtain⟨rG,jr,oI,jv,jw⟩:=yT l8
 refine GX.do 15 rfl (by kernel_rfl) (zf Tryz.call56 rfl (dH _ _ l5 (List.length (b++ [(aU a.ae)])) l6 (b++ [(aU a.ae)]) B 4 4 ([a.aL,a.au,a.aD,a.aH]) p jr rfl (by first | omega | (simp only [List.length_append,List.length_cons,List.length_nil,List.length_take,List.length_drop,List.length_set]; omega)) (jw _ 3 _ rfl bI) rfl (by simp) (by first | omega | (simp only [List.length_cons,List.length_nil,List.length_append]; omega)) (by refine⟨BH rfl, ?_⟩; simp only [List.mem_cons,List.not_mem_nil,or_false,forall_eq_or_imp,forall_eq]; omega) aM) ?_)
 rintro _ rH ⟨rJ,rM,rfl,jy,aN⟩
 have fJ:=jv _ _ jy
 have oJ:=fJ.rowC (i:=0) rfl
 replace aN:p.length≤List.length (b++ [(aU a.ae)])+26 *4:=aN
 have fK:=fJ.pk [1,0,2,3,4]
 refine⟨.inr ⟨_,fK⟩, ?_⟩
 have fM:=fK.pk [1,0,2,3,4]
 refine GX.do 20 rfl (by kernel_rfl) (ze (k:=p.length) (m:=1) (bW) fM rfl rfl (cz Tryz.underlying31 (fM.rds (i:=3) rfl) (bK dA ([(aU a.aF)]))) rfl (by omega) (s:=List.length (p++ [(aU a.aF)])) (by first | omega | (simp only [List.length_append,List.length_cons,List.length_nil] <;> omega)) (List.flatMap_append).symm ?_)
 intro fO fP rO l9
 have oK:List.length (p++ [(aU a.aF)])=p.length+1:=by simp only [List.length_append,List.length_cons,List.length_nil]
 have fQ:=l9.pk [1,0,2,3,4]
 refine⟨.inr ⟨_,fQ⟩, ?_⟩
 refine GX.take (v:= .slice fO (List.length (p++ [(aU a.aF)])) fP) (rs:= []) 21 rfl (by kernel_rfl) (fun _ _=>zo rfl) (zk (by kernel_rfl) (yL (rt (rs ?_))))
 have ma:=fQ.pk [1]
 obtain rfl:_=(p++ [(aU a.aF)]):=hr.symm.trans (aa aM)
 exact⟨fO,fP,rfl,ma,(by first | omega | (simp only [List.length_cons,List.length_nil,List.length_append]; omega))⟩
 refine GY.do 19 rfl (by kernel_rfl) (zn (cs:= [.int .u8 (((aU a.aF).toNat:Nat):Int)]) (t:=5) (sz:=1) (m:=1) F rfl rfl (fun _=>by kernel_rfl) rfl (by decide) ?_)
 intro mf rP aO
 replace aO:=zi (y:=row mf 1 1 (List.flatMap eB ([(aU a.aF)])) 5 1) rfl aO
 have aP:=aO.pk [1,0,2]
 refine⟨.inr ⟨_,aP⟩, ?_⟩
 refine zG 4 14 (by kernel_rfl) ?_ ?_
 refine GY.do 4 rfl (by kernel_rfl) (zn (cs:= [.int .u8 (((aU a.ae).toNat:Nat):Int)]) (t:=5) (sz:=1) (m:=1) aP rfl rfl (fun _=>by kernel_rfl) rfl (by decide) ?_)
 intro mg rQ aQ
 replace aQ:=zi (y:=row mg 1 1 (List.flatMap eB ([(aU a.ae)])) 5 1) rfl aQ
 have aR:=aQ.pk [1,0,2,3]
 refine⟨.inr ⟨_,aR⟩, ?_⟩
 refine zG 5 14 (by kernel_rfl) ?_ ?_
 have fT:=aR.pk [3,0,1,2]
 refine GY.do 5 rfl (by kernel_rfl) (ze (k:=b.length) (m:=1) (bW) fT rfl rfl (cz Tryz.underlying31 (fT.rds (i:=2) rfl) (bK dA ([(aU a.ae)]))) rfl (by omega) (s:=List.length (b++ [(aU a.ae)])) (by first | omega | (simp only [List.length_append,List.length_cons,List.length_nil] <;> omega)) (List.flatMap_append).symm ?_)
 intro mh mi rR mo
 have oL:List.length (b++ [(aU a.ae)])=b.length+1:=by simp only [List.length_append,List.length_cons,List.length_nil]
 have fU:=mo.pk [1,0,2,3]
 refine⟨.inr ⟨_,fU⟩, ?_⟩
 refine GX.do 14 rfl (by kernel_rfl) (zn (cs:= [.string ⟨List.toArray a.aL⟩, .string ⟨List.toArray a.au⟩, .string ⟨List.toArray a.aD⟩, .string ⟨List.toArray a.aH⟩]) (t:=9) (sz:=1) (m:=4) fU rfl rfl (fun _=>by kernel_rfl) rfl (by decide) ?_)
 intro fV rT aS
 replace aS:=zi (y:=row fV 4 4 (List.flatMap eS ([a.aL,a.au,a.aD,a.aH])) 9 1) rfl aS
 have fZ:=aS.pk [1,0,2,3,4]
 refine⟨.inr ⟨_,fZ⟩, ?_⟩
 have mq:=fZ.pk [2,0,1,3,4]
 obtain⟨r,aT⟩:∃ q,dK (b++ [(aU a.ae)]) ([a.aL,a.au,a.aD,a.aH])=q:=⟨_,rfl⟩
 obtain⟨rU,jA,oM,jB,jC⟩:=yT mq
 refine GX.do 15 rfl (by kernel_rfl) (zf Tryz.call56 rfl (dH _ _ mh (List.length (b++ [(aU a.ae)])) mi (b++ [(aU a.ae)]) fV 4 4 ([a.aL,a.au,a.aD,a.aH]) r jA rfl (by first | omega | (simp only [List.length_append,List.length_cons,List.length_nil,List.length_take,List.length_drop,List.length_set]; omega)) (jC _ 1 _ rfl bI) rfl (by simp) (by first | omega | (simp only [List.length_cons,List.length_nil,List.length_append]; omega)) (by refine⟨BH rfl, ?_⟩; simp only [List.mem_cons,List.not_mem_nil,or_false,forall_eq_or_imp,forall_eq]; omega) aT) ?_)
 rintro _ rV ⟨rW,rX,rfl,jD,aV⟩
 have gm:=jB _ _ jD
 have oN:=gm.rowC (i:=0) rfl
 replace aV:r.length≤List.length (b++ [(aU a.ae)])+26 *4:=aV
 have gp:=gm.pk [1,0,2,3,4]
 refine⟨.inr ⟨_,gp⟩, ?_⟩
 have gq:=gp.pk [1,0,2,3,4]
 refine GX.do 20 rfl (by kernel_rfl) (ze (k:=r.length) (m:=1) (bW) gq rfl rfl (cz Tryz.underlying31 (gq.rds (i:=4) rfl) (bK dA ([(aU a.aF)]))) rfl (by omega) (s:=List.length (r++ [(aU a.aF)])) (by first | omega | (simp only [List.length_append,List.length_cons,List.length_nil] <;> omega)) (List.flatMap_append).symm ?_)
 intro gu gy rY mr
 have oO:List.length (r++ [(aU a.aF)])=r.length+1:=by simp only [List.length_append,List.length_cons,List.length_nil]
 have gz:=mr.pk [1,0,2,3,4]
 refine⟨.inr ⟨_,gz⟩, ?_⟩
 refine GX.take (v:= .slice gu (List.length (r++ [(aU a.aF)])) gy) (rs:= []) 21 rfl (by kernel_rfl) (fun _ _=>zo rfl) (zk (by kernel_rfl) (yL (rt (rs ?_))))
 have mD:=gz.pk [1]
 obtain rfl:_=(r++ [(aU a.aF)]):=hr.symm.trans (aa aT)
 exact⟨gu,gy,rfl,mD,(by first | omega | (simp only [List.length_cons,List.length_nil,List.length_append]; omega))⟩
 refine GY.do 14 rfl (by kernel_rfl) (zn (cs:= [.string ⟨List.toArray a.aL⟩, .string ⟨List.toArray a.au⟩, .string ⟨List.toArray a.aD⟩, .string ⟨List.toArray a.aH⟩]) (t:=9) (sz:=1) (m:=4) aR rfl rfl (fun _=>by kernel_rfl) rfl (by decide) ?_)
 intro gB rZ aW
 replace aW:=zi (y:=row gB 4 4 (List.flatMap eS ([a.aL,a.au,a.aD,a.aH])) 9 1) rfl aW
 have gD:=aW.pk [1,0,2,3,4]
 refine⟨.inr ⟨_,gD⟩, ?_⟩
 have gF:=gD.pk [4,0,1,2,3]
 refine GX.do 5 rfl (by kernel_rfl) (ze (k:=b.length) (m:=1) (bW) gF rfl rfl (cz Tryz.underlying31 (gF.rds (i:=3) rfl) (bK dA ([(aU a.ae)]))) rfl (by omega) (s:=List.length (b++ [(aU a.ae)])) (by first | omega | (simp only [List.length_append,List.length_cons,List.length_nil] <;> omega)) (List.flatMap_append).symm ?_)
 intro mE mF r9 mG
 have oP:List.length (b++ [(aU a.ae)])=b.length+1:=by simp only [List.length_append,List.length_cons,List.length_nil]
 have gG:=mG.pk [1,0,2,3,4]
 refine⟨.inr ⟨_,gG⟩, ?_⟩
 have mH:=gG.pk [1,0,2,3,4]
 obtain⟨u,aX⟩:∃ q,dK (b++ [(aU a.ae)]) ([a.aL,a.au,a.aD,a.aH])=q:=⟨_,rfl⟩
 obtain⟨si,jE,oQ,jF,jG⟩:=yT mH
 refine GX.do 15 rfl (by kernel_rfl) (zf Tryz.call56 rfl (dH _ _ mE (List.length (b++ [(aU a.ae)])) mF (b++ [(aU a.ae)]) gB 4 4 ([a.aL,a.au,a.aD,a.aH]) u jE rfl (by first | omega | (simp only [List.length_append,List.length_cons,List.length_nil,List.length_take,List.length_drop,List.length_set]; omega)) (jG _ 1 _ rfl bI) rfl (by simp) (by first | omega | (simp only [List.length_cons,List.length_nil,List.length_append]; omega)) (by refine⟨BH rfl, ?_⟩; simp only [List.mem_cons,List.not_mem_nil,or_false,forall_eq_or_imp,forall_eq]; omega) aX) ?_)
 rintro _ sj ⟨su,sw,rfl,jH,aY⟩
 have gH:=jF _ _ jH
 have oU:=gH.rowC (i:=0) rfl
 replace aY:u.length≤List.length (b++ [(aU a.ae)])+26 *4:=aY
 have gI:=gH.pk [1,0,2,3,4]
 refine⟨.inr ⟨_,gI⟩, ?_⟩
 have gJ:=gI.pk [1,0,2,3,4]
 refine GX.do 20 rfl (by kernel_rfl) (ze (k:=u.length) (m:=1) (bW) gJ rfl rfl (cz Tryz.underlying31 (gJ.rds (i:=4) rfl) (bK dA ([(aU a.aF)]))) rfl (by omega) (s:=List.length (u++ [(aU a.aF)])) (by first | omega | (simp only [List.length_append,List.length_cons,List.length_nil] <;> omega)) (List.flatMap_append).symm ?_)
 intro gK gL sD mI
 have oV:List.length (u++ [(aU a.aF)])=u.length+1:=by simp only [List.length_append,List.length_cons,List.length_nil]
 have gM:=mI.pk [1,0,2,3,4]
 refine⟨.inr ⟨_,gM⟩, ?_⟩
 refine GX.take (v:= .slice gK (List.length (u++ [(aU a.aF)])) gL) (rs:= []) 21 rfl (by kernel_rfl) (fun _ _=>zo rfl) (zk (by kernel_rfl) (yL (rt (rs ?_))))
 have mJ:=gM.pk [1]
 obtain rfl:_=(u++ [(aU a.aF)]):=hr.symm.trans (aa aX)
 exact⟨gK,gL,rfl,mJ,(by first | omega | (simp only [List.length_cons,List.length_nil,List.length_append]; omega))⟩
 refine GY.do 14 rfl (by kernel_rfl) (zn (cs:= [.string ⟨List.toArray a.aL⟩, .string ⟨List.toArray a.au⟩, .string ⟨List.toArray a.aD⟩, .string ⟨List.toArray a.aH⟩]) (t:=9) (sz:=1) (m:=4) aP rfl rfl (fun _=>by kernel_rfl) rfl (by decide) ?_)
 intro gN sF aZ
 replace aZ:=zi (y:=row gN 4 4 (List.flatMap eS ([a.aL,a.au,a.aD,a.aH])) 9 1) rfl aZ
 have gP:=aZ.pk [1,0,2,3]
 refine⟨.inr ⟨_,gP⟩, ?_⟩
 refine GX.do 4 rfl (by kernel_rfl) (zn (cs:= [.int .u8 (((aU a.ae).toNat:Nat):Int)]) (t:=5) (sz:=1) (m:=1) gP rfl rfl (fun _=>by kernel_rfl) rfl (by decide) ?_)
 intro mK sG bf
 replace bf:=zi (y:=row mK 1 1 (List.flatMap eB ([(aU a.ae)])) 5 1) rfl bf
 have gQ:=bf.pk [1,0,2,3,4]
 refine⟨.inr ⟨_,gQ⟩, ?_⟩
 have gT:=gQ.pk [4,0,1,2,3]
 refine GX.do 5 rfl (by kernel_rfl) (ze (k:=b.length) (m:=1) (bW) gT rfl rfl (cz Tryz.underlying31 (gT.rds (i:=2) rfl) (bK dA ([(aU a.ae)]))) rfl (by omega) (s:=List.length (b++ [(aU a.ae)])) (by first | omega | (simp only [List.length_append,List.length_cons,List.length_nil] <;> omega)) (List.flatMap_append).symm ?_)
 intro mM mO sH mP
 have oW:List.length (b++ [(aU a.ae)])=b.length+1:=by simp only [List.length_append,List.length_cons,List.length_nil]
 have gU:=mP.pk [1,0,2,3,4]
 refine⟨.inr ⟨_,gU⟩, ?_⟩
 have mQ:=gU.pk [1,0,2,3,4]
 obtain⟨x,bg⟩:∃ q,dK (b++ [(aU a.ae)]) ([a.aL,a.au,a.aD,a.aH])=q:=⟨_,rfl⟩
 obtain⟨sI,jI,oZ,jJ,jK⟩:=yT mQ
 refine GX.do 15 rfl (by kernel_rfl) (zf Tryz.call56 rfl (dH _ _ mM (List.length (b++ [(aU a.ae)])) mO (b++ [(aU a.ae)]) gN 4 4 ([a.aL,a.au,a.aD,a.aH]) x jI rfl (by first | omega | (simp only [List.length_append,List.length_cons,List.length_nil,List.length_take,List.length_drop,List.length_set]; omega)) (jK _ 2 _ rfl bI) rfl (by simp) (by first | omega | (simp only [List.length_cons,List.length_nil,List.length_append]; omega)) (by refine⟨BH rfl, ?_⟩; simp only [List.mem_cons,List.not_mem_nil,or_false,forall_eq_or_imp,forall_eq]; omega) bg) ?_)
 rintro _ sJ ⟨sK,sM,rfl,jL,bi⟩
 have gV:=jJ _ _ jL
 have o5:=gV.rowC (i:=0) rfl
 replace bi:x.length≤List.length (b++ [(aU a.ae)])+26 *4:=bi
 have gW:=gV.pk [1,0,2,3,4]
 refine⟨.inr ⟨_,gW⟩, ?_⟩
 have gX:=gW.pk [1,0,2,3,4]
 refine GX.do 20 rfl (by kernel_rfl) (ze (k:=x.length) (m:=1) (bW) gX rfl rfl (cz Tryz.underlying31 (gX.rds (i:=4) rfl) (bK dA ([(aU a.aF)]))) rfl (by omega) (s:=List.length (x++ [(aU a.aF)])) (by first | omega | (simp only [List.length_append,List.length_cons,List.length_nil] <;> omega)) (List.flatMap_append).symm ?_)
 intro gY gZ sN mR
 have o6:List.length (x++ [(aU a.aF)])=x.length+1:=by simp only [List.length_append,List.length_cons,List.length_nil]
 have ib:=mR.pk [1,0,2,3,4]
 refine⟨.inr ⟨_,ib⟩, ?_⟩
 refine GX.take (v:= .slice gY (List.length (x++ [(aU a.aF)])) gZ) (rs:= []) 21 rfl (by kernel_rfl) (fun _ _=>zo rfl) (zk (by kernel_rfl) (yL (rt (rs ?_))))
 have mU:=ib.pk [1]
 obtain rfl:_=(x++ [(aU a.aF)]):=hr.symm.trans (aa bg)
 exact⟨gY,gZ,rfl,mU,(by first | omega | (simp only [List.length_cons,List.length_nil,List.length_append]; omega))⟩
def gy:List aB→List UInt8→(List UInt8)
  | [],a=>a
  | c::d,a=>bnd (mZ a c) fun b=>gy d b
def lG (c:List UInt8) (b:List aB):(List UInt8):=
 bnd (dP b.length) fun a=>bnd (gy b (c++a)) fun sLrbL=>sLrbL
theorem oN (w:World) (D:Nat→Prop) (Y:Option Addr) (n0 Z:Nat) (g:List UInt8) (p:Option Addr) (n1 E:Nat) (b:List aB) (F:List UInt8) (H:Own w D w [row Y n0 Z (List.flatMap eB g) 5 1]) (af:n0=g.length) (aQ:g.length *1≤211106232532992) (B:Ro w D fun w'=>bD w' 6 p n1 (List.flatMap aB.cells b)) (ag:n1=b.length) (aR:b.length *80≤211106232532992) (aS:g.length≤1000000000) (G:(b.length≤24∧∀ x ∈ b,x.aL.length≤12∧x.au.length≤16∧x.aD.length≤12∧x.aH.length≤12)) (hr:lG g b=F):
    Calls Tryz.prog 57 #[.slice Y n0 Z, .slice p n1 E, .func (.func 58) #[] #[]] w (cO fun v w'=> ∃ (B0:Option Addr) (b0:Nat),v= .slice B0 F.length b0∧Own w D w' [row B0 F.length b0 (List.flatMap eB F) 5 1]∧(F.length≤g.length+10+106 *b.length)):=by
 subst af ag
 have aT:=H.rowC (i:=0) rfl
 have hh1a:=G.1
 refine yR (args:= [.slice Y g.length Z, .slice p b.length E, .func (.func 58) #[] #[]]) Tryz.func57 rfl rfl rfl ?_
 show Wp _ _ _ [(0, .slice Y g.length Z),(1, .slice p b.length E),(2, .func (.func 58) #[] #[])] _ _
 refine sr (Ar rfl (Mz rfl (Mz rfl (Kz (.int .i64 ((b.length:Nat):Int)) (fw (.int .u64 ((b.length:Nat):Int)) (yS (e:=IntKind.u64.wrap ((b.length:Nat):Int)) yk (IntWalk.u64_in _ (by omega))) ?_)))))
 obtain⟨d,r⟩:∃ q,dP b.length=q:=⟨_,rfl⟩
 obtain⟨aU,I,aG,J,aH⟩:=yP H
 refine cl Tryz.call51 (gm _ _ b.length d I (by omega) r) ?_
 rintro _ aV ⟨aW,aX,rfl,K,t,u⟩
 have L:=J _ _ K
 have aI:=L.rowC (i:=0) rfl
 replace t:1≤d.length∧d.length≤10:=t
 replace u:b.length ≥ 128∨d.length=1:=u
 have M:=L.pk [1,0]
 refine WL.do rfl (ze (k:=g.length) (m:=d.length) (bW) M rfl rfl (cz Tryz.underlying31 (M.rds (i:=1) rfl) (bK dA d)) rfl (by omega) (s:=List.length (g++d)) (by first | omega | (simp only [List.length_append,List.length_cons,List.length_nil] <;> omega)) (List.flatMap_append).symm ?_)
 intro ah ai aY aj
 have aJ:List.length (g++d)=g.length+d.length:=by simp only [List.length_append,List.length_cons,List.length_nil]
 refine An rfl (yJ (yJ ?_))
 have ak:=aj.pk [0]
 refine yK (Mz rfl (Kz (.int .i64 ((b.length:Nat):Int)) (Mn rfl (bo ?_))))
 have au:=ak.pk [0]
 obtain⟨N,O⟩:∃ q:((Option Addr) × Nat × (List UInt8) × Nat)→World→Prop,q=fun(i:(Option Addr) × Nat × (List UInt8) × Nat) w'=>Own w D w' [row i.1 i.2.2.1.length i.2.1 (List.flatMap eB i.2.2.1) 5 1]∧(i.2.2.2≤b.length∧((i.2.2.1.length:Nat):Int)≤((g.length:Nat):Int)+10+106 *((i.2.2.2:Nat):Int)∧gy b (g++d)=gy (List.drop i.2.2.2 b) i.2.2.1):=⟨_,rfl⟩
 have l:∀ {h:Option Addr} {j:Nat} {c:List UInt8} {a:Nat} {w':World},N (h,j,c,a) w'↔Own w D w' [row h c.length j (List.flatMap eB c) 5 1]∧a≤b.length∧((c.length:Nat):Int)≤((g.length:Nat):Int)+10+106 *((a:Nat):Int)∧gy b (g++d)=gy (List.drop a b) c:=by intros; subst O; exact Iff.rfl
 refine Wp.loop (fun i:(Option Addr) × Nat × (List UInt8) × Nat=> [(0, .slice i.1 i.2.2.1.length i.2.1),(17, .int .i64 ((i.2.2.2:Nat):Int)),(16, .int .i64 ((b.length:Nat):Int)),(15, .slice p b.length E),(6, .slice none 0 0),(2, .func (.func 58) #[] #[])]) N (fun i=>b.length - i.2.2.2) (ah,ai,(g++d),0) ⟨rfl,rfl,rfl,rfl,rfl,rfl,trivial⟩ (l.2 ⟨au,by omega,by omega,rfl⟩) ?_
 rintro ⟨h,j,c,a⟩ aZ P
 show Wp _ _ _ [(0, .slice h c.length j),(17, .int .i64 ((a:Nat):Int)),(16, .int .i64 ((b.length:Nat):Int)),(15, .slice p b.length E),(6, .slice none 0 0),(2, .func (.func 58) #[] #[])] _ _
 obtain⟨n,aK,aL,y⟩:=l.1 P
 refine sr (Kz (.bool (decide (((a:Nat):Int) < ((b.length:Nat):Int)))) (nt (yJ ?_)))
 by_cases Q:((a:Nat):Int) < ((b.length:Nat):Int)
 obtain⟨f,o⟩:=dV (ls:=b) (i:=a) aB.len (by decide) (n.ro B) (by first | omega | (simp; done) | (simp; omega))
 have aM:f.aL.length≤12∧f.au.length≤16∧f.aD.length≤12∧f.aH.length≤12:=G.2 _ (List.mem_of_getElem? o)
 have R:=drop_at o
 refine jT (dT Q) (sk (yJ (bo (sr (fw (.pointer (some ⟨ab p,ao p+a *6,none⟩)) (yZ (l8) rfl rfl ((n.ro B).addr (i:=a) (by omega)) (by omega)) (fw (.agg (aB.cells f).toArray) (y5 rfl (zg (cs:=(aB.cells f)) Tryz.isAgg64 Tryz.sizeOf64 ((n.ro B).elem aB.len o (by decide)))) ?_))))))
 refine dE [.int .i64 0, .string ⟨List.toArray ([])⟩, .string ⟨List.toArray ([])⟩, .string ⟨List.toArray ([])⟩, .string ⟨List.toArray ([])⟩, .int .i64 0] 64 n ?_
 intro bf bg av
 refine bz (aB.cells f) 0 av Tryz.sizeOf64 ?_
 intro bi S
 refine nt (yK (Mz rfl (Mz rfl (La (aB.cells f) S 0 Tryz.isAgg64 Tryz.sizeOf64 ?_))))
 have ax:=S.pk [1,0]
 obtain⟨C,z⟩:∃ q,mZ c f=q:=⟨_,rfl⟩
 obtain⟨bn,T,aN,U,aO⟩:=yT ax
 refine WL.do rfl (zB Tryz.call58 rfl rfl (qE _ _ h c.length j c f C T rfl (by omega) (by omega) z) ?_)
 rintro _ bq ⟨ay,az,rfl,V,A⟩
 have W:=U _ _ V
 have aP:=W.rowC (i:=0) rfl
 replace A:C.length≤c.length+106:=A
 refine Az rfl (WL.nil (bN (yL (yK (fw (.int .i64 ((a+1:Nat):Int)) (yS (e:=IntKind.i64.wrap (((a:Nat):Int)+1)) yk (by rw [BI _ (by omega)]; omega)) (Mz rfl (WL.nil ?_)))))))
 have aA:=W.pk [0]
 exact yY (ay,az,C,a+1) ⟨rfl,rfl,rfl,rfl,rfl,rfl,trivial⟩ (l.2 ⟨aA,by omega,by omega,et (y) (et (congrArg (fun q=>gy q c) R) (aa z))⟩) (by show b.length - (a+1) < b.length - a; omega)
 refine jF (dF Q) (Wp.exit (yV ?_))
 have X:gy b (g++d)=c:=et (y) (et (congrArg (fun q=>gy q c) (dZ (ls:=b) (i:=a) (by omega))) rfl)
 refine yV (y8 (yL (sr (Mz rfl (An rfl (rt (rs ?_)))))))
 have aC:=n.pk [0]
 obtain rfl:_=c:=hr.symm.trans (et (aa r) (aa X))
 exact⟨h,j,rfl,aC,(by first | omega | (simp only [List.length_cons,List.length_nil,List.length_append]; omega))⟩
def lV (c:List UInt8) (b:aA):(List UInt8):=
 bnd (dK c ([b.aD])) fun a=>(a++ [(aU b.dn)])
theorem o9 (w:World) (D:Nat→Prop) (l:Option Addr) (n0 n:Nat) (c:List UInt8) (a:aA) (P:List UInt8) (H:Own w D w [row l n0 n (List.flatMap eB c) 5 1]) (aL:n0=c.length) (bJ:c.length *1≤211106232532992) (bL:c.length≤4000000000∧a.aD.length≤12) (hr:lV c a=P):
    Calls Tryz.prog 62 #[.slice l n0 n, .agg (aA.cells a).toArray] w (cO fun v w'=> ∃ (B0:Option Addr) (b0:Nat),v= .slice B0 P.length b0∧Own w D w' [row B0 P.length b0 (List.flatMap eB P) 5 1]∧(P.length≤c.length+27)):=by
 subst aL
 have bM:=H.rowC (i:=0) rfl
 refine yR (args:= [.slice l c.length n, .agg (aA.cells a).toArray]) Tryz.func62 rfl rfl rfl ?_
 show Wp _ _ _ [(0, .slice l c.length n),(1, .agg (aA.cells a).toArray)] _ _
 refine sr ?_
 refine dE (aA.cells a) 88 H ?_
 intro F aM aN
 refine An rfl (yJ ?_)
 have g:=aN.drew
 refine zt [] (fun W=> ∃ L',Own w D W ([blk F (aA.cells a) 88]++L')) (by kernel_rfl) (by kernel_rfl) (zb zw) ⟨_,g⟩ ?_
 revert g
 generalize World.drew aM=bN
 intro g
 refine GX.take (v:= .slice l c.length n) (rs:= []) 0 rfl (by kernel_rfl) (fun _ _=>yO rfl) (GX.take (v:= .pointer (some ⟨F,0,none⟩)) (rs:= []) 1 rfl (by kernel_rfl) (fun _ _=>yk) (GX.take (v:= .string ⟨List.toArray a.aD⟩) (rs:= []) 2 rfl (by kernel_rfl) (fun _ ⟨_,H9⟩=>y5 rfl (bn.one Tryz.isAgg9 (zq (H9.cls (i:=0) rfl) rfl))) (GX.take (v:= .pointer (some ⟨F,1,none⟩)) (rs:= []) 5 rfl (by kernel_rfl) (fun _ _=>yk) (GX.take (v:= .int .i64 a.dn) (rs:= []) 6 rfl (by kernel_rfl) (fun _ ⟨_,H9⟩=>y5 rfl (bn.one Tryz.isAgg3 (zq (H9.cls (i:=0) rfl) rfl))) (GX.take (v:= .int .u8 (((aU a.dn).toNat:Nat):Int)) (rs:= []) 7 rfl (by kernel_rfl) (fun _ _=>yS (e:=IntKind.u8.wrap a.dn) yk (kN _)) ?_)))))
 refine zG 3 8 (by kernel_rfl) ?_ ?_
 refine GY.do 3 rfl (by kernel_rfl) (zn (cs:= [.string ⟨List.toArray a.aD⟩]) (t:=9) (sz:=1) (m:=1) g rfl rfl (fun _=>by kernel_rfl) rfl (by decide) ?_)
 intro G bO I
 replace I:=zi (y:=row G 1 1 (List.flatMap eS ([a.aD])) 9 1) rfl I
 have J:=I.pk [1,0,2]
 refine⟨.inr ⟨_,J⟩, ?_⟩
 refine zG 4 8 (by kernel_rfl) ?_ ?_
 have aP:=J.pk [2,0,1]
 obtain⟨d,o⟩:∃ q,dK c ([a.aD])=q:=⟨_,rfl⟩
 obtain⟨bP,Q,bu,R,S⟩:=yT aP
 refine GY.do 4 rfl (by kernel_rfl) (zf Tryz.call56 rfl (dH _ _ l c.length n c G 1 1 ([a.aD]) d Q rfl (by omega) (S _ 1 _ rfl bI) rfl (by simp) (by first | omega | (simp only [List.length_cons,List.length_nil,List.length_append]; omega)) (by refine⟨BH rfl, ?_⟩; simp only [List.mem_cons,List.not_mem_nil,or_false,forall_eq_or_imp,forall_eq]; omega) o) ?_)
 rintro _ bQ ⟨bR,bS,rfl,T,p⟩
 have U:=R _ _ T
 have bv:=U.rowC (i:=0) rfl
 replace p:d.length≤c.length+26 *1:=p
 have V:=U.pk [1,0,2]
 refine⟨.inr ⟨_,V⟩, ?_⟩
 refine GX.do 8 rfl (by kernel_rfl) (zn (cs:= [.int .u8 (((aU a.dn).toNat:Nat):Int)]) (t:=5) (sz:=1) (m:=1) V rfl rfl (fun _=>by kernel_rfl) rfl (by decide) ?_)
 intro aQ bT K
 replace K:=zi (y:=row aQ 1 1 (List.flatMap eB ([(aU a.dn)])) 5 1) rfl K
 have X:=K.pk [1,0,2,3]
 refine⟨.inr ⟨_,X⟩, ?_⟩
 have Y:=X.pk [2,0,1,3]
 refine GX.do 9 rfl (by kernel_rfl) (ze (k:=d.length) (m:=1) (bW) Y rfl rfl (cz Tryz.underlying31 (Y.rds (i:=2) rfl) (bK dA ([(aU a.dn)]))) rfl (by omega) (s:=List.length (d++ [(aU a.dn)])) (by first | omega | (simp only [List.length_append,List.length_cons,List.length_nil] <;> omega)) (List.flatMap_append).symm ?_)
 intro Z ae bU aR
 have bz:List.length (d++ [(aU a.dn)])=d.length+1:=by simp only [List.length_append,List.length_cons,List.length_nil]
 have af:=aR.pk [1,0,2,3]
 refine⟨.inr ⟨_,af⟩, ?_⟩
 refine GX.take (v:= .slice Z (List.length (d++ [(aU a.dn)])) ae) (rs:= []) 10 rfl (by kernel_rfl) (fun _ _=>zo rfl) (zk (by kernel_rfl) (yL (rt (rs ?_))))
 have aS:=af.pk [1]
 obtain rfl:_=(d++ [(aU a.dn)]):=hr.symm.trans (aa o)
 exact⟨Z,ae,rfl,aS,(by first | omega | (simp only [List.length_cons,List.length_nil,List.length_append]; omega))⟩
 refine GY.do 8 rfl (by kernel_rfl) (zn (cs:= [.int .u8 (((aU a.dn).toNat:Nat):Int)]) (t:=5) (sz:=1) (m:=1) J rfl rfl (fun _=>by kernel_rfl) rfl (by decide) ?_)
 intro aT bV L
 replace L:=zi (y:=row aT 1 1 (List.flatMap eB ([(aU a.dn)])) 5 1) rfl L
 have ag:=L.pk [1,0,2,3]
 refine⟨.inr ⟨_,ag⟩, ?_⟩
 have aV:=ag.pk [3,0,1,2]
 obtain⟨f,r⟩:∃ q,dK c ([a.aD])=q:=⟨_,rfl⟩
 obtain⟨bX,ah,bA,ai,aj⟩:=yT aV
 refine GX.do 4 rfl (by kernel_rfl) (zf Tryz.call56 rfl (dH _ _ l c.length n c G 1 1 ([a.aD]) f ah rfl (by omega) (aj _ 2 _ rfl bI) rfl (by simp) (by first | omega | (simp only [List.length_cons,List.length_nil,List.length_append]; omega)) (by refine⟨BH rfl, ?_⟩; simp only [List.mem_cons,List.not_mem_nil,or_false,forall_eq_or_imp,forall_eq]; omega) r) ?_)
 rintro _ bY ⟨bZ,cu,rfl,ak,u⟩
 have au:=ai _ _ ak
 have bB:=au.rowC (i:=0) rfl
 replace u:f.length≤c.length+26 *1:=u
 have av:=au.pk [1,0,2,3]
 refine⟨.inr ⟨_,av⟩, ?_⟩
 have ax:=av.pk [1,0,2,3]
 refine GX.do 9 rfl (by kernel_rfl) (ze (k:=f.length) (m:=1) (bW) ax rfl rfl (cz Tryz.underlying31 (ax.rds (i:=2) rfl) (bK dA ([(aU a.dn)]))) rfl (by omega) (s:=List.length (f++ [(aU a.dn)])) (by first | omega | (simp only [List.length_append,List.length_cons,List.length_nil] <;> omega)) (List.flatMap_append).symm ?_)
 intro ay az cB aW
 have bC:List.length (f++ [(aU a.dn)])=f.length+1:=by simp only [List.length_append,List.length_cons,List.length_nil]
 have aB:=aW.pk [1,0,2,3]
 refine⟨.inr ⟨_,aB⟩, ?_⟩
 refine GX.take (v:= .slice ay (List.length (f++ [(aU a.dn)])) az) (rs:= []) 10 rfl (by kernel_rfl) (fun _ _=>zo rfl) (zk (by kernel_rfl) (yL (rt (rs ?_))))
 have aX:=aB.pk [1]
 obtain rfl:_=(f++ [(aU a.dn)]):=hr.symm.trans (aa r)
 exact⟨ay,az,rfl,aX,(by first | omega | (simp only [List.length_cons,List.length_nil,List.length_append]; omega))⟩
 refine GY.do 8 rfl (by kernel_rfl) (zn (cs:= [.int .u8 (((aU a.dn).toNat:Nat):Int)]) (t:=5) (sz:=1) (m:=1) g rfl rfl (fun _=>by kernel_rfl) rfl (by decide) ?_)
 intro aY cK M
 replace M:=zi (y:=row aY 1 1 (List.flatMap eB ([(aU a.dn)])) 5 1) rfl M
 have aC:=M.pk [1,0,2]
 refine⟨.inr ⟨_,aC⟩, ?_⟩
 refine GX.do 3 rfl (by kernel_rfl) (zn (cs:= [.string ⟨List.toArray a.aD⟩]) (t:=9) (sz:=1) (m:=1) aC rfl rfl (fun _=>by kernel_rfl) rfl (by decide) ?_)
 intro aD cZ N
 replace N:=zi (y:=row aD 1 1 (List.flatMap eS ([a.aD])) 9 1) rfl N
 have aF:=N.pk [1,0,2,3]
 refine⟨.inr ⟨_,aF⟩, ?_⟩
 have aZ:=aF.pk [3,0,1,2]
 obtain⟨b,h⟩:∃ q,dK c ([a.aD])=q:=⟨_,rfl⟩
 obtain⟨df,aG,bD,aH,aI⟩:=yT aZ
 refine GX.do 4 rfl (by kernel_rfl) (zf Tryz.call56 rfl (dH _ _ l c.length n c aD 1 1 ([a.aD]) b aG rfl (by omega) (aI _ 1 _ rfl bI) rfl (by simp) (by first | omega | (simp only [List.length_cons,List.length_nil,List.length_append]; omega)) (by refine⟨BH rfl, ?_⟩; simp only [List.mem_cons,List.not_mem_nil,or_false,forall_eq_or_imp,forall_eq]; omega) h) ?_)
 rintro _ bE ⟨bF,bG,rfl,O,j⟩
 have x:=aH _ _ O
 have bf:=x.rowC (i:=0) rfl
 replace j:b.length≤c.length+26 *1:=j
 have z:=x.pk [1,0,2,3]
 refine⟨.inr ⟨_,z⟩, ?_⟩
 have A:=z.pk [1,0,2,3]
 refine GX.do 9 rfl (by kernel_rfl) (ze (k:=b.length) (m:=1) (bW) A rfl rfl (cz Tryz.underlying31 (A.rds (i:=3) rfl) (bK dA ([(aU a.dn)]))) rfl (by omega) (s:=List.length (b++ [(aU a.dn)])) (by first | omega | (simp only [List.length_append,List.length_cons,List.length_nil] <;> omega)) (List.flatMap_append).symm ?_)
 intro B C bH aJ
 have bg:List.length (b++ [(aU a.dn)])=b.length+1:=by simp only [List.length_append,List.length_cons,List.length_nil]
 have E:=aJ.pk [1,0,2,3]
 refine⟨.inr ⟨_,E⟩, ?_⟩
 refine GX.take (v:= .slice B (List.length (b++ [(aU a.dn)])) C) (rs:= []) 10 rfl (by kernel_rfl) (fun _ _=>zo rfl) (zk (by kernel_rfl) (yL (rt (rs ?_))))
 have aK:=E.pk [1]
 obtain rfl:_=(b++ [(aU a.dn)]):=hr.symm.trans (aa h)
 exact⟨B,C,rfl,aK,(by first | omega | (simp only [List.length_cons,List.length_nil,List.length_append]; omega))⟩
def fA:List aA→List UInt8→(List UInt8)
  | [],a=>a
  | c::d,a=>bnd (lV a c) fun b=>fA d b
def kH (c:List UInt8) (b:List aA):(List UInt8):=
 bnd (dP b.length) fun a=>bnd (fA b (c++a)) fun sLrbL=>sLrbL
theorem nP (w:World) (D:Nat→Prop) (Y:Option Addr) (n0 Z:Nat) (f:List UInt8) (p:Option Addr) (n1 E:Nat) (b:List aA) (F:List UInt8) (H:Own w D w [row Y n0 Z (List.flatMap eB f) 5 1]) (af:n0=f.length) (aQ:f.length *1≤211106232532992) (B:Ro w D fun w'=>bD w' 2 p n1 (List.flatMap aA.cells b)) (ag:n1=b.length) (aR:b.length *24≤211106232532992) (aS:f.length≤1000000000) (G:(b.length≤6∧∀ x ∈ b,x.aD.length≤12)) (hr:kH f b=F):
    Calls Tryz.prog 61 #[.slice Y n0 Z, .slice p n1 E, .func (.func 62) #[] #[]] w (cO fun v w'=> ∃ (B0:Option Addr) (b0:Nat),v= .slice B0 F.length b0∧Own w D w' [row B0 F.length b0 (List.flatMap eB F) 5 1]∧(F.length≤f.length+10+27 *b.length)):=by
 subst af ag
 have aT:=H.rowC (i:=0) rfl
 have hh1a:=G.1
 refine yR (args:= [.slice Y f.length Z, .slice p b.length E, .func (.func 62) #[] #[]]) Tryz.func61 rfl rfl rfl ?_
 show Wp _ _ _ [(0, .slice Y f.length Z),(1, .slice p b.length E),(2, .func (.func 62) #[] #[])] _ _
 refine sr (Ar rfl (Mz rfl (Mz rfl (Kz (.int .i64 ((b.length:Nat):Int)) (fw (.int .u64 ((b.length:Nat):Int)) (yS (e:=IntKind.u64.wrap ((b.length:Nat):Int)) yk (IntWalk.u64_in _ (by omega))) ?_)))))
 obtain⟨d,r⟩:∃ q,dP b.length=q:=⟨_,rfl⟩
 obtain⟨aU,I,aG,J,aH⟩:=yP H
 refine cl Tryz.call51 (gm _ _ b.length d I (by omega) r) ?_
 rintro _ aV ⟨aW,aX,rfl,K,t,u⟩
 have L:=J _ _ K
 have aI:=L.rowC (i:=0) rfl
 replace t:1≤d.length∧d.length≤10:=t
 replace u:b.length ≥ 128∨d.length=1:=u
 have M:=L.pk [1,0]
 refine WL.do rfl (ze (k:=f.length) (m:=d.length) (bW) M rfl rfl (cz Tryz.underlying31 (M.rds (i:=1) rfl) (bK dA d)) rfl (by omega) (s:=List.length (f++d)) (by first | omega | (simp only [List.length_append,List.length_cons,List.length_nil] <;> omega)) (List.flatMap_append).symm ?_)
 intro ah ai aY aj
 have aJ:List.length (f++d)=f.length+d.length:=by simp only [List.length_append,List.length_cons,List.length_nil]
 refine An rfl (yJ (yJ ?_))
 have ak:=aj.pk [0]
 refine yK (Mz rfl (Kz (.int .i64 ((b.length:Nat):Int)) (Mn rfl (bo ?_))))
 have au:=ak.pk [0]
 obtain⟨N,O⟩:∃ q:((Option Addr) × Nat × (List UInt8) × Nat)→World→Prop,q=fun(i:(Option Addr) × Nat × (List UInt8) × Nat) w'=>Own w D w' [row i.1 i.2.2.1.length i.2.1 (List.flatMap eB i.2.2.1) 5 1]∧(i.2.2.2≤b.length∧((i.2.2.1.length:Nat):Int)≤((f.length:Nat):Int)+10+27 *((i.2.2.2:Nat):Int)∧fA b (f++d)=fA (List.drop i.2.2.2 b) i.2.2.1):=⟨_,rfl⟩
 have l:∀ {h:Option Addr} {j:Nat} {c:List UInt8} {a:Nat} {w':World},N (h,j,c,a) w'↔Own w D w' [row h c.length j (List.flatMap eB c) 5 1]∧a≤b.length∧((c.length:Nat):Int)≤((f.length:Nat):Int)+10+27 *((a:Nat):Int)∧fA b (f++d)=fA (List.drop a b) c:=by intros; subst O; exact Iff.rfl
 refine Wp.loop (fun i:(Option Addr) × Nat × (List UInt8) × Nat=> [(0, .slice i.1 i.2.2.1.length i.2.1),(17, .int .i64 ((i.2.2.2:Nat):Int)),(16, .int .i64 ((b.length:Nat):Int)),(15, .slice p b.length E),(6, .slice none 0 0),(2, .func (.func 62) #[] #[])]) N (fun i=>b.length - i.2.2.2) (ah,ai,(f++d),0) ⟨rfl,rfl,rfl,rfl,rfl,rfl,trivial⟩ (l.2 ⟨au,by omega,by omega,rfl⟩) ?_
 rintro ⟨h,j,c,a⟩ aZ P
 show Wp _ _ _ [(0, .slice h c.length j),(17, .int .i64 ((a:Nat):Int)),(16, .int .i64 ((b.length:Nat):Int)),(15, .slice p b.length E),(6, .slice none 0 0),(2, .func (.func 62) #[] #[])] _ _
 obtain⟨n,aK,aL,y⟩:=l.1 P
 refine sr (Kz (.bool (decide (((a:Nat):Int) < ((b.length:Nat):Int)))) (nt (yJ ?_)))
 by_cases Q:((a:Nat):Int) < ((b.length:Nat):Int)
 obtain⟨g,o⟩:=dV (ls:=b) (i:=a) aA.len (by decide) (n.ro B) (by first | omega | (simp; done) | (simp; omega))
 have aM:g.aD.length≤12:=G.2 _ (List.mem_of_getElem? o)
 have R:=drop_at o
 refine jT (dT Q) (sk (yJ (bo (sr (fw (.pointer (some ⟨ab p,ao p+a *2,none⟩)) (yZ (lT) rfl rfl ((n.ro B).addr (i:=a) (by omega)) (by omega)) (fw (.agg (aA.cells g).toArray) (y5 rfl (zg (cs:=(aA.cells g)) Tryz.isAgg88 Tryz.sizeOf88 ((n.ro B).elem aA.len o (by decide)))) ?_))))))
 refine dE [.string ⟨List.toArray ([])⟩, .int .i64 0] 88 n ?_
 intro bf bg av
 refine bz (aA.cells g) 0 av Tryz.sizeOf88 ?_
 intro bi S
 refine nt (yK (Mz rfl (Mz rfl (La (aA.cells g) S 0 Tryz.isAgg88 Tryz.sizeOf88 ?_))))
 have ax:=S.pk [1,0]
 obtain⟨C,z⟩:∃ q,lV c g=q:=⟨_,rfl⟩
 obtain⟨bn,T,aN,U,aO⟩:=yT ax
 refine WL.do rfl (zB Tryz.call62 rfl rfl (o9 _ _ h c.length j c g C T rfl (by omega) (by omega) z) ?_)
 rintro _ bq ⟨ay,az,rfl,V,A⟩
 have W:=U _ _ V
 have aP:=W.rowC (i:=0) rfl
 replace A:C.length≤c.length+27:=A
 refine Az rfl (WL.nil (bN (yL (yK (fw (.int .i64 ((a+1:Nat):Int)) (yS (e:=IntKind.i64.wrap (((a:Nat):Int)+1)) yk (by rw [BI _ (by omega)]; omega)) (Mz rfl (WL.nil ?_)))))))
 have aB:=W.pk [0]
 exact yY (ay,az,C,a+1) ⟨rfl,rfl,rfl,rfl,rfl,rfl,trivial⟩ (l.2 ⟨aB,by omega,by omega,et (y) (et (congrArg (fun q=>fA q c) R) (aa z))⟩) (by show b.length - (a+1) < b.length - a; omega)
 refine jF (dF Q) (Wp.exit (yV ?_))
 have X:fA b (f++d)=c:=et (y) (et (congrArg (fun q=>fA q c) (dZ (ls:=b) (i:=a) (by omega))) rfl)
 refine yV (y8 (yL (sr (Mz rfl (An rfl (rt (rs ?_)))))))
 have aC:=n.pk [0]
 obtain rfl:_=c:=hr.symm.trans (et (aa r) (aa X))
 exact⟨h,j,rfl,aC,(by first | omega | (simp only [List.length_cons,List.length_nil,List.length_append]; omega))⟩
def lH (e:List UInt8) (d:aP):(List UInt8):=
 bnd (kU d.cB) fun a=>bnd (dK (e++ [a]) ([d.au])) fun b=>bnd (iR b d.ak.ls) fun c=>c
theorem oO (w:World) (D:Nat→Prop) (A0:Option Addr) (n0 c0:Nat) (c:List UInt8) (a:aP) (d:Option Addr) (V e:Nat) (r0:List UInt8) (H:Own w D w [row A0 n0 c0 (List.flatMap eB c) 5 1]) (fo:n0=c.length) (iF:c.length *1≤211106232532992) (aV:V=a.ak.ls.length) (l:Ro w D fun w'=>bD w' 2 d a.ak.ls.length (List.flatMap aR.cells a.ak.ls)) (fq:a.ak.ls.length≤e∧a.ak.ls.length≤9223372036854775807) (iG:c.length≤2000000000) (u:(a.au.length≤16∧a.ak.ls.length≤4∧∀ q ∈ a.ak.ls,q.aL.length≤12∧q.au.length≤16)) (hr:lH c a=r0):
    Calls Tryz.prog 60 #[.slice A0 n0 c0, .agg #[.bool a.cB, .string ⟨List.toArray a.au⟩, .slice d V e]] w (cO fun v w'=> ∃ (B0:Option Addr) (b0:Nat),v= .slice B0 r0.length b0∧Own w D w' [row B0 r0.length b0 (List.flatMap eB r0) 5 1]∧(r0.length≤c.length+245)):=by
 subst fo aV
 have iH:=H.rowC (i:=0) rfl
 have hh1a:=u.1
 have hh1b:=u.2.1
 refine yR (args:= [.slice A0 c.length c0, .agg #[.bool a.cB, .string ⟨List.toArray a.au⟩, .slice d a.ak.ls.length e]]) Tryz.func60 rfl rfl rfl ?_
 show Wp _ _ _ [(0, .slice A0 c.length c0),(1, .agg #[.bool a.cB, .string ⟨List.toArray a.au⟩, .slice d a.ak.ls.length e])] _ _
 refine sr ?_
 refine dE [.bool a.cB, .string ⟨List.toArray a.au⟩, .slice d a.ak.ls.length e] 84 H ?_
 intro T fu fw
 refine An rfl (yJ ?_)
 have z:=fw.drew
 refine zt [] (fun W=> ∃ L',Own w D W ([blk T [.bool a.cB, .string ⟨List.toArray a.au⟩, .slice d a.ak.ls.length e] 84]++L')) (by kernel_rfl) (by kernel_rfl) (zb zw) ⟨_,z⟩ ?_
 revert z
 generalize World.drew fu=iI
 intro z
 refine GX.take (v:= .slice A0 c.length c0) (rs:= []) 0 rfl (by kernel_rfl) (fun _ _=>yO rfl) (GX.take (v:= .pointer (some ⟨T,0,none⟩)) (rs:= []) 1 rfl (by kernel_rfl) (fun _ _=>yk) (GX.take (v:= .bool a.cB) (rs:= []) 2 rfl (by kernel_rfl) (fun _ ⟨_,H9⟩=>y5 rfl (bn.one Tryz.isAgg4 (zq (H9.cls (i:=0) rfl) rfl))) (GX.take (v:= .pointer (some ⟨T,1,none⟩)) (rs:= []) 6 rfl (by kernel_rfl) (fun _ _=>yk) (GX.take (v:= .string ⟨List.toArray a.au⟩) (rs:= []) 7 rfl (by kernel_rfl) (fun _ ⟨_,H9⟩=>y5 rfl (bn.one Tryz.isAgg9 (zq (H9.cls (i:=0) rfl) rfl))) (GX.take (v:= .pointer (some ⟨T,2,none⟩)) (rs:= []) 10 rfl (by kernel_rfl) (fun _ _=>yk) (GX.take (v:= .slice d a.ak.ls.length e) (rs:= []) 11 rfl (by kernel_rfl) (fun _ ⟨_,H9⟩=>y5 rfl (bn.one Tryz.isAgg82 (zq (H9.cls (i:=0) rfl) rfl))) ?_))))))
 refine zG 3 8 (by kernel_rfl) ?_ ?_
 obtain⟨b,n⟩:∃ q,kU a.cB=q:=⟨_,rfl⟩
 obtain⟨iJ,cB,gI,cK,gJ⟩:=yP z
 refine GY.do 3 rfl (by kernel_rfl) (zf Tryz.call55 rfl (mG _ _ a.cB b cB n) ?_)
 rintro _ iK ⟨rfl,cZ⟩
 have aW:=cK _ _ cZ
 refine⟨.inr ⟨_,aW⟩, ?_⟩
 refine zG 4 8 (by kernel_rfl) ?_ ?_
 refine GY.do 4 rfl (by kernel_rfl) (zn (cs:= [.int .u8 ((b.toNat:Nat):Int)]) (t:=5) (sz:=1) (m:=1) aW rfl rfl (fun _=>by kernel_rfl) rfl (by decide) ?_)
 intro fA iL aX
 replace aX:=zi (y:=row fA 1 1 (List.flatMap eB ([b])) 5 1) rfl aX
 have aY:=aX.pk [1,0,2]
 refine⟨.inr ⟨_,aY⟩, ?_⟩
 refine zG 5 8 (by kernel_rfl) ?_ ?_
 have df:=aY.pk [2,0,1]
 refine GY.do 5 rfl (by kernel_rfl) (ze (k:=c.length) (m:=1) (bW) df rfl rfl (cz Tryz.underlying31 (df.rds (i:=2) rfl) (bK dA ([b]))) rfl (by omega) (s:=List.length (c++ [b])) (by first | omega | (simp only [List.length_append,List.length_cons,List.length_nil] <;> omega)) (List.flatMap_append).symm ?_)
 intro fB fC iM fD
 have gK:List.length (c++ [b])=c.length+1:=by simp only [List.length_append,List.length_cons,List.length_nil]
 have dh:=fD.pk [1,0,2]
 refine⟨.inr ⟨_,dh⟩, ?_⟩
 refine GX.do 8 rfl (by kernel_rfl) (zn (cs:= [.string ⟨List.toArray a.au⟩]) (t:=9) (sz:=1) (m:=1) dh rfl rfl (fun _=>by kernel_rfl) rfl (by decide) ?_)
 intro di iN aZ
 replace aZ:=zi (y:=row di 1 1 (List.flatMap eS ([a.au])) 9 1) rfl aZ
 have dm:=aZ.pk [1,0,2,3]
 refine⟨.inr ⟨_,dm⟩, ?_⟩
 have fE:=dm.pk [2,0,1,3]
 obtain⟨x,X⟩:∃ q,dK (c++ [b]) ([a.au])=q:=⟨_,rfl⟩
 obtain⟨iO,dn,gL,dw,dx⟩:=yT fE
 refine GX.do 9 rfl (by kernel_rfl) (zf Tryz.call56 rfl (dH _ _ fB (List.length (c++ [b])) fC (c++ [b]) di 1 1 ([a.au]) x dn rfl (by first | omega | (simp only [List.length_append,List.length_cons,List.length_nil,List.length_take,List.length_drop,List.length_set]; omega)) (dx _ 1 _ rfl bI) rfl (by simp) (by first | omega | (simp only [List.length_cons,List.length_nil,List.length_append]; omega)) (by refine⟨BH rfl, ?_⟩; simp only [List.mem_cons,List.not_mem_nil,or_false,forall_eq_or_imp,forall_eq]; omega) X) ?_)
 rintro _ iP ⟨fF,fG,rfl,dz,Y⟩
 have dB:=dw _ _ dz
 have gM:=dB.rowC (i:=0) rfl
 replace Y:x.length≤List.length (c++ [b])+26 *1:=Y
 have dC:=dB.pk [1,0,2,3]
 refine⟨.inr ⟨_,dC⟩, ?_⟩
 have fH:=dC.pk [1,0,2,3]
 obtain⟨U,Z⟩:∃ q,iR x a.ak.ls=q:=⟨_,rfl⟩
 obtain⟨iQ,dD,dF,dG,gN⟩:=yT fH
 refine GX.do 12 rfl (by kernel_rfl) (zf Tryz.call100 rfl (jy _ _ fF x.length fG x d a.ak.ls.length e a.ak.ls U dD rfl (by omega) (dF _ l) rfl (by omega) (by first | omega | (simp only [List.length_cons,List.length_nil,List.length_append]; omega)) (by exact⟨hh1b,u.2.2⟩) Z) ?_)
 rintro _ iT ⟨dI,dJ,rfl,dL,ae⟩
 have dM:=dG _ _ dL
 have gP:=dM.rowC (i:=0) rfl
 replace ae:U.length≤x.length+10+52 *a.ak.ls.length:=ae
 have dN:=dM.pk [1,0,2,3]
 refine⟨.inr ⟨_,dN⟩, ?_⟩
 refine GX.take (v:= .slice dI U.length dJ) (rs:= []) 13 rfl (by kernel_rfl) (fun _ _=>zo rfl) (zk (by kernel_rfl) (yL (rt (rs ?_))))
 have fI:=dN.pk [1]
 obtain rfl:_=U:=hr.symm.trans (et (aa n) (et (aa X) (aa Z)))
 exact⟨dI,dJ,rfl,fI,(by first | omega | (simp only [List.length_cons,List.length_nil,List.length_append]; omega))⟩
 refine GY.do 8 rfl (by kernel_rfl) (zn (cs:= [.string ⟨List.toArray a.au⟩]) (t:=9) (sz:=1) (m:=1) aY rfl rfl (fun _=>by kernel_rfl) rfl (by decide) ?_)
 intro dO iU bf
 replace bf:=zi (y:=row dO 1 1 (List.flatMap eS ([a.au])) 9 1) rfl bf
 have dP:=bf.pk [1,0,2,3]
 refine⟨.inr ⟨_,dP⟩, ?_⟩
 have dQ:=dP.pk [3,0,1,2]
 refine GX.do 5 rfl (by kernel_rfl) (ze (k:=c.length) (m:=1) (bW) dQ rfl rfl (cz Tryz.underlying31 (dQ.rds (i:=3) rfl) (bK dA ([b]))) rfl (by omega) (s:=List.length (c++ [b])) (by first | omega | (simp only [List.length_append,List.length_cons,List.length_nil] <;> omega)) (List.flatMap_append).symm ?_)
 intro fJ fK iV fM
 have gQ:List.length (c++ [b])=c.length+1:=by simp only [List.length_append,List.length_cons,List.length_nil]
 have dR:=fM.pk [1,0,2,3]
 refine⟨.inr ⟨_,dR⟩, ?_⟩
 have fO:=dR.pk [1,0,2,3]
 obtain⟨g,A⟩:∃ q,dK (c++ [b]) ([a.au])=q:=⟨_,rfl⟩
 obtain⟨iW,dS,gT,dU,bg⟩:=yT fO
 refine GX.do 9 rfl (by kernel_rfl) (zf Tryz.call56 rfl (dH _ _ fJ (List.length (c++ [b])) fK (c++ [b]) dO 1 1 ([a.au]) g dS rfl (by first | omega | (simp only [List.length_append,List.length_cons,List.length_nil,List.length_take,List.length_drop,List.length_set]; omega)) (bg _ 1 _ rfl bI) rfl (by simp) (by first | omega | (simp only [List.length_cons,List.length_nil,List.length_append]; omega)) (by refine⟨BH rfl, ?_⟩; simp only [List.mem_cons,List.not_mem_nil,or_false,forall_eq_or_imp,forall_eq]; omega) A) ?_)
 rintro _ gU ⟨dV,dW,rfl,bi,B⟩
 have af:=dU _ _ bi
 have fP:=af.rowC (i:=0) rfl
 replace B:g.length≤List.length (c++ [b])+26 *1:=B
 have ag:=af.pk [1,0,2,3]
 refine⟨.inr ⟨_,ag⟩, ?_⟩
 have dX:=ag.pk [1,0,2,3]
 obtain⟨o,C⟩:∃ q,iR g a.ak.ls=q:=⟨_,rfl⟩
 obtain⟨gV,bq,bu,bv,fQ⟩:=yT dX
 refine GX.do 12 rfl (by kernel_rfl) (zf Tryz.call100 rfl (jy _ _ dV g.length dW g d a.ak.ls.length e a.ak.ls o bq rfl (by omega) (bu _ l) rfl (by omega) (by first | omega | (simp only [List.length_cons,List.length_nil,List.length_append]; omega)) (by exact⟨hh1b,u.2.2⟩) C) ?_)
 rintro _ gW ⟨ah,ai,rfl,bz,E⟩
 have aj:=bv _ _ bz
 have fT:=aj.rowC (i:=0) rfl
 replace E:o.length≤g.length+10+52 *a.ak.ls.length:=E
 have ak:=aj.pk [1,0,2,3]
 refine⟨.inr ⟨_,ak⟩, ?_⟩
 refine GX.take (v:= .slice ah o.length ai) (rs:= []) 13 rfl (by kernel_rfl) (fun _ _=>zo rfl) (zk (by kernel_rfl) (yL (rt (rs ?_))))
 have dY:=ak.pk [1]
 obtain rfl:_=o:=hr.symm.trans (et (aa n) (et (aa A) (aa C)))
 exact⟨ah,ai,rfl,dY,(by first | omega | (simp only [List.length_cons,List.length_nil,List.length_append]; omega))⟩
 refine GY.do 8 rfl (by kernel_rfl) (zn (cs:= [.string ⟨List.toArray a.au⟩]) (t:=9) (sz:=1) (m:=1) aW rfl rfl (fun _=>by kernel_rfl) rfl (by decide) ?_)
 intro au gX F
 replace F:=zi (y:=row au 1 1 (List.flatMap eS ([a.au])) 9 1) rfl F
 have av:=F.pk [1,0,2]
 refine⟨.inr ⟨_,av⟩, ?_⟩
 refine GX.do 4 rfl (by kernel_rfl) (zn (cs:= [.int .u8 ((b.toNat:Nat):Int)]) (t:=5) (sz:=1) (m:=1) av rfl rfl (fun _=>by kernel_rfl) rfl (by decide) ?_)
 intro dZ gY G
 replace G:=zi (y:=row dZ 1 1 (List.flatMap eB ([b])) 5 1) rfl G
 have ax:=G.pk [1,0,2,3]
 refine⟨.inr ⟨_,ax⟩, ?_⟩
 have ay:=ax.pk [3,0,1,2]
 refine GX.do 5 rfl (by kernel_rfl) (ze (k:=c.length) (m:=1) (bW) ay rfl rfl (cz Tryz.underlying31 (ay.rds (i:=2) rfl) (bK dA ([b]))) rfl (by omega) (s:=List.length (c++ [b])) (by first | omega | (simp only [List.length_append,List.length_cons,List.length_nil] <;> omega)) (List.flatMap_append).symm ?_)
 intro d9 ed gZ ek
 have fU:List.length (c++ [b])=c.length+1:=by simp only [List.length_append,List.length_cons,List.length_nil]
 have az:=ek.pk [1,0,2,3]
 refine⟨.inr ⟨_,az⟩, ?_⟩
 have eu:=az.pk [1,0,2,3]
 obtain⟨h,I⟩:∃ q,dK (c++ [b]) ([a.au])=q:=⟨_,rfl⟩
 obtain⟨ib,bA,fV,bB,bC⟩:=yT eu
 refine GX.do 9 rfl (by kernel_rfl) (zf Tryz.call56 rfl (dH _ _ d9 (List.length (c++ [b])) ed (c++ [b]) au 1 1 ([a.au]) h bA rfl (by first | omega | (simp only [List.length_append,List.length_cons,List.length_nil,List.length_take,List.length_drop,List.length_set]; omega)) (bC _ 2 _ rfl bI) rfl (by simp) (by first | omega | (simp only [List.length_cons,List.length_nil,List.length_append]; omega)) (by refine⟨BH rfl, ?_⟩; simp only [List.mem_cons,List.not_mem_nil,or_false,forall_eq_or_imp,forall_eq]; omega) I) ?_)
 rintro _ ic ⟨eD,eF,rfl,bE,J⟩
 have aA:=bB _ _ bE
 have fZ:=aA.rowC (i:=0) rfl
 replace J:h.length≤List.length (c++ [b])+26 *1:=J
 have aB:=aA.pk [1,0,2,3]
 refine⟨.inr ⟨_,aB⟩, ?_⟩
 have eG:=aB.pk [1,0,2,3]
 obtain⟨p,K⟩:∃ q,iR h a.ak.ls=q:=⟨_,rfl⟩
 obtain⟨ig,bF,bG,bH,gm⟩:=yT eG
 refine GX.do 12 rfl (by kernel_rfl) (zf Tryz.call100 rfl (jy _ _ eD h.length eF h d a.ak.ls.length e a.ak.ls p bF rfl (by omega) (bG _ l) rfl (by omega) (by first | omega | (simp only [List.length_cons,List.length_nil,List.length_append]; omega)) (by exact⟨hh1b,u.2.2⟩) K) ?_)
 rintro _ ik ⟨aC,aD,rfl,bJ,L⟩
 have aF:=bH _ _ bJ
 have gp:=aF.rowC (i:=0) rfl
 replace L:p.length≤h.length+10+52 *a.ak.ls.length:=L
 have aG:=aF.pk [1,0,2,3]
 refine⟨.inr ⟨_,aG⟩, ?_⟩
 refine GX.take (v:= .slice aC p.length aD) (rs:= []) 13 rfl (by kernel_rfl) (fun _ _=>zo rfl) (zk (by kernel_rfl) (yL (rt (rs ?_))))
 have eH:=aG.pk [1]
 obtain rfl:_=p:=hr.symm.trans (et (aa n) (et (aa I) (aa K)))
 exact⟨aC,aD,rfl,eH,(by first | omega | (simp only [List.length_cons,List.length_nil,List.length_append]; omega))⟩
 refine GY.do 8 rfl (by kernel_rfl) (zn (cs:= [.string ⟨List.toArray a.au⟩]) (t:=9) (sz:=1) (m:=1) z rfl rfl (fun _=>by kernel_rfl) rfl (by decide) ?_)
 intro aH il M
 replace M:=zi (y:=row aH 1 1 (List.flatMap eS ([a.au])) 9 1) rfl M
 have aI:=M.pk [1,0,2]
 refine⟨.inr ⟨_,aI⟩, ?_⟩
 obtain⟨f,N⟩:∃ q,kU a.cB=q:=⟨_,rfl⟩
 obtain⟨iq,bL,gq,bM,gu⟩:=yP aI
 refine GX.do 3 rfl (by kernel_rfl) (zf Tryz.call55 rfl (mG _ _ a.cB f bL N) ?_)
 rintro _ iw ⟨rfl,bN⟩
 have aJ:=bM _ _ bN
 refine⟨.inr ⟨_,aJ⟩, ?_⟩
 refine GX.do 4 rfl (by kernel_rfl) (zn (cs:= [.int .u8 ((f.toNat:Nat):Int)]) (t:=5) (sz:=1) (m:=1) aJ rfl rfl (fun _=>by kernel_rfl) rfl (by decide) ?_)
 intro eO iy O
 replace O:=zi (y:=row eO 1 1 (List.flatMap eB ([f])) 5 1) rfl O
 have aK:=O.pk [1,0,2,3]
 refine⟨.inr ⟨_,aK⟩, ?_⟩
 have aL:=aK.pk [3,0,1,2]
 refine GX.do 5 rfl (by kernel_rfl) (ze (k:=c.length) (m:=1) (bW) aL rfl rfl (cz Tryz.underlying31 (aL.rds (i:=2) rfl) (bK dA ([f]))) rfl (by omega) (s:=List.length (c++ [f])) (by first | omega | (simp only [List.length_append,List.length_cons,List.length_nil] <;> omega)) (List.flatMap_append).symm ?_)
 intro eP eQ iA eT
 have gy:List.length (c++ [f])=c.length+1:=by simp only [List.length_append,List.length_cons,List.length_nil]
 have aM:=eT.pk [1,0,2,3]
 refine⟨.inr ⟨_,aM⟩, ?_⟩
 have eU:=aM.pk [1,0,2,3]
 obtain⟨j,P⟩:∃ q,dK (c++ [f]) ([a.au])=q:=⟨_,rfl⟩
 obtain⟨iB,bO,gz,bP,bQ⟩:=yT eU
 refine GX.do 9 rfl (by kernel_rfl) (zf Tryz.call56 rfl (dH _ _ eP (List.length (c++ [f])) eQ (c++ [f]) aH 1 1 ([a.au]) j bO rfl (by first | omega | (simp only [List.length_append,List.length_cons,List.length_nil,List.length_take,List.length_drop,List.length_set]; omega)) (bQ _ 2 _ rfl bI) rfl (by simp) (by first | omega | (simp only [List.length_cons,List.length_nil,List.length_append]; omega)) (by refine⟨BH rfl, ?_⟩; simp only [List.mem_cons,List.not_mem_nil,or_false,forall_eq_or_imp,forall_eq]; omega) P) ?_)
 rintro _ iC ⟨eX,eY,rfl,bR,Q⟩
 have aN:=bP _ _ bR
 have gB:=aN.rowC (i:=0) rfl
 replace Q:j.length≤List.length (c++ [f])+26 *1:=Q
 have aO:=aN.pk [1,0,2,3]
 refine⟨.inr ⟨_,aO⟩, ?_⟩
 have eZ:=aO.pk [1,0,2,3]
 obtain⟨r,R⟩:∃ q,iR j a.ak.ls=q:=⟨_,rfl⟩
 obtain⟨iD,bS,bT,bU,gD⟩:=yT eZ
 refine GX.do 12 rfl (by kernel_rfl) (zf Tryz.call100 rfl (jy _ _ eX j.length eY j d a.ak.ls.length e a.ak.ls r bS rfl (by omega) (bT _ l) rfl (by omega) (by first | omega | (simp only [List.length_cons,List.length_nil,List.length_append]; omega)) (by exact⟨hh1b,u.2.2⟩) R) ?_)
 rintro _ iE ⟨aQ,aS,rfl,bV,S⟩
 have aT:=bU _ _ bV
 have gF:=aT.rowC (i:=0) rfl
 replace S:r.length≤j.length+10+52 *a.ak.ls.length:=S
 have aU:=aT.pk [1,0,2,3]
 refine⟨.inr ⟨_,aU⟩, ?_⟩
 refine GX.take (v:= .slice aQ r.length aS) (rs:= []) 13 rfl (by kernel_rfl) (fun _ _=>zo rfl) (zk (by kernel_rfl) (yL (rt (rs ?_))))
 have fe:=aU.pk [1]
 obtain rfl:_=r:=hr.symm.trans (et (aa N) (et (aa P) (aa R)))
 exact⟨aQ,aS,rfl,fe,(by first | omega | (simp only [List.length_cons,List.length_nil,List.length_append]; omega))⟩
def fo:List aP→List UInt8→(List UInt8)
  | [],a=>a
  | b::d,a=>bnd (lH a (aP.mk b.cB b.au (Ll.mk b.ak.ls))) fun c=>fo d c
def ky (c:List UInt8) (b:List aP):(List UInt8):=
 bnd (dP b.length) fun a=>bnd (fo b (c++a)) fun sLrbL=>sLrbL
theorem nz (w:World) (D:Nat→Prop) (A0:Option Addr) (n0 c0:Nat) (h:List UInt8) (r:Option Addr) (n1 J:Nat) (d1:List af) (d:List aP) (K:List UInt8) (H:Own w D w [row A0 n0 c0 (List.flatMap eB h) 5 1]) (ay:n0=h.length) (aZ:h.length *1≤211106232532992) (L:List.map zh d1=d) (G:Ro w D fun w'=>bD w' 3 r n1 (List.flatMap af.cells d1)) (M:∀ x ∈ d1,Ro w D (fun w'=>bD w' 2 x.ak.A x.ak.ls.length (List.flatMap aR.cells x.ak.ls))∧(x.ak.ls.length≤x.ak.c∧x.ak.ls.length≤9223372036854775807)) (az:n1=d.length) (bf:d.length *48≤211106232532992) (bg:h.length≤1000000000) (N:(d.length≤24∧∀ x ∈ d,x.au.length≤16∧x.ak.ls.length≤4∧∀ q ∈ x.ak.ls,q.aL.length≤12∧q.au.length≤16)) (hr:ky h d=K):
    Calls Tryz.prog 59 #[.slice A0 n0 c0, .slice r n1 J, .func (.func 60) #[] #[]] w (cO fun v w'=> ∃ (B0:Option Addr) (b0:Nat),v= .slice B0 K.length b0∧Own w D w' [row B0 K.length b0 (List.flatMap eB K) 5 1]∧(K.length≤h.length+10+245 *d.length)):=by
 subst ay az
 have hdl1:=dG L
 have bi:=H.rowC (i:=0) rfl
 have hh1a:=N.1
 refine yR (args:= [.slice A0 h.length c0, .slice r d.length J, .func (.func 60) #[] #[]]) Tryz.func59 rfl rfl rfl ?_
 show Wp _ _ _ [(0, .slice A0 h.length c0),(1, .slice r d.length J),(2, .func (.func 60) #[] #[])] _ _
 refine sr (Ar rfl (Mz rfl (Mz rfl (Kz (.int .i64 ((d.length:Nat):Int)) (fw (.int .u64 ((d.length:Nat):Int)) (yS (e:=IntKind.u64.wrap ((d.length:Nat):Int)) yk (IntWalk.u64_in _ (by omega))) ?_)))))
 obtain⟨g,t⟩:∃ q,dP d.length=q:=⟨_,rfl⟩
 obtain⟨bn,O,aO,P,aQ⟩:=yP H
 refine cl Tryz.call51 (gm _ _ d.length g O (by omega) t) ?_
 rintro _ bq ⟨bu,bv,rfl,Q,u,y⟩
 have R:=P _ _ Q
 have aS:=R.rowC (i:=0) rfl
 replace u:1≤g.length∧g.length≤10:=u
 replace y:d.length ≥ 128∨g.length=1:=y
 have S:=R.pk [1,0]
 refine WL.do rfl (ze (k:=h.length) (m:=g.length) (bW) S rfl rfl (cz Tryz.underlying31 (S.rds (i:=1) rfl) (bK dA g)) rfl (by omega) (s:=List.length (h++g)) (by first | omega | (simp only [List.length_append,List.length_cons,List.length_nil] <;> omega)) (List.flatMap_append).symm ?_)
 intro aA aB bA aC
 have aT:List.length (h++g)=h.length+g.length:=by simp only [List.length_append,List.length_cons,List.length_nil]
 refine An rfl (yJ (yJ ?_))
 have aD:=aC.pk [0]
 refine yK (Mz rfl (Kz (.int .i64 ((d.length:Nat):Int)) (Mn rfl (bo ?_))))
 have aF:=aD.pk [0]
 obtain⟨T,U⟩:∃ q:((Option Addr) × Nat × (List UInt8) × Nat)→World→Prop,q=fun(i:(Option Addr) × Nat × (List UInt8) × Nat) w'=>Own w D w' [row i.1 i.2.2.1.length i.2.1 (List.flatMap eB i.2.2.1) 5 1]∧(i.2.2.2≤d.length∧((i.2.2.1.length:Nat):Int)≤((h.length:Nat):Int)+10+245 *((i.2.2.2:Nat):Int)∧fo d (h++g)=fo (List.drop i.2.2.2 d) i.2.2.1):=⟨_,rfl⟩
 have o:∀ {l:Option Addr} {n:Nat} {f:List UInt8} {b:Nat} {w':World},T (l,n,f,b) w'↔Own w D w' [row l f.length n (List.flatMap eB f) 5 1]∧b≤d.length∧((f.length:Nat):Int)≤((h.length:Nat):Int)+10+245 *((b:Nat):Int)∧fo d (h++g)=fo (List.drop b d) f:=by intros; subst U; exact Iff.rfl
 refine Wp.loop (fun i:(Option Addr) × Nat × (List UInt8) × Nat=> [(0, .slice i.1 i.2.2.1.length i.2.1),(17, .int .i64 ((i.2.2.2:Nat):Int)),(16, .int .i64 ((d.length:Nat):Int)),(15, .slice r d.length J),(6, .slice none 0 0),(2, .func (.func 60) #[] #[])]) T (fun i=>d.length - i.2.2.2) (aA,aB,(h++g),0) ⟨rfl,rfl,rfl,rfl,rfl,rfl,trivial⟩ (o.2 ⟨aF,by omega,by omega,rfl⟩) ?_
 rintro ⟨l,n,f,b⟩ bB V
 show Wp _ _ _ [(0, .slice l f.length n),(17, .int .i64 ((b:Nat):Int)),(16, .int .i64 ((d.length:Nat):Int)),(15, .slice r d.length J),(6, .slice none 0 0),(2, .func (.func 60) #[] #[])] _ _
 obtain⟨p,aU,aV,z⟩:=o.1 V
 refine sr (Kz (.bool (decide (((b:Nat):Int) < ((d.length:Nat):Int)))) (nt (yJ ?_)))
 by_cases W:((b:Nat):Int) < ((d.length:Nat):Int)
 obtain⟨a,j⟩:=dV (ls:=d1) (i:=b) af.len (by decide) (p.ro G) (by first | omega | (simp; done) | (simp; omega))
 have B:=mq L j
 have aW:=(M _ (List.mem_of_getElem? j)).2
 have C:a.au.length≤16∧a.ak.ls.length≤4∧∀ q ∈ a.ak.ls,q.aL.length≤12∧q.au.length≤16:=N.2 _ (List.mem_of_getElem? B)
 have hz63a:=C.1
 have hz63b:=C.2.1
 have X:=drop_at B
 refine jT (dT W) (sk (yJ (bo (sr (fw (.pointer (some ⟨ab r,ao r+b *3,none⟩)) (yZ (lD) rfl rfl ((p.ro G).addr (i:=b) (by omega)) (by omega)) (fw (.agg (af.cells a).toArray) (y5 rfl (zg (cs:=(af.cells a)) Tryz.isAgg84 Tryz.sizeOf84 ((p.ro G).elem af.len j (by decide)))) ?_))))))
 refine dE [.bool false, .string ⟨List.toArray ([])⟩, .slice none 0 0] 84 p ?_
 intro bC bE aG
 refine bz (af.cells a) 0 aG Tryz.sizeOf84 ?_
 intro bF Y
 refine nt (yK (Mz rfl (Mz rfl (La (af.cells a) Y 0 Tryz.isAgg84 Tryz.sizeOf84 ?_))))
 have aH:=Y.pk [1,0]
 obtain⟨I,E⟩:∃ q,lH f (aP.mk a.cB a.au (Ll.mk a.ak.ls))=q:=⟨_,rfl⟩
 obtain⟨bG,Z,ae,ag,aX⟩:=yT aH
 refine WL.do rfl (zB Tryz.call60 rfl rfl (oO _ _ l f.length n f (aP.mk a.cB a.au (Ll.mk a.ak.ls)) a.ak.A a.ak.ls.length a.ak.c I Z rfl (by omega) rfl (ae _ (M _ (List.mem_of_getElem? j)).1) (show a.ak.ls.length≤a.ak.c∧a.ak.ls.length≤9223372036854775807 from by omega) (by first | omega | (simp only [List.length_cons,List.length_nil,List.length_append]; omega)) (by assumption) E) ?_)
 rintro _ bH ⟨aI,aJ,rfl,ah,F⟩
 have ai:=ag _ _ ah
 have aY:=ai.rowC (i:=0) rfl
 replace F:I.length≤f.length+245:=F
 refine Az rfl (WL.nil (bN (yL (yK (fw (.int .i64 ((b+1:Nat):Int)) (yS (e:=IntKind.i64.wrap (((b:Nat):Int)+1)) yk (by rw [BI _ (by omega)]; omega)) (Mz rfl (WL.nil ?_)))))))
 have aK:=ai.pk [0]
 exact yY (aI,aJ,I,b+1) ⟨rfl,rfl,rfl,rfl,rfl,rfl,trivial⟩ (o.2 ⟨aK,by omega,by omega,et (z) (et (congrArg (fun q=>fo q f) X) (aa E))⟩) (by show d.length - (b+1) < d.length - b; omega)
 refine jF (dF W) (Wp.exit (yV ?_))
 have aj:fo d (h++g)=f:=et (z) (et (congrArg (fun q=>fo q f) (dZ (ls:=d) (i:=b) (by omega))) rfl)
 refine yV (y8 (yL (sr (Mz rfl (An rfl (rt (rs ?_)))))))
 have aL:=p.pk [0]
 obtain rfl:_=f:=hr.symm.trans (et (aa t) (aa aj))
 exact⟨l,n,rfl,aL,(by first | omega | (simp only [List.length_cons,List.length_nil,List.length_append]; omega))⟩
end Go.Proofs.YtccjclalngabhaaGreat
